import PyProof.Rows.All
import Wide.All
import OpenK.AllK
import Wide.FinOn
import HandS.ClsMeth
import HandS.Defaults
import HandS.ForMost
import HandS.IsInst
import HandS.Wide
import HandS.WideBits
import HandS.More
import HandS.NoneIn
import HandS.SortKw
import HandS.Zip
import HandS.Property
import HandS.Codes
import HandS.Head0
import HandS.Head1
import HandS.Head2
import HandS.Head3
import HandS.HeadEnd
import HandS.HeadHook1
import HandS.HeadHook2
import HandS.HeadHook3
import HandS.HeadNt
import KE.KStateDown
import KE.KMinBuiltin
import HandS.Walk
import HandS.Evl
import HandS.OwnEq
import PyProof.InstNe
import OpenK.KMeth
import HandS.CallLocal
import PyProof.ReprRoads
import HandS.Style
import PySem.Challenge.RW_axisticks_k20_members_of_sets
set_option Elab.async false
set_option linter.all false
set_option maxRecDepth 100000
set_option maxHeartbeats 4000000
/-! # The program's defs, one promise each. -/
namespace Ax
open PySem L2
def top (i : Nat) : Stmt := PySem.Challenge.pw_axisticks_k20_members_of_sets.main.body.getD i (.Pass ⟨0, 0, 0, 0⟩)
abbrev s_is_whole : Stmt := top 3
abbrev s_is_base : Stmt := top 4
abbrev s_is_span : Stmt := top 5
abbrev s_power_of : Stmt := top 16
abbrev s_log_of : Stmt := top 17
abbrev s_measure : Stmt := top 19
abbrev s_reach : Stmt := top 20
abbrev s_rungs_of : Stmt := top 24
abbrev s_step_at : Stmt := top 25
abbrev s_low_rung : Stmt := top 26
abbrev s_kind_and_most_fit : Stmt := top 30
abbrev s_mantissas_fit : Stmt := top 31
abbrev s_arguments_fit : Stmt := top 32
abbrev s_is_dividing : Stmt := top 33
abbrev s_Rule_init : Stmt := inClass (top 34) 0
abbrev s_Rule_step : Stmt := inClass (top 34) 7
abbrev s_Rule_marks : Stmt := inClass (top 34) 8
abbrev s_Rule_count : Stmt := inClass (top 34) 9
abbrev s_Rule__fits : Stmt := inClass (top 34) 10
abbrev s_check_rule : Stmt := top 36
abbrev s_check_rules_of_one_base : Stmt := top 37
abbrev s_check_number : Stmt := top 38
abbrev s_key_of : Stmt := top 49
abbrev s_rule_of : Stmt := top 50
abbrev s_compare_steps : Stmt := top 52
abbrev s_holds : Stmt := top 53
abbrev s_states : Stmt := top 54
abbrev s_check_operand : Stmt := top 74
abbrev s_RangeSet_init : Stmt := inClass (top 75) 0
abbrev s_RangeSet___and__ : Stmt := inClass (top 75) 3
abbrev s_RangeSet___or__ : Stmt := inClass (top 75) 4
abbrev s_RangeSet___sub__ : Stmt := inClass (top 75) 5
abbrev s_RangeSet___xor__ : Stmt := inClass (top 75) 6
abbrev s_RangeSet___invert__ : Stmt := inClass (top 75) 7
abbrev s_RangeSet___contains__ : Stmt := inClass (top 75) 14
abbrev s_counted : Stmt := top 76
abbrev s_taken : Stmt := top 77
abbrev s_is_factor : Stmt := top 78
abbrev s_coarser : Stmt := top 79
abbrev s_touched : Stmt := top 80
abbrev s_law_purse : Stmt := top 82
abbrev s_law_draw : Stmt := top 83
abbrev s_law_pick : Stmt := top 84
abbrev s_law_family : Stmt := top 85
abbrev s_law_rule : Stmt := top 86
abbrev s_law_made : Stmt := top 87
abbrev s_law_times : Stmt := top 88
abbrev s_law_places : Stmt := top 89
abbrev s_law_is_fit : Stmt := top 90
abbrev s_law_sizes : Stmt := top 91
abbrev s_law_step : Stmt := top 92
abbrev s_law_scaled : Stmt := top 93
abbrev s_law_marks : Stmt := top 94
abbrev s_law_number : Stmt := top 95
abbrev s_law_range : Stmt := top 96
abbrev s_law_atom : Stmt := top 97
abbrev s_law_tree : Stmt := top 98
abbrev s_law_set : Stmt := top 99
abbrev s_law_atom_holds : Stmt := top 100
abbrev s_law_holds : Stmt := top 101
abbrev s_law_rules : Stmt := top 102
abbrev s_law_period : Stmt := top 103
abbrev s_law : Stmt := top 104
abbrev s_Rule_base : Stmt := inClass (top 34) 1
abbrev s_Rule_kind : Stmt := inClass (top 34) 2
abbrev s_Rule_most : Stmt := inClass (top 34) 4
abbrev s_Rule_mantissas : Stmt := inClass (top 34) 3
abbrev s_RangeSet_base : Stmt := inClass (top 75) 2
abbrev s_RangeSet_every : Stmt := inClass (top 75) 1
structure Adr where
  a_is_whole : Addr
  d_is_whole : FuncData
  a_is_base : Addr
  d_is_base : FuncData
  a_is_span : Addr
  d_is_span : FuncData
  a_power_of : Addr
  d_power_of : FuncData
  a_log_of : Addr
  d_log_of : FuncData
  a_measure : Addr
  d_measure : FuncData
  a_reach : Addr
  d_reach : FuncData
  a_rungs_of : Addr
  d_rungs_of : FuncData
  a_step_at : Addr
  d_step_at : FuncData
  a_low_rung : Addr
  d_low_rung : FuncData
  a_kind_and_most_fit : Addr
  d_kind_and_most_fit : FuncData
  a_mantissas_fit : Addr
  d_mantissas_fit : FuncData
  a_arguments_fit : Addr
  d_arguments_fit : FuncData
  a_is_dividing : Addr
  d_is_dividing : FuncData
  a_Rule_init : Addr
  d_Rule_init : FuncData
  a_Rule_step : Addr
  d_Rule_step : FuncData
  a_Rule_marks : Addr
  d_Rule_marks : FuncData
  a_Rule_count : Addr
  d_Rule_count : FuncData
  a_Rule__fits : Addr
  d_Rule__fits : FuncData
  a_check_rule : Addr
  d_check_rule : FuncData
  a_check_rules_of_one_base : Addr
  d_check_rules_of_one_base : FuncData
  a_check_number : Addr
  d_check_number : FuncData
  a_key_of : Addr
  d_key_of : FuncData
  a_rule_of : Addr
  d_rule_of : FuncData
  a_compare_steps : Addr
  d_compare_steps : FuncData
  a_holds : Addr
  d_holds : FuncData
  a_states : Addr
  d_states : FuncData
  a_check_operand : Addr
  d_check_operand : FuncData
  a_RangeSet_init : Addr
  d_RangeSet_init : FuncData
  a_RangeSet___and__ : Addr
  d_RangeSet___and__ : FuncData
  a_RangeSet___or__ : Addr
  d_RangeSet___or__ : FuncData
  a_RangeSet___sub__ : Addr
  d_RangeSet___sub__ : FuncData
  a_RangeSet___xor__ : Addr
  d_RangeSet___xor__ : FuncData
  a_RangeSet___invert__ : Addr
  d_RangeSet___invert__ : FuncData
  a_RangeSet___contains__ : Addr
  d_RangeSet___contains__ : FuncData
  a_counted : Addr
  d_counted : FuncData
  dv_counted : V
  a_taken : Addr
  d_taken : FuncData
  a_is_factor : Addr
  d_is_factor : FuncData
  a_coarser : Addr
  d_coarser : FuncData
  dv_coarser : V
  a_touched : Addr
  d_touched : FuncData
  a_law_purse : Addr
  d_law_purse : FuncData
  a_law_draw : Addr
  d_law_draw : FuncData
  a_law_pick : Addr
  d_law_pick : FuncData
  a_law_family : Addr
  d_law_family : FuncData
  a_law_rule : Addr
  d_law_rule : FuncData
  a_law_made : Addr
  d_law_made : FuncData
  a_law_times : Addr
  d_law_times : FuncData
  a_law_places : Addr
  d_law_places : FuncData
  a_law_is_fit : Addr
  d_law_is_fit : FuncData
  a_law_sizes : Addr
  d_law_sizes : FuncData
  a_law_step : Addr
  d_law_step : FuncData
  a_law_scaled : Addr
  d_law_scaled : FuncData
  a_law_marks : Addr
  d_law_marks : FuncData
  a_law_number : Addr
  d_law_number : FuncData
  a_law_range : Addr
  d_law_range : FuncData
  a_law_atom : Addr
  d_law_atom : FuncData
  a_law_tree : Addr
  d_law_tree : FuncData
  a_law_set : Addr
  d_law_set : FuncData
  a_law_atom_holds : Addr
  d_law_atom_holds : FuncData
  a_law_holds : Addr
  d_law_holds : FuncData
  a_law_rules : Addr
  d_law_rules : FuncData
  a_law_period : Addr
  d_law_period : FuncData
  a_law : Addr
  d_law : FuncData
  a_Rule_base : Addr
  d_Rule_base : FuncData
  p_Rule_base : Addr
  a_Rule_kind : Addr
  d_Rule_kind : FuncData
  p_Rule_kind : Addr
  a_Rule_most : Addr
  d_Rule_most : FuncData
  p_Rule_most : Addr
  a_Rule_mantissas : Addr
  d_Rule_mantissas : FuncData
  p_Rule_mantissas : Addr
  a_RangeSet_base : Addr
  d_RangeSet_base : FuncData
  p_RangeSet_base : Addr
  a_every : Addr
  d_every : FuncData
  p_every : Addr
  c_Rule : Addr
  c_RangeSet : Addr
  a_LEAST : Addr
  a_PARTS : Addr

structure Txt (K : PySem.W.Frag) (mg : Str → Option Value) (A : Adr) (w : World) : Prop where
  n_len : mg "len" = none
  n_isinstance : mg "isinstance" = none
  n_all : mg "all" = none
  n_int : mg "int" = none
  n_bool : mg "bool" = none
  n_str : mg "str" = none
  n_tuple : mg "tuple" = none
  n_list : mg "list" = none
  n_range : mg "range" = none
  n_reversed : mg "reversed" = none
  n_zip : mg "zip" = none
  n_max : mg "max" = none
  n_min : mg "min" = none
  n_abs : mg "abs" = none
  n_sorted : mg "sorted" = none
  n_set : mg "set" = none
  n_divmod : mg "divmod" = none
  n_repr : mg "repr" = none
  n_enumerate : mg "enumerate" = none
  F_is_whole : Fun K "is_whole" "is_whole" s_is_whole A.a_is_whole A.d_is_whole
  B_is_whole : Binds K A.d_is_whole ["value"] []
  m_is_whole : mg "is_whole" = some (.ref A.a_is_whole)
  F_is_base : Fun K "is_base" "is_base" s_is_base A.a_is_base A.d_is_base
  B_is_base : Binds K A.d_is_base ["value"] []
  m_is_base : mg "is_base" = some (.ref A.a_is_base)
  F_is_span : Fun K "is_span" "is_span" s_is_span A.a_is_span A.d_is_span
  B_is_span : Binds K A.d_is_span ["value"] []
  m_is_span : mg "is_span" = some (.ref A.a_is_span)
  F_power_of : Fun K "power_of" "power_of" s_power_of A.a_power_of A.d_power_of
  B_power_of : Binds K A.d_power_of ["base", "exponent"] []
  m_power_of : mg "power_of" = some (.ref A.a_power_of)
  F_log_of : Fun K "log_of" "log_of" s_log_of A.a_log_of A.d_log_of
  B_log_of : Binds K A.d_log_of ["base", "number"] []
  m_log_of : mg "log_of" = some (.ref A.a_log_of)
  F_measure : Fun K "measure" "measure" s_measure A.a_measure A.d_measure
  B_measure : Binds K A.d_measure ["base", "step", "digits"] []
  m_measure : mg "measure" = some (.ref A.a_measure)
  F_reach : Fun K "reach" "reach" s_reach A.a_reach A.d_reach
  B_reach : Binds K A.d_reach ["kind", "most", "low", "size"] []
  m_reach : mg "reach" = some (.ref A.a_reach)
  F_rungs_of : Fun K "rungs_of" "rungs_of" s_rungs_of A.a_rungs_of A.d_rungs_of
  B_rungs_of : Binds K A.d_rungs_of ["base", "mantissas"] []
  m_rungs_of : mg "rungs_of" = some (.ref A.a_rungs_of)
  F_step_at : Fun K "step_at" "step_at" s_step_at A.a_step_at A.d_step_at
  B_step_at : Binds K A.d_step_at ["rungs", "number"] []
  m_step_at : mg "step_at" = some (.ref A.a_step_at)
  F_low_rung : Fun K "low_rung" "low_rung" s_low_rung A.a_low_rung A.d_low_rung
  B_low_rung : Binds K A.d_low_rung ["base", "rungs", "most", "length", "digits"] []
  m_low_rung : mg "low_rung" = some (.ref A.a_low_rung)
  F_kind_and_most_fit : Fun K "_kind_and_most_fit" "_kind_and_most_fit" s_kind_and_most_fit A.a_kind_and_most_fit A.d_kind_and_most_fit
  B_kind_and_most_fit : Binds K A.d_kind_and_most_fit ["kind", "most"] []
  m_kind_and_most_fit : mg "_kind_and_most_fit" = some (.ref A.a_kind_and_most_fit)
  F_mantissas_fit : Fun K "_mantissas_fit" "_mantissas_fit" s_mantissas_fit A.a_mantissas_fit A.d_mantissas_fit
  B_mantissas_fit : Binds K A.d_mantissas_fit ["base", "mantissas"] []
  m_mantissas_fit : mg "_mantissas_fit" = some (.ref A.a_mantissas_fit)
  F_arguments_fit : Fun K "_arguments_fit" "_arguments_fit" s_arguments_fit A.a_arguments_fit A.d_arguments_fit
  B_arguments_fit : Binds K A.d_arguments_fit ["base", "kind", "mantissas", "most"] []
  m_arguments_fit : mg "_arguments_fit" = some (.ref A.a_arguments_fit)
  F_is_dividing : Fun K "_is_dividing" "_is_dividing" s_is_dividing A.a_is_dividing A.d_is_dividing
  B_is_dividing : Binds K A.d_is_dividing ["base", "rungs"] []
  m_is_dividing : mg "_is_dividing" = some (.ref A.a_is_dividing)
  F_Rule_init : Fun K "__init__" "Rule.__init__" s_Rule_init A.a_Rule_init A.d_Rule_init
  B_Rule_init : Binds K A.d_Rule_init ["self", "base", "kind", "mantissas", "most"] []
  F_Rule_step : Fun K "step" "Rule.step" s_Rule_step A.a_Rule_step A.d_Rule_step
  B_Rule_step : Binds K A.d_Rule_step ["self", "span"] []
  t_Rule_step : Meth K A.c_Rule "step" A.a_Rule_step
  F_Rule_marks : Fun K "marks" "Rule.marks" s_Rule_marks A.a_Rule_marks A.d_Rule_marks
  B_Rule_marks : Binds K A.d_Rule_marks ["self", "span"] []
  t_Rule_marks : Meth K A.c_Rule "marks" A.a_Rule_marks
  F_Rule_count : Fun K "count" "Rule.count" s_Rule_count A.a_Rule_count A.d_Rule_count
  B_Rule_count : Binds K A.d_Rule_count ["self", "span"] []
  t_Rule_count : Meth K A.c_Rule "count" A.a_Rule_count
  F_Rule__fits : Fun K "_fits" "Rule._fits" s_Rule__fits A.a_Rule__fits A.d_Rule__fits
  B_Rule__fits : Binds K A.d_Rule__fits ["self", "step", "span"] []
  t_Rule__fits : Meth K A.c_Rule "_fits" A.a_Rule__fits
  F_check_rule : Fun K "check_rule" "check_rule" s_check_rule A.a_check_rule A.d_check_rule
  B_check_rule : Binds K A.d_check_rule ["rule"] []
  m_check_rule : mg "check_rule" = some (.ref A.a_check_rule)
  F_check_rules_of_one_base : Fun K "check_rules_of_one_base" "check_rules_of_one_base" s_check_rules_of_one_base A.a_check_rules_of_one_base A.d_check_rules_of_one_base
  B_check_rules_of_one_base : Binds K A.d_check_rules_of_one_base ["one", "other"] []
  m_check_rules_of_one_base : mg "check_rules_of_one_base" = some (.ref A.a_check_rules_of_one_base)
  F_check_number : Fun K "check_number" "check_number" s_check_number A.a_check_number A.d_check_number
  B_check_number : Binds K A.d_check_number ["number", "least"] []
  m_check_number : mg "check_number" = some (.ref A.a_check_number)
  F_key_of : Fun K "key_of" "key_of" s_key_of A.a_key_of A.d_key_of
  B_key_of : Binds K A.d_key_of ["rule"] []
  m_key_of : mg "key_of" = some (.ref A.a_key_of)
  F_rule_of : Fun K "rule_of" "rule_of" s_rule_of A.a_rule_of A.d_rule_of
  B_rule_of : Binds K A.d_rule_of ["base", "key"] []
  m_rule_of : mg "rule_of" = some (.ref A.a_rule_of)
  F_compare_steps : Fun K "compare_steps" "compare_steps" s_compare_steps A.a_compare_steps A.d_compare_steps
  B_compare_steps : Binds K A.d_compare_steps ["base", "one", "other"] []
  m_compare_steps : mg "compare_steps" = some (.ref A.a_compare_steps)
  F_holds : Fun K "holds" "holds" s_holds A.a_holds A.d_holds
  B_holds : Binds K A.d_holds ["base", "formula", "span"] []
  m_holds : mg "holds" = some (.ref A.a_holds)
  F_states : Fun K "_states" "_states" s_states A.a_states A.d_states
  B_states : Binds K A.d_states ["base", "formula", "span"] []
  m_states : mg "_states" = some (.ref A.a_states)
  F_check_operand : Fun K "_check_operand" "_check_operand" s_check_operand A.a_check_operand A.d_check_operand
  B_check_operand : Binds K A.d_check_operand ["left", "right"] []
  m_check_operand : mg "_check_operand" = some (.ref A.a_check_operand)
  F_RangeSet_init : Fun K "__init__" "RangeSet.__init__" s_RangeSet_init A.a_RangeSet_init A.d_RangeSet_init
  B_RangeSet_init : Binds K A.d_RangeSet_init ["self", "base", "formula"] []
  F_RangeSet___and__ : Fun K "__and__" "RangeSet.__and__" s_RangeSet___and__ A.a_RangeSet___and__ A.d_RangeSet___and__
  B_RangeSet___and__ : Binds K A.d_RangeSet___and__ ["self", "other"] []
  t_RangeSet___and__ : Meth K A.c_RangeSet "__and__" A.a_RangeSet___and__
  F_RangeSet___or__ : Fun K "__or__" "RangeSet.__or__" s_RangeSet___or__ A.a_RangeSet___or__ A.d_RangeSet___or__
  B_RangeSet___or__ : Binds K A.d_RangeSet___or__ ["self", "other"] []
  t_RangeSet___or__ : Meth K A.c_RangeSet "__or__" A.a_RangeSet___or__
  F_RangeSet___sub__ : Fun K "__sub__" "RangeSet.__sub__" s_RangeSet___sub__ A.a_RangeSet___sub__ A.d_RangeSet___sub__
  B_RangeSet___sub__ : Binds K A.d_RangeSet___sub__ ["self", "other"] []
  t_RangeSet___sub__ : Meth K A.c_RangeSet "__sub__" A.a_RangeSet___sub__
  F_RangeSet___xor__ : Fun K "__xor__" "RangeSet.__xor__" s_RangeSet___xor__ A.a_RangeSet___xor__ A.d_RangeSet___xor__
  B_RangeSet___xor__ : Binds K A.d_RangeSet___xor__ ["self", "other"] []
  t_RangeSet___xor__ : Meth K A.c_RangeSet "__xor__" A.a_RangeSet___xor__
  F_RangeSet___invert__ : Fun K "__invert__" "RangeSet.__invert__" s_RangeSet___invert__ A.a_RangeSet___invert__ A.d_RangeSet___invert__
  B_RangeSet___invert__ : Binds K A.d_RangeSet___invert__ ["self"] []
  t_RangeSet___invert__ : Meth K A.c_RangeSet "__invert__" A.a_RangeSet___invert__
  F_RangeSet___contains__ : Fun K "__contains__" "RangeSet.__contains__" s_RangeSet___contains__ A.a_RangeSet___contains__ A.d_RangeSet___contains__
  B_RangeSet___contains__ : Binds K A.d_RangeSet___contains__ ["self", "span"] []
  t_RangeSet___contains__ : Meth K A.c_RangeSet "__contains__" A.a_RangeSet___contains__
  F_counted : FunD K "counted" "counted" (defArgs s_counted) (defBody s_counted) (defScope s_counted) [A.dv_counted] [] A.a_counted A.d_counted
  B_counted : Binds K A.d_counted ["rule", "least", "most"] []
  m_counted : mg "counted" = some (.ref A.a_counted)
  F_taken : Fun K "taken" "taken" s_taken A.a_taken A.d_taken
  B_taken : Binds K A.d_taken ["rule", "mantissa"] []
  m_taken : mg "taken" = some (.ref A.a_taken)
  F_is_factor : Fun K "_is_factor" "_is_factor" s_is_factor A.a_is_factor A.d_is_factor
  B_is_factor : Binds K A.d_is_factor ["times"] []
  m_is_factor : mg "_is_factor" = some (.ref A.a_is_factor)
  F_coarser : FunD K "coarser" "coarser" (defArgs s_coarser) (defBody s_coarser) (defScope s_coarser) [A.dv_coarser] [] A.a_coarser A.d_coarser
  B_coarser : Binds K A.d_coarser ["one", "other", "times"] []
  m_coarser : mg "coarser" = some (.ref A.a_coarser)
  F_touched : Fun K "touched" "touched" s_touched A.a_touched A.d_touched
  B_touched : Binds K A.d_touched ["rule", "end"] []
  m_touched : mg "touched" = some (.ref A.a_touched)
  F_law_purse : Fun K "_law_purse" "_law_purse" s_law_purse A.a_law_purse A.d_law_purse
  B_law_purse : Binds K A.d_law_purse ["_law_script", "_law_at"] []
  m_law_purse : mg "_law_purse" = some (.ref A.a_law_purse)
  F_law_draw : Fun K "_law_draw" "_law_draw" s_law_draw A.a_law_draw A.d_law_draw
  B_law_draw : Binds K A.d_law_draw ["_law_purse_here", "_law_many"] []
  m_law_draw : mg "_law_draw" = some (.ref A.a_law_draw)
  F_law_pick : Fun K "_law_pick" "_law_pick" s_law_pick A.a_law_pick A.d_law_pick
  B_law_pick : Binds K A.d_law_pick ["_law_purse_here", "_law_items"] []
  m_law_pick : mg "_law_pick" = some (.ref A.a_law_pick)
  F_law_family : Fun K "_law_family" "_law_family" s_law_family A.a_law_family A.d_law_family
  B_law_family : Binds K A.d_law_family ["_law_purse_here"] []
  m_law_family : mg "_law_family" = some (.ref A.a_law_family)
  F_law_rule : Fun K "_law_rule" "_law_rule" s_law_rule A.a_law_rule A.d_law_rule
  B_law_rule : Binds K A.d_law_rule ["_law_purse_here", "_law_family_here"] []
  m_law_rule : mg "_law_rule" = some (.ref A.a_law_rule)
  F_law_made : Fun K "_law_made" "_law_made" s_law_made A.a_law_made A.d_law_made
  B_law_made : Binds K A.d_law_made ["_law_rule_here"] []
  m_law_made : mg "_law_made" = some (.ref A.a_law_made)
  F_law_times : Fun K "_law_times" "_law_times" s_law_times A.a_law_times A.d_law_times
  B_law_times : Binds K A.d_law_times ["_law_base", "_law_many"] []
  m_law_times : mg "_law_times" = some (.ref A.a_law_times)
  F_law_places : Fun K "_law_places" "_law_places" s_law_places A.a_law_places A.d_law_places
  B_law_places : Binds K A.d_law_places ["_law_low", "_law_high", "_law_size"] []
  m_law_places : mg "_law_places" = some (.ref A.a_law_places)
  F_law_is_fit : Fun K "_law_is_fit" "_law_is_fit" s_law_is_fit A.a_law_is_fit A.d_law_is_fit
  B_law_is_fit : Binds K A.d_law_is_fit ["_law_rule_here", "_law_low", "_law_high", "_law_size"] []
  m_law_is_fit : mg "_law_is_fit" = some (.ref A.a_law_is_fit)
  F_law_sizes : Fun K "_law_sizes" "_law_sizes" s_law_sizes A.a_law_sizes A.d_law_sizes
  B_law_sizes : Binds K A.d_law_sizes ["_law_rule_here", "_law_length"] []
  m_law_sizes : mg "_law_sizes" = some (.ref A.a_law_sizes)
  F_law_step : Fun K "_law_step" "_law_step" s_law_step A.a_law_step A.d_law_step
  B_law_step : Binds K A.d_law_step ["_law_rule_here", "_law_low", "_law_high"] []
  m_law_step : mg "_law_step" = some (.ref A.a_law_step)
  F_law_scaled : Fun K "_law_scaled" "_law_scaled" s_law_scaled A.a_law_scaled A.d_law_scaled
  B_law_scaled : Binds K A.d_law_scaled ["_law_rule_here", "_law_step_here", "_law_low", "_law_high"] []
  m_law_scaled : mg "_law_scaled" = some (.ref A.a_law_scaled)
  F_law_marks : Fun K "_law_marks" "_law_marks" s_law_marks A.a_law_marks A.d_law_marks
  B_law_marks : Binds K A.d_law_marks ["_law_rule_here", "_law_low", "_law_high"] []
  m_law_marks : mg "_law_marks" = some (.ref A.a_law_marks)
  F_law_number : Fun K "_law_number" "_law_number" s_law_number A.a_law_number A.d_law_number
  B_law_number : Binds K A.d_law_number ["_law_purse_here"] []
  m_law_number : mg "_law_number" = some (.ref A.a_law_number)
  F_law_range : Fun K "_law_range" "_law_range" s_law_range A.a_law_range A.d_law_range
  B_law_range : Binds K A.d_law_range ["_law_purse_here", "_law_rule_here"] []
  m_law_range : mg "_law_range" = some (.ref A.a_law_range)
  F_law_atom : Fun K "_law_atom" "_law_atom" s_law_atom A.a_law_atom A.d_law_atom
  B_law_atom : Binds K A.d_law_atom ["_law_purse_here", "_law_rules_here"] []
  m_law_atom : mg "_law_atom" = some (.ref A.a_law_atom)
  F_law_tree : Fun K "_law_tree" "_law_tree" s_law_tree A.a_law_tree A.d_law_tree
  B_law_tree : Binds K A.d_law_tree ["_law_purse_here", "_law_rules_here", "_law_many"] []
  m_law_tree : mg "_law_tree" = some (.ref A.a_law_tree)
  F_law_set : Fun K "_law_set" "_law_set" s_law_set A.a_law_set A.d_law_set
  B_law_set : Binds K A.d_law_set ["_law_tree_here"] []
  m_law_set : mg "_law_set" = some (.ref A.a_law_set)
  F_law_atom_holds : Fun K "_law_atom_holds" "_law_atom_holds" s_law_atom_holds A.a_law_atom_holds A.d_law_atom_holds
  B_law_atom_holds : Binds K A.d_law_atom_holds ["_law_tree_here", "_law_low", "_law_high"] []
  m_law_atom_holds : mg "_law_atom_holds" = some (.ref A.a_law_atom_holds)
  F_law_holds : Fun K "_law_holds" "_law_holds" s_law_holds A.a_law_holds A.d_law_holds
  B_law_holds : Binds K A.d_law_holds ["_law_tree_here", "_law_low", "_law_high"] []
  m_law_holds : mg "_law_holds" = some (.ref A.a_law_holds)
  F_law_rules : Fun K "_law_rules" "_law_rules" s_law_rules A.a_law_rules A.d_law_rules
  B_law_rules : Binds K A.d_law_rules ["_law_purse_here"] []
  m_law_rules : mg "_law_rules" = some (.ref A.a_law_rules)
  F_law_period : Fun K "_law_period" "_law_period" s_law_period A.a_law_period A.d_law_period
  B_law_period : Binds K A.d_law_period ["_law_rules_here", "_law_length"] []
  m_law_period : mg "_law_period" = some (.ref A.a_law_period)
  F_law : Fun K "law" "law" s_law A.a_law A.d_law
  B_law : Binds K A.d_law ["_law_script"] []
  m_law : mg "law" = some (.ref A.a_law)
  F_Rule_base : Fun K "base" "Rule.base" s_Rule_base A.a_Rule_base A.d_Rule_base
  B_Rule_base : Binds K A.d_Rule_base ["self"] []
  pr_Rule_base : PropOf K A.c_Rule "base" A.p_Rule_base A.a_Rule_base
  F_Rule_kind : Fun K "kind" "Rule.kind" s_Rule_kind A.a_Rule_kind A.d_Rule_kind
  B_Rule_kind : Binds K A.d_Rule_kind ["self"] []
  pr_Rule_kind : PropOf K A.c_Rule "kind" A.p_Rule_kind A.a_Rule_kind
  F_Rule_most : Fun K "most" "Rule.most" s_Rule_most A.a_Rule_most A.d_Rule_most
  B_Rule_most : Binds K A.d_Rule_most ["self"] []
  pr_Rule_most : PropOf K A.c_Rule "most" A.p_Rule_most A.a_Rule_most
  F_Rule_mantissas : Fun K "mantissas" "Rule.mantissas" s_Rule_mantissas A.a_Rule_mantissas A.d_Rule_mantissas
  B_Rule_mantissas : Binds K A.d_Rule_mantissas ["self"] []
  pr_Rule_mantissas : PropOf K A.c_Rule "mantissas" A.p_Rule_mantissas A.a_Rule_mantissas
  F_RangeSet_base : Fun K "base" "RangeSet.base" s_RangeSet_base A.a_RangeSet_base A.d_RangeSet_base
  B_RangeSet_base : Binds K A.d_RangeSet_base ["self"] []
  pr_RangeSet_base : PropOf K A.c_RangeSet "base" A.p_RangeSet_base A.a_RangeSet_base
  F_every : Fun K "every" "RangeSet.every" s_RangeSet_every A.a_every A.d_every
  B_every : Binds K A.d_every ["cls", "base"] []
  cr_every : ClX.CRead K A.c_RangeSet (.type "type")
  cm_every : ClX.CMet K A.c_RangeSet (.type "type") "every" A.p_every A.a_every
  cl : Cls K A.c_Rule
  c_Rule : mg "Rule" = some (.ref A.c_Rule)
  mk_Rule : Mk K A.c_Rule A.a_Rule_init
  na_base : NoAttr K A.c_Rule "_base"
  na_kind : NoAttr K A.c_Rule "_kind"
  na_mantissas : NoAttr K A.c_Rule "_mantissas"
  na_most : NoAttr K A.c_Rule "_most"
  na_dividing : NoAttr K A.c_Rule "_dividing"
  na_rungs : NoAttr K A.c_Rule "_rungs"
  ic : C8.InsC K A.c_Rule
  cl2 : Cls K A.c_RangeSet
  c_RangeSet : mg "RangeSet" = some (.ref A.c_RangeSet)
  mk_RangeSet : Mk K A.c_RangeSet A.a_RangeSet_init
  nb_base : NoAttr K A.c_RangeSet "_base"
  nb_formula : NoAttr K A.c_RangeSet "_formula"
  sf2 : PySem.W.selfFirst K A.c_RangeSet = true
  ic2 : C8.InsC K A.c_RangeSet
  m_LEAST_MOST : mg "LEAST_MOST" = some (.ref A.a_LEAST)
  kd : ∃ es n, KDict K w A.a_LEAST es n
  m_PARTS : mg "PARTS" = some (.ref A.a_PARTS)
  kdP : ∃ es n, KDict K w A.a_PARTS es n
  pa_and : ∃ v, PySem.W.nsIn K A.a_PARTS "and" = some (some v)
  pa_or : ∃ v, PySem.W.nsIn K A.a_PARTS "or" = some (some v)
  pa_xor : ∃ v, PySem.W.nsIn K A.a_PARTS "xor" = some (some v)
  pa_counted : PySem.W.nsIn K A.a_PARTS "counted" = some none
  pa_taken : PySem.W.nsIn K A.a_PARTS "taken" = some none
  pa_coarser : PySem.W.nsIn K A.a_PARTS "coarser" = some none
  pa_touched : PySem.W.nsIn K A.a_PARTS "touched" = some none
  kd_inside : ∃ t, PySem.W.nsIn K A.a_LEAST "inside" = some (some (.int 1 t))
  kd_cover : ∃ t, PySem.W.nsIn K A.a_LEAST "cover" = some (some (.int 2 t))
  kd_length : ∃ t, PySem.W.nsIn K A.a_LEAST "length" = some (some (.int 1 t))

section
variable {P : Program} {w : World} {K : PySem.W.Frag} {mg : Str → Option Value} {base : Heap} {A : Adr}
/-! ### is_whole -/
/-- any value of a known kind -/
def spWhole (K : PySem.W.Frag) : Sp := fun vs H Q _ => ∃ (v : V) (t : Value) (b1 b2 : Bool), vs = [v] ∧ TyX K H v t ∧ PySem.W.kitOne K t (.type "int") = some b1 ∧ (b1 = true → PySem.W.kitOne K t (.type "bool") = some b2) ∧ Q (.bl (b1 && !b2)) H
abbrev nm_is_whole : List Str := ["value"]
theorem sc_is_whole : FnScope ["value"] ["value"] (defScope s_is_whole) := ⟨rfl, rfl, rfl, by decide +kernel, rfl, by decide +kernel, by decide +kernel⟩
theorem ok_is_whole (T : Txt K mg A w) : FnOk P w K mg base CX0 1 A.a_is_whole A.d_is_whole ["value"] (spWhole K) := by
  refine T.F_is_whole.ok sc_is_whole (fun vs H Q E h => ?_) (fun cdv A0 outer s H vs Q E hr h => ?_)
  · obtain ⟨v, t, b1, b2, rfl, _⟩ := h
    rfl
  · obtain ⟨v, t, b1, b2, rfl, ty, h1, h2, q⟩ := h
    refine ⟨_, (pss_one (ps_ret (pe_and (pe_callB call_isi (by rfl) T.n_isinstance (by decide +kernel) (pa_cons (pv 0) (pa_cons (pe_bltn (v := .ty "int") (by rfl) T.n_int (by decide +kernel) rfl) pa_nil))) (pe_one (pe_not (pe_callB call_isi (by rfl) T.n_isinstance (by decide +kernel) (pa_cons (pv 0) (pa_cons (pe_bltn (v := .ty "bool") (by rfl) T.n_bool (by decide +kernel) rfl) pa_nil)))))))), ?_⟩
    refine ⟨v, rfl, v, .ty "int", t, .type "int", b1, rfl, .ty _, ty, h1, b1, rfl, ?_⟩
    cases b1 with
    | false => exact iteF q
    | true => exact iteT ⟨v, rfl, v, .ty "bool", t, .type "bool", b2, rfl, .ty _, ty, h2 rfl, b2, rfl, q⟩
theorem sp_whole_int {H : Hp} {n : Int} {Q : VK} {E : XK} (q : Q (.bl true) H) : spWhole K [.int n] H Q E :=
  ⟨.int n, .type "int", true, false, rfl, .base (.int n), kit_ty (by decide +kernel), fun _ => kit_ty (by decide +kernel), q⟩
end
end Ax

noncomputable section
namespace Ax
open PySem PySem.Spec PyProof.Rows L2
/-! ### the head by one run -/
def asK0 : List Addr := [3,
  2,
  6,
  48,
  49,
  55,
  56,
  62,
  63,
  67,
  68,
  77,
  78,
  79,
  95,
  96,
  98,
  99,
  115,
  116,
  118,
  119,
  135,
  136,
  138,
  139,
  155,
  156,
  158,
  159,
  175,
  176,
  178,
  179,
  195,
  196,
  198,
  199,
  215,
  216]
def asK1 : List Addr := [218,
  219,
  227,
  228,
  234,
  235,
  241,
  242,
  248,
  249,
  255,
  256,
  262,
  263,
  267,
  268,
  274,
  275,
  281,
  282,
  288,
  289,
  290,
  296,
  297,
  301,
  302,
  308,
  309,
  313,
  314,
  327,
  328,
  334,
  335,
  336,
  342,
  343,
  344,
  350]
def asK2 : List Addr := [351,
  352,
  358,
  359,
  360,
  366,
  367,
  368,
  374,
  375,
  381,
  382,
  388,
  389,
  395,
  396,
  402,
  403,
  405,
  406,
  407,
  408,
  416,
  417,
  423,
  424,
  430,
  431,
  437,
  438,
  444,
  445,
  451,
  452,
  458,
  459,
  465,
  466,
  472,
  473]
def asK3 : List Addr := [474,
  475,
  481,
  482,
  488,
  489,
  493,
  494,
  500,
  501,
  507,
  508,
  514,
  515,
  521,
  522,
  528,
  529,
  535,
  536,
  542,
  543,
  547,
  548,
  552,
  553,
  557,
  558,
  564,
  565,
  571,
  572,
  578,
  579,
  583,
  584,
  590,
  591,
  597,
  598]
def asK4 : List Addr := [604,
  605,
  611,
  612,
  618,
  619,
  632,
  633,
  639,
  640,
  641,
  642,
  643,
  649,
  650,
  651,
  657,
  658,
  664,
  665,
  671,
  672,
  678,
  679,
  685,
  686,
  692,
  693,
  699,
  700,
  706,
  707,
  713,
  714,
  720,
  721,
  727,
  728,
  734,
  735]
def asK5 : List Addr := [741,
  742,
  748,
  749,
  755,
  756,
  762,
  763,
  765,
  766,
  767,
  768,
  777,
  778,
  784,
  785,
  789,
  790,
  798,
  799,
  805,
  806,
  812,
  813,
  819,
  820,
  826,
  827,
  831,
  832,
  836,
  837,
  843,
  844,
  850,
  851,
  857,
  858,
  864,
  865]
def asK6 : List Addr := [869,
  870,
  876,
  877,
  883,
  884,
  890,
  891,
  897,
  898,
  904,
  905,
  911,
  912,
  918,
  919,
  925,
  926,
  932,
  933,
  939,
  940,
  944,
  945,
  951,
  952,
  958,
  959,
  792,
  771,
  209,
  189,
  169,
  149,
  129,
  109,
  89]
def asK : List Addr := asK0 ++ (asK1 ++ (asK2 ++ (asK3 ++ (asK4 ++ (asK5 ++ (asK6))))))
def dfK0 : List He5.DefA := [⟨fun K => He.fAd K ("is_whole", none), "is_whole", "is_whole", defArgs s_is_whole, defBody s_is_whole, defScope s_is_whole, [], []⟩,
  ⟨fun K => He.fAd K ("is_base", none), "is_base", "is_base", defArgs s_is_base, defBody s_is_base, defScope s_is_base, [], []⟩,
  ⟨fun K => He.fAd K ("is_span", none), "is_span", "is_span", defArgs s_is_span, defBody s_is_span, defScope s_is_span, [], []⟩,
  ⟨fun K => He.fAd K ("power_of", none), "power_of", "power_of", defArgs s_power_of, defBody s_power_of, defScope s_power_of, [], []⟩,
  ⟨fun K => He.fAd K ("log_of", none), "log_of", "log_of", defArgs s_log_of, defBody s_log_of, defScope s_log_of, [], []⟩,
  ⟨fun K => He.fAd K ("measure", none), "measure", "measure", defArgs s_measure, defBody s_measure, defScope s_measure, [], []⟩,
  ⟨fun K => He.fAd K ("reach", none), "reach", "reach", defArgs s_reach, defBody s_reach, defScope s_reach, [], []⟩,
  ⟨fun K => He.fAd K ("rungs_of", none), "rungs_of", "rungs_of", defArgs s_rungs_of, defBody s_rungs_of, defScope s_rungs_of, [], []⟩,
  ⟨fun K => He.fAd K ("step_at", none), "step_at", "step_at", defArgs s_step_at, defBody s_step_at, defScope s_step_at, [], []⟩,
  ⟨fun K => He.fAd K ("low_rung", none), "low_rung", "low_rung", defArgs s_low_rung, defBody s_low_rung, defScope s_low_rung, [], []⟩,
  ⟨fun K => He.fAd K ("_kind_and_most_fit", none), "_kind_and_most_fit", "_kind_and_most_fit", defArgs s_kind_and_most_fit, defBody s_kind_and_most_fit, defScope s_kind_and_most_fit, [], []⟩,
  ⟨fun K => He.fAd K ("_mantissas_fit", none), "_mantissas_fit", "_mantissas_fit", defArgs s_mantissas_fit, defBody s_mantissas_fit, defScope s_mantissas_fit, [], []⟩,
  ⟨fun K => He.fAd K ("_arguments_fit", none), "_arguments_fit", "_arguments_fit", defArgs s_arguments_fit, defBody s_arguments_fit, defScope s_arguments_fit, [], []⟩,
  ⟨fun K => He.fAd K ("_is_dividing", none), "_is_dividing", "_is_dividing", defArgs s_is_dividing, defBody s_is_dividing, defScope s_is_dividing, [], []⟩,
  ⟨fun K => He.fAd K ("Rule", some "__init__"), "__init__", "Rule.__init__", defArgs s_Rule_init, defBody s_Rule_init, defScope s_Rule_init, [], []⟩,
  ⟨fun K => He.fAd K ("Rule", some "step"), "step", "Rule.step", defArgs s_Rule_step, defBody s_Rule_step, defScope s_Rule_step, [], []⟩,
  ⟨fun K => He.fAd K ("Rule", some "marks"), "marks", "Rule.marks", defArgs s_Rule_marks, defBody s_Rule_marks, defScope s_Rule_marks, [], []⟩,
  ⟨fun K => He.fAd K ("Rule", some "count"), "count", "Rule.count", defArgs s_Rule_count, defBody s_Rule_count, defScope s_Rule_count, [], []⟩,
  ⟨fun K => He.fAd K ("Rule", some "_fits"), "_fits", "Rule._fits", defArgs s_Rule__fits, defBody s_Rule__fits, defScope s_Rule__fits, [], []⟩,
  ⟨fun K => He.fAd K ("check_rule", none), "check_rule", "check_rule", defArgs s_check_rule, defBody s_check_rule, defScope s_check_rule, [], []⟩]
def dfK1 : List He5.DefA := [⟨fun K => He.fAd K ("check_rules_of_one_base", none), "check_rules_of_one_base", "check_rules_of_one_base", defArgs s_check_rules_of_one_base, defBody s_check_rules_of_one_base, defScope s_check_rules_of_one_base, [], []⟩,
  ⟨fun K => He.fAd K ("check_number", none), "check_number", "check_number", defArgs s_check_number, defBody s_check_number, defScope s_check_number, [], []⟩,
  ⟨fun K => He.fAd K ("key_of", none), "key_of", "key_of", defArgs s_key_of, defBody s_key_of, defScope s_key_of, [], []⟩,
  ⟨fun K => He.fAd K ("rule_of", none), "rule_of", "rule_of", defArgs s_rule_of, defBody s_rule_of, defScope s_rule_of, [], []⟩,
  ⟨fun K => He.fAd K ("compare_steps", none), "compare_steps", "compare_steps", defArgs s_compare_steps, defBody s_compare_steps, defScope s_compare_steps, [], []⟩,
  ⟨fun K => He.fAd K ("holds", none), "holds", "holds", defArgs s_holds, defBody s_holds, defScope s_holds, [], []⟩,
  ⟨fun K => He.fAd K ("_states", none), "_states", "_states", defArgs s_states, defBody s_states, defScope s_states, [], []⟩,
  ⟨fun K => He.fAd K ("_check_operand", none), "_check_operand", "_check_operand", defArgs s_check_operand, defBody s_check_operand, defScope s_check_operand, [], []⟩,
  ⟨fun K => He.fAd K ("RangeSet", some "__init__"), "__init__", "RangeSet.__init__", defArgs s_RangeSet_init, defBody s_RangeSet_init, defScope s_RangeSet_init, [], []⟩,
  ⟨fun K => He.fAd K ("RangeSet", some "__and__"), "__and__", "RangeSet.__and__", defArgs s_RangeSet___and__, defBody s_RangeSet___and__, defScope s_RangeSet___and__, [], []⟩,
  ⟨fun K => He.fAd K ("RangeSet", some "__or__"), "__or__", "RangeSet.__or__", defArgs s_RangeSet___or__, defBody s_RangeSet___or__, defScope s_RangeSet___or__, [], []⟩,
  ⟨fun K => He.fAd K ("RangeSet", some "__sub__"), "__sub__", "RangeSet.__sub__", defArgs s_RangeSet___sub__, defBody s_RangeSet___sub__, defScope s_RangeSet___sub__, [], []⟩,
  ⟨fun K => He.fAd K ("RangeSet", some "__xor__"), "__xor__", "RangeSet.__xor__", defArgs s_RangeSet___xor__, defBody s_RangeSet___xor__, defScope s_RangeSet___xor__, [], []⟩,
  ⟨fun K => He.fAd K ("RangeSet", some "__invert__"), "__invert__", "RangeSet.__invert__", defArgs s_RangeSet___invert__, defBody s_RangeSet___invert__, defScope s_RangeSet___invert__, [], []⟩,
  ⟨fun K => He.fAd K ("RangeSet", some "__contains__"), "__contains__", "RangeSet.__contains__", defArgs s_RangeSet___contains__, defBody s_RangeSet___contains__, defScope s_RangeSet___contains__, [], []⟩,
  ⟨fun K => He.fAd K ("counted", none), "counted", "counted", defArgs s_counted, defBody s_counted, defScope s_counted, [He.Dv.non], []⟩,
  ⟨fun K => He.fAd K ("taken", none), "taken", "taken", defArgs s_taken, defBody s_taken, defScope s_taken, [], []⟩,
  ⟨fun K => He.fAd K ("_is_factor", none), "_is_factor", "_is_factor", defArgs s_is_factor, defBody s_is_factor, defScope s_is_factor, [], []⟩,
  ⟨fun K => He.fAd K ("coarser", none), "coarser", "coarser", defArgs s_coarser, defBody s_coarser, defScope s_coarser, [He.Dv.adr (He.dflAt ("coarser", none) 0)], []⟩,
  ⟨fun K => He.fAd K ("touched", none), "touched", "touched", defArgs s_touched, defBody s_touched, defScope s_touched, [], []⟩]
def dfK2 : List He5.DefA := [⟨fun K => He.fAd K ("_law_purse", none), "_law_purse", "_law_purse", defArgs s_law_purse, defBody s_law_purse, defScope s_law_purse, [], []⟩,
  ⟨fun K => He.fAd K ("_law_draw", none), "_law_draw", "_law_draw", defArgs s_law_draw, defBody s_law_draw, defScope s_law_draw, [], []⟩,
  ⟨fun K => He.fAd K ("_law_pick", none), "_law_pick", "_law_pick", defArgs s_law_pick, defBody s_law_pick, defScope s_law_pick, [], []⟩,
  ⟨fun K => He.fAd K ("_law_family", none), "_law_family", "_law_family", defArgs s_law_family, defBody s_law_family, defScope s_law_family, [], []⟩,
  ⟨fun K => He.fAd K ("_law_rule", none), "_law_rule", "_law_rule", defArgs s_law_rule, defBody s_law_rule, defScope s_law_rule, [], []⟩,
  ⟨fun K => He.fAd K ("_law_made", none), "_law_made", "_law_made", defArgs s_law_made, defBody s_law_made, defScope s_law_made, [], []⟩,
  ⟨fun K => He.fAd K ("_law_times", none), "_law_times", "_law_times", defArgs s_law_times, defBody s_law_times, defScope s_law_times, [], []⟩,
  ⟨fun K => He.fAd K ("_law_places", none), "_law_places", "_law_places", defArgs s_law_places, defBody s_law_places, defScope s_law_places, [], []⟩,
  ⟨fun K => He.fAd K ("_law_is_fit", none), "_law_is_fit", "_law_is_fit", defArgs s_law_is_fit, defBody s_law_is_fit, defScope s_law_is_fit, [], []⟩,
  ⟨fun K => He.fAd K ("_law_sizes", none), "_law_sizes", "_law_sizes", defArgs s_law_sizes, defBody s_law_sizes, defScope s_law_sizes, [], []⟩,
  ⟨fun K => He.fAd K ("_law_step", none), "_law_step", "_law_step", defArgs s_law_step, defBody s_law_step, defScope s_law_step, [], []⟩,
  ⟨fun K => He.fAd K ("_law_scaled", none), "_law_scaled", "_law_scaled", defArgs s_law_scaled, defBody s_law_scaled, defScope s_law_scaled, [], []⟩,
  ⟨fun K => He.fAd K ("_law_marks", none), "_law_marks", "_law_marks", defArgs s_law_marks, defBody s_law_marks, defScope s_law_marks, [], []⟩,
  ⟨fun K => He.fAd K ("_law_number", none), "_law_number", "_law_number", defArgs s_law_number, defBody s_law_number, defScope s_law_number, [], []⟩,
  ⟨fun K => He.fAd K ("_law_range", none), "_law_range", "_law_range", defArgs s_law_range, defBody s_law_range, defScope s_law_range, [], []⟩,
  ⟨fun K => He.fAd K ("_law_atom", none), "_law_atom", "_law_atom", defArgs s_law_atom, defBody s_law_atom, defScope s_law_atom, [], []⟩,
  ⟨fun K => He.fAd K ("_law_tree", none), "_law_tree", "_law_tree", defArgs s_law_tree, defBody s_law_tree, defScope s_law_tree, [], []⟩,
  ⟨fun K => He.fAd K ("_law_set", none), "_law_set", "_law_set", defArgs s_law_set, defBody s_law_set, defScope s_law_set, [], []⟩,
  ⟨fun K => He.fAd K ("_law_atom_holds", none), "_law_atom_holds", "_law_atom_holds", defArgs s_law_atom_holds, defBody s_law_atom_holds, defScope s_law_atom_holds, [], []⟩,
  ⟨fun K => He.fAd K ("_law_holds", none), "_law_holds", "_law_holds", defArgs s_law_holds, defBody s_law_holds, defScope s_law_holds, [], []⟩]
def dfK3 : List He5.DefA := [⟨fun K => He.fAd K ("_law_rules", none), "_law_rules", "_law_rules", defArgs s_law_rules, defBody s_law_rules, defScope s_law_rules, [], []⟩,
  ⟨fun K => He.fAd K ("_law_period", none), "_law_period", "_law_period", defArgs s_law_period, defBody s_law_period, defScope s_law_period, [], []⟩,
  ⟨fun K => He.fAd K ("law", none), "law", "law", defArgs s_law, defBody s_law, defScope s_law, [], []⟩,
  ⟨fun K => He5.wf K (He.ga K "Rule") "property" "base", "base", "Rule.base", defArgs s_Rule_base, defBody s_Rule_base, defScope s_Rule_base, [], []⟩,
  ⟨fun K => He5.wf K (He.ga K "Rule") "property" "kind", "kind", "Rule.kind", defArgs s_Rule_kind, defBody s_Rule_kind, defScope s_Rule_kind, [], []⟩,
  ⟨fun K => He5.wf K (He.ga K "Rule") "property" "most", "most", "Rule.most", defArgs s_Rule_most, defBody s_Rule_most, defScope s_Rule_most, [], []⟩,
  ⟨fun K => He5.wf K (He.ga K "Rule") "property" "mantissas", "mantissas", "Rule.mantissas", defArgs s_Rule_mantissas, defBody s_Rule_mantissas, defScope s_Rule_mantissas, [], []⟩,
  ⟨fun K => He5.wf K (He.ga K "RangeSet") "property" "base", "base", "RangeSet.base", defArgs s_RangeSet_base, defBody s_RangeSet_base, defScope s_RangeSet_base, [], []⟩,
  ⟨fun K => He5.wf K (He.ga K "RangeSet") "classmethod" "every", "every", "RangeSet.every", defArgs s_RangeSet_every, defBody s_RangeSet_every, defScope s_RangeSet_every, [], []⟩]
def dfK : List He5.DefA := dfK0 ++ (dfK1 ++ (dfK2 ++ (dfK3)))
def faK0 : List He.Fa := [He.Fa.glo "is_whole",
  He.Fa.glo "is_base",
  He.Fa.glo "is_span",
  He.Fa.glo "power_of",
  He.Fa.glo "log_of",
  He.Fa.glo "measure",
  He.Fa.glo "reach",
  He.Fa.glo "rungs_of",
  He.Fa.glo "step_at",
  He.Fa.glo "low_rung",
  He.Fa.glo "_kind_and_most_fit",
  He.Fa.glo "_mantissas_fit",
  He.Fa.glo "_arguments_fit",
  He.Fa.glo "_is_dividing",
  He.Fa.meth "Rule" "step",
  He.Fa.meth "Rule" "marks",
  He.Fa.meth "Rule" "count",
  He.Fa.meth "Rule" "_fits",
  He.Fa.glo "check_rule",
  He.Fa.glo "check_rules_of_one_base",
  He.Fa.glo "check_number",
  He.Fa.glo "key_of",
  He.Fa.glo "rule_of",
  He.Fa.glo "compare_steps",
  He.Fa.glo "holds",
  He.Fa.glo "_states",
  He.Fa.glo "_check_operand",
  He.Fa.meth "RangeSet" "__and__",
  He.Fa.meth "RangeSet" "__or__",
  He.Fa.meth "RangeSet" "__sub__"]
def faK1 : List He.Fa := [He.Fa.meth "RangeSet" "__xor__",
  He.Fa.meth "RangeSet" "__invert__",
  He.Fa.meth "RangeSet" "__contains__",
  He.Fa.glo "counted",
  He.Fa.glo "taken",
  He.Fa.glo "_is_factor",
  He.Fa.glo "coarser",
  He.Fa.glo "touched",
  He.Fa.glo "_law_purse",
  He.Fa.glo "_law_draw",
  He.Fa.glo "_law_pick",
  He.Fa.glo "_law_family",
  He.Fa.glo "_law_rule",
  He.Fa.glo "_law_made",
  He.Fa.glo "_law_times",
  He.Fa.glo "_law_places",
  He.Fa.glo "_law_is_fit",
  He.Fa.glo "_law_sizes",
  He.Fa.glo "_law_step",
  He.Fa.glo "_law_scaled",
  He.Fa.glo "_law_marks",
  He.Fa.glo "_law_number",
  He.Fa.glo "_law_range",
  He.Fa.glo "_law_atom",
  He.Fa.glo "_law_tree",
  He.Fa.glo "_law_set",
  He.Fa.glo "_law_atom_holds",
  He.Fa.glo "_law_holds",
  He.Fa.glo "_law_rules",
  He.Fa.glo "_law_period"]
def faK2 : List He.Fa := [He.Fa.glo "law",
  He.Fa.free "len",
  He.Fa.free "isinstance",
  He.Fa.free "all",
  He.Fa.free "int",
  He.Fa.free "bool",
  He.Fa.free "str",
  He.Fa.free "tuple",
  He.Fa.free "list",
  He.Fa.free "range",
  He.Fa.free "reversed",
  He.Fa.free "zip",
  He.Fa.free "max",
  He.Fa.free "min",
  He.Fa.free "abs",
  He.Fa.free "sorted",
  He.Fa.free "set",
  He.Fa.free "divmod",
  He.Fa.free "repr",
  He.Fa.free "enumerate",
  He.Fa.glo "Rule",
  He.Fa.cls "Rule",
  He.Fa.mkr "Rule",
  He.Fa.noat "Rule" "_base",
  He.Fa.noat "Rule" "_kind",
  He.Fa.noat "Rule" "_mantissas",
  He.Fa.noat "Rule" "_most",
  He.Fa.noat "Rule" "_dividing",
  He.Fa.noat "Rule" "_rungs",
  He.Fa.glo "RangeSet"]
def faK3 : List He.Fa := [He.Fa.cls "RangeSet",
  He.Fa.mkr "RangeSet",
  He.Fa.noat "RangeSet" "_base",
  He.Fa.noat "RangeSet" "_formula",
  He.Fa.glo "LEAST_MOST",
  He.Fa.glo "PARTS"]
def faK : List He.Fa := faK0 ++ (faK1 ++ (faK2 ++ (faK3)))
def tbK0 : List (List PySem.Str × PySem.Str) := [(["inside", "cover", "length"], "LEAST_MOST"),
  (["all", "not", "and", "or", "xor"], "PARTS")]
def tbK : List (List PySem.Str × PySem.Str) := tbK0
def recB (K : PySem.W.Frag) (p : Addr) (T : String) (z : Addr) : Bool := match PySem.W.recIn K p T with
  | some (.ref y :: _) => decide (y = z)
  | _ => false
theorem recB_is {K : PySem.W.Frag} {p z : Addr} {T : String} (h : recB K p T z = true) : ∃ rest, PySem.W.recIn K p T = some (.ref z :: rest) := by
  unfold recB at h
  split at h
  · rename_i y r e
    exact ⟨r, by rw [e, of_decide_eq_true h]⟩
  · cases h
def hasB (K : PySem.W.Frag) (a : Addr) (x : Str) : Bool := match PySem.W.nsIn K a x with
  | some (some _) => true
  | _ => false
theorem hasB_is {K : PySem.W.Frag} {a : Addr} {x : Str} (h : hasB K a x = true) : ∃ u, PySem.W.nsIn K a x = some (some u) := by
  unfold hasB at h
  split at h
  · rename_i u e
    exact ⟨u, e⟩
  · cases h
def intB (K : PySem.W.Frag) (a : Addr) (x : Str) (n : Int) : Bool := match PySem.W.nsIn K a x with
  | some (some (.int m _)) => decide (m = n)
  | _ => false
theorem intB_is {K : PySem.W.Frag} {a : Addr} {x : Str} {n : Int} (h : intB K a x n = true) : ∃ t, PySem.W.nsIn K a x = some (some (.int n t)) := by
  unfold intB at h
  split at h
  · rename_i m t e
    exact ⟨t, by rw [e, of_decide_eq_true h]⟩
  · cases h
theorem allB_at {K : PySem.W.Frag} {l : List (PySem.W.Frag → Bool)} (h : (l.all fun z => z K) = true) (n : Nat) {z : PySem.W.Frag → Bool} (hz : l[n]? = some z := by rfl) : z K = true :=
  List.all_eq_true.mp h z (List.mem_of_getElem? hz)
def exK0 : List (PySem.W.Frag → Bool) := [fun K => He.eqO (PySem.W.findIn K (.ref (He.ga K "Rule")) "base") (some (some (.ref (He.ma K (He.ga K "Rule") "base")))),
  fun K => He.eqO (PySem.W.specialIn K (.ref (He.ma K (He.ga K "Rule") "base")) "__get__") (some (some (.builtin "property.__get__"))),
  fun K => decide (PySem.W.takesIn K (.ref (He.ma K (He.ga K "Rule") "base")) = some true),
  fun K => recB K (He.ma K (He.ga K "Rule") "base") "property" (He5.wf K (He.ga K "Rule") "property" "base"),
  fun K => He.eqO (PySem.W.findIn K (.ref (He.ga K "Rule")) "kind") (some (some (.ref (He.ma K (He.ga K "Rule") "kind")))),
  fun K => He.eqO (PySem.W.specialIn K (.ref (He.ma K (He.ga K "Rule") "kind")) "__get__") (some (some (.builtin "property.__get__"))),
  fun K => decide (PySem.W.takesIn K (.ref (He.ma K (He.ga K "Rule") "kind")) = some true),
  fun K => recB K (He.ma K (He.ga K "Rule") "kind") "property" (He5.wf K (He.ga K "Rule") "property" "kind"),
  fun K => He.eqO (PySem.W.findIn K (.ref (He.ga K "Rule")) "most") (some (some (.ref (He.ma K (He.ga K "Rule") "most")))),
  fun K => He.eqO (PySem.W.specialIn K (.ref (He.ma K (He.ga K "Rule") "most")) "__get__") (some (some (.builtin "property.__get__"))),
  fun K => decide (PySem.W.takesIn K (.ref (He.ma K (He.ga K "Rule") "most")) = some true),
  fun K => recB K (He.ma K (He.ga K "Rule") "most") "property" (He5.wf K (He.ga K "Rule") "property" "most"),
  fun K => He.eqO (PySem.W.findIn K (.ref (He.ga K "Rule")) "mantissas") (some (some (.ref (He.ma K (He.ga K "Rule") "mantissas")))),
  fun K => He.eqO (PySem.W.specialIn K (.ref (He.ma K (He.ga K "Rule") "mantissas")) "__get__") (some (some (.builtin "property.__get__"))),
  fun K => decide (PySem.W.takesIn K (.ref (He.ma K (He.ga K "Rule") "mantissas")) = some true),
  fun K => recB K (He.ma K (He.ga K "Rule") "mantissas") "property" (He5.wf K (He.ga K "Rule") "property" "mantissas"),
  fun K => He.eqO (PySem.W.findIn K (.ref (He.ga K "RangeSet")) "base") (some (some (.ref (He.ma K (He.ga K "RangeSet") "base")))),
  fun K => He.eqO (PySem.W.specialIn K (.ref (He.ma K (He.ga K "RangeSet") "base")) "__get__") (some (some (.builtin "property.__get__"))),
  fun K => decide (PySem.W.takesIn K (.ref (He.ma K (He.ga K "RangeSet") "base")) = some true),
  fun K => recB K (He.ma K (He.ga K "RangeSet") "base") "property" (He5.wf K (He.ga K "RangeSet") "property" "base")]
def exK1 : List (PySem.W.Frag → Bool) := [fun K => He.eqO (PySem.W.findIn K (.ref (He.ga K "Rule")) "__class__") (some (some (.builtin "object.__class__"))),
  fun K => decide (PySem.W.mroIn K (He.ga K "Rule") (.type "object") = some true),
  fun K => He.eqO (PySem.W.findIn K (.ref (He.ga K "RangeSet")) "__class__") (some (some (.builtin "object.__class__"))),
  fun K => decide (PySem.W.mroIn K (He.ga K "RangeSet") (.type "object") = some true),
  fun K => He.eqO (PySem.W.specialIn K (.builtin "object.__class__") "__get__") (some (some (.builtin "getset_descriptor.__get__"))),
  fun K => decide (PySem.W.takesIn K (.builtin "object.__class__") = some true),
  fun K => PySem.W.selfFirst K (He.ga K "RangeSet"),
  fun K => PySem.W.readsIn K (He.ga K "RangeSet") (.type "type"),
  fun K => He.eqO (PySem.W.specialIn K (.ref (He.ga K "RangeSet")) "__getattribute__") (some (some (.builtin "type.__getattribute__"))),
  fun K => He5.wrapB K (He.ga K "RangeSet") "classmethod" "classmethod.__get__" "every",
  fun K => PySem.W.fnIn K (He5.wf K (He.ga K "RangeSet") "classmethod" "every"),
  fun K => hasB K (He.ga K "PARTS") "and",
  fun K => hasB K (He.ga K "PARTS") "or",
  fun K => hasB K (He.ga K "PARTS") "xor",
  fun K => He.eqO (PySem.W.nsIn K (He.ga K "PARTS") "counted") (some none),
  fun K => He.eqO (PySem.W.nsIn K (He.ga K "PARTS") "taken") (some none),
  fun K => He.eqO (PySem.W.nsIn K (He.ga K "PARTS") "coarser") (some none),
  fun K => He.eqO (PySem.W.nsIn K (He.ga K "PARTS") "touched") (some none),
  fun K => intB K (He.ga K "LEAST_MOST") "inside" 1,
  fun K => intB K (He.ga K "LEAST_MOST") "cover" 2]
def exK2 : List (PySem.W.Frag → Bool) := [fun K => intB K (He.ga K "LEAST_MOST") "length" 1]
def exK : List (PySem.W.Frag → Bool) := exK0 ++ (exK1 ++ (exK2))
abbrev SeeT : Type := He.AlD × List (Option (List (Option (Str × Int)))) × Bool
def seeK (K : PySem.W.Frag) : SeeT := (He5.obsA faK dfK K, tbK.map fun t => He.dicW K (He.ga K t.2), exK.all fun z => z K)
def goodK (w : World) : SeeT := (He5.valA dfK, tbK.map fun t => some (He.keysIn w.params t.1), true)
def seeG (see : Addr → Option Obj) : SeeT := seeK (He.frG see asK)
def hkK : PySem.W.Hook where
  α := SeeT
  obs := fun s => seeG s.heap.get?
  val := fun w => goodK w
  says := fun w h => ∃ K : PySem.W.Frag, K.In h ∧ seeK K = goodK w
  of := fun _ _ e => ⟨_, He.frG_in, e⟩
  keeps := fun _ _ _ ⟨K, hK, c⟩ k => ⟨K, PySem.W.Frag.In.keeps hK k, c⟩
def obK (s : PySem.W.SharedT) : SeeT := seeG (HandSHeadRun.getT s)
theorem obK_is (s : PySem.W.SharedT) : obK s = hkK.obs s.abs := by
  have e : HandSHeadRun.getT s = s.abs.heap.get? := funext (HandSHeadRun.getT_eq s)
  show seeG (HandSHeadRun.getT s) = seeG s.abs.heap.get?
  rw [e]
abbrev rowK : PySem.W.OpenRow := PySem.W.OpenLaw.row PySem.Challenge.rw_axisticks_k20_members_of_sets
abbrev vwK : Program := PySem.W.view rowK.prog [0, 104]
def nmK0 : List PySem.Str := ["_wall",
  "__name__",
  "is_whole",
  "is_base",
  "is_span",
  "AxisTicksError",
  "InvalidRule",
  "InvalidRange",
  "InvalidSet",
  "InvalidBase",
  "InvalidNumber",
  "InvalidFactor",
  "InvalidEnd",
  "power_of",
  "log_of",
  "measure",
  "reach",
  "never_fits",
  "always_fits",
  "rungs_of",
  "step_at",
  "low_rung",
  "candidates",
  "LEAST_MOST",
  "_kind_and_most_fit",
  "_mantissas_fit",
  "_arguments_fit",
  "_is_dividing",
  "Rule",
  "check_rule"]
def nmK1 : List PySem.Str := ["check_rules_of_one_base",
  "check_number",
  "comb_of",
  "residues",
  "fitting_mask",
  "counts_by_residue",
  "counted_mask",
  "touching_mask",
  "PARTS",
  "KEYS",
  "key_of",
  "rule_of",
  "keys_of",
  "compare_steps",
  "holds",
  "_states",
  "mask_of",
  "_statement_mask",
  "_coarser_mask",
  "UNIT",
  "digits_of",
  "sized",
  "quartered",
  "row_of",
  "_shares",
  "_bounds",
  "_counting",
  "lengths_of_rows",
  "has_members",
  "reduced"]
def nmK2 : List PySem.Str := ["_rows_told",
  "stretches",
  "_check_operand",
  "RangeSet",
  "counted",
  "taken",
  "_is_factor",
  "coarser",
  "touched",
  "_law_purse",
  "_law_draw",
  "_law_pick",
  "_law_family",
  "_law_rule",
  "_law_made",
  "_law_times",
  "_law_places",
  "_law_is_fit",
  "_law_sizes",
  "_law_step",
  "_law_scaled",
  "_law_marks",
  "_law_number",
  "_law_range",
  "_law_atom",
  "_law_tree",
  "_law_set",
  "_law_atom_holds",
  "_law_holds",
  "_law_rules"]
def nmK3 : List PySem.Str := ["_law_period"]
def nmK : List PySem.Str := nmK0 ++ (nmK1 ++ (nmK2 ++ (nmK3)))
abbrev endK (w : World) : Option (Shared × PySem.W.SharedT) := HandSHeadRun.wholeF (fun p => HandSHeadRun.stepQ (HandSHeadRun.denQ HandSHeadRun.tabQ) p w) HandSHeadRun.fenceQ 20000 rowK.prog
theorem three {α β γ δ : Type} {z : Option α} {f1 : α → β} {f2 : α → γ} {f3 : α → δ} {y1 : β} {y2 : γ} {y3 : δ} (h1 : z.map f1 = some y1) (h2 : z.map f2 = some y2) (h3 : z.map f3 = some y3) : z.map (fun x => (f1 x, f2 x, f3 x)) = some (y1, y2, y3) := by
  cases z with
  | none => cases h1
  | some x =>
    cases h1
    cases h2
    cases h3
    rfl
set_option maxHeartbeats 0 in
theorem lkF (w : World) : (endK (w.withFollow "special-get-raises" false)).map (fun x => HandSHeadRun.looksF rowK.prog x.1.heap x.2.abs) = some true := by
  kernel_rfl
set_option maxHeartbeats 0 in
theorem snF (w : World) : (endK (w.withFollow "special-get-raises" false)).map (fun x => HandSHeadRun.seenQ vwK nmK (importedModules rowK.prog.main.body) (fun s => PySem.W.xlAt vwK [] s && PySem.W.recOk rowK.toRowW.records s) x.2.abs) = some (PySem.W.openGood vwK nmK) := by
  kernel_rfl
set_option maxHeartbeats 0 in
theorem fcF (w : World) : (endK (w.withFollow "special-get-raises" false)).map (fun x => obK x.2) = some (goodK (w.withFollow "special-get-raises" false)) := by
  kernel_rfl
set_option maxHeartbeats 0 in
theorem lkT (w : World) : (endK (w.withFollow "special-get-raises" true)).map (fun x => HandSHeadRun.looksF rowK.prog x.1.heap x.2.abs) = some true := by
  kernel_rfl
set_option maxHeartbeats 0 in
theorem snT (w : World) : (endK (w.withFollow "special-get-raises" true)).map (fun x => HandSHeadRun.seenQ vwK nmK (importedModules rowK.prog.main.body) (fun s => PySem.W.xlAt vwK [] s && PySem.W.recOk rowK.toRowW.records s) x.2.abs) = some (PySem.W.openGood vwK nmK) := by
  kernel_rfl
set_option maxHeartbeats 0 in
theorem fcT (w : World) : (endK (w.withFollow "special-get-raises" true)).map (fun x => obK x.2) = some (goodK (w.withFollow "special-get-raises" true)) := by
  kernel_rfl
def RunK (w : World) : Prop := HandSHeadRun.RunEqI rowK vwK hkK obK 20000 nmK w
theorem runF (w : World) : RunK (w.withFollow "special-get-raises" false) := three (lkF w) (snF w) (fcF w)
theorem runT (w : World) : RunK (w.withFollow "special-get-raises" true) := three (lkT w) (snT w) (fcT w)
theorem run_all (w : World) : RunK w := PySem.W.byRow2 "special-get-raises" runF runT w
end Ax

end

namespace Ax
theorem pow_pos' {b : Int} (h : 1 ≤ b) (n : Nat) : 1 ≤ b ^ n := by
  induction n with
  | zero => simp
  | succ n ih =>
    rw [Int.pow_succ]
    have := Int.mul_le_mul ih h (by omega) (by omega)
    omega
theorem pow_add' (b : Int) (m n : Nat) : b ^ (m + n) = b ^ m * b ^ n := by
  induction n with
  | zero => simp
  | succ n ih => rw [← Nat.add_assoc, Int.pow_succ, ih, Int.pow_succ, Int.mul_assoc]
theorem pow_le' {b : Int} (h : 1 ≤ b) {m n : Nat} (hm : m ≤ n) : b ^ m ≤ b ^ n := by
  obtain ⟨k, rfl⟩ := Nat.le.dest hm
  rw [pow_add']
  have h1 := pow_pos' h m
  have h2 := pow_pos' h k
  have := Int.mul_le_mul_of_nonneg_left h2 (show (0:Int) ≤ b ^ m by omega)
  omega
theorem pow_lt' {b : Int} (h : 2 ≤ b) {m n : Nat} (hm : m < n) : b ^ m < b ^ n := by
  have h1 := pow_le' (b := b) (by omega) (show m + 1 ≤ n from hm)
  rw [Int.pow_succ] at h1
  have h2 := pow_pos' (b := b) (by omega) m
  have := Int.mul_le_mul_of_nonneg_left h (show (0:Int) ≤ b ^ m by omega)
  omega
theorem sq_pow (s : Int) (n : Nat) : (s * s) ^ n = s ^ (2 * n) := by
  induction n with
  | zero => simp
  | succ n ih =>
    rw [Int.pow_succ, ih, show 2 * (n + 1) = 2 * n + 1 + 1 by omega, Int.pow_succ, Int.pow_succ, Int.mul_assoc]
/-- a turn of power_of -/
theorem turn_odd {r s : Int} {n : Nat} (h : n % 2 = 1) : (r * s) * (s * s) ^ (n / 2) = r * s ^ n := by
  rw [sq_pow, Int.mul_assoc, Int.mul_comm s, ← Int.pow_succ]
  congr 2
  omega
theorem turn_even {r s : Int} {n : Nat} (h : n % 2 = 0) : r * (s * s) ^ (n / 2) = r * s ^ n := by
  rw [sq_pow]
  congr 2
  omega
theorem le_of_prod {r s B : Int} {n : Nat} (hr : 1 ≤ r) (hs : 1 ≤ s) (e : r * s ^ n = B) : r ≤ B ∧ (1 ≤ n → s ≤ B) := by
  have h1 := pow_pos' hs n
  have h2 := Int.mul_le_mul_of_nonneg_left h1 (show (0:Int) ≤ r by omega)
  refine ⟨by omega, fun hn => ?_⟩
  have h3 := pow_le' hs hn
  rw [Int.pow_succ, Int.pow_zero, Int.one_mul] at h3
  have h4 := Int.mul_le_mul_of_nonneg_right hr (show (0:Int) ≤ s ^ n by omega)
  omega
theorem abs_lt_pow {i : Int} {k : Nat} (h0 : 0 ≤ i) (h : i < 2 ^ k) : i.natAbs < 2 ^ k := by
  have e : ((i.natAbs : Nat) : Int) = i := by omega
  have : ((i.natAbs : Nat) : Int) < ((2 ^ k : Nat) : Int) := by rw [e, Int.natCast_pow]; exact h
  exact Int.ofNat_lt.mp this
end Ax
namespace Ax
/-! ### the exponent of the greatest power that is at most a number -/
/-- what log_of's second loop keeps: j squares are left -/
def LogInv (b n : Int) (j : Nat) (E : Nat) (p : Int) : Prop := p = b ^ (E * 2 ^ j) ∧ p ≤ n ∧ n < b ^ ((E + 1) * 2 ^ j)
theorem LogInv.start {b n : Int} {j : Nat} (hn : 1 ≤ n) (h : n < b ^ (2 ^ j)) : LogInv b n j 0 1 := by
  refine ⟨by simp, hn, ?_⟩
  simpa using h
theorem LogInv.yes {b n p : Int} {j E : Nat} (h : LogInv b n (j + 1) E p) (hle : p * b ^ (2 ^ j) ≤ n) : LogInv b n j (2 * E + 1) (p * b ^ (2 ^ j)) := by
  obtain ⟨h1, h2, h3⟩ := h
  refine ⟨?_, hle, ?_⟩
  · rw [h1, ← pow_add']
    congr 1
    rw [Nat.pow_succ, Nat.add_mul, Nat.mul_comm 2 E, Nat.mul_assoc, Nat.mul_comm 2 (2 ^ j), Nat.one_mul]
  · have e : (2 * E + 1 + 1) * 2 ^ j = (E + 1) * 2 ^ (j + 1) := by
      rw [Nat.pow_succ, show 2 * E + 1 + 1 = (E + 1) * 2 by omega, Nat.mul_assoc, Nat.mul_comm 2 (2 ^ j)]
    rw [e]
    exact h3
theorem LogInv.no {b n p : Int} {j E : Nat} (h : LogInv b n (j + 1) E p) (hgt : ¬ p * b ^ (2 ^ j) ≤ n) : LogInv b n j (2 * E) p := by
  obtain ⟨h1, h2, h3⟩ := h
  have e0 : 2 * E * 2 ^ j = E * 2 ^ (j + 1) := by rw [Nat.pow_succ, Nat.mul_comm 2 E, Nat.mul_assoc, Nat.mul_comm 2 (2 ^ j)]
  refine ⟨by rw [e0]; exact h1, h2, ?_⟩
  have e : (2 * E + 1) * 2 ^ j = E * 2 ^ (j + 1) + 2 ^ j := by rw [Nat.add_mul, e0, Nat.one_mul]
  rw [e, pow_add', ← h1]
  omega
theorem LogInv.fin {b n p : Int} {E : Nat} (h : LogInv b n 0 E p) : b ^ E ≤ n ∧ n < b ^ (E + 1) := by
  obtain ⟨h1, h2, h3⟩ := h
  simp only [Nat.pow_zero, Nat.mul_one] at h1 h3
  exact ⟨by omega, h3⟩
theorem sq_two (b : Int) (k : Nat) : b ^ (2 ^ k) * b ^ (2 ^ k) = b ^ (2 ^ (k + 1)) := by
  rw [← pow_add', Nat.pow_succ]
  congr 1
  omega
theorem log_unique {b n : Int} (hb : 2 ≤ b) {E F : Nat} (h1 : b ^ E ≤ n) (h2 : n < b ^ (E + 1)) (h3 : b ^ F ≤ n) (h4 : n < b ^ (F + 1)) : E = F := by
  rcases Nat.lt_trichotomy E F with h | h | h
  · have := pow_le' (b := b) (by omega) (show E + 1 ≤ F from h)
    omega
  · exact h
  · have := pow_le' (b := b) (by omega) (show F + 1 ≤ E from h)
    omega
end Ax
namespace Ax
theorem pow_base_le {a b : Int} (h0 : 1 ≤ a) (h : a ≤ b) (n : Nat) : a ^ n ≤ b ^ n := by
  induction n with
  | zero => simp
  | succ n ih =>
    rw [Int.pow_succ, Int.pow_succ]
    have := pow_pos' h0 n
    exact Int.mul_le_mul ih h (by omega) (by omega)
theorem exp_lt {b : Int} (hb : 2 ≤ b) {m n : Nat} (h : b ^ m < 2 ^ n) : m < n := by
  apply Nat.lt_of_not_le
  intro c
  have h1 := pow_base_le (a := 2) (by decide) hb m
  have h2 := pow_le' (b := 2) (by decide) c
  omega
theorem k_small {b : Int} (hb : 2 ≤ b) {k : Nat} (h : b ^ (2 ^ k) < 2 ^ 8000) : k < 13 := by
  have h1 := exp_lt hb h
  apply Nat.lt_of_not_le
  intro c
  have : 2 ^ 13 ≤ 2 ^ k := Nat.pow_le_pow_right (by decide) c
  have : (2 : Nat) ^ 13 = 8192 := by decide
  omega
end Ax
namespace Ax
/-! ### the exponent as a function; sizes of the least steps -/
noncomputable def lg (b m : Int) : Nat := Classical.epsilon fun E => b ^ E ≤ m ∧ m < b ^ (E + 1)
theorem lg_ex {b m : Int} (hm : 1 ≤ m) : ∀ N : Nat, m < b ^ N → ∃ E, b ^ E ≤ m ∧ m < b ^ (E + 1)
  | 0, h => by
    rw [Int.pow_zero] at h
    omega
  | N + 1, h => by
    by_cases c : m < b ^ N
    · exact lg_ex hm N c
    · exact ⟨N, by omega, h⟩
theorem lt_two_pow (n : Nat) : n < 2 ^ n := Nat.lt_two_pow_self
theorem lg_spec {b m : Int} (hb : 2 ≤ b) (hm : 1 ≤ m) : b ^ lg b m ≤ m ∧ m < b ^ (lg b m + 1) := by
  have h : ∃ E, b ^ E ≤ m ∧ m < b ^ (E + 1) := lg_ex hm m.toNat (by
    have h1 := pow_base_le (a := 2) (by decide) hb m.toNat
    have h2 := lt_two_pow m.toNat
    have h3 : ((m.toNat : Nat) : Int) < ((2 ^ m.toNat : Nat) : Int) := Int.ofNat_lt.mpr h2
    rw [Int.natCast_pow] at h3
    have h4 : ((m.toNat : Nat) : Int) = m := by omega
    rw [h4] at h3
    exact Int.lt_of_lt_of_le h3 h1)
  exact Classical.epsilon_spec h
theorem lg_eq {b m : Int} {E : Nat} (hb : 2 ≤ b) (hm : 1 ≤ m) (h1 : b ^ E ≤ m) (h2 : m < b ^ (E + 1)) : E = lg b m :=
  log_unique hb h1 h2 (lg_spec hb hm).1 (lg_spec hb hm).2
theorem lg_mono {b m M : Int} (hb : 2 ≤ b) (hm : 1 ≤ m) (h : m ≤ M) : lg b m ≤ lg b M := by
  have a := lg_spec hb hm
  have c := lg_spec hb (show 1 ≤ M by omega)
  apply Nat.le_of_not_lt
  intro q
  have := pow_le' (b := b) (by omega) (show lg b M + 1 ≤ lg b m from q)
  omega
/-- the size of the least step of a mantissa that is at least 1, in units of b ^ -top -/
noncomputable def keyOf (b : Int) (top : Nat) (m : Int) : Int := m * b ^ (top - lg b m)
theorem mul_cancel {a b c : Int} (hc : 1 ≤ c) (h : a * c = b * c) : a = b := Int.eq_of_mul_eq_mul_right (by omega) h
theorem dvd_of_mul {m n b : Int} {k : Nat} (h : m * b ^ (k + 1) = n) : n % b = 0 := by
  rw [← h, Int.pow_succ, ← Int.mul_assoc]
  exact Int.mul_emod_left _ _
theorem key_inj' {b m n : Int} {top : Nat} (hb : 2 ≤ b) (hn : n % b ≠ 0) (ln : lg b n ≤ top) (c : lg b m ≤ lg b n) (h : keyOf b top m = keyOf b top n) : m = n := by
  unfold keyOf at h
  have e : top - lg b m = (lg b n - lg b m) + (top - lg b n) := by omega
  rw [e, pow_add', ← Int.mul_assoc] at h
  have h2 := mul_cancel (pow_pos' (by omega) _) h
  cases q : lg b n - lg b m with
  | zero =>
    rw [q, Int.pow_zero, Int.mul_one] at h2
    exact h2
  | succ k =>
    rw [q] at h2
    exact absurd (dvd_of_mul h2) hn
theorem key_inj {b m n : Int} {top : Nat} (hb : 2 ≤ b) (hm : m % b ≠ 0) (hn : n % b ≠ 0) (lm : lg b m ≤ top) (ln : lg b n ≤ top) (h : keyOf b top m = keyOf b top n) : m = n := by
  rcases Nat.le_total (lg b m) (lg b n) with c | c
  · exact key_inj' hb hn ln c h
  · exact (key_inj' hb hm lm c h.symm).symm
theorem key_pos {b m : Int} {top : Nat} (hb : 2 ≤ b) (hm : 1 ≤ m) : 1 ≤ keyOf b top m := by
  have h1 := pow_pos' (b := b) (by omega) (top - lg b m)
  have := Int.mul_le_mul hm h1 (by omega) (by omega)
  unfold keyOf
  omega
theorem key_lt {b m : Int} {top : Nat} (hb : 2 ≤ b) (hm : 1 ≤ m) (h : lg b m ≤ top) : b ^ top ≤ keyOf b top m ∧ keyOf b top m < b ^ (top + 1) := by
  obtain ⟨h1, h2⟩ := lg_spec hb hm
  have h3 := pow_pos' (b := b) (by omega) (top - lg b m)
  have e1 : b ^ top = b ^ lg b m * b ^ (top - lg b m) := by rw [← pow_add']; congr 1; omega
  have e2 : b ^ (top + 1) = b ^ (lg b m + 1) * b ^ (top - lg b m) := by rw [← pow_add']; congr 1; omega
  rw [e1, e2]
  exact ⟨Int.mul_le_mul_of_nonneg_right h1 (by omega), Int.mul_lt_mul_of_pos_right h2 (by omega)⟩
end Ax
namespace Ax
theorem perm_lift {α β : Type} {f : α → β} : ∀ {zs : List β} {ms : List α}, zs.Perm (ms.map f) → ∃ rs : List α, rs.Perm ms ∧ zs = rs.map f
  | [], ms, h => by
    have e := h.length_eq
    rw [List.length_map] at e
    have : ms = [] := List.eq_nil_of_length_eq_zero e.symm
    subst this
    exact ⟨[], .nil, rfl⟩
  | z :: zs, ms, h => by
    have hz : z ∈ ms.map f := h.mem_iff.mp (List.mem_cons_self ..)
    obtain ⟨m, hm, rfl⟩ := List.mem_map.mp hz
    obtain ⟨l1, l2, rfl⟩ := List.append_of_mem hm
    have h2 : (f m :: zs).Perm (f m :: (l1 ++ l2).map f) := by
      refine h.trans ?_
      rw [List.map_append, List.map_cons, List.map_append]
      exact List.perm_middle
    obtain ⟨rs, p, e⟩ := perm_lift ((List.perm_cons _).mp h2)
    refine ⟨m :: rs, ((List.perm_cons m).mpr p).trans List.perm_middle.symm, by rw [e]; rfl⟩
theorem nodup_map {α β : Type} {f : α → β} {ms : List α} (nd : ms.Nodup) (inj : ∀ x ∈ ms, ∀ y ∈ ms, f x = f y → x = y) : (ms.map f).Nodup := by
  unfold List.Nodup
  rw [List.pairwise_map]
  exact List.Pairwise.imp_of_mem (fun {a b} ha hb h z => h (inj a ha b hb z)) nd
theorem strict {zs : List Int} (h : zs.Pairwise (· ≤ ·)) (nd : zs.Nodup) : zs.Pairwise (· < ·) := (h.and nd).imp fun ⟨a, b⟩ => by omega
end Ax

namespace Ax
open PySem L2
section
variable {P : Program} {w : World} {K : PySem.W.Frag} {mg : Str → Option Value} {base : Heap} {A : Adr}
/-- the size that numbers stay below -/
abbrev BIG : Int := 2 ^ 8000
theorem mulBig {i j : Int} (h0 : 0 ≤ i) (h1 : i < 2 ^ 400000) (h2 : 0 ≤ j) (h3 : j < 2 ^ 400000) : CMulW i j :=
  wide_mul (abs_lt_pow h0 h1) (abs_lt_pow h2 h3) (by decide) (by decide) (by decide)
theorem big_le {i : Int} (h : i < BIG) : i < 2 ^ 400000 := Int.lt_of_lt_of_le h (pow_le' (b := 2) (by decide) (by decide))
theorem two_div : CDivW i 2 := ⟨by decide, by decide⟩
/-! ### power_of -/
def spPow : Sp := fun vs H Q _ => ∃ (b : Int) (e : Int), vs = [.int b, .int e] ∧ 1 ≤ b ∧ 0 ≤ e ∧ b ^ e.toNat < BIG ∧ b < BIG ∧ Q (.int (b ^ e.toNat)) H
abbrev nm_power_of : List Str := ["base", "exponent", "result", "square", "rest"]
theorem sc_power_of : FnScope ["base", "exponent", "result", "square", "rest"] ["base", "exponent"] (defScope s_power_of) := ⟨rfl, rfl, rfl, by decide +kernel, rfl, by decide +kernel, by decide +kernel⟩
theorem ok_power_of (T : Txt K mg A w) : FnOk P w K mg base CX0 1 A.a_power_of A.d_power_of ["base", "exponent"] spPow := by
  refine T.F_power_of.ok sc_power_of (fun vs H Q E h => ?_) (fun cdv A0 outer s H vs Q E hr h => ?_)
  · obtain ⟨b, e, rfl, _⟩ := h
    rfl
  · obtain ⟨b, e, rfl, hb, he, hB, hbB, q⟩ := h
    refine ⟨_, (pss_cons (ps_set (i := 2) sc_power_of.nd rfl (Or.inl rfl) pe_int)
  (pss_cons (ps_set (i := 3) sc_power_of.nd rfl (Or.inl rfl) (pv 0))
  (pss_cons (ps_set (i := 4) sc_power_of.nd rfl (Or.inl rfl) (pv 1))
  (pss_cons (ps_while PassesOwn.never (pt_cmpR op_gt (pv 4) pe_int (nomark _))
  (pss_cons (ps_if (pt_cmpR op_eq (pe_op op_mod (pv 4) pe_int) pe_int (nomark _)) (pss_one (ps_set (i := 2) sc_power_of.nd rfl (Or.inl rfl) (pe_op op_mulW (pv 2) (pv 3)))) pss_nil)
  (pss_cons (ps_set (i := 3) sc_power_of.nd rfl (Or.inl rfl) (pe_op op_mulW (pv 3) (pv 3)))
  (pss_one (ps_set (i := 4) sc_power_of.nd rfl (Or.inl rfl) (pe_op op_fdivW (pv 4) pe_int))))))
  (pss_one (ps_ret (pv 2))))))), ?_⟩
    refine ⟨_, rfl, _, rfl, ?_⟩
    refine ⟨fun m σ H' => ∃ r sq rest : Int, σ = [some (.int b), some (.int e), some (.int r), some (.int sq), some (.int rest)] ∧ H' = H ∧ 0 ≤ rest ∧ rest.toNat = m ∧ 1 ≤ r ∧ 1 ≤ sq ∧ r * sq ^ m = b ^ e.toNat ∧ (m = 0 → r < BIG),
      ⟨e.toNat, 1, b, e, rfl, rfl, he, rfl, by decide, hb, by rw [Int.one_mul], fun _ => by show (1 : Int) < 2 ^ 8000; exact Int.lt_of_lt_of_le (by decide : (1 : Int) < 2 ^ 1) (pow_le' (b := 2) (by decide) (by decide))⟩, ?_⟩
    rintro m σ H' ⟨r, sq, rest, rfl, rfl, h0, hm, hr1, hs1, hp, hrB⟩
    refine ⟨_, rfl, _, _, rfl, rfl, _, rfl, ?_⟩
    refine ite2 (fun hc => ?_) (fun hc => ?_)
    · have hc : (0 : Int) < rest := of_decide_eq_true hc
      obtain ⟨rB, sB⟩ := le_of_prod hr1 hs1 hp
      have sB := sB (by omega)
      have hsq : CMulW sq sq := mulBig (by omega) (big_le (by omega)) (by omega) (big_le (by omega))
      have ss1 : 1 ≤ sq * sq := by have := Int.mul_le_mul hs1 hs1 (by omega) (by omega); omega
      refine ⟨fun σ' H2 => ∃ r' : Int, σ' = [some (.int b), some (.int e), some (.int r'), some (.int (sq * sq)), some (.int (rest / 2))] ∧ H2 = H' ∧ 1 ≤ r' ∧ r' * (sq * sq) ^ (m / 2) = b ^ e.toNat, ?_, ?_⟩
      · rintro σ' H2 ⟨r', rfl, rfl, h1, h2⟩
        refine ⟨m / 2, by omega, r', sq * sq, rest / 2, rfl, rfl, by omega, by omega, h1, ss1, h2, fun hz => ?_⟩
        have := (le_of_prod h1 ss1 h2).1
        omega
      · refine ⟨_, rfl, _, _, rfl, rfl, (by show (0 : Int) < 2; decide), rfl, _, rfl, ?_⟩
        refine ite2 (fun hd => ?_) (fun hd => ?_)
        · have hd : V.int (rest % 2) = V.int 1 := of_decide_eq_true hd
          have hd : rest % 2 = 1 := V.int.inj hd
          refine ⟨_, rfl, _, rfl, _, _, rfl, rfl, mulBig (by omega) (big_le (by omega)) (by omega) (big_le (by omega)), ?_⟩
          refine ⟨_, rfl, _, rfl, _, _, rfl, rfl, hsq, ?_⟩
          refine ⟨_, rfl, _, _, rfl, rfl, two_div, ?_⟩
          refine ⟨r * sq, rfl, rfl, ?_, ?_⟩
          · have := Int.mul_le_mul hr1 hs1 (by omega) (by omega)
            omega
          · rw [turn_odd (by omega)]
            exact hp
        · have hd : ¬ V.int (rest % 2) = V.int 1 := fun z => hd (decide_eq_true z)
          have hd : ¬ rest % 2 = 1 := fun z => hd (by rw [z])
          refine ⟨_, rfl, _, rfl, _, _, rfl, rfl, hsq, ?_⟩
          refine ⟨_, rfl, _, _, rfl, rfl, two_div, ?_⟩
          refine ⟨r, rfl, rfl, hr1, ?_⟩
          rw [turn_even (by omega)]
          exact hp
    · have hc : ¬ (0 : Int) < rest := fun z => hc (decide_eq_true z)
      refine ⟨_, rfl, ?_⟩
      have hm0 : m = 0 := by omega
      subst hm0
      rw [Int.pow_zero, Int.mul_one] at hp
      rw [hp]
      exact q
/-! ### log_of -/
def spLog : Sp := fun vs H Q _ => ∃ (b n : Int), vs = [.int b, .int n] ∧ 2 ≤ b ∧ b < BIG ∧ 1 ≤ n ∧ n < BIG ∧ ∀ (E : Nat) (H' : Hp), Same H H' → b ^ E ≤ n → n < b ^ (E + 1) → Q (.int E) H'
/-- the list of squares -/
def Sqs (b : Int) (k : Nat) (sqs : List Int) : Prop := sqs.length = k + 1 ∧ ∀ i, i < k + 1 → sqs[i]? = some (b ^ (2 ^ i))
theorem Sqs.one (b : Int) : Sqs b 0 [b] := ⟨rfl, fun i h => by
  have e : i = 0 := by omega
  subst e
  rw [Nat.pow_zero, Int.pow_succ, Int.pow_zero, Int.one_mul]
  rfl⟩
theorem Sqs.more {b : Int} {k : Nat} {sqs : List Int} (h : Sqs b k sqs) : Sqs b (k + 1) (sqs ++ [b ^ (2 ^ (k + 1))]) := by
  obtain ⟨h1, h2⟩ := h
  refine ⟨by simp [h1], fun i hi => ?_⟩
  by_cases c : i < k + 1
  · rw [List.getElem?_append_left (by omega)]
    exact h2 i c
  · have e : i = k + 1 := by omega
    subst e
    rw [List.getElem?_append_right (by omega), h1]
    simp
theorem at_neg {sqs : List Int} {b : Int} {k : Nat} (h : Sqs b k sqs) : atI (sqs.map V.int) (-1) = some (V.int (b ^ (2 ^ k))) := by
  obtain ⟨h1, h2⟩ := h
  have e : sqs = sqs.dropLast ++ [b ^ (2 ^ k)] := by
    have hne : sqs ≠ [] := by intro z; rw [z] at h1; simp at h1
    have hl := List.dropLast_concat_getLast hne
    have hg : sqs.getLast hne = b ^ (2 ^ k) := by
      have := h2 k (by omega)
      rw [List.getLast_eq_getElem]
      rw [List.getElem?_eq_some_iff] at this
      obtain ⟨hh, hv⟩ := this
      simp only [h1, Nat.add_sub_cancel]
      exact hv
    rw [hg] at hl
    exact hl.symm
  rw [e, List.map_append]
  exact atI_last _ _
abbrev nm_log_of : List Str := ["base", "number", "squares", "exponent", "power", "square"]
theorem sc_log_of : FnScope ["base", "number", "squares", "exponent", "power", "square"] ["base", "number"] (defScope s_log_of) := ⟨rfl, rfl, rfl, by decide +kernel, rfl, by decide +kernel, by decide +kernel⟩
theorem ok_log_of (T : Txt K mg A w) : FnOk P w K mg base CX0 1 A.a_log_of A.d_log_of ["base", "number"] spLog := by
  refine T.F_log_of.ok sc_log_of (fun vs H Q E h => ?_) (fun cdv A0 outer s H vs Q E hr h => ?_)
  · obtain ⟨b, e, rfl, _⟩ := h
    rfl
  · obtain ⟨b, n, rfl, hb, hbB, hn, hnB, q⟩ := h
    refine ⟨_, (pss_cons (ps_set (i := 2) sc_log_of.nd rfl (Or.inl rfl) (pe_lst (pa_cons (pv 0) pa_nil)))
  (pss_cons (ps_while PassesOwn.never (pt_cmpR op_le (pe_op op_mulW (pe_ix ix_list (pv 2) (pe_un un_neg pe_int) (fun _ _ => rfl)) (pe_ix ix_list (pv 2) (pe_un un_neg pe_int) (fun _ _ => rfl))) (pv 1) (nomark _))
  (pss_one (ps_expr (pe_bm PySem.F.plainAttrs_list PySem.F.slot_list_append PySem.F.type_list_append mt_append (pv 2) (pa_cons (pe_op op_mulW (pe_ix ix_list (pv 2) (pe_un un_neg pe_int) (fun _ _ => rfl)) (pe_ix ix_list (pv 2) (pe_un un_neg pe_int) (fun _ _ => rfl))) pa_nil)))))
  (pss_cons (ps_set (i := 3) sc_log_of.nd rfl (Or.inl rfl) pe_int)
  (pss_cons (ps_set (i := 4) sc_log_of.nd rfl (Or.inl rfl) pe_int)
  (pss_cons (ps_for PassesOwn.never rfl (pi_reversed (by rfl) T.n_reversed (pa_cons (pv 2) pa_nil)) (pg_name (i := 5) sc_log_of.nd rfl (Or.inl rfl))
  (pss_cons (ps_set (i := 3) sc_log_of.nd rfl (Or.inl rfl) (pe_op op_mulW pe_int (pv 3)))
  (pss_one (ps_if (pt_cmpR op_le (pe_op op_mulW (pv 4) (pv 5)) (pv 1) (nomark _)) (pss_cons (ps_set (i := 4) sc_log_of.nd rfl (Or.inl rfl) (pe_op op_mulW (pv 4) (pv 5)))
  (pss_one (ps_set (i := 3) sc_log_of.nd rfl (Or.inl rfl) (pe_op op_add (pv 3) pe_int)))) pss_nil))))
  (pss_one (ps_ret (pv 3)))))))), ?_⟩
    refine ⟨_, rfl, by show 1 ≤ sizeLine; decide, fun p hp => ?_⟩
    -- the squares
    refine ⟨fun m σ H' => ∃ (k : Nat) (sqs : List Int), σ = [some (.int b), some (.int n), some (.ref p), none, none, none] ∧ Same H H' ∧ H' p = some (.lst (sqs.map V.int)) ∧ Sqs b k sqs ∧ (b ^ (2 ^ k) ≤ n ∨ k = 0) ∧ m = (b + n - b ^ (2 ^ k)).toNat,
      ⟨_, 0, [b], rfl, fun c o e => by rw [upd_ne (ne_of_none e hp)]; exact e, upd_same, Sqs.one b, .inr rfl, rfl⟩, ?_⟩
    rintro m σ H' ⟨k, sqs, rfl, s1, hL, hS, hk, rfl⟩
    have hl1 : 2 ≤ b ^ (2 ^ k) := by
      have := pow_le' (b := b) (by omega) (show 1 ≤ 2 ^ k from Nat.one_le_two_pow)
      rw [Int.pow_succ, Int.pow_zero, Int.one_mul] at this
      omega
    have hlB : b ^ (2 ^ k) < BIG := by
      rcases hk with h | h
      · omega
      · subst h
        rw [Nat.pow_zero, Int.pow_succ, Int.pow_zero, Int.one_mul]
        exact hbB
    have hk13 := k_small hb hlB
    have hneg : atI (sqs.map V.int) (-1) = some (V.int (b ^ (2 ^ k))) := at_neg hS
    have hmul : CMulW (b ^ (2 ^ k)) (b ^ (2 ^ k)) := mulBig (by omega) (big_le hlB) (by omega) (big_le hlB)
    refine ⟨_, rfl, _, rfl, p, _, _, _, rfl, rfl, SqL.of hL, hneg, _, rfl, _, rfl, p, _, _, _, rfl, rfl, SqL.of hL, hneg, _, _, rfl, rfl, hmul, _, rfl, _, _, rfl, rfl, _, rfl, ?_⟩
    refine ite2 (fun hc => ?_) (fun hc => ?_)
    · have hc : b ^ (2 ^ k) * b ^ (2 ^ k) ≤ n := of_decide_eq_true hc
      refine ⟨fun σ' H2 => σ' = [some (.int b), some (.int n), some (.ref p), none, none, none] ∧ H2 = upd H' p (.lst ((sqs ++ [b ^ (2 ^ (k + 1))]).map V.int)), ?_, ?_⟩
      · rintro σ' H2 ⟨rfl, rfl⟩
        refine ⟨(b + n - b ^ (2 ^ (k + 1))).toNat, ?_, k + 1, _, rfl, fun c o e => ?_, upd_same, hS.more, .inl (by rw [← sq_two]; exact hc), rfl⟩
        · have h2 : b ^ (2 ^ k) < b ^ (2 ^ (k + 1)) := pow_lt' hb (Nat.pow_lt_pow_right (by decide) (Nat.lt_succ_self k))
          have h3 : b ^ (2 ^ (k + 1)) ≤ n := by rw [← sq_two]; exact hc
          omega
        · rw [upd_ne (ne_of_none e hp)]
          exact s1 c o e
      · refine ⟨_, rfl, .inl ⟨rfl, _, SqL.of hL⟩, _, rfl, _, rfl, p, _, _, _, rfl, rfl, SqL.of hL, hneg, _, rfl, _, rfl, p, _, _, _, rfl, rfl, SqL.of hL, hneg, _, _, rfl, rfl, hmul, ?_⟩
        refine ⟨p, _, _, rfl, rfl, hL, ?_, rfl, ?_⟩
        · rw [List.length_map, hS.1]
          exact small1000 (by omega)
        · show upd H' p (HO.lst (List.map V.int sqs ++ [V.int (b ^ 2 ^ k * b ^ 2 ^ k)])) = _
          rw [sq_two, List.map_append]
          rfl
    · have hc : ¬ b ^ (2 ^ k) * b ^ (2 ^ k) ≤ n := fun z => hc (decide_eq_true z)
      rw [sq_two] at hc
      refine ⟨_, rfl, p, _, rfl, SqL.of hL, ?_⟩
      have hlen : (sqs.map V.int).length = k + 1 := by rw [List.length_map]; exact hS.1
      -- the squares from behind
      refine ⟨fun i m σ H2 => i ≤ k + 1 ∧ m = k + 1 - i ∧ H2 = H' ∧ ∃ (E : Nat) (pw : Int) (v : Option V), σ = [some (.int b), some (.int n), some (.ref p), some (.int (E : Int)), some (.int pw), v] ∧ LogInv b n (k + 1 - i) E pw,
        ⟨k + 1, by omega, rfl, rfl, 0, 1, none, rfl, LogInv.start hn (by rw [Nat.sub_zero]; omega)⟩, ?_⟩
      rintro i m σ H2 ⟨hi, rfl, rfl, E, pw, v, rfl, hI⟩
      by_cases hlt : i < k + 1
      · have hget : (sqs.map V.int)[k - i]? = some (V.int (b ^ (2 ^ (k - i)))) := by
          rw [List.getElem?_map, hS.2 (k - i) (by omega)]
          rfl
        refine .inr ⟨⟨by rw [hlen]; exact hlt, _, _, SqL.of hL, by rw [hlen, show k + 1 - 1 - i = k - i by omega]; exact hget⟩, fun σ' H3 => H3 = H2 ∧ ∃ (E : Nat) (pw : Int) (v : Option V), σ' = [some (.int b), some (.int n), some (.ref p), some (.int (E : Int)), some (.int pw), v] ∧ LogInv b n (k - i) E pw, ?_, ?_⟩
        · rintro σ' H3 ⟨rfl, E', pw', v', rfl, hI'⟩
          exact ⟨k - i, by omega, by omega, by omega, rfl, E', pw', v', rfl, by rw [show k + 1 - (i + 1) = k - i by omega]; exact hI'⟩
        · rintro x H3 ⟨rfl, hx⟩
          have hx := hx _ (SqL.of hL)
          rw [hlen, show k + 1 - 1 - i = k - i by omega, hget] at hx
          obtain rfl := Option.some.inj hx
          rw [show k + 1 - i = (k - i) + 1 by omega] at hI
          have hp1 : 1 ≤ pw := by rw [hI.1]; exact pow_pos' (by omega) _
          have hpB : pw < BIG := by have := hI.2.1; omega
          have hs1 : 1 ≤ b ^ (2 ^ (k - i)) := pow_pos' (by omega) _
          have hsB : b ^ (2 ^ (k - i)) < BIG := by
            have := pow_le' (b := b) (by omega) (Nat.pow_le_pow_right (show 0 < 2 by decide) (show k - i ≤ k by omega))
            omega
          have hmul2 : CMulW pw (b ^ (2 ^ (k - i))) := mulBig (by omega) (big_le hpB) (by omega) (big_le hsB)
          have hE : E < 8000 := by
            have h1 : b ^ (E * 2 ^ (k - i + 1)) < 2 ^ 8000 := by rw [← hI.1]; exact hpB
            exact Nat.lt_of_le_of_lt (Nat.le_mul_of_pos_right E (Nat.two_pow_pos _)) (exp_lt hb h1)
          have hmul3 : CMulW 2 (E : Int) := wide_mul (a := 2) (b := 13) (by decide) (by rw [Int.natAbs_natCast]; omega) (by decide) (by decide) (by decide)
          refine ⟨_, rfl, _, _, rfl, rfl, hmul3, ?_⟩
          refine ⟨_, rfl, _, rfl, _, _, rfl, rfl, hmul2, _, rfl, _, _, rfl, rfl, _, rfl, ?_⟩
          refine ite2 (fun hc => ?_) (fun hc => ?_)
          · have hc : pw * b ^ (2 ^ (k - i)) ≤ n := of_decide_eq_true hc
            refine ⟨_, rfl, _, rfl, _, _, rfl, rfl, hmul2, ?_⟩
            refine ⟨_, rfl, _, _, rfl, rfl, ?_⟩
            exact ⟨rfl, 2 * E + 1, _, _, rfl, hI.yes hc⟩
          · have hc : ¬ pw * b ^ (2 ^ (k - i)) ≤ n := fun z => hc (decide_eq_true z)
            exact ⟨rfl, 2 * E, _, _, rfl, hI.no hc⟩
      · have e : i = k + 1 := by omega
        subst e
        rw [Nat.sub_self] at hI
        exact .inl ⟨by show (sqs.map V.int).length ≤ k + 1; rw [hlen]; exact Nat.le_refl _, _, rfl, q E H2 s1 hI.fin.1 hI.fin.2⟩
end
end Ax

namespace Ax
/-! ### kinds, sizes, reaches -/
inductive Kd where | ins | cov | len
  deriving DecidableEq
/-- how often the ends are scaled: the step is a whole number beside them -/
def facZ (b e : Int) : Int := if 0 ≤ e then 1 else b ^ (-e).toNat
def sizZ (b m e : Int) : Int := if 0 ≤ e then m * b ^ e.toNat else m
def reachZ (k : Kd) (most low size : Int) : Int := match k with
  | .len => low + most * size
  | .cov => (low / size + most) * size
  | .ins => (-(-low / size) + most) * size - 1
theorem mul_le_iff {a b c : Int} (h : 0 < c) : a * c ≤ b * c ↔ a ≤ b := ⟨fun q => Int.le_of_mul_le_mul_right q h, fun q => Int.mul_le_mul_of_nonneg_right q (by omega)⟩
theorem mul_lt_iff {a b c : Int} (h : 0 < c) : a * c < b * c ↔ a < b := ⟨fun q => Int.lt_of_mul_lt_mul_right q (by omega), fun q => Int.mul_lt_mul_of_pos_right q h⟩
theorem reach_scale {k : Kd} {most l h s c : Int} (hc : 0 < c) (hs : 0 < s) : h * c ≤ reachZ k most (l * c) (s * c) ↔ h ≤ reachZ k most l s := by
  have d : ∀ x : Int, x * c / (s * c) = x / s := fun x => Int.mul_ediv_mul_of_pos_left x s hc
  cases k with
  | len =>
    show h * c ≤ l * c + most * (s * c) ↔ h ≤ l + most * s
    rw [← Int.mul_assoc, ← Int.add_mul]
    exact mul_le_iff hc
  | cov =>
    show h * c ≤ (l * c / (s * c) + most) * (s * c) ↔ h ≤ (l / s + most) * s
    rw [d, ← Int.mul_assoc]
    exact mul_le_iff hc
  | ins =>
    show h * c ≤ (-(-(l * c) / (s * c)) + most) * (s * c) - 1 ↔ h ≤ (-(-l / s) + most) * s - 1
    rw [← Int.neg_mul, d, ← Int.mul_assoc]
    constructor
    · intro q
      have := (mul_lt_iff hc).mp (show h * c < (-(-l / s) + most) * s * c by omega)
      omega
    · intro q
      have := (mul_lt_iff (c := c) hc).mpr (show h < (-(-l / s) + most) * s by omega)
      omega
/-- a step's size in units of b ^ -N -/
def szN (b N m p : Int) : Int := m * b ^ (N + p).toNat
theorem szN_pos {b N m p : Int} (hb : 1 ≤ b) (hm : 1 ≤ m) : 1 ≤ szN b N m p := by
  have h1 := pow_pos' hb (N + p).toNat
  have := Int.mul_le_mul hm h1 (by omega) (by omega)
  unfold szN
  omega
theorem szN_shift {b N m p c : Int} (h : 0 ≤ N + p) (hc : 0 ≤ c) : szN b (N + c) m p = szN b N m p * b ^ c.toNat := by
  unfold szN
  rw [Int.mul_assoc, ← pow_add']
  congr 2
  omega
/-- whether a step fits: e is its power beside the ends' digits -/
def FitE (b : Int) (k : Kd) (most l h m e : Int) : Prop := h * facZ b e ≤ reachZ k most (l * facZ b e) (sizZ b m e)
theorem fitE_N {b : Int} {k : Kd} {most l h m e N : Int} (hb : 1 ≤ b) (hm : 1 ≤ m) (hN : 0 ≤ N) (he : 0 ≤ N + e) : FitE b k most l h m e ↔ h * b ^ N.toNat ≤ reachZ k most (l * b ^ N.toNat) (szN b N m e) := by
  unfold FitE facZ sizZ
  by_cases c : 0 ≤ e
  · rw [if_pos c, if_pos c, Int.mul_one, Int.mul_one]
    have e1 : szN b N m e = m * b ^ e.toNat * b ^ N.toNat := by
      unfold szN
      rw [Int.mul_assoc, ← pow_add']
      congr 2
      omega
    rw [e1]
    exact (reach_scale (by have := pow_pos' hb N.toNat; omega) (by
      have h1 := pow_pos' hb e.toNat
      have := Int.mul_le_mul hm h1 (by omega) (by omega)
      omega)).symm
  · rw [if_neg c, if_neg c]
    have e1 : N.toNat = (-e).toNat + (N + e).toNat := by omega
    have e2 : szN b N m e = m * b ^ (N + e).toNat := rfl
    rw [e2, e1, pow_add', ← Int.mul_assoc, ← Int.mul_assoc]
    exact (reach_scale (by have := pow_pos' hb (N + e).toNat; omega) (by omega)).symm
/-- a great step fits -/
theorem fit_big {k : Kd} {most l h s : Int} (h1 : 1 ≤ most) (h2 : k = .cov → 2 ≤ most) (hs : h - l < s) (hp : 0 < s) : h ≤ reachZ k most l s := by
  have e1 := Int.emod_add_mul_ediv l s
  have e2 := Int.emod_nonneg l (show s ≠ 0 by omega)
  have e3 := Int.emod_lt_of_pos l hp
  have f1 := Int.emod_add_mul_ediv (-l) s
  have f2 := Int.emod_nonneg (-l) (show s ≠ 0 by omega)
  have f3 := Int.emod_lt_of_pos (-l) hp
  cases k with
  | len =>
    show h ≤ l + most * s
    have := Int.mul_le_mul_of_nonneg_right h1 (show 0 ≤ s by omega)
    omega
  | cov =>
    show h ≤ (l / s + most) * s
    have := Int.mul_le_mul_of_nonneg_right (h2 rfl) (show 0 ≤ s by omega)
    rw [Int.add_mul, Int.mul_comm (l / s)]
    omega
  | ins =>
    show h ≤ (-(-l / s) + most) * s - 1
    have := Int.mul_le_mul_of_nonneg_right h1 (show 0 ≤ s by omega)
    rw [Int.add_mul, Int.neg_mul, Int.mul_comm (-l / s)]
    omega
/-- a small one does not -/
theorem fit_small {k : Kd} {most l h s : Int} (hs : (most + 1) * s ≤ h - l) (hp : 0 < s) : ¬ h ≤ reachZ k most l s := by
  have e1 := Int.emod_add_mul_ediv l s
  have e2 := Int.emod_nonneg l (show s ≠ 0 by omega)
  have f1 := Int.emod_add_mul_ediv (-l) s
  have f3 := Int.emod_lt_of_pos (-l) hp
  rw [Int.add_mul] at hs
  cases k with
  | len =>
    show ¬ h ≤ l + most * s
    omega
  | cov =>
    show ¬ h ≤ (l / s + most) * s
    rw [Int.add_mul, Int.mul_comm (l / s)]
    omega
  | ins =>
    show ¬ h ≤ (-(-l / s) + most) * s - 1
    rw [Int.add_mul, Int.neg_mul, Int.mul_comm (-l / s)]
    omega
/-- a step is less than another one -/
def SLt (b : Int) (x y : Int × Int) : Prop := ∃ N : Int, 0 ≤ N + x.2 ∧ 0 ≤ N + y.2 ∧ szN b N x.1 x.2 < szN b N y.1 y.2
theorem SLt.at {b : Int} (hb : 1 ≤ b) {x y : Int × Int} (h : SLt b x y) {M : Int} (h1 : 0 ≤ M + x.2) (h2 : 0 ≤ M + y.2) : szN b M x.1 x.2 < szN b M y.1 y.2 := by
  obtain ⟨N, a1, a2, a3⟩ := h
  rcases Int.le_total N M with c | c
  · have e : M = N + (M - N) := by omega
    rw [e, szN_shift a1 (by omega), szN_shift a2 (by omega)]
    exact (mul_lt_iff (by have := pow_pos' hb (M - N).toNat; omega)).mpr a3
  · have e : N = M + (N - M) := by omega
    rw [e, szN_shift h1 (by omega), szN_shift h2 (by omega)] at a3
    exact (mul_lt_iff (by have := pow_pos' hb (N - M).toNat; omega)).mp a3
/-! ### the steps in order -/
noncomputable def sAt (b : Int) (rs : List Int) (i : Int) : Int × Int := (rs.getD (i % rs.length).toNat 1, i / rs.length - lg b (rs.getD (i % rs.length).toNat 1))
/-- what is known of the mantissas in the order of their least steps -/
structure Rungs (b : Int) (rs : List Int) (top : Nat) : Prop where
  b2 : 2 ≤ b
  ne : 0 < rs.length
  pos : ∀ m ∈ rs, 1 ≤ m
  top_ : ∀ m ∈ rs, lg b m ≤ top
  st : rs.Pairwise (fun m n => keyOf b top m < keyOf b top n)
section
variable {b : Int} {rs : List Int} {top : Nat}
theorem Rungs.mem (R : Rungs b rs top) (i : Int) : (sAt b rs i).1 ∈ rs := by
  have h1 := Int.emod_nonneg i (show (rs.length : Int) ≠ 0 by have := R.ne; omega)
  have h2 := Int.emod_lt_of_pos i (show 0 < (rs.length : Int) by have := R.ne; omega)
  show rs.getD (i % rs.length).toNat 1 ∈ rs
  rw [List.getD_eq_getElem?_getD, List.getElem?_eq_getElem (show (i % rs.length).toNat < rs.length by omega)]
  exact List.getElem_mem _
/-- between which powers of the base a step's size lies -/
theorem Rungs.size (R : Rungs b rs top) {i N : Int} (hN : (lg b (sAt b rs i).1 : Int) ≤ N + i / rs.length) : szN b N (sAt b rs i).1 (sAt b rs i).2 = (sAt b rs i).1 * b ^ ((N + i / rs.length).toNat - lg b (sAt b rs i).1) := by
  unfold szN
  congr 2
  show (N + (i / rs.length - lg b (sAt b rs i).1)).toNat = _
  omega
theorem Rungs.bounds (R : Rungs b rs top) {i N : Int} (hN : (lg b (sAt b rs i).1 : Int) ≤ N + i / rs.length) : b ^ (N + i / rs.length).toNat ≤ szN b N (sAt b rs i).1 (sAt b rs i).2 ∧ szN b N (sAt b rs i).1 (sAt b rs i).2 < b ^ ((N + i / rs.length).toNat + 1) := by
  rw [R.size hN]
  exact key_lt (top := (N + i / rs.length).toNat) R.b2 (R.pos _ (R.mem i)) (by omega)
theorem keyOf_shift {top top' : Nat} {m : Int} (h : lg b m ≤ top) (h2 : top ≤ top') : keyOf b top' m = keyOf b top m * b ^ (top' - top) := by
  unfold keyOf
  rw [Int.mul_assoc, ← pow_add']
  congr 2
  omega
theorem Rungs.mono (R : Rungs b rs top) {i j N : Int} (hij : i < j) (hi : (top : Int) ≤ N + i / rs.length) : szN b N (sAt b rs i).1 (sAt b rs i).2 < szN b N (sAt b rs j).1 (sAt b rs j).2 := by
  have hn : 0 < (rs.length : Int) := by have := R.ne; omega
  have ti := R.top_ _ (R.mem i)
  have tj := R.top_ _ (R.mem j)
  have dij : i / rs.length ≤ j / rs.length := Int.ediv_le_ediv hn (by omega)
  obtain ⟨a1, a2⟩ := R.bounds (i := i) (N := N) (by omega)
  obtain ⟨c1, c2⟩ := R.bounds (i := j) (N := N) (by omega)
  by_cases q : i / rs.length = j / rs.length
  · have e1 := Int.emod_add_mul_ediv i rs.length
    have e2 := Int.emod_add_mul_ediv j rs.length
    have f1 := Int.emod_nonneg i (show (rs.length : Int) ≠ 0 by omega)
    have f2 := Int.emod_lt_of_pos i hn
    have g1 := Int.emod_nonneg j (show (rs.length : Int) ≠ 0 by omega)
    have g2 := Int.emod_lt_of_pos j hn
    rw [q] at e1
    have lt : (i % rs.length).toNat < (j % rs.length).toNat := by omega
    rw [R.size (by omega), R.size (by omega), q]
    have hp := (List.pairwise_iff_getElem.mp R.st) (i % rs.length).toNat (j % rs.length).toNat (by omega) (by omega) lt
    have ei : (sAt b rs i).1 = rs[(i % rs.length).toNat]'(by omega) := by
      show rs.getD (i % rs.length).toNat 1 = _
      rw [List.getD_eq_getElem?_getD, List.getElem?_eq_getElem (show (i % rs.length).toNat < rs.length by omega)]
      rfl
    have ej : (sAt b rs j).1 = rs[(j % rs.length).toNat]'(by omega) := by
      show rs.getD (j % rs.length).toNat 1 = _
      rw [List.getD_eq_getElem?_getD, List.getElem?_eq_getElem (show (j % rs.length).toNat < rs.length by omega)]
      rfl
    rw [← ei, ← ej] at hp
    have k1 := keyOf_shift (b := b) ti (show top ≤ (N + j / rs.length).toNat by omega)
    have k2 := keyOf_shift (b := b) tj (show top ≤ (N + j / rs.length).toNat by omega)
    show keyOf b (N + j / rs.length).toNat _ < keyOf b (N + j / rs.length).toNat _
    rw [k1, k2]
    exact (mul_lt_iff (by have := pow_pos' (b := b) (by have := R.b2; omega) ((N + j / rs.length).toNat - top); omega)).mpr hp
  · have := pow_le' (b := b) (by have := R.b2; omega) (show (N + i / rs.length).toNat + 1 ≤ (N + j / rs.length).toNat by omega)
    omega
/-- every step has its place -/
theorem Rungs.place (R : Rungs b rs top) {m p : Int} (hm : m ∈ rs) : ∃ i : Int, sAt b rs i = (m, p) := by
  obtain ⟨j, hj, e⟩ := List.getElem_of_mem hm
  refine ⟨(p + lg b m) * rs.length + j, ?_⟩
  have hn : 0 < (rs.length : Int) := by omega
  have e1 : ((p + lg b m) * rs.length + j) % rs.length = j := by
    rw [Int.add_comm, Int.add_mul_emod_self_right]
    exact Int.emod_eq_of_lt (by omega) (by omega)
  have e2 : ((p + lg b m) * rs.length + j) / rs.length = p + lg b m := by
    rw [Int.add_comm, Int.add_mul_ediv_right _ _ (by omega), Int.ediv_eq_zero_of_lt (by omega) (by omega)]
    omega
  unfold sAt
  rw [e1, e2]
  have e3 : rs.getD (j : Int).toNat 1 = m := by
    rw [Int.toNat_natCast, List.getD_eq_getElem?_getD, List.getElem?_eq_getElem hj, e]
    rfl
  rw [e3]
  exact Prod.ext rfl (by show p + (lg b m : Int) - (lg b m : Int) = p; omega)
end
end Ax

namespace Ax
/-- the i-th step fits -/
def FitI (b : Int) (rs : List Int) (k : Kd) (most l h d i : Int) : Prop := FitE b k most l h (sAt b rs i).1 ((sAt b rs i).2 + d)
noncomputable def lowQ (b most l h d : Int) : Int := lg b (h - l) - d - (lg b (most + 1) + 1)
theorem szN_digits {b N m p d : Int} : szN b N m (p + d) = szN b (N + d) m p := by
  unfold szN
  congr 2
  omega
section
variable {b : Int} {rs : List Int} {top : Nat} {k : Kd} {most l h d : Int}
theorem fit_low (R : Rungs b rs top) (hlt : l < h) (hm : 1 ≤ most) {i : Int} (hi : i < lowQ b most l h d * rs.length) : ¬ FitI b rs k most l h d i := by
  have hb := R.b2
  have hn : 0 < (rs.length : Int) := by have := R.ne; omega
  have q1 : i / rs.length < lowQ b most l h d := Int.ediv_lt_of_lt_mul hn hi
  have tm := R.top_ _ (R.mem i)
  have mp := R.pos _ (R.mem i)
  obtain ⟨g1, g2⟩ := lg_spec (b := b) (m := h - l) hb (by omega)
  obtain ⟨g3, g4⟩ := lg_spec (b := b) (m := most + 1) hb (by omega)
  -- units that are small enough
  obtain ⟨N, hN⟩ : ∃ N : Int, N = top + (i / rs.length).natAbs + d.natAbs := ⟨_, rfl⟩
  have b1 := R.bounds (i := i) (N := N + d) (by omega)
  unfold FitI
  rw [fitE_N (N := N) (by omega) mp (by omega) (by show 0 ≤ N + (i / rs.length - lg b (sAt b rs i).1 + d); omega), szN_digits]
  refine fit_small ?_ (by have := szN_pos (b := b) (N := N + d) (p := (sAt b rs i).2) (by omega) mp; omega)
  rw [← Int.sub_mul]
  unfold lowQ at q1
  have p1 := pow_pos' (b := b) (by omega) N.toNat
  have h1 : (most + 1) * szN b (N + d) (sAt b rs i).1 (sAt b rs i).2 ≤ b ^ (lg b (most + 1) + 1) * b ^ ((N + d + i / rs.length).toNat + 1) := by
    have s0 := szN_pos (b := b) (N := N + d) (p := (sAt b rs i).2) (by omega) mp
    exact Int.mul_le_mul (by omega) (by omega) (by omega) (by omega)
  have h2 : b ^ (lg b (most + 1) + 1) * b ^ ((N + d + i / rs.length).toNat + 1) ≤ b ^ lg b (h - l) * b ^ N.toNat := by
    rw [← pow_add', ← pow_add']
    exact pow_le' (by omega) (by omega)
  have h3 := Int.mul_le_mul_of_nonneg_right g1 (show 0 ≤ b ^ N.toNat by omega)
  omega
theorem fit_high (R : Rungs b rs top) (hlt : l < h) (hm : 1 ≤ most) (hc : k = .cov → 2 ≤ most) {i : Int} (hi : (lg b (h - l) - d + 1) * rs.length ≤ i) : FitI b rs k most l h d i := by
  have hb := R.b2
  have hn : 0 < (rs.length : Int) := by have := R.ne; omega
  have q1 : (lg b (h - l) - d + 1 : Int) ≤ i / rs.length := (Int.le_ediv_iff_mul_le hn).mpr hi
  have tm := R.top_ _ (R.mem i)
  have mp := R.pos _ (R.mem i)
  obtain ⟨g1, g2⟩ := lg_spec (b := b) (m := h - l) hb (by omega)
  obtain ⟨N, hN⟩ : ∃ N : Int, N = top + (i / rs.length).natAbs + d.natAbs := ⟨_, rfl⟩
  have b1 := R.bounds (i := i) (N := N + d) (by omega)
  unfold FitI
  rw [fitE_N (N := N) (by omega) mp (by omega) (by show 0 ≤ N + (i / rs.length - lg b (sAt b rs i).1 + d); omega), szN_digits]
  refine fit_big hm hc ?_ (by have := szN_pos (b := b) (N := N + d) (p := (sAt b rs i).2) (by omega) mp; omega)
  rw [← Int.sub_mul]
  have p1 := pow_pos' (b := b) (by omega) N.toNat
  have h2 : b ^ (lg b (h - l) + 1) * b ^ N.toNat ≤ b ^ (N + d + i / rs.length).toNat := by
    rw [← pow_add']
    exact pow_le' (by omega) (by omega)
  have h3 := (mul_lt_iff (c := b ^ N.toNat) (by omega)).mpr g2
  omega
/-- how far the power of a step that comes into question lies from the ends' digits -/
theorem exp_bound (R : Rungs b rs top) (hb : b < 2 ^ 64) (hlt : l < h) (hlen : h - l < 2 ^ 1000) (hm : 1 ≤ most) (hmB : most < 2 ^ 60) (hrB : ∀ m ∈ rs, m < 2 ^ 64) {i : Int} (h1 : lowQ b most l h d * rs.length ≤ i) (h2 : i ≤ (lg b (h - l) - d + 1) * rs.length) :
    b ^ ((sAt b rs i).2 + d).natAbs < 2 ^ 2000 := by
  have hn : 0 < (rs.length : Int) := by have := R.ne; omega
  have q1 : lowQ b most l h d ≤ i / rs.length := (Int.le_ediv_iff_mul_le hn).mpr h1
  have q2 : i / rs.length ≤ (lg b (h - l) - d + 1 : Int) := Int.ediv_le_of_le_mul hn h2
  unfold lowQ at q1
  have hb2 := R.b2
  have mp := R.pos _ (R.mem i)
  have mB := hrB _ (R.mem i)
  have g1 := (lg_spec (b := b) (m := h - l) hb2 (by omega)).1
  have g2 := (lg_spec (b := b) (m := most + 1) hb2 (by omega)).1
  have g3 := (lg_spec (b := b) (m := (sAt b rs i).1) hb2 mp).1
  have e1 : ((sAt b rs i).2 + d).natAbs ≤ lg b (h - l) + (lg b (most + 1) + (lg b (sAt b rs i).1 + (1 + 1))) := by
    show (i / rs.length - lg b (sAt b rs i).1 + d).natAbs ≤ _
    omega
  refine Int.lt_of_le_of_lt (pow_le' (by omega) e1) ?_
  rw [pow_add', pow_add', pow_add', pow_add', Int.pow_succ, Int.pow_zero, Int.one_mul]
  have p1 := pow_pos' (b := b) (by omega) (lg b (h - l))
  have p2 := pow_pos' (b := b) (by omega) (lg b (most + 1))
  have p3 := pow_pos' (b := b) (by omega) (lg b (sAt b rs i).1)
  have c0 : b * b ≤ 2 ^ 64 * 2 ^ 64 := Int.mul_le_mul (by omega) (by omega) (by omega) (by decide)
  have z0 : 0 ≤ b * b := Int.mul_nonneg (by omega) (by omega)
  have c1 : b ^ lg b (sAt b rs i).1 * (b * b) ≤ 2 ^ 64 * (2 ^ 64 * 2 ^ 64) := Int.mul_le_mul (by omega) c0 z0 (by decide)
  have z1 : 0 ≤ b ^ lg b (sAt b rs i).1 * (b * b) := Int.mul_nonneg (by omega) z0
  have c2 : b ^ lg b (most + 1) * (b ^ lg b (sAt b rs i).1 * (b * b)) ≤ 2 ^ 61 * (2 ^ 64 * (2 ^ 64 * 2 ^ 64)) := Int.mul_le_mul (by
    have : (2 : Int) ^ 60 + 1 ≤ 2 ^ 61 := by decide
    omega) c1 z1 (by decide)
  have z2 : 0 ≤ b ^ lg b (most + 1) * (b ^ lg b (sAt b rs i).1 * (b * b)) := Int.mul_nonneg (by omega) z1
  have c3 : b ^ lg b (h - l) * (b ^ lg b (most + 1) * (b ^ lg b (sAt b rs i).1 * (b * b))) ≤ 2 ^ 1000 * (2 ^ 61 * (2 ^ 64 * (2 ^ 64 * 2 ^ 64))) := Int.mul_le_mul (by omega) c2 z2 (by have := pow_pos' (b := 2) (by decide) 1000; omega)
  refine Int.lt_of_le_of_lt c3 ?_
  rw [← pow_add', ← pow_add', ← pow_add', ← pow_add']
  exact pow_lt' (b := 2) (by decide) (by decide)
/-- THE STEP: the least of a rule that fits -/
structure LeastFit (b : Int) (ms : List Int) (k : Kd) (most l h d m p : Int) : Prop where
  mem : m ∈ ms
  fit : FitE b k most l h m (p + d)
  least : ∀ m' ∈ ms, ∀ p' : Int, SLt b (m', p') (m, p) → ¬ FitE b k most l h m' (p' + d)
theorem least_of (R : Rungs b rs top) (hlt : l < h) (hm : 1 ≤ most) {ms : List Int} (pm : rs.Perm ms) {i : Int} (h1 : FitI b rs k most l h d i) (h2 : ∀ j, lowQ b most l h d * rs.length ≤ j → j < i → ¬ FitI b rs k most l h d j) : LeastFit b ms k most l h d (sAt b rs i).1 (sAt b rs i).2 := by
  refine ⟨pm.mem_iff.mp (R.mem i), h1, fun m' hm' p' hs => ?_⟩
  obtain ⟨j, hj⟩ := R.place (p := p') (pm.mem_iff.mpr hm')
  have hji : j < i := by
    apply Int.lt_of_not_ge
    intro c
    rcases Int.lt_or_eq_of_le c with c | c
    · have tm := R.top_ _ (R.mem i)
      have tj := R.top_ _ (R.mem j)
      obtain ⟨N, hN⟩ : ∃ N : Int, N = top + (i / rs.length).natAbs + (j / rs.length).natAbs := ⟨_, rfl⟩
      have a := R.mono (i := i) (j := j) (N := N) c (by omega)
      have a2 : szN b N (sAt b rs j).1 (sAt b rs j).2 < szN b N (sAt b rs i).1 (sAt b rs i).2 := by
        rw [hj]
        refine hs.at (by have := R.b2; omega) ?_ ?_
        · have e : (sAt b rs j).2 = p' := by rw [hj]
          show 0 ≤ N + p'
          rw [← e]
          show 0 ≤ N + (j / rs.length - lg b (sAt b rs j).1)
          omega
        · show 0 ≤ N + (i / rs.length - lg b (sAt b rs i).1)
          omega
      omega
    · subst c
      rw [hj] at hs
      obtain ⟨N, _, _, q⟩ := hs
      exact absurd q (Int.lt_irrefl _)
  have nf : ¬ FitI b rs k most l h d j := by
    by_cases q : lowQ b most l h d * rs.length ≤ j
    · exact h2 j q hji
    · exact fit_low R hlt hm (by omega)
  unfold FitI at nf
  rw [hj] at nf
  exact nf
end
end Ax
namespace Ax
instance {b : Int} {k : Kd} {most l h m e : Int} : Decidable (FitE b k most l h m e) := inferInstanceAs (Decidable (_ ≤ _))
theorem fac_bound {b e : Int} {n : Nat} (hb : 1 ≤ b) (h : b ^ e.natAbs < 2 ^ n) : 1 ≤ facZ b e ∧ facZ b e < 2 ^ n := by
  have h1 := pow_pos' hb e.natAbs
  unfold facZ
  by_cases c : 0 ≤ e
  · rw [if_pos c]
    omega
  · rw [if_neg c, show (-e).toNat = e.natAbs by omega]
    exact ⟨h1, h⟩
theorem siz_bound {b m e : Int} {n : Nat} (hb : 1 ≤ b) (hm : 1 ≤ m) (hmB : m < 2 ^ 64) (h : b ^ e.natAbs < 2 ^ n) : 1 ≤ sizZ b m e ∧ sizZ b m e < 2 ^ (64 + n) := by
  have h1 := pow_pos' hb e.natAbs
  unfold sizZ
  by_cases c : 0 ≤ e
  · rw [if_pos c, show e.toNat = e.natAbs by omega]
    have a := Int.mul_le_mul hm h1 (by omega) (by omega)
    have a1 := Int.mul_lt_mul_of_pos_right hmB (show 0 < b ^ e.natAbs by omega)
    have a2 := Int.mul_lt_mul_of_pos_left h (show (0 : Int) < 2 ^ 64 by decide)
    rw [pow_add']
    omega
  · rw [if_neg c]
    have := pow_le' (b := 2) (by decide) (Nat.le_add_right 64 n)
    omega
end Ax

namespace Ax
open PySem L2
/-! ### kinds, sizes, reaches: the mathematics' own words -/
def Kd.s : Kd → Str
  | .ins => "inside" | .cov => "cover" | .len => "length"
section
variable {P : Program} {w : World} {K : PySem.W.Frag} {mg : Str → Option Value} {base : Heap} {A : Adr}
/-! ### measure -/
def spMeasure (K : PySem.W.Frag) : Sp := fun vs H Q _ => ∃ (b m p d : Int) (t : Addr), vs = [.int b, .ref t, .int d] ∧ SqT K H t [.int m, .int p] ∧ 1 ≤ b ∧ b < BIG ∧ b ^ (p + d).natAbs < BIG ∧ 0 ≤ m ∧ m < BIG ∧
  ∀ (H' : Hp) (q : Addr), Same H H' → H q = none → H' = upd H q (.tup [.int (facZ b (p + d)), .int (sizZ b m (p + d))]) → Q (.ref q) H'
abbrev nm_measure : List Str := ["base", "step", "digits", "mantissa", "power", "exponent"]
theorem sc_measure : FnScope ["base", "step", "digits", "mantissa", "power", "exponent"] ["base", "step", "digits"] (defScope s_measure) := ⟨rfl, rfl, rfl, by decide +kernel, rfl, by decide +kernel, by decide +kernel⟩
theorem ok_measure (T : Txt K mg A w) : FnOk P w K mg base CX0 2 A.a_measure A.d_measure ["base", "step", "digits"] (spMeasure K) := by
  have G_power_of : FnOk P w K mg base CX0 1 A.a_power_of A.d_power_of ["base", "exponent"] spPow := ok_power_of T
  refine T.F_measure.ok sc_measure (fun vs H Q E h => ?_) (fun cdv A0 outer s H vs Q E hr h => ?_)
  · obtain ⟨b, m, p, d, t, rfl, _⟩ := h
    rfl
  · obtain ⟨b, m, p, d, t, rfl, hT, hb, hbB, hpB, hm, hmB, q⟩ := h
    refine ⟨_, (pss_cons (ps_asg (pv 1) (pg_tup (by rfl) (pgs_cons (pg_name (i := 3) sc_measure.nd rfl (Or.inl rfl)) (pgs_cons (pg_name (i := 4) sc_measure.nd rfl (Or.inl rfl)) pgs_nil))))
  (pss_cons (ps_set (i := 5) sc_measure.nd rfl (Or.inl rfl) (pe_op op_add (pv 4) (pv 2)))
  (pss_cons (ps_if (pt_cmpR op_ge (pv 5) pe_int (nomark _)) (pss_one (ps_ret (pe_tup (pa_cons pe_int (pa_cons (pe_op op_mulW (pv 3) (pe_call G_power_of (hr.mono (by decide)) (by rfl) T.m_power_of T.F_power_of.kp T.B_power_of .nil pass0 (pa_cons (pv 0) (pa_cons (pv 5) pa_nil)))) pa_nil))))) pss_nil)
  (pss_one (ps_ret (pe_tup (pa_cons (pe_call G_power_of (hr.mono (by decide)) (by rfl) T.m_power_of T.F_power_of.kp T.B_power_of .nil pass0 (pa_cons (pv 0) (pa_cons (pe_un un_neg (pv 5)) pa_nil))) (pa_cons (pv 3) pa_nil)))))))), ?_⟩
    refine ⟨_, rfl, t, _, rfl, hT, rfl, _, _, rfl, _, _, rfl, rfl, ?_⟩
    refine ⟨_, rfl, _, rfl, _, _, rfl, rfl, ?_⟩
    refine ⟨_, rfl, _, _, rfl, rfl, _, rfl, ?_⟩
    refine ite2 (fun hc => ?_) (fun hc => ?_)
    · have hc : 0 ≤ p + d := of_decide_eq_true hc
      have e1 : facZ b (p + d) = 1 := if_pos hc
      have e2 : sizZ b m (p + d) = m * b ^ (p + d).toNat := if_pos hc
      have hpB' : b ^ (p + d).toNat < BIG := by rw [show (p + d).toNat = (p + d).natAbs by omega]; exact hpB
      refine ⟨_, rfl, _, rfl, _, rfl, b, p + d, rfl, hb, hc, hpB', hbB, ?_⟩
      have hp1 := pow_pos' hb (p + d).toNat
      refine ⟨_, _, rfl, rfl, mulBig hm (big_le hmB) (by omega) (big_le hpB'), (by show 2 ≤ sizeLine; decide), fun r hr0 => ?_⟩
      refine q _ r (fun c o e => ?_) hr0 ?_
      · rw [upd_ne (ne_of_none e hr0)]
        exact e
      · rw [e1, e2]
    · have hc : ¬ 0 ≤ p + d := fun z => hc (decide_eq_true z)
      have e1 : facZ b (p + d) = b ^ (-(p + d)).toNat := if_neg hc
      have e2 : sizZ b m (p + d) = m := if_neg hc
      have hpB' : b ^ (-(p + d)).toNat < BIG := by rw [show (-(p + d)).toNat = (p + d).natAbs by omega]; exact hpB
      refine ⟨_, rfl, _, rfl, _, rfl, b, -(p + d), rfl, hb, by omega, hpB', hbB, ?_⟩
      refine ⟨_, rfl, (by show 2 ≤ sizeLine; decide), fun r hr0 => ?_⟩
      refine q _ r (fun c o e => ?_) hr0 ?_
      · rw [upd_ne (ne_of_none e hr0)]
        exact e
      · rw [e1, e2]
/-! ### reach -/
def spReach : Sp := fun vs H Q _ => ∃ (k : Kd) (most low size : Int), vs = [.str k.s, .int most, .int low, .int size] ∧ 1 ≤ size ∧ size < BIG ∧ -BIG < low ∧ low < BIG ∧ 0 ≤ most ∧ most < BIG ∧ Q (.int (reachZ k most low size)) H
abbrev nm_reach : List Str := ["kind", "most", "low", "size"]
theorem sc_reach : FnScope ["kind", "most", "low", "size"] ["kind", "most", "low", "size"] (defScope s_reach) := ⟨rfl, rfl, rfl, by decide +kernel, rfl, by decide +kernel, by decide +kernel⟩
theorem div_big {i j : Int} (h1 : 1 ≤ j) (h2 : -BIG < i) (h3 : i < BIG) : -BIG ≤ i / j ∧ i / j < BIG := by
  have hB : (0 : Int) < BIG := by show (0 : Int) < 2 ^ 8000; exact Int.lt_of_lt_of_le (by decide) (pow_pos' (b := 2) (by decide) 8000)
  constructor
  · refine (Int.le_ediv_iff_mul_le (by omega)).mpr ?_
    have := Int.mul_le_mul_of_nonneg_left h1 (show (0 : Int) ≤ BIG by omega)
    rw [Int.neg_mul]
    omega
  · refine (Int.ediv_lt_iff_lt_mul (by omega)).mpr ?_
    have := Int.mul_le_mul_of_nonneg_left h1 (show (0 : Int) ≤ BIG by omega)
    omega
theorem size_div {j : Int} (h1 : 1 ≤ j) (h2 : j < BIG) (i : Int) : CDivW i j := wide_div (b := 8000) (by omega) (abs_lt_pow (by omega) h2) (by decide) (by decide)
theorem mulBig' {i j : Int} (h0 : -(BIG + BIG) ≤ i) (h1 : i ≤ BIG + BIG) (h2 : 0 ≤ j) (h3 : j < BIG) : CMulW i j := by
  refine wide_mul (a := 8002) (b := 8000) ?_ (abs_lt_pow h2 h3) (by decide) (by decide) (by decide)
  have e : (2 : Int) ^ 8002 = 2 ^ 8000 * 4 := by
    rw [show 8002 = 8000 + 2 from rfl, pow_add']
    rfl
  have hB : (0 : Int) < BIG := by show (0 : Int) < 2 ^ 8000; exact Int.lt_of_lt_of_le (by decide) (pow_pos' (b := 2) (by decide) 8000)
  rcases Int.le_total 0 i with h | h
  · exact abs_lt_pow h (by rw [e]; show i < BIG * 4; omega)
  · rw [← Int.natAbs_neg]
    exact abs_lt_pow (by omega) (by rw [e]; show -i < BIG * 4; omega)
theorem kd_is (k k' : Kd) : decide (V.str k.s = V.str k'.s) = decide (k = k') := by
  cases k <;> cases k' <;> decide +kernel
theorem ok_reach (T : Txt K mg A w) : FnOk P w K mg base CX0 1 A.a_reach A.d_reach ["kind", "most", "low", "size"] spReach := by
  refine T.F_reach.ok sc_reach (fun vs H Q E h => ?_) (fun cdv A0 outer s H vs Q E hr h => ?_)
  · obtain ⟨k, a, b, c, rfl, _⟩ := h
    rfl
  · obtain ⟨k, most, low, size, rfl, hs, hsB, hlo, hhi, hm, hmB, q⟩ := h
    refine ⟨_, (pss_cons (ps_if (pt_cmpR op_eq (pv 0) pe_str (nomark _)) (pss_one (ps_ret (pe_op op_add (pv 2) (pe_op op_mulW (pv 1) (pv 3))))) pss_nil)
  (pss_cons (ps_if (pt_cmpR op_eq (pv 0) pe_str (nomark _)) (pss_one (ps_ret (pe_op op_mulW (pe_op op_add (pe_op op_fdivW (pv 2) (pv 3)) (pv 1)) (pv 3)))) pss_nil)
  (pss_one (ps_ret (pe_op op_sub (pe_op op_mulW (pe_op op_add (pe_un un_neg (pe_op op_fdivW (pe_un un_neg (pv 2)) (pv 3))) (pv 1)) (pv 3)) pe_int))))), ?_⟩
    have d1 := div_big hs hlo hhi
    have d2 := div_big (i := -low) hs (by omega) (by omega)
    refine ⟨_, rfl, rfl, _, rfl, ?_⟩
    show if (decide (V.str k.s = V.str Kd.len.s)) = true then _ else _
    rw [kd_is]
    cases k with
    | len =>
      refine iteT ?_
      exact ⟨_, rfl, _, rfl, _, rfl, _, _, rfl, rfl, mulBig' (by omega) (by omega) (by omega) hsB, _, _, rfl, rfl, q⟩
    | cov =>
      refine iteF ?_
      refine ⟨_, rfl, rfl, _, rfl, ?_⟩
      show if (decide (V.str Kd.cov.s = V.str Kd.cov.s)) = true then _ else _
      rw [kd_is]
      refine iteT ?_
      exact ⟨_, rfl, _, rfl, _, _, rfl, rfl, size_div hs hsB _, _, rfl, _, _, rfl, rfl, _, rfl, _, _, rfl, rfl, mulBig' (by show -(BIG + BIG) ≤ low / size + most; omega) (by show low / size + most ≤ BIG + BIG; omega) (by omega) hsB, q⟩
    | ins =>
      refine iteF ?_
      refine ⟨_, rfl, rfl, _, rfl, ?_⟩
      show if (decide (V.str Kd.ins.s = V.str Kd.cov.s)) = true then _ else _
      rw [kd_is]
      refine iteF ?_
      exact ⟨_, rfl, _, rfl, _, rfl, _, _, rfl, rfl, size_div hs hsB _, _, rfl, _, rfl, _, _, rfl, rfl, _, rfl, _, _, rfl, rfl, mulBig' (by show -(BIG + BIG) ≤ -(-low / size) + most; omega) (by show -(-low / size) + most ≤ BIG + BIG; omega) (by omega) hsB, _, _, rfl, rfl, q⟩
/-! ### is_span -/
theorem yes_of {σ : L2.St} {H : Hp} {A B : Hp → Prop} (h : A H) : tYes σ H (fun b H3 => if b = true then A H3 else B H3) := by
  show if true = true then A H else B H
  rw [if_pos rfl]
  exact h
def spSpan : Sp := fun vs H Q _ => ∃ (t : Addr) (l h d : Int), vs = [.ref t] ∧ H t = some (.tup [.int l, .int h, .int d]) ∧ l < h ∧ 0 ≤ d ∧ ∀ H', Same H H' → Q (.bl true) H'
abbrev nm_is_span : List Str := ["value", "number", "low", "high", "digits"]
theorem sc_is_span : FnScope ["value", "number", "low", "high", "digits"] ["value"] (defScope s_is_span) := ⟨rfl, rfl, rfl, by decide +kernel, rfl, by decide +kernel, by decide +kernel⟩
theorem ok_is_span (T : Txt K mg A w) : FnOk P w K mg base CX0 2 A.a_is_span A.d_is_span ["value"] spSpan := by
  have G_is_whole : FnOk P w K mg base CX0 1 A.a_is_whole A.d_is_whole ["value"] (spWhole K) := ok_is_whole T
  refine T.F_is_span.ok sc_is_span (fun vs H Q E h => ?_) (fun cdv A0 outer s H vs Q E hr h => ?_)
  · obtain ⟨t, l, h, d, rfl, _⟩ := h
    rfl
  · obtain ⟨t, l, h, d, rfl, hT, hlh, hd, q⟩ := h
    refine ⟨_, (pss_cons (ps_if (PW.pt (pw_or (pt_not (pt_val (pe_callB call_isi (by rfl) T.n_isinstance (by decide +kernel) (pa_cons (pv 0) (pa_cons (pe_bltn (v := .ty "tuple") (by rfl) T.n_tuple (by decide +kernel) rfl) pa_nil))))) (pw_or1 (pt_cmpR op_ne (pe_callB call_len_seq (by rfl) T.n_len (by decide +kernel) (pa_cons (pv 0) pa_nil)) pe_int (nomark _))))) (pss_one (ps_ret pe_bl)) pss_nil)
  (pss_cons (ps_if (pt_not (pt_val (pe_callB (cr_all rfl) (by rfl) T.n_all (by decide +kernel) (pa_cons (pe_lc (own := [("number", 1)]) (g := gName 1) (tt := tYes) rfl sc_is_span.nd (pi_tup (pv 0)) (blkOk_by (own := [("number", 1)]) (N := nm_is_span) (sc := defScope s_is_span) (by decide +kernel)) (fun _ _ _ _ _ => (pg_name (i := 1) sc_is_span.nd rfl (Or.inl rfl))) (fun _ _ _ _ _ => pts_nil) (fun _ _ _ _ _ => (pe_call G_is_whole (hr.mono (by decide)) (by rfl) T.m_is_whole T.F_is_whole.kp T.B_is_whole .nil pass0 (pa_cons (pv 1) pa_nil)))) pa_nil)))) (pss_one (ps_ret pe_bl)) pss_nil)
  (pss_cons (ps_asg (pv 0) (pg_tup (by rfl) (pgs_cons (pg_name (i := 2) sc_is_span.nd rfl (Or.inl rfl)) (pgs_cons (pg_name (i := 3) sc_is_span.nd rfl (Or.inl rfl)) (pgs_cons (pg_name (i := 4) sc_is_span.nd rfl (Or.inl rfl)) pgs_nil)))))
  (pss_one (ps_ret (pe_and (pe_cmpR op_lt (pv 2) (pv 3) (nomark _)) (pe_one (pe_cmpR op_ge (pv 4) pe_int (nomark _))))))))), ?_⟩
    refine ⟨_, rfl, _, .ty "tuple", .type "tuple", .type "tuple", true, rfl, .ty _, .base (.tup hT), kit_ty (by decide +kernel), true, rfl, ?_⟩
    refine iteF ?_
    refine ⟨_, rfl, t, _, rfl, .inr (SqT.of hT), rfl, _, rfl, ?_⟩
    refine iteF ?_
    refine ⟨_, rfl, t, rfl, ⟨_, SqT.of hT⟩, fun D hD => lc_tup (K := K) (a := t) (xs := [.int l, .int h, .int d]) (fun i H' => H' = upd H D (.lst (List.replicate i (.bl true)))) rfl ?_ ?_ ?_⟩
    · rintro i H' _ rfl
      exact SqT.of (by rw [upd_ne (ne_of_none hT hD)]; exact hT)
    · rintro i x H' hi rfl
      obtain ⟨n, rfl⟩ : ∃ n, x = V.int n := by
        match i, hi with
        | 0, hi => exact ⟨l, (Option.some.inj hi).symm⟩
        | 1, hi => exact ⟨h, (Option.some.inj hi).symm⟩
        | 2, hi => exact ⟨d, (Option.some.inj hi).symm⟩
      refine ⟨rfl, yes_of ?_⟩
      refine ⟨_, rfl, .int n, .type "int", true, false, rfl, .base (.int n), kit_ty (by decide +kernel), fun _ => kit_ty (by decide +kernel), ?_⟩
      have hi3 : i < 3 := (List.getElem?_eq_some_iff.mp hi).1
      refine ⟨_, upd_same, ?_, ?_⟩
      · rw [List.length_replicate]
        exact small1000 (by omega)
      · rw [upd_upd, List.replicate_succ']
        rfl
    · rintro H' rfl
      have s1 : Same H (upd H D (.lst (List.replicate 3 (.bl true)))) := fun c o e => by
        rw [upd_ne (ne_of_none e hD)]
        exact e
      refine ⟨D, [true, true, true], rfl, SqL.of upd_same, true, rfl, iteF ?_⟩
      refine ⟨_, rfl, t, _, rfl, SqT.of (s1 _ _ hT), rfl, _, _, rfl, _, _, rfl, _, _, rfl, rfl, ?_⟩
      refine ⟨_, rfl, _, rfl, _, _, rfl, rfl, _, rfl, ?_⟩
      rw [decide_eq_true hlh]
      refine iteT ?_
      refine ⟨_, rfl, _, _, rfl, rfl, ?_⟩
      show Q (.bl (decide (0 ≤ d))) _
      rw [decide_eq_true hd]
      exact q _ s1
end
end Ax

namespace Ax
open PySem L2
/-- what a rule may be made of -/
structure RArgs (b : Int) (k : Kd) (ms : List Int) (most : Int) : Prop where
  b2 : 2 ≤ b
  bB : b < 2 ^ 64
  m1 : 1 ≤ most
  mB : most < 2 ^ 60
  mC : k = .cov → 2 ≤ most
  ne : ms ≠ []
  le : ms.length < 60
  nd : ms.Nodup
  all : ∀ m ∈ ms, 1 ≤ m ∧ m < 2 ^ 64 ∧ m % b ≠ 0
section
variable {P : Program} {w : World} {K : PySem.W.Frag} {mg : Str → Option Value} {base : Heap} {A : Adr}
/-! ### _kind_and_most_fit -/
def spKM : Sp := fun vs H Q _ => ∃ (k : Kd) (most : Int), vs = [.str k.s, .int most] ∧ 1 ≤ most ∧ (k = .cov → 2 ≤ most) ∧ Q (.bl true) H
abbrev nm_kind_and_most_fit : List Str := ["kind", "most"]
theorem sc_kind_and_most_fit : FnScope ["kind", "most"] ["kind", "most"] (defScope s_kind_and_most_fit) := ⟨rfl, rfl, rfl, by decide +kernel, rfl, by decide +kernel, by decide +kernel⟩
def Kd.least : Kd → Int
  | .cov => 2 | _ => 1
theorem kd_in (T : Txt K mg A w) (k : Kd) : ∃ t, PySem.W.nsIn K A.a_LEAST k.s = some (some (.int k.least t)) := by
  cases k with
  | ins => exact T.kd_inside
  | cov => exact T.kd_cover
  | len => exact T.kd_length
theorem ok_kind (T : Txt K mg A w) : FnOk P w K mg base CX0 2 A.a_kind_and_most_fit A.d_kind_and_most_fit ["kind", "most"] spKM := by
  have G_is_whole : FnOk P w K mg base CX0 1 A.a_is_whole A.d_is_whole ["value"] (spWhole K) := ok_is_whole T
  refine T.F_kind_and_most_fit.ok sc_kind_and_most_fit (fun vs H Q E h => ?_) (fun cdv A0 outer s H vs Q E hr h => ?_)
  · obtain ⟨k, m, rfl, _⟩ := h
    rfl
  · obtain ⟨k, m, rfl, hm, hc, q⟩ := h
    obtain ⟨es, n, D⟩ := T.kd
    obtain ⟨tk, hk⟩ := kd_in T k
    refine ⟨_, (pss_cons (ps_if (PW.pt (pw_or (pt_not (pt_val (pe_callB call_isi (by rfl) T.n_isinstance (by decide +kernel) (pa_cons (pv 0) (pa_cons (pe_bltn (v := .ty "str") (by rfl) T.n_str (by decide +kernel) rfl) pa_nil))))) (pw_or1 (pt_cmpR (op_notIn_kd D) (pv 0) (pe_glob (v := .ref A.a_LEAST) rfl T.m_LEAST_MOST rfl) (by rfl))))) (pss_one (ps_ret pe_bl)) pss_nil)
  (pss_one (ps_ret (pe_and (pe_call G_is_whole (hr.mono (by decide)) (by rfl) T.m_is_whole T.F_is_whole.kp T.B_is_whole .nil pass0 (pa_cons (pv 1) pa_nil)) (pe_one (pe_cmpR op_ge (pv 1) (pe_ix ix_kdict (pe_glob (v := .ref A.a_LEAST) rfl T.m_LEAST_MOST rfl) (pv 0) (fun _ _ => rfl)) (nomark _))))))), ?_⟩
    refine ⟨_, rfl, _, .ty "str", .type "str", .type "str", true, rfl, .ty _, .base (.str _), kit_ty (by decide +kernel), true, rfl, ?_⟩
    refine iteF ?_
    refine ⟨_, rfl, k.s, _, rfl, rfl, hk, _, rfl, ?_⟩
    refine iteF ?_
    refine ⟨_, rfl, .int m, .type "int", true, false, rfl, .base (.int m), kit_ty (by decide +kernel), fun _ => kit_ty (by decide +kernel), ?_⟩
    refine ⟨_, rfl, ?_⟩
    refine iteT ?_
    refine ⟨_, rfl, _, rfl, _, k.s, .int k.least, rfl, rfl, ⟨es, n, _, D.at_, D.lit, hk, tk, rfl⟩, _, _, rfl, rfl, ?_⟩
    show Q (.bl (decide (k.least ≤ m))) _
    rw [decide_eq_true (show k.least ≤ m by cases k <;> simp [Kd.least] at * <;> omega)]
    exact q
/-! ### _mantissas_fit -/
def spMF (K : PySem.W.Frag) : Sp := fun vs H Q _ => ∃ (k : Kd) (b most : Int) (ms : List Int) (a : Addr), vs = [.int b, .ref a] ∧ H a = some (.lst (ms.map V.int)) ∧ RArgs b k ms most ∧ ∀ H', Same H H' → Q (.bl true) H'
abbrev nm_mantissas_fit : List Str := ["base", "mantissas", "mantissa"]
theorem sc_mantissas_fit : FnScope ["base", "mantissas", "mantissa"] ["base", "mantissas"] (defScope s_mantissas_fit) := ⟨rfl, rfl, rfl, by decide +kernel, rfl, by decide +kernel, by decide +kernel⟩
theorem map_get {ms : List Int} {i : Nat} {x : V} (h : (ms.map V.int)[i]? = some x) : ∃ m, ms[i]? = some m ∧ x = .int m := by
  rw [List.getElem?_map] at h
  cases e : ms[i]? with
  | none =>
    rw [e] at h
    cases h
  | some m =>
    rw [e] at h
    exact ⟨m, rfl, (Option.some.inj h).symm⟩
theorem same_new {H : Hp} {D : Addr} {o : HO} (hD : H D = none) : Same H (upd H D o) := fun c o e => by
  rw [upd_ne (ne_of_none e hD)]
  exact e
theorem all_true (n : Nat) : (List.replicate n true).all id = true := by
  induction n with
  | zero => rfl
  | succ n ih =>
    rw [List.replicate_succ, List.all_cons, ih]
    rfl
theorem map_rep (n : Nat) : (List.replicate n true).map V.bl = List.replicate n (.bl true) := by
  rw [List.map_replicate]
theorem ok_mf (T : Txt K mg A w) : FnOk P w K mg base CX0 2 A.a_mantissas_fit A.d_mantissas_fit ["base", "mantissas"] (spMF K) := by
  have G_is_whole : FnOk P w K mg base CX0 1 A.a_is_whole A.d_is_whole ["value"] (spWhole K) := ok_is_whole T
  refine T.F_mantissas_fit.ok sc_mantissas_fit (fun vs H Q E h => ?_) (fun cdv A0 outer s H vs Q E hr h => ?_)
  · obtain ⟨k, b, most, ms, a, rfl, _⟩ := h
    rfl
  · obtain ⟨k, b, most, ms, a, rfl, hL, R, q⟩ := h
    have hlen : (ms.map V.int).length = ms.length := List.length_map _
    have hpos : 0 < ms.length := List.length_pos_iff.mpr R.ne
    refine ⟨_, (pss_cons (ps_if (PW.pt (pw_or (pt_not (pt_val (pe_callB call_isi (by rfl) T.n_isinstance (by decide +kernel) (pa_cons (pv 1) (pa_cons (pe_bltn (v := .ty "list") (by rfl) T.n_list (by decide +kernel) rfl) pa_nil))))) (pw_or1 (pt_cmpR op_eq (pe_callB call_len_seq (by rfl) T.n_len (by decide +kernel) (pa_cons (pv 1) pa_nil)) pe_int (nomark _))))) (pss_one (ps_ret pe_bl)) pss_nil)
  (pss_cons (ps_if (pt_not (pt_val (pe_callB (cr_all rfl) (by rfl) T.n_all (by decide +kernel) (pa_cons (pe_lc (own := [("mantissa", 2)]) (g := gName 2) (tt := tYes) rfl sc_mantissas_fit.nd (pi_list (pv 1)) (blkOk_by (own := [("mantissa", 2)]) (N := nm_mantissas_fit) (sc := defScope s_mantissas_fit) (by decide +kernel)) (fun _ _ _ _ _ => (pg_name (i := 2) sc_mantissas_fit.nd rfl (Or.inl rfl))) (fun _ _ _ _ _ => pts_nil) (fun _ _ _ _ _ => (pe_call G_is_whole (hr.mono (by decide)) (by rfl) T.m_is_whole T.F_is_whole.kp T.B_is_whole .nil pass0 (pa_cons (pv 2) pa_nil)))) pa_nil)))) (pss_one (ps_ret pe_bl)) pss_nil)
  (pss_cons (ps_if (pt_cmpR op_ne (RZ.pe_lenSetI rfl T.n_len rfl T.n_set (pv 1)) (pe_callB call_len_seq (by rfl) T.n_len (by decide +kernel) (pa_cons (pv 1) pa_nil)) (nomark _)) (pss_one (ps_ret pe_bl)) pss_nil)
  (pss_one (ps_ret (pe_callB (cr_all rfl) (by rfl) T.n_all (by decide +kernel) (pa_cons (pe_lc (own := [("mantissa", 2)]) (g := gName 2) (tt := tYes) rfl sc_mantissas_fit.nd (pi_list (pv 1)) (blkOk_by (own := [("mantissa", 2)]) (N := nm_mantissas_fit) (sc := defScope s_mantissas_fit) (by decide +kernel)) (fun _ _ _ _ _ => (pg_name (i := 2) sc_mantissas_fit.nd rfl (Or.inl rfl))) (fun _ _ _ _ _ => pts_nil) (fun _ _ _ _ _ => (pe_and (pe_cmpR op_ge (pv 2) pe_int (nomark _)) (pe_one (pe_cmpR op_ne (pe_op op_mod (pv 2) (pv 0)) pe_int (nomark _)))))) pa_nil))))))), ?_⟩
    refine ⟨_, rfl, _, .ty "list", .type "list", .type "list", true, rfl, .ty _, .base (.lst hL), kit_ty (by decide +kernel), true, rfl, ?_⟩
    refine iteF ?_
    refine ⟨_, rfl, a, _, rfl, .inl (SqL.of hL), rfl, _, rfl, ?_⟩
    have z0 : decide (V.int ((ms.map V.int).length : Nat) = V.int 0) = false := decide_eq_false (fun z => by have := V.int.inj z; omega)
    show if (decide (V.int ((ms.map V.int).length : Nat) = V.int 0)) = true then _ else _
    rw [z0]
    refine iteF ?_
    -- the first comprehension
    refine ⟨_, rfl, a, rfl, ⟨_, SqL.of hL⟩, fun D hD => lc_list (K := K) (a := a) (xs := ms.map V.int) (fun i H' => H' = upd H D (.lst (List.replicate i (.bl true)))) rfl ?_ ?_ ?_⟩
    · rintro i H' _ rfl
      exact SqL.of (by rw [upd_ne (ne_of_none hL hD)]; exact hL)
    · rintro i x H' hi rfl
      obtain ⟨n, hn, rfl⟩ := map_get hi
      have hi3 : i < ms.length := (List.getElem?_eq_some_iff.mp hn).1
      refine ⟨rfl, yes_of ?_⟩
      refine ⟨_, rfl, .int n, .type "int", true, false, rfl, .base (.int n), kit_ty (by decide +kernel), fun _ => kit_ty (by decide +kernel), ?_⟩
      refine ⟨_, upd_same, ?_, ?_⟩
      · rw [List.length_replicate]
        exact small1000 (by have := R.le; omega)
      · rw [upd_upd, List.replicate_succ']
        rfl
    · rintro H' rfl
      have s1 : Same H (upd H D (.lst (List.replicate (ms.map V.int).length (.bl true)))) := same_new hD
      refine ⟨D, List.replicate (ms.map V.int).length true, rfl, SqL.of (by rw [map_rep]; exact upd_same), _, rfl, ?_⟩
      rw [all_true]
      refine iteF ?_
      refine ⟨_, rfl, a, ms, rfl, SqL.of (s1 _ _ hL), R.nd, by have := R.le; omega, ?_⟩
      refine ⟨_, rfl, a, _, rfl, .inl (SqL.of (s1 _ _ hL)), rfl, _, rfl, ?_⟩
      rw [hlen] at s1
      rw [hlen, decide_eq_true (rfl : V.int (ms.length : Nat) = V.int (ms.length : Nat))]
      refine iteF ?_
      -- the second one
      refine ⟨_, rfl, a, rfl, ⟨_, SqL.of (s1 _ _ hL)⟩, fun D2 hD2 => lc_list (K := K) (a := a) (xs := ms.map V.int) (fun i H' => H' = upd (upd H D (.lst (List.replicate ms.length (.bl true)))) D2 (.lst (List.replicate i (.bl true)))) rfl ?_ ?_ ?_⟩
      · rintro i H' _ rfl
        exact SqL.of (by rw [upd_ne (ne_of_none (s1 _ _ hL) hD2)]; exact s1 _ _ hL)
      · rintro i x H' hi rfl
        obtain ⟨n, hn, rfl⟩ := map_get hi
        have hi3 : i < ms.length := (List.getElem?_eq_some_iff.mp hn).1
        obtain ⟨n1, n2, n3⟩ := R.all n (List.mem_of_getElem? hn)
        refine ⟨rfl, yes_of ?_⟩
        refine ⟨_, rfl, _, _, rfl, rfl, _, rfl, ?_⟩
        rw [decide_eq_true n1]
        refine iteT ?_
        refine ⟨_, rfl, _, rfl, _, _, rfl, rfl, (by have := R.b2; show 0 < b; omega), rfl, ?_⟩
        refine ⟨_, upd_same, ?_, ?_⟩
        · rw [List.length_replicate]
          exact small1000 (by have := R.le; omega)
        · rw [upd_upd, List.replicate_succ']
          have e : decide (V.int (n % b) = V.int 0) = false := decide_eq_false (fun z => n3 (V.int.inj z))
          show upd _ D2 (HO.lst (List.replicate i (V.bl true) ++ [V.bl (!decide (V.int (n % b) = V.int 0))])) = _
          rw [e]
          rfl
      · rintro H' rfl
        rw [hlen]
        refine ⟨D2, List.replicate ms.length true, rfl, SqL.of (by rw [map_rep]; exact upd_same), ?_⟩
        rw [all_true]
        exact q _ (s1.trans (same_new hD2))
/-! ### is_base -/
def spBase : Sp := fun vs H Q _ => ∃ b : Int, vs = [.int b] ∧ 2 ≤ b ∧ Q (.bl true) H
abbrev nm_is_base : List Str := ["value"]
theorem sc_is_base : FnScope ["value"] ["value"] (defScope s_is_base) := ⟨rfl, rfl, rfl, by decide +kernel, rfl, by decide +kernel, by decide +kernel⟩
theorem ok_is_base (T : Txt K mg A w) : FnOk P w K mg base CX0 2 A.a_is_base A.d_is_base ["value"] spBase := by
  have G_is_whole : FnOk P w K mg base CX0 1 A.a_is_whole A.d_is_whole ["value"] (spWhole K) := ok_is_whole T
  refine T.F_is_base.ok sc_is_base (fun vs H Q E h => ?_) (fun cdv A0 outer s H vs Q E hr h => ?_)
  · obtain ⟨b, rfl, _⟩ := h
    rfl
  · obtain ⟨b, rfl, hb, q⟩ := h
    refine ⟨_, (pss_one (ps_ret (pe_and (pe_call G_is_whole (hr.mono (by decide)) (by rfl) T.m_is_whole T.F_is_whole.kp T.B_is_whole .nil pass0 (pa_cons (pv 0) pa_nil)) (pe_one (pe_cmpR op_ge (pv 0) pe_int (nomark _)))))), ?_⟩
    refine ⟨_, rfl, .int b, .type "int", true, false, rfl, .base (.int b), kit_ty (by decide +kernel), fun _ => kit_ty (by decide +kernel), ?_⟩
    refine ⟨_, rfl, ?_⟩
    refine iteT ?_
    refine ⟨_, rfl, _, _, rfl, rfl, ?_⟩
    show Q (.bl (decide (2 ≤ b))) _
    rw [decide_eq_true hb]
    exact q
/-! ### _arguments_fit -/
def spAF (K : PySem.W.Frag) : Sp := fun vs H Q _ => ∃ (b : Int) (k : Kd) (ms : List Int) (a : Addr) (most : Int), vs = [.int b, .str k.s, .ref a, .int most] ∧ H a = some (.lst (ms.map V.int)) ∧ RArgs b k ms most ∧ ∀ H', Same H H' → Q (.bl true) H'
abbrev nm_arguments_fit : List Str := ["base", "kind", "mantissas", "most"]
theorem sc_arguments_fit : FnScope ["base", "kind", "mantissas", "most"] ["base", "kind", "mantissas", "most"] (defScope s_arguments_fit) := ⟨rfl, rfl, rfl, by decide +kernel, rfl, by decide +kernel, by decide +kernel⟩
theorem ok_af (T : Txt K mg A w) : FnOk P w K mg base CX0 3 A.a_arguments_fit A.d_arguments_fit ["base", "kind", "mantissas", "most"] (spAF K) := by
  have G_is_base : FnOk P w K mg base CX0 2 A.a_is_base A.d_is_base ["value"] spBase := ok_is_base T
  have G_kind_and_most_fit : FnOk P w K mg base CX0 2 A.a_kind_and_most_fit A.d_kind_and_most_fit ["kind", "most"] spKM := ok_kind T
  have G_mantissas_fit : FnOk P w K mg base CX0 2 A.a_mantissas_fit A.d_mantissas_fit ["base", "mantissas"] (spMF K) := ok_mf T
  refine T.F_arguments_fit.ok sc_arguments_fit (fun vs H Q E h => ?_) (fun cdv A0 outer s H vs Q E hr h => ?_)
  · obtain ⟨b, k, ms, a, most, rfl, _⟩ := h
    rfl
  · obtain ⟨b, k, ms, a, most, rfl, hL, R, q⟩ := h
    refine ⟨_, (pss_one (ps_ret (pe_and (pe_call G_is_base (hr.mono (by decide)) (by rfl) T.m_is_base T.F_is_base.kp T.B_is_base .nil pass0 (pa_cons (pv 0) pa_nil)) (pe_and (pe_call G_kind_and_most_fit (hr.mono (by decide)) (by rfl) T.m_kind_and_most_fit T.F_kind_and_most_fit.kp T.B_kind_and_most_fit .nil pass0 (pa_cons (pv 1) (pa_cons (pv 3) pa_nil))) (pe_one (pe_call G_mantissas_fit (hr.mono (by decide)) (by rfl) T.m_mantissas_fit T.F_mantissas_fit.kp T.B_mantissas_fit .nil pass0 (pa_cons (pv 0) (pa_cons (pv 2) pa_nil)))))))), ?_⟩
    refine ⟨_, rfl, b, rfl, R.b2, ?_⟩
    refine ⟨_, rfl, ?_⟩
    refine iteT ?_
    refine ⟨_, rfl, _, rfl, k, most, rfl, R.m1, R.mC, ?_⟩
    refine ⟨_, rfl, ?_⟩
    refine iteT ?_
    exact ⟨_, rfl, _, rfl, k, b, most, ms, a, rfl, hL, R, fun H' s1 => q H' s1⟩
end
end Ax

/-! max and sorted of whole numbers with key=int: the key of a whole number is the number itself, nothing else happens. -/
namespace Ax
open PySem PyProof.Rows
def Keep (h h' : Heap) : Prop := ∀ b o, h.get? b = some o → h'.get? b = some o
theorem Keep.refl (h : Heap) : Keep h h := fun _ _ e => e
theorem Keep.lst {h h' : Heap} {l : Addr} {xs : Array Value} (k : Keep h h') (e : h.IsList l xs) : h'.IsList l xs := let ⟨o, q, r⟩ := e; ⟨o, k _ _ q, r⟩
section
variable {prog : Program} {w : World} {A : Around} {E : Value → Shared → Prop} {s : Shared} {G : Heap} {l I S : Addr} {vs : List Value} {ns : List Int} {R : Result → Shared → Prop} {Q : Value → Shared → Prop}
theorem mx_loop (calm : A.handled = none) (isL : G.IsList l vs.toArray) (allI : IntsAre vs ns) (gI : G.get? I = none) (gS : G.get? S = none) (dif : I ≠ S)
    (fin : ∀ (M : Int) (t : Tok) (h : Heap) (tk : Nat), Keep G h → M ∈ ns → (∀ a ∈ ns, a ≤ M) → R (.ok (.ret (.int M t))) { s with heap := h, toks := tk }) :
    ∀ (r j : Nat) (M : Int) (h : Heap) (tk : Nat) (t t' : Tok) (c : Nat), vs.length - j = r → j ≤ vs.length → Keep G h → h.get? S = some (seqObj "list" #[.int M t, .int M t'] c) → h.IsListIter I l j → M ∈ ns → (∀ i a, i < j → ns[i]? = some a → a ≤ M) →
      codeAny (model prog w) A (.builtin "max.loop" ⟨[.ref I, .type "int", .ref S], []⟩) R { s with heap := h, toks := tk } := by
  have nm : (toString "max" ++ toString ".loop" : String) = "max.loop" := by decide
  have lI : l ≠ I := fun z => by
    obtain ⟨o, e, _⟩ := isL
    rw [z, gI] at e
    cases e
  have W := Walks.list (prog := prog) (w := w) (A := A.in1) calm I l lI vs.toArray
  have sz : vs.toArray.size = vs.length := List.size_toArray ..
  have ln := allI.length
  intro r
  induction r with
  | zero =>
    intro j M h tk t t' c hr hj K hS it hM hb
    have ej : j = vs.length := by omega
    refine codeAny_builtin (PySem.F.entry_max_loop) ?_
    rw [Around.under_plainId (PySem.F.plain_max_loop) _]
    show wpAny _ A.in1 (seqItems? (Value.ref S) >>= _) _ _ _
    refine wpAny_bind (wpAny_seqItems hS rfl ?_)
    show wpAny _ A.in1 (tryCatch (pyNext (Value.ref I)) _ >>= _) _ _ _
    refine wpAny_bind (wpAny_tryCatch (W.done _ _ _ ⟨by rw [sz, ← ej]; exact it, K.lst isL⟩ fun h2 tk2 k2 => ?_))
    have hS2 := k2 S _ (fun z => dif (List.mem_singleton.mp z).symm) hS
    have u := Heap.SameBut.update h2 S (Obj.mapSeq fun _ => (#[] : Array Value))
    show wpAny _ A.in1 (updateSeq S (fun _ => #[]) >>= _) _ _ _
    refine wpAny_bind (wpAny_updateSeq hS2 rfl (wpAny_bind (wpAny_letGo (wpAny_pure ?_))))
    refine fin M t _ _ (fun b o e => ?_) hM fun a ha => ?_
    · have b1 : b ≠ S := fun z => by rw [z, gS] at e; cases e
      have b2 : b ≠ I := fun z => by rw [z, gI] at e; cases e
      exact (u.2 b b1).trans (k2 b o (fun z => b2 (List.mem_singleton.mp z)) (K b o e))
    · obtain ⟨i, hi, ei⟩ := List.getElem_of_mem ha
      exact hb i a (by omega) (by rw [List.getElem?_eq_getElem hi, ei])
  | succ r ih =>
    intro j M h tk t t' c hr hj K hS it hM hb
    have lt : j < vs.length := by omega
    refine codeAny_builtin (PySem.F.entry_max_loop) ?_
    rw [Around.under_plainId (PySem.F.plain_max_loop) _]
    show wpAny _ A.in1 (seqItems? (Value.ref S) >>= _) _ _ _
    refine wpAny_bind (wpAny_seqItems hS rfl ?_)
    show wpAny _ A.in1 (tryCatch (pyNext (Value.ref I)) _ >>= _) _ _ _
    refine wpAny_bind (wpAny_tryCatch (W.item j _ _ _ (by rw [sz]; exact lt) ⟨it, K.lst isL⟩ fun v h2 tk2 at2 st2 k2 => ?_))
    have ev : vs[j]? = some v := by simpa using at2
    obtain ⟨n, en⟩ : ∃ n, ns[j]? = some n := ⟨_, List.getElem?_eq_getElem (by omega)⟩
    obtain ⟨tn, etn⟩ := allI.get j n en
    rw [etn] at ev
    obtain rfl := Option.some.inj ev
    obtain ⟨oI, eI, cI, dI⟩ := id st2.1
    have hS2 := k2 S _ (fun z => dif (List.mem_singleton.mp z).symm) hS
    have K2 : Keep G h2 := fun b o e => k2 b o (fun z => by rw [List.mem_singleton.mp z, gI] at e; cases e) (K b o e)
    show wpAny _ A.in1 (tryCatch (holding [Value.int n tn] (call (.type "int") [Value.int n tn])) _ >>= _) _ _ _
    refine wpAny_bind (wpAny_tryCatch (wpAny_holding (call_int_int ?_)))
    show wpAny _ A.in1 (tryCatch (holding [Value.int n tn, Value.int n tn] (richCompare .Gt (Value.int n tn) (Value.int M t') >>= _)) _ >>= _) _ _ _
    refine wpAny_bind (wpAny_tryCatch (wpAny_holding (wpAny_bind (CmpOf.ints_gt (prog := prog) (w := w) (A := A.in1) (P := fun i v => ∃ t, v = .int (if i = 0 then n else M) t) (fun i => if i = 0 then n else M) (fun i v h => h) 0 1 _ _ _ _ _ ⟨tn, rfl⟩ ⟨t', rfl⟩ ?_))))
    refine wpAny_bind (wpAny_holding (wpAny_truthy_bool ?_))
    refine wpAny_bind (wpAny_letGo (wpAny_pure ?_))
    have better : ∀ i a, i < j + 1 → ns[i]? = some a → a ≤ M ∨ i = j ∧ a = n := fun i a hi e => by
      by_cases q : i = j
      · rw [q, en] at e
        exact .inr ⟨q, (Option.some.inj e).symm⟩
      · exact .inl (hb i a (by omega) e)
    by_cases gt : n > M
    · have u := Heap.SameBut.update h2 S (Obj.mapSeq fun _ => #[Value.int n tn, Value.int n tn])
      obtain ⟨c2, ec2⟩ : ∃ c2, (h2.update S (Obj.mapSeq fun _ => #[Value.int n tn, Value.int n tn])).get? S = some (seqObj "list" #[Value.int n tn, Value.int n tn] c2) := ⟨_, get?_update_seq hS2 fun _ => _⟩
      simp only [if_true, Nat.one_ne_zero, if_false, gt, decide_true]
      refine wpAny_bind (wpAny_updateSeq hS2 rfl (wpAny_bind (wpAny_letGo ?_)))
      rw [nm]
      refine wpAny_pure ⟨plainId_quiet PySem.F.plain_max_loop _, ih (j + 1) n _ _ tn tn c2 (by omega) lt (fun b o e => ?_) ec2 ⟨oI, (u.2 I dif).trans eI, cI, dI⟩ (List.mem_of_getElem? en) fun i a hi e => ?_⟩
      · have b1 : b ≠ S := fun z => by rw [z, gS] at e; cases e
        exact (u.2 b b1).trans (K2 b o e)
      · rcases better i a hi e with q | ⟨_, q⟩ <;> omega
    · simp only [if_true, Nat.one_ne_zero, if_false, gt, decide_false, Bool.false_eq_true]
      refine wpAny_bind (wpAny_letGo ?_)
      rw [nm]
      refine wpAny_pure ⟨plainId_quiet PySem.F.plain_max_loop _, ih (j + 1) M _ _ t t' c (by omega) lt K2 hS2 ⟨oI, eI, cI, dI⟩ hM fun i a hi e => ?_⟩
      rcases better i a hi e with q | ⟨_, q⟩ <;> omega
theorem call_max_int (calm : A.handled = none) (isL : s.heap.IsList l vs.toArray) (allI : IntsAre vs ns) (ne : 0 < vs.length)
    (fin : ∀ (M : Int) (t : Tok) (h : Heap) (tk : Nat), Keep s.heap h → M ∈ ns → (∀ a ∈ ns, a ≤ M) → Q (.int M t) { s with heap := h, toks := tk }) :
    wpAny (model prog w) A (call (.builtin "max") [.ref l] [(Str.ofString "key", .type "int")]) Q E s := by
  have nm : (toString "max" ++ toString ".loop" : String) = "max.loop" := by decide
  have sz : vs.toArray.size = vs.length := List.size_toArray ..
  have ln := allI.length
  refine kmb_tree PySem.F.kind_max PySem.F.plain_max (PySem.F.entry_max) (kmb_max_key _ _) ?_
  show wpAny _ A.in1 (Builtin.Builtins.bindParams "max" ["key", "default"] 0 ⟨[], [(Str.ofString "key", .type "int")]⟩ >>= _) _ _ s
  refine wpAny_bind (wpAny_of_eq (show Builtin.Builtins.bindParams "max" ["key", "default"] 0 ⟨[], [(Str.ofString "key", .type "int")]⟩ = pure [some (.type "int"), none] from rfl) ?_)
  refine wpAny_bind (wpAny_pure (wpAny_bind (wpAny_pyIter_list isL ?_)))
  refine wpAny_bind (wpAny_newList ?_ (Nat.zero_le _))
  rw [nm]
  refine wpAny_pure ⟨plainId_quiet PySem.F.plain_max_loop _, ?_⟩
  obtain ⟨I, eqI⟩ : ∃ I, I = s.heap.objs.size := ⟨_, rfl⟩
  obtain ⟨h1, eq1⟩ : ∃ h1, h1 = s.heap.push { cls := .type "list_iterator", data := .fields #[.ref l, .int 0 0] } := ⟨_, rfl⟩
  obtain ⟨S, eqS⟩ : ∃ S, S = h1.objs.size := ⟨_, rfl⟩
  obtain ⟨h2, eq2⟩ : ∃ h2, h2 = h1.push (seqObj "list" #[] 0) := ⟨_, rfl⟩
  have gI : s.heap.get? I = none := Heap.get?_none_of_le (by omega)
  have szS : S = s.heap.objs.size + 1 := by rw [eqS, eq1]; exact size_push' ..
  have gS : s.heap.get? S = none := Heap.get?_none_of_le (by omega)
  have dif : I ≠ S := by omega
  have lI : l ≠ I := fun z => by
    obtain ⟨o, e, _⟩ := isL
    rw [z, gI] at e
    cases e
  have K2 : Keep s.heap h2 := fun b o e => by rw [eq2, eq1]; exact Heap.get?_push_of_some _ (Heap.get?_push_of_some _ e)
  have eI : h2.get? I = some { cls := .type "list_iterator", data := .fields #[.ref l, .int 0 0] } := by rw [eq2, eq1, eqI]; exact Heap.get?_push_of_some _ (Heap.get?_push_size _ rfl)
  have eS : h2.get? S = some (seqObj "list" #[] 0) := by rw [eq2, eqS]; exact Heap.get?_push_size _ rfl
  show codeAny (model prog w) A (.builtin "max.loop" ⟨[.ref s.heap.objs.size, .type "int", .ref (s.heap.push { cls := .type "list_iterator", data := .fields #[.ref l, .int 0 0] }).objs.size], []⟩) _ { s with heap := (s.heap.push { cls := .type "list_iterator", data := .fields #[.ref l, .int 0 0] }).push (seqObj "list" #[] 0) }
  rw [← eq1, ← eq2, ← eqS, ← eqI]
  have W := Walks.list (prog := prog) (w := w) (A := A.in1) calm I l lI vs.toArray
  refine codeAny_builtin (PySem.F.entry_max_loop) ?_
  rw [Around.under_plainId (PySem.F.plain_max_loop) _]
  show wpAny _ A.in1 (seqItems? (Value.ref S) >>= _) _ _ _
  refine wpAny_bind (wpAny_seqItems eS rfl ?_)
  show wpAny _ A.in1 (tryCatch (pyNext (Value.ref I)) _ >>= _) _ _ _
  refine wpAny_bind (wpAny_tryCatch (W.item 0 _ _ _ (by rw [sz]; exact ne) ⟨⟨_, eI, rfl, rfl⟩, K2.lst isL⟩ fun v h3 tk3 at3 st3 k3 => ?_))
  have ev : vs[0]? = some v := by simpa using at3
  obtain ⟨n, en⟩ : ∃ n, ns[0]? = some n := ⟨_, List.getElem?_eq_getElem (by omega)⟩
  obtain ⟨tn, etn⟩ := allI.get 0 n en
  rw [etn] at ev
  obtain rfl := Option.some.inj ev
  obtain ⟨oI, eI3, cI, dI⟩ := id st3.1
  have hS3 := k3 S _ (fun z => dif (List.mem_singleton.mp z).symm) eS
  have K3 : Keep s.heap h3 := fun b o e => k3 b o (fun z => by rw [List.mem_singleton.mp z, gI] at e; cases e) (K2 b o e)
  show wpAny _ A.in1 (tryCatch (holding [Value.int n tn] (call (.type "int") [Value.int n tn])) _ >>= _) _ _ _
  refine wpAny_bind (wpAny_tryCatch (wpAny_holding (call_int_int ?_)))
  have u := Heap.SameBut.update h3 S (Obj.mapSeq fun _ => #[Value.int n tn, Value.int n tn])
  obtain ⟨c4, ec4⟩ : ∃ c4, (h3.update S (Obj.mapSeq fun _ => #[Value.int n tn, Value.int n tn])).get? S = some (seqObj "list" #[Value.int n tn, Value.int n tn] c4) := ⟨_, get?_update_seq hS3 fun _ => _⟩
  show wpAny _ A.in1 (updateSeq S (fun _ => #[Value.int n tn, Value.int n tn]) >>= _) _ _ _
  refine wpAny_bind (wpAny_updateSeq hS3 rfl ?_)
  rw [nm]
  refine wpAny_pure ⟨plainId_quiet PySem.F.plain_max_loop _, mx_loop (s := s) (G := s.heap) calm isL allI gI gS dif (fun M t h tk k hM hb => fin M t h tk k hM hb) _ 1 n _ _ tn tn c4 rfl ne (fun b o e => ?_) ec4 ⟨oI, (u.2 I dif).trans eI3, cI, dI⟩ (List.mem_of_getElem? en) fun i a hi e => ?_⟩
  · have b1 : b ≠ S := fun z => by rw [z, gS] at e; cases e
    exact (u.2 b b1).trans (K3 b o e)
  · have z : i = 0 := by omega
    rw [z, en] at e
    have := Option.some.inj e
    omega
end
end Ax
namespace Ax
open PySem PySem.Spec PyProof.Rows L2
section
variable {X : Cx}
/-- max(xs, key=int), xs a list of whole numbers -/
def rMaxInt (K : PySem.W.Frag) : List V → List V → Hp → VK → Prop := fun vs zs H Q => ∃ (a : Addr) (ns : List Int), vs = [V.ref a] ∧ zs = [.ty "int"] ∧ SqL K H a (ns.map V.int) ∧ 0 < ns.length ∧ ∀ M, M ∈ ns → (∀ y ∈ ns, y ≤ M) → Q (.int M) H
theorem cr_maxInt (hc : X.calm = true) : CallRK X (.builtin "max") [Str.ofString "key"] (rMaxInt X.K) := by
  intro pins s σ H vs zs us ws Q I r rz h
  obtain ⟨a, ns, rfl, rfl, hs, hne, q⟩ := h
  obtain rfl := Vals.ref1 r
  obtain ⟨w1, rfl, e1⟩ := vals1 rz
  obtain rfl : w1 = Value.type "int" := e1
  obtain ⟨its, rv, hl, hz⟩ := I.list hs
  have hi := rv.ints
  have hlen : its.length = ns.length := by rw [← rv.length, List.length_map]
  exact call_max_int (I.ok.hd hc) hl.isList hi (by omega) fun M t h tk k hM hb => ⟨.int M, H, I.kept k, ⟨t, rfl⟩, q M hM hb⟩
end
end Ax

namespace Ax
open PySem PyProof.Rows
/-! ### sorted with key=int -/
theorem ints_of_pairs : ∀ {ps : List (Int × Value)}, (∀ p ∈ ps, ∃ t, p.2 = .int p.1 t) → IntsAre (ps.map Prod.snd) (ps.map Prod.fst)
  | [], _ => .nil
  | (n, v) :: r, h => by
    obtain ⟨t, e⟩ := h (n, v) (List.mem_cons_self ..)
    cases (show v = Value.int n t from e)
    exact .cons n t (ints_of_pairs fun p hp => h p (List.mem_cons_of_mem _ hp))
theorem zip_pairs : ∀ {vs : List Value} {ns : List Int}, IntsAre vs ns → ∀ p ∈ ns.zip vs, ∃ t, p.2 = .int p.1 t
  | _, _, .nil, p, h => by simp at h
  | _, _, .cons n t r, p, h => by
    rw [List.zip_cons_cons] at h
    rcases List.mem_cons.mp h with e | h
    · rw [e]
      exact ⟨t, rfl⟩
    · exact zip_pairs r p h
/-- all that lives, but for two -/
def rest2 (h : Heap) (L D : Addr) : List (Addr × Obj) := (List.range h.objs.size).filterMap fun b => if b = L ∨ b = D then none else (h.get? b).map fun o => (b, o)
theorem mem_rest2 {h : Heap} {L D b : Addr} {o : Obj} : (b, o) ∈ rest2 h L D ↔ b ≠ L ∧ b ≠ D ∧ h.get? b = some o := by
  unfold rest2
  rw [List.mem_filterMap]
  constructor
  · rintro ⟨c, _, e⟩
    by_cases q : c = L ∨ c = D
    · rw [if_pos q] at e
      cases e
    · rw [if_neg q] at e
      cases eo : h.get? c with
      | none =>
        rw [eo] at e
        cases e
      | some u =>
        rw [eo] at e
        cases e
        exact ⟨fun z => q (.inl z), fun z => q (.inr z), eo⟩
  · rintro ⟨h1, h2, h3⟩
    refine ⟨b, List.mem_range.mpr (Heap.lt_size h3), ?_⟩
    rw [if_neg (fun z => z.elim h1 h2), h3]
    rfl
section
variable {prog : Program} {w : World} {A : Around} {E : Value → Shared → Prop} {s : Shared} {l D L : Addr} {m : Str → Option Value} {vs : List Value} {ns : List Int} {P : PySem.Fin → Shared → Prop}
theorem lsort_int (atD : s.heap.get? D = some (seqObj "list" vs.toArray 0)) (allI : IntsAre vs ns) (few : vs.length < 64) (nsL : s.heap.Ns L m) (dif : D ≠ L)
    (fin : ∀ (h : Heap) (tk : Nat) (out : Array Value) (c : Nat) (ms : List Int), (∀ b o, b ≠ L → b ≠ D → s.heap.get? b = some o → h.get? b = some o) → h.Ns L m → h.get? D = some (seqObj "list" out c) → IntsAre out.toList ms → ms.Perm ns → ms.Pairwise (· ≤ ·) →
      P (.done (.ret .none)) { s with heap := h, toks := tk }) :
    wpAny (model prog w) A (Builtin.«list.sort» ⟨[.ref D], [(Str.ofString "key", .type "int")]⟩) P E s := by
  have e0 : Builtin.«list.sort» ⟨[.ref D], [(Str.ofString "key", .type "int")]⟩ = ksk_tree D (.type "int") false := rfl
  rw [e0]
  have none0 : ∀ b, ({ s.heap with objs := #[] } : Heap).get? b = none := fun b => Heap.get?_none_of_le (Nat.zero_le _)
  have ln := allI.length
  refine ksk_sort (h₀ := { s.heap with objs := #[] }) (L := L) (m := m) (news := rest2 s.heap L D) (kz := ns) (b := false) ⟨nsL, fun b o e => (by rw [none0] at e; cases e), Nat.zero_le _⟩ (fun p hp => ?_) atD dif (none0 D) (fun p hp => ?_) ln.symm few (fun i v k hv hk h tk own F N => ?_) fun h tk out c F N ko => ?_
  · obtain ⟨b, o⟩ := p
    obtain ⟨h1, _, h3⟩ := mem_rest2.mp hp
    exact ⟨h3, h1, none0 b⟩
  · obtain ⟨b, o⟩ := p
    exact (mem_rest2.mp hp).2.1
  · obtain ⟨t, ht⟩ := allI.get i k hk
    rw [ht] at hv
    obtain rfl := Option.some.inj hv
    exact call_int_int ⟨h, tk, t, rfl, rfl, F, N⟩
  · obtain ⟨ps, pp, po, pw⟩ := ko
    have all := zip_pairs allI
    refine fin h tk out c (ps.map Prod.fst) (fun b o h1 h2 h3 => ?_) F.ns (N (D, seqObj "list" out c) (List.mem_cons_self ..)).1 ?_ ?_ ?_
    · exact (N (b, o) (List.mem_cons_of_mem _ (mem_rest2.mpr ⟨h1, h2, h3⟩))).1
    · rw [po]
      exact ints_of_pairs fun p hp => all p (pp.mem_iff.mp hp)
    · have := pp.map Prod.fst
      rwa [List.map_fst_zip (by omega)] at this
    · rw [List.pairwise_map]
      exact pw
end
end Ax
namespace L2
open PySem PySem.Spec PyProof.Rows
section
variable {X : Cx} {pins : List (Addr × Obj)} {σ : St} {H : Hp} {s : Shared} {h' : Heap}
/-- a new object tracked; the frame's own dict may be another object with the same names -/
theorem Inv.laidL {t' : Nat} {T : Addr} {ob : HO} (I : Inv X pins σ H s) (k : ∀ b o, b ≠ X.env.locals → s.heap.get? b = some o → h'.get? b = some o) (hns : ∀ m, s.heap.Ns X.env.locals m → h'.Ns X.env.locals m) (hT : s.heap.objs.size ≤ T)
    (new : ObjOk X.prog X.w (upd H T ob) h' T ob) : Inv X pins σ (upd H T ob) { s with heap := h', toks := t' } := by
  have hn : H T = none := I.hok.fresh hT
  obtain ⟨m0, n0, _⟩ := I.loc
  refine I.step (g' := s.gens) (d' := s.drawn) (ch := []) (fun b hb => nomatch hb) (fun b o h1 _ _ e _ => k b o h1 e) (fun b o h1 _ _ e _ => ⟨o.slots, k b o h1 e⟩)
    (fun b o _ e n => ?_) (fun b o _ e => ?_) (fun b xs e => ?_) (fun b o u e => ?_) (fun b ps e => ⟨#[], ?_⟩) (fun m hm => hns m hm) (fun b u e => ?_) I.bare
  · rw [upd_ne (Nat.ne_of_lt (Nat.lt_of_lt_of_le (Heap.lt_size e) hT))]
    exact n
  · by_cases q : b = X.env.locals
    · obtain ⟨o', _, _, e', _⟩ := hns m0 n0
      exact ⟨o', by rw [q]; exact e'⟩
    · exact ⟨o, k b o q e⟩
  · rw [upd_ne (ne_of_none e hn)]
    exact e
  · rw [upd_ne (ne_of_none e hn)]
    exact e
  · rw [upd_ne (ne_of_none e hn), e, Array.append_empty]
  · by_cases hb : b = T
    · subst hb
      rw [upd_same] at e
      cases e
      exact new
    · rw [upd_ne hb] at e
      refine (I.hok b u e).stay (fun c v hc q => k c v ?_ q) (fun c q => by rw [upd_ne (ne_of_none q hn)]; exact q) fun c xs q => by rw [upd_ne (ne_of_none q hn)]; exact q
      intro z
      have f := I.free
      rw [← z] at f
      rcases hc with y | y
      · rw [y, e] at f
        cases f
      · rw [y] at f
        cases f
end
end L2

namespace Ax
open PySem PySem.Spec PyProof.Rows L2
theorem ns_same {h : Heap} {L : Addr} {m m' : Str → Option Value} (a : h.Ns L m) (b : h.Ns L m') : m' = m := by
  obtain ⟨o, es, ep, e1, e2, _, e3⟩ := a
  obtain ⟨o', es', ep', f1, f2, _, f3⟩ := b
  rw [e1] at f1
  obtain rfl := Option.some.inj f1
  rw [e2] at f2
  cases f2
  funext x
  rw [← f3 x, e3 x]
section
variable {X : Cx}
/-- what is left to do behind the items: a new list of them, sorted -/
theorem sorted_tail {pins : List (Addr × Obj)} {σ : L2.St} {H : Hp} {s : Shared} {ns : List Int} {vs : List Value} {Q : VK} {E : Value → Shared → Prop} (I : Inv X pins σ H s) (allI : IntsAre vs ns) (few : vs.length < 64)
    (q : ∀ (ms : List Int) (p : Addr), ms.Perm ns → ms.Pairwise (· ≤ ·) → H p = none → Q (.ref p) (upd H p (.lst (ms.map V.int)))) :
    wpAny (model X.prog X.w) X.A.in1 (do
      let l ← newList vs
      let _ ← holding [l] (call (.builtin "list.sort") [l] [(Str.ofString "key", .type "int")])
      (ret l : Sem PySem.Fin)) (fun f s' => ∃ v, f = .done (.ret v) ∧ EP X pins σ Q v s') E s := by
  obtain ⟨mL, nsL, _⟩ := I.loc
  have ltL : X.env.locals < s.heap.objs.size := nsL.lt
  refine wpAny_bind (wpAny_newList ?_ (Nat.le_trans (Nat.le_of_lt few) (by decide)))
  have at1 : (s.heap.push (seqObj "list" vs.toArray 0)).get? s.heap.objs.size = some (seqObj "list" vs.toArray 0) := Heap.get?_push_size _ rfl
  have k1 : ∀ b o, s.heap.get? b = some o → (s.heap.push (seqObj "list" vs.toArray 0)).get? b = some o := fun b o e => Heap.get?_push_of_some _ e
  have ns1 : (s.heap.push (seqObj "list" vs.toArray 0)).Ns X.env.locals mL := by
    obtain ⟨o, es, ep, e, r⟩ := nsL
    exact ⟨o, es, ep, k1 _ _ e, r⟩
  refine wpAny_bind (wpAny_holding (wpAny_call_entry_kw slot_list_sort ⟨_, at1, rfl⟩ entry_list_sort ?_ (ksk_l1 _ _)))
  refine lsort_int (s := { s with heap := s.heap.push (seqObj "list" vs.toArray 0) }) at1 allI few ns1 (Nat.ne_of_gt ltL) fun h tk out c ms k n atD iO pm pw => ⟨_, rfl, ?_⟩
  have zl : (ms.map V.int).length ≤ sizeLine := by
    rw [List.length_map, pm.length_eq, ← allI.length, sizeLine_eq]
    omega
  have J : Inv X pins σ (upd H s.heap.objs.size (.lst (ms.map V.int))) { s with heap := h, toks := tk } :=
    Inv.laidL I (fun b o h1 e => k b o h1 (Nat.ne_of_lt (Heap.lt_size e)) (k1 b o e)) (fun m hm => by rw [ns_same nsL hm]; exact n) (Nat.le_refl _)
      (show ObjOk X.prog X.w _ _ _ (.lst (ms.map V.int)) from ⟨zl, out.toList, c, vals_of_ints iO, by rw [Array.toArray_toList]; exact atD⟩)
  exact wpAny_pure ⟨_, rfl, .ref s.heap.objs.size, _, J, rfl, q ms _ pm pw (I.hok.fresh (Nat.le_refl _))⟩
/-- sorted(xs, key=int), xs a list of whole numbers -/
def rSortInt (K : PySem.W.Frag) : List V → List V → Hp → VK → Prop := fun vs zs H Q => ∃ (a : Addr) (ns : List Int), vs = [V.ref a] ∧ zs = [.ty "int"] ∧ SqL K H a (ns.map V.int) ∧ ns.length < 64 ∧
  ∀ (ms : List Int) (p : Addr), ms.Perm ns → ms.Pairwise (· ≤ ·) → H p = none → Q (.ref p) (upd H p (.lst (ms.map V.int)))
theorem cr_sortInt : CallRK X (.builtin "sorted") [Str.ofString "key"] (rSortInt X.K) := by
  intro pins s σ H vs zs us ws Q I r rz h
  obtain ⟨a, ns, rfl, rfl, hs, few, q⟩ := h
  obtain rfl := Vals.ref1 r
  obtain ⟨w1, rfl, e1⟩ := vals1 rz
  obtain rfl : w1 = Value.type "int" := e1
  obtain ⟨its, rv, hl, hz⟩ := I.list hs
  have hi := rv.ints
  have ln : its.length = ns.length := by rw [← rv.length, List.length_map]
  refine call_function_entry_kw kind_sorted plain_sorted entry_sorted (ksk_s1 _ _) ?_
  unfold Builtin.«sorted»
  have kp : ∀ b o, s.heap.get? b = some o → ((s.heap.push (seqObj "list" #[] 0)).update s.heap.objs.size (Obj.mapSeq (· ++ its.toArray))).get? b = some o := fun b o e => by
    rw [Heap.get?_update_ne _ _ _ _ (Nat.ne_of_lt (Heap.lt_size e))]
    exact Heap.get?_push_of_some _ e
  refine wpAny_bind (m := checkCount "sorted" 1 1 _) (wpAny_pure (wpAny_bind (collect_list hl.isList ?_ (Nat.le_trans (Nat.le_of_lt (by omega)) (by decide : 64 ≤ sizeLine)))))
  have I1 : Inv X pins σ H { s with heap := (s.heap.push (seqObj "list" #[] 0)).update s.heap.objs.size (Obj.mapSeq (· ++ its.toArray)), toks := s.toks } := I.kept kp
  exact wpAny_mono (sorted_tail I1 hi (by omega) q) (fun f s' ⟨v, e, z⟩ => by rw [e]; exact ⟨v, rfl, z⟩) fun _ _ e => e
/-- sorted(d, key=int), d a dict whose keys are whole numbers -/
def rSortDInt : List V → List V → Hp → VK → Prop := fun vs zs H Q => ∃ (a : Addr) (kvs : List (Key × V)) (ks : List Int), vs = [V.ref a] ∧ zs = [.ty "int"] ∧ Rd H a (.dK kvs) ∧ kvs.map (·.1) = ks.map Sum.inl ∧ ks.length < 64 ∧
  ∀ (ms : List Int) (p : Addr), ms.Perm ks → ms.Pairwise (· ≤ ·) → H p = none → Q (.ref p) (upd H p (.lst (ms.map V.int)))
theorem cr_sortDInt (calm : X.calm = true) : CallRK X (.builtin "sorted") [Str.ofString "key"] rSortDInt := by
  intro pins s σ H vs zs us ws Q I r rz h
  obtain ⟨a, kvs, ks, rfl, rfl, hd, hks, few, q⟩ := h
  obtain rfl := Vals.ref1 r
  obtain ⟨w1, rfl, e1⟩ := vals1 rz
  obtain rfl : w1 = Value.type "int" := e1
  obtain ⟨z, lo, es, rel, dd⟩ := dk_rd I.hok hd
  obtain ⟨ep, atd⟩ := dd.dictAt
  have keys : es.map (·.1) = ks.map Sum.inl := rel.keys.symm.trans hks
  have ln : es.length = ks.length := by
    have e := congrArg List.length keys
    rwa [List.length_map, List.length_map] at e
  refine call_function_entry_kw kind_sorted plain_sorted entry_sorted (ksk_s1 _ _) ?_
  unfold Builtin.«sorted»
  refine wpAny_bind (m := checkCount "sorted" 1 1 _) (wpAny_pure (wpAny_bind (PySem.W.kdu_collect (A := X.A.in1) (PySem.W.kdl_dict (knd := mixKind X.prog X.w) (kvs := es) (ep := ep) lo) (I.ok.hd calm) atd (by rw [ln]; exact Nat.le_trans (Nat.le_of_lt few) (by decide)) fun h1 tk acc hk hacc => ?_)))
  have la : acc.toList.length = ks.length := by rw [Array.length_toList, hacc.1, ln]
  have allI : IntsAre acc.toList ks := ints_each la fun j v e => by
    obtain ⟨k, x, e1, e2⟩ := hacc.2 j v (by rw [← Array.getElem?_toList]; exact e)
    have e3 : (es.map (·.1))[j]? = some k := by
      rw [List.getElem?_map, e1]
      rfl
    rw [keys, List.getElem?_map] at e3
    cases e4 : ks[j]? with
    | none =>
      rw [e4] at e3
      cases e3
    | some y =>
      rw [e4] at e3
      obtain rfl : Sum.inl y = k := Option.some.inj e3
      rcases keyIs_shape (show keyIs (Sum.inl y) v = true from e2) with ⟨i, t, ek, ev⟩ | ⟨z, t, ek, ev⟩
      · cases ek
        exact ⟨y, t, rfl, ev⟩
      · cases ek
  have I1 : Inv X pins σ H { s with heap := h1, toks := tk } := I.kept hk
  exact wpAny_mono (sorted_tail I1 allI (by rw [la]; exact few) q) (fun f s' ⟨v, e, z⟩ => by rw [e]; exact ⟨v, rfl, z⟩) fun _ _ e => e
end
end Ax

namespace Ax
open PySem L2
section
variable {P : Program} {w : World} {K : PySem.W.Frag} {mg : Str → Option Value} {base : Heap} {A : Adr}
theorem two64 : (2 : Int) ^ 64 < BIG := pow_lt' (b := 2) (by decide) (by decide)
theorem lt_big {i : Int} {n : Nat} (h : i < 2 ^ n) (hn : n ≤ 8000) : i < BIG := Int.lt_of_lt_of_le h (pow_le' (b := 2) (by decide) hn)
/-! ### rungs_of -/
/-- a dict's entry for a mantissa: its size, and the tuple of it and its power -/
def EntAt (H : Hp) (b : Int) (top : Nat) (m : Int) (e : Key × V) : Prop := ∃ t : Addr, e = (.inl (keyOf b top m), .ref t) ∧ H t = some (.tup [.int m, .int (-(lg b m : Int))])
theorem EntAt.same {H H' : Hp} {b : Int} {top : Nat} {m : Int} {e : Key × V} (s : Same H H') (h : EntAt H b top m e) : EntAt H' b top m e := by
  obtain ⟨t, h1, h2⟩ := h
  exact ⟨t, h1, s _ _ h2⟩
abbrev Ents (H : Hp) (b : Int) (top : Nat) : List Int → List (Key × V) → Prop := Paired (EntAt H b top)
theorem Ents.same {H H' : Hp} {b : Int} {top : Nat} (s : Same H H') : ∀ {ms : List Int} {kvs : List (Key × V)}, Ents H b top ms kvs → Ents H' b top ms kvs
  | _, _, .nil => .nil
  | _, _, .cons h t => .cons (h.same s) (Ents.same s t)
theorem Ents.but {H H' : Hp} {b : Int} {top : Nat} (s : ∀ c xs, H c = some (.tup xs) → H' c = some (.tup xs)) : ∀ {ms : List Int} {kvs : List (Key × V)}, Ents H b top ms kvs → Ents H' b top ms kvs
  | _, _, .nil => .nil
  | _, _, .cons ⟨t, h1, h2⟩ r => .cons ⟨t, h1, s _ _ h2⟩ (Ents.but s r)
theorem Ents.snoc {H : Hp} {b : Int} {top : Nat} {m : Int} {e : Key × V} : ∀ {ms : List Int} {kvs : List (Key × V)}, Ents H b top ms kvs → EntAt H b top m e → Ents H b top (ms ++ [m]) (kvs ++ [e])
  | _, _, .nil, h => .cons h .nil
  | _, _, .cons h t, q => .cons h (Ents.snoc t q)
theorem Ents.len {H : Hp} {b : Int} {top : Nat} {ms : List Int} {kvs : List (Key × V)} (h : Ents H b top ms kvs) : ms.length = kvs.length := Paired.length h
theorem Ents.keys {H : Hp} {b : Int} {top : Nat} : ∀ {ms : List Int} {kvs : List (Key × V)}, Ents H b top ms kvs → kvs.map (·.1) = (ms.map (keyOf b top)).map Sum.inl
  | _, _, .nil => rfl
  | _, _, .cons h t => by
    obtain ⟨q, h1, _⟩ := h
    rw [List.map_cons, List.map_cons, List.map_cons, Ents.keys t, h1]
theorem Ents.val {H : Hp} {b : Int} {top : Nat} {m : Int} : ∀ {ms : List Int} {kvs : List (Key × V)}, Ents H b top ms kvs → m ∈ ms → (∀ n ∈ ms, keyOf b top n = keyOf b top m → n = m) → ∃ t, valV kvs (.inl (keyOf b top m)) = some (.ref t) ∧ H t = some (.tup [.int m, .int (-(lg b m : Int))])
  | _, _, .nil, h, _ => nomatch h
  | n :: ms, _, .cons h t, hm, hi => by
    obtain ⟨t0, h1, h2⟩ := h
    by_cases c : keyOf b top n = keyOf b top m
    · have e2 := hi n (List.mem_cons_self ..) c
      subst e2
      exact ⟨t0, by rw [h1]; exact valV_pos rfl, h2⟩
    · have hm2 : m ∈ ms := (List.mem_cons.mp hm).resolve_left fun z => c (by rw [z])
      obtain ⟨t1, k1, k2⟩ := Ents.val t hm2 fun n' hn => hi n' (List.mem_cons_of_mem _ hn)
      refine ⟨t1, ?_, k2⟩
      rw [valV_neg (by rw [h1]; exact fun z => c (Sum.inl.inj z))]
      exact k1
theorem Ents.no {H : Hp} {b : Int} {top : Nat} {k : Int} : ∀ {ms : List Int} {kvs : List (Key × V)}, Ents H b top ms kvs → (∀ n ∈ ms, keyOf b top n ≠ k) → valV kvs (.inl k) = none
  | _, _, .nil, _ => rfl
  | n :: ms, _, .cons h t, hi => by
    obtain ⟨t0, h1, h2⟩ := h
    rw [valV_neg (by rw [h1]; exact fun z => hi n (List.mem_cons_self ..) (Sum.inl.inj z))]
    exact Ents.no t fun n' hn => hi n' (List.mem_cons_of_mem _ hn)
/-- the rungs: mantissas in the order of their least steps of at least 1, each at its tuple -/
abbrev TupsAt (H : Hp) (b : Int) : List Int → List Addr → Prop := Paired fun m t => H t = some (.tup [.int m, .int (-(lg b m : Int))])
theorem TupsAt.same {H H' : Hp} {b : Int} (s : ∀ c xs, H c = some (.tup xs) → H' c = some (.tup xs)) : ∀ {rs : List Int} {ts : List Addr}, TupsAt H b rs ts → TupsAt H' b rs ts
  | _, _, .nil => .nil
  | _, _, .cons h r => .cons (s _ _ h) (TupsAt.same s r)
theorem TupsAt.snoc {H : Hp} {b m : Int} {t : Addr} : ∀ {rs : List Int} {ts : List Addr}, TupsAt H b rs ts → H t = some (.tup [.int m, .int (-(lg b m : Int))]) → TupsAt H b (rs ++ [m]) (ts ++ [t])
  | _, _, .nil, h => .cons h .nil
  | _, _, .cons h r, q => .cons h (TupsAt.snoc r q)
theorem TupsAt.len {H : Hp} {b : Int} {rs : List Int} {ts : List Addr} (h : TupsAt H b rs ts) : rs.length = ts.length := Paired.length h
theorem TupsAt.get {H : Hp} {b : Int} : ∀ {rs : List Int} {ts : List Addr} {i : Nat} {m : Int}, TupsAt H b rs ts → rs[i]? = some m → ∃ t, ts[i]? = some t ∧ H t = some (.tup [.int m, .int (-(lg b m : Int))])
  | _, _, _, _, .nil, h => nomatch h
  | _, _, 0, _, .cons h _, e => by
    obtain rfl := Option.some.inj e
    exact ⟨_, rfl, h⟩
  | _, _, i + 1, _, .cons _ r, e => TupsAt.get (i := i) r e
theorem TupsAt.get2 {H : Hp} {b : Int} : ∀ {rs : List Int} {ts : List Addr} {i : Nat} {t : Addr}, TupsAt H b rs ts → ts[i]? = some t → ∃ m, rs[i]? = some m ∧ H t = some (.tup [.int m, .int (-(lg b m : Int))])
  | _, _, _, _, .nil, h => nomatch h
  | _, _, 0, _, .cons h _, e => by
    obtain rfl := Option.some.inj e
    exact ⟨_, rfl, h⟩
  | _, _, i + 1, _, .cons _ r, e => TupsAt.get2 (i := i) r e
theorem crMin (K : PySem.W.Frag) {X : Cx} (hc : X.calm = true := by rfl) (h : X.K = K := by rfl) : CallR X (.builtin "min") (rMin K) := h ▸ cr_min hc
theorem crMax (K : PySem.W.Frag) {X : Cx} (hc : X.calm = true := by rfl) (h : X.K = K := by rfl) : CallR X (.builtin "max") (rMax K) := h ▸ cr_max hc
def spRungs : Sp := fun vs H Q _ => ∃ (k : Kd) (b most : Int) (ms : List Int) (a : Addr), vs = [.int b, .ref a] ∧ H a = some (.lst (ms.map V.int)) ∧ RArgs b k ms most ∧
  ∀ (H' : Hp) (lr : Addr) (rs : List Int) (ts : List Addr) (M : Int), Same H H' → H lr = none → M ∈ ms → (∀ m ∈ ms, m ≤ M) → H' lr = some (.lst (ts.map V.ref)) → TupsAt H' b rs ts → rs.Perm ms → rs.Pairwise (fun m n => keyOf b (lg b M) m < keyOf b (lg b M) n) → Q (.ref lr) H'
abbrev nm_rungs_of : List Str := ["base", "mantissas", "top", "mantissa", "rungs", "power", "size"]
theorem sc_rungs_of : FnScope ["base", "mantissas", "top", "mantissa", "rungs", "power", "size"] ["base", "mantissas"] (defScope s_rungs_of) := ⟨rfl, rfl, rfl, by decide +kernel, rfl, by decide +kernel, by decide +kernel⟩
theorem ok_rungs (T : Txt K mg A w) : FnOk P w K mg base CX0 2 A.a_rungs_of A.d_rungs_of ["base", "mantissas"] spRungs := by
  have G_log_of : FnOk P w K mg base CX0 1 A.a_log_of A.d_log_of ["base", "number"] spLog := ok_log_of T
  have G_power_of : FnOk P w K mg base CX0 1 A.a_power_of A.d_power_of ["base", "exponent"] spPow := ok_power_of T
  refine T.F_rungs_of.ok sc_rungs_of (fun vs H Q E h => ?_) (fun cdv A0 outer s H vs Q E hr h => ?_)
  · obtain ⟨k, b, most, ms, a, rfl, _⟩ := h
    rfl
  · obtain ⟨k, b, most, ms, a, rfl, hL, R, q⟩ := h
    have hlen : (ms.map V.int).length = ms.length := List.length_map _
    have hpos : 0 < ms.length := List.length_pos_iff.mpr R.ne
    refine ⟨_, (pss_cons (ps_set (i := 2) sc_rungs_of.nd rfl (Or.inl rfl) (pe_call G_log_of (hr.mono (by decide)) (by rfl) T.m_log_of T.F_log_of.kp T.B_log_of .nil pass0 (pa_cons (pv 0) (pa_cons (pe_callB (crMax K) (by rfl) T.n_max (by decide +kernel) (pa_cons (pe_lc (own := [("mantissa", 3)]) (g := gName 3) (tt := tYes) rfl sc_rungs_of.nd (pi_list (pv 1)) (blkOk_by (own := [("mantissa", 3)]) (N := nm_rungs_of) (sc := defScope s_rungs_of) (by decide +kernel)) (fun _ _ _ _ _ => (pg_name (i := 3) sc_rungs_of.nd rfl (Or.inl rfl))) (fun _ _ _ _ _ => pts_nil) (fun _ _ _ _ _ => (pe_callTy call_int1 (by rfl) T.n_int (by decide +kernel) (pa_cons (pv 3) pa_nil)))) pa_nil)) pa_nil))))
  (pss_cons (ps_set (i := 4) sc_rungs_of.nd rfl (Or.inr rfl) pe_dnewK)
  (pss_cons (ps_for PassesOwn.never rfl (pi_list (pv 1)) (pg_name (i := 3) sc_rungs_of.nd rfl (Or.inl rfl))
  (pss_cons (ps_set (i := 5) sc_rungs_of.nd rfl (Or.inl rfl) (pe_un un_neg (pe_call G_log_of (hr.mono (by decide)) (by rfl) T.m_log_of T.F_log_of.kp T.B_log_of .nil pass0 (pa_cons (pv 0) (pa_cons (pv 3) pa_nil)))))
  (pss_one (ps_dput (hu_of hr) (pv 4) (pe_op op_mulW (pv 3) (pe_call G_power_of (hr.mono (by decide)) (by rfl) T.m_power_of T.F_power_of.kp T.B_power_of .nil pass0 (pa_cons (pv 0) (pa_cons (pe_op op_add (pv 2) (pv 5)) pa_nil)))) (pe_tup (pa_cons (pv 3) (pa_cons (pv 5) pa_nil))) rfl))))
  (pss_one (ps_ret (pe_lc (own := [("size", 6)]) (g := gName 6) (tt := tYes) rfl sc_rungs_of.nd (pi_list (pe_callBK (cr_sortDInt rfl) (by rfl) T.n_sorted (by decide +kernel) (pa_cons (pv 4) pa_nil) (pk_cons (pe_bltn (v := .ty "int") (by rfl) T.n_int (by decide +kernel) rfl) pk_nil))) (blkOk_by (own := [("size", 6)]) (N := nm_rungs_of) (sc := defScope s_rungs_of) (by decide +kernel)) (fun _ _ _ _ _ => (pg_name (i := 6) sc_rungs_of.nd rfl (Or.inl rfl))) (fun _ _ _ _ _ => pts_nil) (fun _ _ _ _ _ => (pe_dget (hu_of hr) (pv 4) (pv 6) (fun _ _ => rfl))))))))), ?_⟩
    -- top = log_of(base, max([..]))
    refine ⟨_, rfl, _, rfl, a, rfl, ⟨_, SqL.of hL⟩, fun D0 hD0 => lc_list (K := K) (a := a) (xs := ms.map V.int) (fun i H' => H' = upd H D0 (.lst ((ms.take i).map V.int))) rfl ?_ ?_ ?_⟩
    · rintro i H' _ rfl
      exact SqL.of (by rw [upd_ne (ne_of_none hL hD0)]; exact hL)
    · rintro i x H' hi rfl
      obtain ⟨n, hn, rfl⟩ := map_get hi
      have hi3 : i < ms.length := (List.getElem?_eq_some_iff.mp hn).1
      refine ⟨rfl, yes_of ?_⟩
      refine ⟨_, rfl, .inl ⟨n, rfl, ?_⟩⟩
      refine ⟨_, upd_same, ?_, ?_⟩
      · rw [List.length_map, List.length_take]
        exact small1000 (by have := R.le; omega)
      · rw [upd_upd, List.take_add_one, hn, List.map_append]
        rfl
    rintro H0 rfl
    rw [hlen, List.take_length]
    have s0 : Same H (upd H D0 (.lst (ms.map V.int))) := same_new hD0
    refine ⟨D0, ms, rfl, SqL.of upd_same, hpos, fun M hM hmax => ?_⟩
    obtain ⟨M1, M2, M3⟩ := R.all M hM
    refine ⟨b, M, rfl, R.b2, lt_big R.bB (by decide), M1, lt_big M2 (by decide), fun E1 H1 s1 g1 g2 => ?_⟩
    obtain rfl := lg_eq R.b2 M1 g1 g2
    replace s1 := s0.trans s1
    refine fun d hd => ?_
    have hd0 : H d = none := s1.free hd
    refine ⟨_, rfl, a, rfl, ⟨_, SqL.of (by rw [upd_ne (ne_of_none (s1 _ _ hL) hd)]; exact s1 _ _ hL)⟩, for_list (K := K) (a := a) (xs := ms.map V.int) (fun i σ H' => ∃ (kvs : List (Key × V)) (v1 v2 : Option V), σ = [some (.int b), some (.ref a), some (.int (lg b M : Nat)), v1, some (.ref d), v2, none] ∧ Same H H' ∧ H' d = some (.dK kvs) ∧ Ents H' b (lg b M) (ms.take i) kvs)
      ⟨[], none, none, rfl, s1.trans (same_new hd), upd_same, .nil⟩ (fun i σ H' _ ⟨kvs, v1, v2, _, s2, _⟩ => SqL.of (s2 _ _ hL)) ?_ ?_⟩
    · rintro i y σ H' hi ⟨kvs, v1, v2, rfl, s2, hD, hE⟩
      obtain ⟨m, hm, rfl⟩ := map_get hi
      have hmem : m ∈ ms := List.mem_of_getElem? hm
      obtain ⟨m1, m2, m3⟩ := R.all m hmem
      have lgm := lg_mono R.b2 m1 (hmax m hmem)
      have hi3 : i < ms.length := (List.getElem?_eq_some_iff.mp hm).1
      refine ⟨_, rfl, _, rfl, b, m, rfl, R.b2, lt_big R.bB (by decide), m1, lt_big m2 (by decide), fun E2 H2 s3 g3 g4 => ?_⟩
      obtain rfl := lg_eq R.b2 m1 g3 g4
      refine ⟨_, rfl, ?_⟩
      -- rungs[..] = (mantissa, power)
      refine ⟨_, rfl, _, rfl, (by show 2 ≤ sizeLine; decide), fun t ht => ?_⟩
      have ht2 : H' t = none := s3.free ht
      have eT : ((lg b M : Nat) + -(lg b m : Nat) : Int).toNat = lg b M - lg b m := by omega
      have pB : b ^ (lg b M - lg b m) < BIG := by
        have h1 := pow_le' (b := b) (by have := R.b2; omega) (Nat.sub_le (lg b M) (lg b m))
        have h2 := (lg_spec R.b2 M1).1
        have h3 := lt_big (n := 64) M2 (by decide)
        omega
      have p1 := pow_pos' (b := b) (by have := R.b2; omega) (lg b M - lg b m)
      refine ⟨_, rfl, _, rfl, _, rfl, _, rfl, _, rfl, _, _, rfl, rfl, b, _, rfl, by have := R.b2; omega, ?_, ?_, lt_big R.bB (by decide), ?_⟩
      · show (0 : Int) ≤ (lg b M : Nat) + -(lg b m : Nat)
        omega
      · rw [eT]
        exact pB
      · rw [eT]
        refine ⟨_, _, rfl, rfl, mulBig (by omega) (big_le (lt_big m2 (by decide))) (by omega) (big_le pB), ?_⟩
        have kn : valV kvs (.inl (keyOf b (lg b M) m)) = none := hE.no fun n hn => fun z => by
          obtain ⟨j, hj, ej⟩ := List.getElem_of_mem hn
          rw [List.length_take] at hj
          rw [List.getElem_take] at ej
          have nm : n ∈ ms := by rw [← ej]; exact List.getElem_mem _
          obtain ⟨n1, n2, n3⟩ := R.all n nm
          have e := key_inj R.b2 n3 m3 (lg_mono R.b2 n1 (hmax n nm)) lgm z
          have hj2 : ms[j]'(by omega) = ms[i]'hi3 := by
            rw [ej, e]
            exact ((List.getElem?_eq_some_iff.mp hm).2).symm
          have := (List.getElem_inj R.nd).mp hj2
          omega
        have hd3 : upd H2 t (.tup [.int m, .int (-(lg b m : Int))]) d = some (.dK kvs) := by
          rw [upd_ne (ne_of_none (s3 _ _ hD) ht)]
          exact s3 _ _ hD
        have hlk : kvs.length = i := by
          rw [← hE.len, List.length_take]
          omega
        refine ⟨d, _, rfl, DPut.k (k := .inl (keyOf b (lg b M) m)) hd3 (small1000 (by have := R.le; omega)), ?_⟩
        rw [putK_new _ kn]
        have ntd : t ≠ d := fun z => by
          rw [z, s3 _ _ hD] at ht
          cases ht
        refine ⟨kvs ++ [(.inl (keyOf b (lg b M) m), .ref t)], _, _, rfl, fun c o e => ?_, upd_same, ?_⟩
        · rw [upd_ne (ne_of_none e hd0), upd_ne (ne_of_none (s3 _ _ (s2 _ _ e)) ht)]
          exact s3 _ _ (s2 _ _ e)
        · have et : ms.take (i + 1) = ms.take i ++ [m] := by
            rw [List.take_add_one, hm]
            rfl
          rw [et]
          refine Ents.snoc ?_ ⟨t, rfl, by rw [upd_ne ntd, upd_same]⟩
          exact hE.but fun c xs e => by
            have ncd : c ≠ d := fun z => by
              rw [z, hD] at e
              cases e
            rw [upd_ne ncd, upd_ne (ne_of_none (s3 _ _ e) ht)]
            exact s3 _ _ e
    · rintro σ H' ⟨kvs, v1, v2, rfl, s2, hD, hE⟩
      rw [hlen, List.take_length] at hE
      have few : (ms.map (keyOf b (lg b M))).length < 64 := by rw [List.length_map]; have := R.le; omega
      refine ⟨_, rfl, d, kvs, ms.map (keyOf b (lg b M)), rfl, rfl, .inl hD, hE.keys, few, fun zs p hp1 hp2 hp => ?_⟩
      obtain ⟨rs, pr, rfl⟩ := perm_lift hp1
      have lgle : ∀ m ∈ ms, lg b m ≤ lg b M := fun m hm => lg_mono R.b2 (R.all m hm).1 (hmax m hm)
      have lz : ((rs.map (keyOf b (lg b M))).map V.int).length = rs.length := by rw [List.length_map, List.length_map]
      have s3 : Same H' (upd H' p (.lst ((rs.map (keyOf b (lg b M))).map V.int))) := same_new hp
      have hD3 := s3 _ _ hD
      have hE3 := hE.same s3
      have s03 := s2.trans s3
      refine ⟨p, rfl, ⟨_, SqL.of upd_same⟩, fun D hDn => lc_list (K := K) (a := p) (xs := (rs.map (keyOf b (lg b M))).map V.int) (fun i H'' => ∃ ts : List Addr, H'' = upd (upd H' p (.lst ((rs.map (keyOf b (lg b M))).map V.int))) D (.lst (ts.map V.ref)) ∧ ts.length = i ∧ TupsAt (upd H' p (.lst ((rs.map (keyOf b (lg b M))).map V.int))) b (rs.take i) ts)
        ⟨[], rfl, rfl, .nil⟩ ?_ ?_ ?_⟩
      · rintro i H'' _ ⟨ts, rfl, _⟩
        have npD : p ≠ D := fun z => by rw [← z, upd_same] at hDn; cases hDn
        exact SqL.of (by rw [upd_ne npD, upd_same])
      · rintro i x H'' hi ⟨ts, rfl, ht1, ht2⟩
        obtain ⟨z, hz, rfl⟩ := map_get hi
        rw [List.getElem?_map] at hz
        obtain ⟨m, hm, rfl⟩ : ∃ m, rs[i]? = some m ∧ z = keyOf b (lg b M) m := by
          cases e : rs[i]? with
          | none =>
            rw [e] at hz
            cases hz
          | some m =>
            rw [e] at hz
            exact ⟨m, rfl, (Option.some.inj hz).symm⟩
        have hm2 : m ∈ ms := pr.mem_iff.mp (List.mem_of_getElem? hm)
        obtain ⟨t, hv, htup⟩ := hE3.val hm2 fun n hn e => key_inj R.b2 (R.all n hn).2.2 (R.all m hm2).2.2 (lgle n hn) (lgle m hm2) e
        refine ⟨rfl, yes_of ?_⟩
        have dn := ne_of_none hD3 hDn
        refine ⟨_, rfl, _, rfl, d, .ref t, rfl, ?_, ?_⟩
        · rw [← hv]
          exact DGet.k (k := .inl (keyOf b (lg b M) m)) (by rw [upd_ne dn]; exact hD3)
        · refine ⟨_, upd_same, ?_, ts ++ [t], ?_, ?_, ?_⟩
          · rw [List.length_map, ht1]
            have := (List.getElem?_eq_some_iff.mp hm).1
            rw [pr.length_eq] at this
            exact small1000 (by have := R.le; omega)
          · rw [upd_upd, List.map_append]
            rfl
          · rw [List.length_append, ht1]
            rfl
          · rw [List.take_add_one, hm]
            exact TupsAt.snoc ht2 htup
      · rintro H'' ⟨ts, rfl, ht1, ht2⟩
        rw [lz, List.take_length] at ht2
        have s6 := same_new (o := .lst (ts.map V.ref)) hDn
        refine q _ D rs ts M (s03.trans s6) (s03.free hDn) hM hmax upd_same (ht2.same fun c xs e => s6 _ _ e) pr ?_
        have nd : (rs.map (keyOf b (lg b M))).Nodup := nodup_map (pr.nodup_iff.mpr R.nd) fun x hx y hy e => key_inj R.b2 (R.all x (pr.mem_iff.mp hx)).2.2 (R.all y (pr.mem_iff.mp hy)).2.2 (lgle x (pr.mem_iff.mp hx)) (lgle y (pr.mem_iff.mp hy)) e
        have := strict hp2 nd
        rwa [List.pairwise_map] at this
end
end Ax

namespace Ax
open PySem L2
/-- whether each size divides the next one, the first one times the base behind the last -/
def dvZ (b : Int) (zs : List Int) : Bool := ((zs.zip (zs.drop 1 ++ [b * zs.headD 0])).map fun p => decide (p.2 % p.1 = 0)).all id
theorem cut_one (z : Int) (zs : List Int) : cutV ((z :: zs).map V.int) (some 1) none = zs.map V.int := by
  have e : cutV ((z :: zs).map V.int) (some 1) none = (zs.map V.int).take zs.length := by
    unfold cutV HT.sIx
    simp
  rw [e]
  exact List.take_of_length_le (by rw [List.length_map]; exact Nat.le_refl _)
theorem ref_get {as : List Addr} {i : Nat} {x : V} (h : (as.map V.ref)[i]? = some x) : ∃ a, as[i]? = some a ∧ x = .ref a := by
  rw [List.getElem?_map] at h
  cases e : as[i]? with
  | none =>
    rw [e] at h
    cases h
  | some a =>
    rw [e] at h
    exact ⟨a, rfl, (Option.some.inj h).symm⟩
theorem mul_lt2 {a c x y : Int} (h1 : a < x) (h2 : c < y) (hc : 0 < c) (hx : 0 ≤ x := by decide) : a * c < x * y := by
  have a1 := Int.mul_lt_mul_of_pos_right h1 hc
  have a2 := Int.mul_le_mul_of_nonneg_left (Int.le_of_lt h2) hx
  omega
section
variable {P : Program} {w : World} {K : PySem.W.Frag} {mg : Str → Option Value} {base : Heap} {A : Adr}
/-! ### _is_dividing -/
def spDiv : Sp := fun vs H Q _ => ∃ (b M : Int) (rs : List Int) (ts : List Addr) (lr : Addr), vs = [.int b, .ref lr] ∧ H lr = some (.lst (ts.map V.ref)) ∧ TupsAt H b rs ts ∧ 2 ≤ b ∧ b < 2 ^ 64 ∧ M ∈ rs ∧ rs.length < 60 ∧ (∀ m ∈ rs, 1 ≤ m ∧ m < 2 ^ 64 ∧ m ≤ M) ∧ ∀ H', Same H H' → Q (.bl (dvZ b (rs.map (keyOf b (lg b M))))) H'
abbrev nm_is_dividing : List Str := ["base", "rungs", "lowest", "_", "power", "sizes", "mantissa", "greater", "size", "above"]
theorem sc_is_dividing : FnScope ["base", "rungs", "lowest", "_", "power", "sizes", "mantissa", "greater", "size", "above"] ["base", "rungs"] (defScope s_is_dividing) := ⟨rfl, rfl, rfl, by decide +kernel, rfl, by decide +kernel, by decide +kernel⟩
theorem ok_div (T : Txt K mg A w) : FnOk P w K mg base CX0 2 A.a_is_dividing A.d_is_dividing ["base", "rungs"] spDiv := by
  have G_power_of : FnOk P w K mg base CX0 1 A.a_power_of A.d_power_of ["base", "exponent"] spPow := ok_power_of T
  refine T.F_is_dividing.ok sc_is_dividing (fun vs H Q E h => ?_) (fun cdv A0 outer s H0 vs Q E hr h => ?_)
  · obtain ⟨b, M, rs, ts, lr, rfl, _⟩ := h
    rfl
  · obtain ⟨b, M, rs, ts, lr, rfl, hLr, hT, hb, hbB, hM, hlen0, hrs, q0⟩ := h
    have hlt : ts.length = rs.length := hT.len.symm
    have hpos : 0 < rs.length := List.length_pos_of_mem hM
    refine ⟨_, (pss_cons (ps_set (i := 2) sc_is_dividing.nd rfl (Or.inr rfl) (pe_callB (crMin K) (by rfl) T.n_min (by decide +kernel) (pa_cons (pe_lc (own := [("_", 3), ("power", 4)]) (g := gTup K 2 (gCons (gName 3) (gCons (gName 4) gNil))) (tt := tYes) rfl sc_is_dividing.nd (pi_list (pv 1)) (blkOk_by (own := [("_", 3), ("power", 4)]) (N := nm_is_dividing) (sc := defScope s_is_dividing) (by decide +kernel)) (fun _ _ _ _ _ => (pg_tup (by rfl) (pgs_cons (pg_name (i := 3) sc_is_dividing.nd rfl (Or.inl rfl)) (pgs_cons (pg_name (i := 4) sc_is_dividing.nd rfl (Or.inl rfl)) pgs_nil)))) (fun _ _ _ _ _ => pts_nil) (fun _ _ _ _ _ => (pe_callTy call_int1 (by rfl) T.n_int (by decide +kernel) (pa_cons (pv 4) pa_nil)))) pa_nil)))
  (pss_cons (ps_setLc (i := 5) (own := [("mantissa", 6), ("power", 4)]) (g := gTup K 2 (gCons (gName 6) (gCons (gName 4) gNil))) (tt := tYes) rfl sc_is_dividing.nd rfl rfl (sw_true rfl rfl rfl (by decide +kernel)) (pi_list (pv 1)) (blkOk_by (own := [("mantissa", 6), ("power", 4)]) (N := nm_is_dividing) (sc := defScope s_is_dividing) (by decide +kernel)) (fun _ _ _ _ _ => (pg_tup (by rfl) (pgs_cons (pg_name (i := 6) sc_is_dividing.nd rfl (Or.inl rfl)) (pgs_cons (pg_name (i := 4) sc_is_dividing.nd rfl (Or.inl rfl)) pgs_nil)))) (fun _ _ _ _ _ => pts_nil) (fun _ _ _ _ _ => (pe_op op_mulW (pv 6) (pe_call G_power_of (hr.mono (by decide)) (by rfl) T.m_power_of T.F_power_of.kp T.B_power_of .nil pass0 (pa_cons (pv 0) (pa_cons (pe_op op_sub (pv 4) (pv 2)) pa_nil))))))
  (pss_cons (ps_set (i := 7) sc_is_dividing.nd rfl (Or.inl rfl) (pe_op op_cat (pe_slice sl_list (pv 5) (po_some pe_int) po_none) (pe_lst (pa_cons (pe_op op_mulW (pv 0) (pe_ix ix_list (pv 5) pe_int (fun _ _ => rfl))) pa_nil))))
  (pss_one (ps_ret (pe_callB (cr_all rfl) (by rfl) T.n_all (by decide +kernel) (pa_cons (pe_lc (own := [("size", 8), ("above", 9)]) (g := gTup K 2 (gCons (gName 8) (gCons (gName 9) gNil))) (tt := tYes) rfl sc_is_dividing.nd (pi_zip (by rfl) T.n_zip (pa_cons (pv 5) (pa_cons (pv 7) pa_nil))) (blkOk_by (own := [("size", 8), ("above", 9)]) (N := nm_is_dividing) (sc := defScope s_is_dividing) (by decide +kernel)) (fun _ _ _ _ _ => (pg_tup (by rfl) (pgs_cons (pg_name (i := 8) sc_is_dividing.nd rfl (Or.inl rfl)) (pgs_cons (pg_name (i := 9) sc_is_dividing.nd rfl (Or.inl rfl)) pgs_nil)))) (fun _ _ _ _ _ => pts_nil) (fun _ _ _ _ _ => (pe_cmpR op_eq (pe_op op_mod (pv 9) (pv 8)) pe_int (nomark _)))) pa_nil))))))), ?_⟩
    have lgle : ∀ m ∈ rs, lg b m ≤ lg b M := fun m hm => lg_mono hb (hrs m hm).1 (hrs m hm).2.2
    have lT : (ts.map V.ref).length = rs.length := by rw [List.length_map, hlt]
    -- lowest = min([..])
    refine ⟨_, rfl, lr, rfl, ⟨_, SqL.of hLr⟩, fun D0 hD0 => lc_list (K := K) (a := lr) (xs := ts.map V.ref) (fun i H' => H' = upd H0 D0 (.lst (((rs.take i).map fun m => -(lg b m : Int)).map V.int))) rfl ?_ ?_ ?_⟩
    · rintro i H' _ rfl
      exact SqL.of (by rw [upd_ne (ne_of_none hLr hD0)]; exact hLr)
    · rintro i x H' hi rfl
      obtain ⟨t, ht, rfl⟩ := ref_get hi
      obtain ⟨m, hm, htup⟩ := hT.get2 ht
      have hi3 : i < rs.length := (List.getElem?_eq_some_iff.mp hm).1
      refine ⟨t, _, rfl, SqT.of (by rw [upd_ne (ne_of_none htup hD0)]; exact htup), rfl, _, _, rfl, _, _, rfl, rfl, rfl, yes_of ?_⟩
      refine ⟨_, rfl, .inl ⟨_, rfl, ?_⟩⟩
      refine ⟨_, upd_same, ?_, ?_⟩
      · rw [List.length_map, List.length_map, List.length_take]
        exact small1000 (by omega)
      · rw [upd_upd, List.take_add_one, hm, List.map_append, List.map_append]
        rfl
    rintro H1 rfl
    rw [lT, List.take_length]
    have s1 : Same H0 (upd H0 D0 (.lst ((rs.map fun m => -(lg b m : Int)).map V.int))) := same_new hD0
    refine ⟨D0, rs.map fun m => -(lg b m : Int), rfl, SqL.of upd_same, (by rw [List.length_map]; exact hpos), fun lo hlo hmin => ?_⟩
    obtain rfl : lo = -(lg b M : Int) := by
      obtain ⟨m0, hm0, rfl⟩ := List.mem_map.mp hlo
      have h1 := hmin _ (List.mem_map_of_mem (f := fun m => -(lg b m : Int)) hM)
      have h2 := lgle m0 hm0
      omega
    have hLr1 := s1 _ _ hLr
    have hT1 := hT.same fun c xs e => s1 _ _ e
    clear hLr hT
    generalize upd H0 D0 (.lst ((rs.map fun m => -(lg b m : Int)).map V.int)) = H1 at *
    -- sizes = [..]
    refine ⟨_, rfl, lr, rfl, ⟨_, SqL.of hLr1⟩, fun a hDa => lc_list (K := K) (a := lr) (xs := ts.map V.ref) (fun i H' => H' = upd H1 a (.lst (((rs.take i).map (keyOf b (lg b M))).map V.int))) rfl ?_ ?_ ?_⟩
    · rintro i H' _ rfl
      exact SqL.of (by rw [upd_ne (ne_of_none hLr1 hDa)]; exact hLr1)
    · rintro i x H' hi rfl
      obtain ⟨t, ht, rfl⟩ := ref_get hi
      obtain ⟨m, hm, htup⟩ := hT1.get2 ht
      have hi3 : i < rs.length := (List.getElem?_eq_some_iff.mp hm).1
      have hmm := List.mem_of_getElem? hm
      obtain ⟨m1, m2, m3⟩ := hrs m hmm
      have lgm := lgle m hmm
      have M1 := (hrs M hM).1
      have M2 := (hrs M hM).2.1
      have eT : (-(lg b m : Nat) - -(lg b M : Nat) : Int).toNat = lg b M - lg b m := by omega
      have pB : b ^ (lg b M - lg b m) < BIG := by
        have h1 := pow_le' (b := b) (by omega) (Nat.sub_le (lg b M) (lg b m))
        have h2 := (lg_spec hb M1).1
        have h3 := lt_big (n := 64) M2 (by decide)
        omega
      have p1 := pow_pos' (b := b) (by omega) (lg b M - lg b m)
      refine ⟨t, _, rfl, SqT.of (by rw [upd_ne (ne_of_none htup hDa)]; exact htup), rfl, _, _, rfl, _, _, rfl, rfl, rfl, yes_of ?_⟩
      refine ⟨_, rfl, _, rfl, _, rfl, _, rfl, _, _, rfl, rfl, b, _, rfl, by omega, ?_, ?_, lt_big hbB (by decide), ?_⟩
      · show (0 : Int) ≤ -(lg b m : Nat) - -(lg b M : Nat)
        omega
      · rw [eT]
        exact pB
      · rw [eT]
        refine ⟨_, _, rfl, rfl, mulBig (by omega) (big_le (lt_big m2 (by decide))) (by omega) (big_le pB), ?_⟩
        refine ⟨_, upd_same, ?_, ?_⟩
        · rw [List.length_map, List.length_map, List.length_take]
          exact small1000 (by omega)
        · rw [upd_upd, List.take_add_one, hm, List.map_append, List.map_append]
          rfl
    rintro H2 rfl
    rw [lT, List.take_length]
    have s2 : Same H1 (upd H1 a (.lst ((rs.map (keyOf b (lg b M))).map V.int))) := same_new hDa
    have hL : (upd H1 a (.lst ((rs.map (keyOf b (lg b M))).map V.int))) a = some (.lst ((rs.map (keyOf b (lg b M))).map V.int)) := upd_same
    have q : ∀ H', Same (upd H1 a (.lst ((rs.map (keyOf b (lg b M))).map V.int))) H' → Q (.bl (dvZ b (rs.map (keyOf b (lg b M))))) H' := fun H' s3 => q0 _ ((s1.trans s2).trans s3)
    have hz : ∀ z ∈ rs.map (keyOf b (lg b M)), 1 ≤ z ∧ z < 2 ^ 200 := fun z hz => by
      obtain ⟨m, hm, rfl⟩ := List.mem_map.mp hz
      have k1 := key_pos (top := lg b M) hb (hrs m hm).1
      have k2 := (key_lt (top := lg b M) hb (hrs m hm).1 (lgle m hm)).2
      have k3 := (lg_spec hb (hrs M hM).1).1
      have k5 := (hrs M hM).2.1
      rw [Int.pow_succ] at k2
      have k4 := mul_lt2 (show b ^ lg b M < 2 ^ 64 by omega) hbB (by omega)
      refine ⟨k1, Int.lt_trans k2 (Int.lt_trans k4 ?_)⟩
      rw [← pow_add']
      exact pow_lt' (b := 2) (by decide) (by decide)
    have hne : rs.map (keyOf b (lg b M)) ≠ [] := fun z => by
      have e1 := congrArg List.length z
      rw [List.length_map, List.length_nil] at e1
      omega
    have hlen : (rs.map (keyOf b (lg b M))).length < 60 := by rw [List.length_map]; exact hlen0
    generalize upd H1 a (.lst ((rs.map (keyOf b (lg b M))).map V.int)) = H at *
    generalize rs.map (keyOf b (lg b M)) = zs at *
    clear hLr1 hT1 s1 s2 q0 hlo hmin
    obtain ⟨z0, zr, rfl⟩ : ∃ z0 zr, zs = z0 :: zr := by
      cases zs with
      | nil => exact absurd rfl hne
      | cons z r => exact ⟨z, r, rfl⟩
    obtain ⟨z1, z2⟩ := hz z0 (List.mem_cons_self ..)
    refine ⟨_, rfl, _, rfl, a, _, rfl, SqL.of hL, fun p hp => ?_⟩
    rw [cut_one]
    have nap : a ≠ p := ne_of_none hL hp
    refine ⟨_, rfl, _, rfl, a, _, _, _, rfl, rfl, SqL.of (by rw [upd_ne nap]; exact hL), atI_nat (j := 0) rfl, _, _, rfl, rfl, mulBig (by omega) (big_le (lt_big hbB (by decide))) (by omega) (big_le (lt_big z2 (by decide))), (by show 1 ≤ sizeLine; decide), fun p2 hp2 => ?_⟩
    have np : p ≠ p2 := fun z => by
      rw [← z, upd_same] at hp2
      cases hp2
    refine ⟨p, p2, _, _, rfl, rfl, by rw [upd_ne np, upd_same], upd_same, ?_, fun p3 hp3 => ?_⟩
    · rw [List.length_map]
      simp only [List.length_cons] at hlen
      exact Nat.le_of_lt (small1000 (by show zr.length + 1 ≤ 1000; omega))
    · have s1 : Same H (upd (upd H p (.lst (zr.map V.int))) p2 (.lst [.int (b * z0)])) := (same_new hp).trans (same_new hp2)
      have s3 : Same H _ := s1.trans (same_new (o := .lst (zr.map V.int ++ [V.int (b * z0)])) hp3)
      have eg : zr.map V.int ++ [V.int (b * z0)] = (zr ++ [b * z0]).map V.int := by rw [List.map_append]; rfl
      have lenE : ((z0 :: zr).map V.int).length = ((zr ++ [b * z0]).map V.int).length := by simp
      have minE : ((z0 :: zr).map V.int).length = min ((z0 :: zr).map V.int).length ((zr ++ [b * z0]).map V.int).length := by rw [← lenE]; simp
      have lz : ((z0 :: zr).map V.int).length = (z0 :: zr).length := List.length_map _
      refine ⟨_, rfl, _, rfl, a, p3, _, _, rfl, SqL.of (s3 _ _ hL), SqL.of upd_same, fun D hD => ?_⟩
      refine lc_it (walk_zip (K := K) (a := a) (b := p3) minE) (fun i H' => Same _ H' ∧ H' D = some (.lst ((((z0 :: zr).zip (zr ++ [b * z0])).take i).map fun p => V.bl (decide (p.2 % p.1 = 0))))) ⟨same_new hD, upd_same⟩ (fun i H' _ ⟨s5, _⟩ => ⟨SqL.of (s5 _ _ (s3 _ _ hL)), SqL.of (xs := (zr ++ [b * z0]).map V.int) (s5 _ _ (by rw [← eg]; exact upd_same))⟩) ?_ ?_
      · rintro i x H' H2 hi ⟨s5, hD2⟩ ⟨Tt, x1, y1, rfl, hT, rfl, hx, hy⟩
        obtain ⟨zi, hzi, rfl⟩ := map_get hx
        obtain ⟨gi, hgi, rfl⟩ := map_get hy
        obtain ⟨c1, c2⟩ := hz zi (List.mem_of_getElem? hzi)
        refine ⟨Tt, _, rfl, SqT.of upd_same, rfl, _, _, rfl, _, _, rfl, rfl, rfl, yes_of ?_⟩
        refine ⟨_, rfl, _, rfl, _, _, rfl, rfl, (by show 0 < zi; omega), rfl, ?_⟩
        have nDT : D ≠ Tt := ne_of_none hD2 hT
        have hpair : ((z0 :: zr).zip (zr ++ [b * z0]))[i]? = some (zi, gi) := by
          rw [List.getElem?_zip_eq_some]
          exact ⟨hzi, hgi⟩
        refine ⟨_, by rw [upd_ne nDT]; exact hD2, ?_, fun c o e => ?_, ?_⟩
        · rw [List.length_map, List.length_take]
          rw [lz] at hi
          exact small1000 (by omega)
        · have ncD : c ≠ D := ne_of_none e hD
          rw [upd_ne ncD, upd_ne (ne_of_none (s5 _ _ e) hT)]
          exact s5 _ _ e
        · rw [upd_same, List.take_add_one, hpair, List.map_append]
          have ed : decide (V.int (gi % zi) = V.int 0) = decide (gi % zi = 0) := by
            by_cases c : gi % zi = 0
            · rw [c]
              simp
            · rw [decide_eq_false c, decide_eq_false (fun z => c (V.int.inj z))]
          show some (HO.lst (_ ++ [V.bl (decide (V.int (gi % zi) = V.int 0))])) = _
          rw [ed]
          rfl
      · rintro H' ⟨s5, hD2⟩
        have lp : ((z0 :: zr).zip (zr ++ [b * z0])).length = ((z0 :: zr).map V.int).length := by simp
        rw [← lp, List.take_length] at hD2
        refine ⟨D, ((z0 :: zr).zip (zr ++ [b * z0])).map fun p => decide (p.2 % p.1 = 0), rfl, SqL.of (by rw [hD2, List.map_map]; rfl), ?_⟩
        exact q _ (s3.trans s5)
end
end Ax

namespace Ax
open PySem L2
/-! ### a rule's object -/
def rf1 (b : Int) : List (Str × V) := putF "_base" (.int b) []
def rf2 (b : Int) (k : Kd) : List (Str × V) := putF "_kind" (.str k.s) (rf1 b)
def rf3 (b : Int) (k : Kd) (lm : Addr) : List (Str × V) := putF "_mantissas" (.ref lm) (rf2 b k)
def rf4 (b : Int) (k : Kd) (lm : Addr) (most : Int) : List (Str × V) := putF "_most" (.int most) (rf3 b k lm)
def rf5 (b : Int) (k : Kd) (lm : Addr) (most : Int) (dv : Bool) : List (Str × V) := putF "_dividing" (.bl dv) (rf4 b k lm most)
def rf (b : Int) (k : Kd) (lm : Addr) (most : Int) (dv : Bool) (lr : Addr) : List (Str × V) := putF "_rungs" (.ref lr) (rf5 b k lm most dv)
section
variable (b : Int) (k : Kd) (lm lr : Addr) (most : Int) (dv : Bool)
theorem rf_lookup (f : Str) : (rf b k lm most dv lr).lookup f = if f = "_rungs" then some (.ref lr) else if f = "_dividing" then some (.bl dv) else if f = "_most" then some (.int most) else if f = "_mantissas" then some (.ref lm) else if f = "_kind" then some (.str k.s) else if f = "_base" then some (.int b) else none := by
  unfold rf rf5 rf4 rf3 rf2 rf1
  simp only [lookup_putF, List.lookup_nil]
theorem rf_rungs : (rf b k lm most dv lr).lookup ("_rungs" : Str) = some (.ref lr) := by rw [rf_lookup, if_pos rfl]
theorem rf_dividing : (rf b k lm most dv lr).lookup ("_dividing" : Str) = some (.bl dv) := by rw [rf_lookup, if_neg (by decide +kernel), if_pos rfl]
theorem rf_most : (rf b k lm most dv lr).lookup ("_most" : Str) = some (.int most) := by rw [rf_lookup, if_neg (by decide +kernel), if_neg (by decide +kernel), if_pos rfl]
theorem rf_mantissas : (rf b k lm most dv lr).lookup ("_mantissas" : Str) = some (.ref lm) := by rw [rf_lookup, if_neg (by decide +kernel), if_neg (by decide +kernel), if_neg (by decide +kernel), if_pos rfl]
theorem rf_kind : (rf b k lm most dv lr).lookup ("_kind" : Str) = some (.str k.s) := by rw [rf_lookup, if_neg (by decide +kernel), if_neg (by decide +kernel), if_neg (by decide +kernel), if_neg (by decide +kernel), if_pos rfl]
theorem rf_base : (rf b k lm most dv lr).lookup ("_base" : Str) = some (.int b) := by rw [rf_lookup, if_neg (by decide +kernel), if_neg (by decide +kernel), if_neg (by decide +kernel), if_neg (by decide +kernel), if_neg (by decide +kernel), if_pos rfl]
end
/-- a rule's own parts: its dict, its lists, what they hold -/
structure RD where
  dx : Addr
  lm : Addr
  lr : Addr
  ms' : List Int
  rs : List Int
  ts : List Addr
  top : Nat
  dv : Bool
structure RX (C : Addr) (H : Hp) (r : Addr) (b : Int) (k : Kd) (ms : List Int) (most : Int) (D : RD) : Prop where
  at_ : H r = some (.ins C D.dx (rf b k D.lm most D.dv D.lr))
  lm_ : H D.lm = some (.lst (D.ms'.map V.int))
  pm : D.ms'.Perm ms
  ps : D.ms'.Pairwise (· ≤ ·)
  lr_ : H D.lr = some (.lst (D.ts.map V.ref))
  tup : TupsAt H b D.rs D.ts
  pr : D.rs.Perm ms
  top_ : ∀ m ∈ ms, lg b m ≤ D.top
  st : D.rs.Pairwise (fun m n => keyOf b D.top m < keyOf b D.top n)
  dv_ : D.dv = dvZ b (D.rs.map (keyOf b D.top))
theorem RX.same {C : Addr} {H H' : Hp} {r : Addr} {b : Int} {k : Kd} {ms : List Int} {most : Int} {D : RD} (x : RX C H r b k ms most D) (s : Same H H') : RX C H' r b k ms most D :=
  ⟨s _ _ x.at_, s _ _ x.lm_, x.pm, x.ps, s _ _ x.lr_, x.tup.same fun c xs e => s _ _ e, x.pr, x.top_, x.st, x.dv_⟩
/-- a list apart may change -/
theorem RX.but {C : Addr} {H H' : Hp} {r p : Addr} {b : Int} {k : Kd} {ms : List Int} {most : Int} {D : RD} {xs : List V} (x : RX C H r b k ms most D) (hp : H p = some (.lst xs)) (n1 : D.lm ≠ p) (n2 : D.lr ≠ p) (s : ∀ c o, c ≠ p → H c = some o → H' c = some o) : RX C H' r b k ms most D :=
  ⟨s _ _ (ne_of x.at_ hp (by intro z; cases z)) x.at_, s _ _ n1 x.lm_, x.pm, x.ps, s _ _ n2 x.lr_, x.tup.same fun c xs e => s _ _ (ne_of e hp (by intro z; cases z)) e, x.pr, x.top_, x.st, x.dv_⟩
section
variable {P : Program} {w : World} {K : PySem.W.Frag} {mg : Str → Option Value} {base : Heap} {A : Adr}
/-- between the stores of __init__ -/
structure Mid (C : Addr) (H Hc : Hp) (r dx a lr : Addr) (b : Int) (ms rs : List Int) (ts : List Addr) (fs : List (Str × V)) : Prop where
  at_ : Hc r = some (.ins C dx fs)
  kp : ∀ c o, c ≠ r → H c = some o → Hc c = some o
  la : Hc a = some (.lst (ms.map V.int))
  ll : Hc lr = some (.lst (ts.map V.ref))
  tp : TupsAt Hc b rs ts
theorem Mid.same {C : Addr} {H Hc Hn : Hp} {r dx a lr : Addr} {b : Int} {ms rs : List Int} {ts : List Addr} {fs : List (Str × V)} (m : Mid C H Hc r dx a lr b ms rs ts fs) (s : Same Hc Hn) : Mid C H Hn r dx a lr b ms rs ts fs :=
  ⟨s _ _ m.at_, fun c o h e => s _ _ (m.kp c o h e), s _ _ m.la, s _ _ m.ll, m.tp.same fun c xs e => s _ _ e⟩
theorem Mid.fld {C : Addr} {H Hc : Hp} {r dx a lr : Addr} {b : Int} {ms rs : List Int} {ts : List Addr} {fs : List (Str × V)} (m : Mid C H Hc r dx a lr b ms rs ts fs) (gs : List (Str × V)) : Mid C H (upd Hc r (.ins C dx gs)) r dx a lr b ms rs ts gs := by
  have n1 : a ≠ r := ne_of m.la m.at_ (by intro z; cases z)
  have n2 : lr ≠ r := ne_of m.ll m.at_ (by intro z; cases z)
  refine ⟨upd_same, fun c o h e => by rw [upd_ne h]; exact m.kp c o h e, by rw [upd_ne n1]; exact m.la, by rw [upd_ne n2]; exact m.ll, m.tp.same fun c xs e => ?_⟩
  rw [upd_ne (ne_of e m.at_ (by intro z; cases z))]
  exact e
theorem Mid.fresh {C : Addr} {H Hc : Hp} {r dx a lr : Addr} {b : Int} {ms rs : List Int} {ts : List Addr} {fs : List (Str × V)} (m : Mid C H Hc r dx a lr b ms rs ts fs) {l : Addr} (h : Hc l = none) : H l = none := by
  have n := (ne_of_none m.at_ h).symm
  cases e : H l with
  | none => rfl
  | some o =>
    rw [m.kp l o n e] at h
    cases h
theorem fewF {fs : List (Str × V)} (h : fs.length ≤ 6) : fs.length < 1000 := by omega
theorem l1 (b : Int) : (rf1 b).length ≤ 1 := length_putF _ _ _
theorem l2 (b : Int) (k : Kd) : (rf2 b k).length ≤ 2 := Nat.le_trans (length_putF _ _ _) (Nat.succ_le_succ (l1 b))
theorem l3 (b : Int) (k : Kd) (lm : Addr) : (rf3 b k lm).length ≤ 3 := Nat.le_trans (length_putF _ _ _) (Nat.succ_le_succ (l2 b k))
theorem l4 (b : Int) (k : Kd) (lm : Addr) (most : Int) : (rf4 b k lm most).length ≤ 4 := Nat.le_trans (length_putF _ _ _) (Nat.succ_le_succ (l3 b k lm))
theorem l5 (b : Int) (k : Kd) (lm : Addr) (most : Int) (dv : Bool) : (rf5 b k lm most dv).length ≤ 5 := Nat.le_trans (length_putF _ _ _) (Nat.succ_le_succ (l4 b k lm most))
def spInit (A : Adr) : Sp := fun vs H Q _ => ∃ (r dx a : Addr) (b : Int) (k : Kd) (ms : List Int) (most : Int), vs = [.ref r, .int b, .str k.s, .ref a, .int most] ∧ H r = some (.ins A.c_Rule dx []) ∧ H a = some (.lst (ms.map V.int)) ∧ RArgs b k ms most ∧
  ∀ (H' : Hp) (D : RD), (∀ c o, c ≠ r → H c = some o → H' c = some o) → RX A.c_Rule H' r b k ms most D → H D.lm = none → H D.lr = none → Q .non H'
abbrev nm_Rule_init : List Str := ["self", "base", "kind", "mantissas", "most", "rungs"]
theorem sc_Rule_init : FnScope ["self", "base", "kind", "mantissas", "most", "rungs"] ["self", "base", "kind", "mantissas", "most"] (defScope s_Rule_init) := ⟨rfl, rfl, rfl, by decide +kernel, rfl, by decide +kernel, by decide +kernel⟩
theorem ok_init (T : Txt K mg A w) : FnOk P w K mg base CX0 4 A.a_Rule_init A.d_Rule_init ["self", "base", "kind", "mantissas", "most"] (spInit A) := by
  have G_arguments_fit : FnOk P w K mg base CX0 3 A.a_arguments_fit A.d_arguments_fit ["base", "kind", "mantissas", "most"] (spAF K) := ok_af T
  have G_rungs_of : FnOk P w K mg base CX0 2 A.a_rungs_of A.d_rungs_of ["base", "mantissas"] spRungs := ok_rungs T
  have G_is_dividing : FnOk P w K mg base CX0 2 A.a_is_dividing A.d_is_dividing ["base", "rungs"] spDiv := ok_div T
  refine T.F_Rule_init.ok sc_Rule_init (fun vs H Q E h => ?_) (fun cdv A0 outer s H vs Q E hr h => ?_)
  · obtain ⟨r, dx, a, b, k, ms, most, rfl, _⟩ := h
    rfl
  · obtain ⟨r, dx, a, b, k, ms, most, rfl, hR, hL, R, q⟩ := h
    refine ⟨_, (pss_cons (ps_if (pt_not (pt_val (pe_call G_arguments_fit (hr.mono (by decide)) (by rfl) T.m_arguments_fit T.F_arguments_fit.kp T.B_arguments_fit .nil pass0 (pa_cons (pv 1) (pa_cons (pv 2) (pa_cons (pv 3) (pa_cons (pv 4) pa_nil))))))) (pss_one ps_never) pss_nil)
  (pss_cons (ps_set (i := 5) sc_Rule_init.nd rfl (Or.inl rfl) (pe_call G_rungs_of (hr.mono (by decide)) (by rfl) T.m_rungs_of T.F_rungs_of.kp T.B_rungs_of .nil pass0 (pa_cons (pv 1) (pa_cons (pv 3) pa_nil))))
  (pss_cons (ps_fld (pv 0) (pv 1) rfl)
  (pss_cons (ps_fld (pv 0) (pv 2) rfl)
  (pss_cons (ps_fld (pv 0) (pe_callBK cr_sortInt (by rfl) T.n_sorted (by decide +kernel) (pa_cons (pv 3) pa_nil) (pk_cons (pe_bltn (v := .ty "int") (by rfl) T.n_int (by decide +kernel) rfl) pk_nil)) rfl)
  (pss_cons (ps_fld (pv 0) (pv 4) rfl)
  (pss_cons (ps_fld (pv 0) (pe_call G_is_dividing (hr.mono (by decide)) (by rfl) T.m_is_dividing T.F_is_dividing.kp T.B_is_dividing .nil pass0 (pa_cons (pv 1) (pa_cons (pv 5) pa_nil))) rfl)
  (pss_one (ps_fld (pv 0) (pv 5) rfl))))))))), ?_⟩
    refine ⟨_, rfl, _, rfl, _, rfl, _, rfl, b, k, ms, a, most, rfl, hL, R, fun H1 s1 => ?_⟩
    refine ⟨_, rfl, iteF ?_⟩
    refine ⟨_, rfl, _, rfl, k, b, most, ms, a, rfl, s1 _ _ hL, R, fun G0 lr rs ts M s2 hlr hM hmax hD hE pr st => ?_⟩
    have m0 : Mid A.c_Rule H G0 r dx a lr b ms rs ts [] :=
      ⟨s2 _ _ (s1 _ _ hR), fun c o _ e => s2 _ _ (s1 _ _ e), s2 _ _ (s1 _ _ hL), hD, hE⟩
    -- self._base = base; self._kind = kind
    refine ⟨_, rfl, _, rfl, r, A.c_Rule, dx, [], rfl, m0.at_, T.cl, T.na_base, (by decide), ?_⟩
    have m1 := m0.fld (rf1 b)
    refine ⟨_, rfl, _, rfl, r, A.c_Rule, dx, rf1 b, rfl, m1.at_, T.cl, T.na_kind, fewF (Nat.le_trans (l1 b) (by decide)), ?_⟩
    have m2 := m1.fld (rf2 b k)
    -- self._mantissas = sorted(mantissas, key=int)
    refine ⟨_, rfl, a, ms, rfl, rfl, SqL.of m2.la, (by have := R.le; omega), fun ms' lm hp3 hp4 hlm => ?_⟩
    have m2' := m2.same (same_new (o := .lst (ms'.map V.int)) hlm)
    have lm2 := upd_same (H := upd (upd G0 r (.ins A.c_Rule dx (rf1 b))) r (.ins A.c_Rule dx (rf2 b k))) (a := lm) (o := .lst (ms'.map V.int))
    refine ⟨_, rfl, r, A.c_Rule, dx, rf2 b k, rfl, m2'.at_, T.cl, T.na_mantissas, fewF (Nat.le_trans (l2 b k) (by decide)), ?_⟩
    have m3 := m2'.fld (rf3 b k lm)
    have nlr : lm ≠ r := ne_of lm2 m2'.at_ (by intro z; cases z)
    have lm3 := (upd_ne (o := .ins A.c_Rule dx (rf3 b k lm)) nlr).trans lm2
    -- self._most = most
    refine ⟨_, rfl, _, rfl, r, A.c_Rule, dx, rf3 b k lm, rfl, m3.at_, T.cl, T.na_most, fewF (Nat.le_trans (l3 b k lm) (by decide)), ?_⟩
    have m4 := m3.fld (rf4 b k lm most)
    have lm4 := (upd_ne (o := .ins A.c_Rule dx (rf4 b k lm most)) nlr).trans lm3
    -- self._dividing = _is_dividing(base, rungs)
    have lgle : ∀ m ∈ ms, lg b m ≤ lg b M := fun m hm => lg_mono R.b2 (R.all m hm).1 (hmax m hm)
    have rlen : rs.length < 60 := by rw [pr.length_eq]; exact R.le
    refine ⟨_, rfl, _, rfl, b, M, rs, ts, lr, rfl, m4.ll, m4.tp, R.b2, R.bB, pr.mem_iff.mpr hM, rlen, fun m hm => ⟨(R.all m (pr.mem_iff.mp hm)).1, (R.all m (pr.mem_iff.mp hm)).2.1, hmax m (pr.mem_iff.mp hm)⟩, fun H5 s5 => ?_⟩
    have m4' := m4.same s5
    have lm4' := s5 _ _ lm4
    generalize hdv : dvZ b (rs.map (keyOf b (lg b M))) = dv
    refine ⟨_, rfl, r, A.c_Rule, dx, rf4 b k lm most, rfl, m4'.at_, T.cl, T.na_dividing, fewF (Nat.le_trans (l4 b k lm most) (by decide)), ?_⟩
    have m5 := m4'.fld (rf5 b k lm most dv)
    have lm5 := (upd_ne (o := .ins A.c_Rule dx (rf5 b k lm most dv)) nlr).trans lm4'
    -- self._rungs = rungs
    refine ⟨_, rfl, _, rfl, r, A.c_Rule, dx, rf5 b k lm most dv, rfl, m5.at_, T.cl, T.na_rungs, fewF (Nat.le_trans (l5 b k lm most dv) (by decide)), ?_⟩
    have m6 := m5.fld (rf b k lm most dv lr)
    refine q _ ⟨dx, lm, lr, ms', rs, ts, lg b M, dv⟩ m6.kp ⟨m6.at_, ?_, hp3, hp4, m6.ll, m6.tp, pr, lgle, st, hdv.symm⟩ (m2.fresh hlm) (s1.free hlr)
    rw [upd_ne nlr]
    exact lm5
end
end Ax

namespace Ax
open PySem L2
section
variable {P : Program} {w : World} {K : PySem.W.Frag} {mg : Str → Option Value} {base : Heap} {A : Adr}
theorem RX.rungs {C : Addr} {H : Hp} {r : Addr} {b : Int} {k : Kd} {ms : List Int} {most : Int} {D : RD} (x : RX C H r b k ms most D) (R : RArgs b k ms most) : Rungs b D.rs D.top :=
  ⟨R.b2, by rw [x.pr.length_eq]; exact List.length_pos_iff.mpr R.ne, fun m hm => (R.all m (x.pr.mem_iff.mp hm)).1, fun m hm => x.top_ m (x.pr.mem_iff.mp hm), x.st⟩
theorem RX.len {C : Addr} {H : Hp} {r : Addr} {b : Int} {k : Kd} {ms : List Int} {most : Int} {D : RD} (x : RX C H r b k ms most D) : (D.ts.map V.ref).length = D.rs.length := by
  rw [List.length_map, x.tup.len]
/-! ### step_at -/
def spAt (A : Adr) : Sp := fun vs H Q _ => ∃ (r : Addr) (i : Int) (b : Int) (k : Kd) (ms : List Int) (most : Int) (D : RD), vs = [.ref D.lr, .int i] ∧ RX A.c_Rule H r b k ms most D ∧ RArgs b k ms most ∧
  ∀ (H' : Hp) (q : Addr), Same H H' → H q = none → H' q = some (.tup [.int (sAt b D.rs i).1, .int (sAt b D.rs i).2]) → Q (.ref q) H'
abbrev nm_step_at : List Str := ["rungs", "number", "power", "place", "mantissa", "shift"]
theorem sc_step_at : FnScope ["rungs", "number", "power", "place", "mantissa", "shift"] ["rungs", "number"] (defScope s_step_at) := ⟨rfl, rfl, rfl, by decide +kernel, rfl, by decide +kernel, by decide +kernel⟩
theorem ok_step_at (T : Txt K mg A w) : FnOk P w K mg base CX0 1 A.a_step_at A.d_step_at ["rungs", "number"] (spAt A) := by
  refine T.F_step_at.ok sc_step_at (fun vs H Q E h => ?_) (fun cdv A0 outer s H vs Q E hr h => ?_)
  · obtain ⟨r, i, b, k, ms, most, D, rfl, _⟩ := h
    rfl
  · obtain ⟨r, i, b, k, ms, most, D, rfl, x, R, q⟩ := h
    have X := x.rungs R
    have hn : 0 < (D.rs.length : Int) := by have := X.ne; omega
    have hl : ((D.ts.map V.ref).length : Int) = D.rs.length := by rw [x.len]
    have lrs : D.rs.length < 60 := by rw [x.pr.length_eq]; exact R.le
    refine ⟨_, (pss_cons (ps_asg (pe_callB call_divmodW (by rfl) T.n_divmod (by decide +kernel) (pa_cons (pv 1) (pa_cons (pe_callB call_len_seq (by rfl) T.n_len (by decide +kernel) (pa_cons (pv 0) pa_nil)) pa_nil))) (pg_tup (by rfl) (pgs_cons (pg_name (i := 2) sc_step_at.nd rfl (Or.inl rfl)) (pgs_cons (pg_name (i := 3) sc_step_at.nd rfl (Or.inl rfl)) pgs_nil))))
  (pss_cons (ps_asg (pe_ix ix_list (pv 0) (pv 3) (fun _ _ => rfl)) (pg_tup (by rfl) (pgs_cons (pg_name (i := 4) sc_step_at.nd rfl (Or.inl rfl)) (pgs_cons (pg_name (i := 5) sc_step_at.nd rfl (Or.inl rfl)) pgs_nil))))
  (pss_one (ps_ret (pe_tup (pa_cons (pv 4) (pa_cons (pe_op op_add (pv 2) (pv 5)) pa_nil))))))), ?_⟩
    refine ⟨_, rfl, _, rfl, D.lr, _, rfl, .inl (SqL.of x.lr_), i, _, rfl, ⟨by omega, PyProof.noPylong_of_log2 ?_⟩, fun q1 hq1 => ?_⟩
    · rw [hl, Int.natAbs_natCast]
      exact Nat.lt_of_le_of_lt (Nat.log2_le_self _) (by omega)
    refine ⟨q1, _, rfl, SqT.of upd_same, rfl, _, _, rfl, _, _, rfl, rfl, ?_⟩
    have s1 : Same H (upd H q1 (.tup [.int (i / ((D.ts.map V.ref).length : Nat)), .int (i % ((D.ts.map V.ref).length : Nat))])) := same_new hq1
    have x1 := x.same s1
    have f1 := Int.emod_nonneg i (show (D.rs.length : Int) ≠ 0 by omega)
    have f2 := Int.emod_lt_of_pos i hn
    have lt : (i % D.rs.length).toNat < D.rs.length := by omega
    have eg : D.rs[(i % D.rs.length).toNat]? = some (sAt b D.rs i).1 := by
      show _ = some (D.rs.getD (i % D.rs.length).toNat 1)
      rw [List.getD_eq_getElem?_getD, List.getElem?_eq_getElem lt]
      rfl
    obtain ⟨t, ht, htup⟩ := x1.tup.get eg
    have hat : atI (D.ts.map V.ref) (i % ((D.ts.map V.ref).length : Nat)) = some (.ref t) := by
      refine at_of (j := (i % D.rs.length).toNat) (by rw [hl]; omega) ?_
      rw [List.getElem?_map, ht]
      rfl
    refine ⟨_, rfl, _, rfl, D.lr, _, _, _, rfl, rfl, SqL.of x1.lr_, hat, ?_⟩
    refine ⟨t, _, rfl, SqT.of htup, rfl, _, _, rfl, _, _, rfl, rfl, ?_⟩
    refine ⟨_, rfl, _, rfl, _, rfl, _, _, rfl, rfl, (by show 2 ≤ sizeLine; decide), fun q2 hq2 => ?_⟩
    refine q _ q2 (s1.trans (same_new hq2)) (s1.free hq2) ?_
    rw [upd_same, hl]
    rfl
/-! ### low_rung -/
def spLow (A : Adr) : Sp := fun vs H Q _ => ∃ (r : Addr) (l h d : Int) (b : Int) (k : Kd) (ms : List Int) (most : Int) (D : RD), vs = [.int b, .ref D.lr, .int most, .int (h - l), .int d] ∧ RX A.c_Rule H r b k ms most D ∧ RArgs b k ms most ∧ l < h ∧ h - l < 2 ^ 1000 ∧ 0 ≤ d ∧ d < 2 ^ 20 ∧
  ∀ H' : Hp, Same H H' → Q (.int (lowQ b most l h d * D.rs.length)) H'
abbrev nm_low_rung : List Str := ["base", "rungs", "most", "length", "digits", "spare"]
theorem sc_low_rung : FnScope ["base", "rungs", "most", "length", "digits", "spare"] ["base", "rungs", "most", "length", "digits"] (defScope s_low_rung) := ⟨rfl, rfl, rfl, by decide +kernel, rfl, by decide +kernel, by decide +kernel⟩
theorem ok_low (T : Txt K mg A w) : FnOk P w K mg base CX0 2 A.a_low_rung A.d_low_rung ["base", "rungs", "most", "length", "digits"] (spLow A) := by
  have G_log_of : FnOk P w K mg base CX0 1 A.a_log_of A.d_log_of ["base", "number"] spLog := ok_log_of T
  refine T.F_low_rung.ok sc_low_rung (fun vs H Q E h => ?_) (fun cdv A0 outer s H vs Q E hr h => ?_)
  · obtain ⟨r, l, h, d, b, k, ms, most, D, rfl, _⟩ := h
    rfl
  · obtain ⟨r, l, h, d, b, k, ms, most, D, rfl, x, R, hlt, hB, hd, hdB, q⟩ := h
    have X := x.rungs R
    have lrs : D.rs.length < 60 := by rw [x.pr.length_eq]; exact R.le
    refine ⟨_, (pss_cons (ps_set (i := 5) sc_low_rung.nd rfl (Or.inl rfl) (pe_op op_add (pe_call G_log_of (hr.mono (by decide)) (by rfl) T.m_log_of T.F_log_of.kp T.B_log_of .nil pass0 (pa_cons (pv 0) (pa_cons (pe_op op_add (pv 2) pe_int) pa_nil))) pe_int))
  (pss_one (ps_ret (pe_op op_mulW (pe_op op_sub (pe_op op_sub (pe_call G_log_of (hr.mono (by decide)) (by rfl) T.m_log_of T.F_log_of.kp T.B_log_of .nil pass0 (pa_cons (pv 0) (pa_cons (pv 3) pa_nil))) (pv 4)) (pv 5)) (pe_callB call_len_seq (by rfl) T.n_len (by decide +kernel) (pa_cons (pv 1) pa_nil)))))), ?_⟩
    have mB := R.mB
    have m1 := R.m1
    have m61 : most + 1 < 2 ^ 61 := by
      have : (2 : Int) ^ 60 + 1 ≤ 2 ^ 61 := by decide
      omega
    refine ⟨_, rfl, _, rfl, _, _, rfl, rfl,
      b, most + 1, rfl, R.b2, lt_big R.bB (by decide), by omega, lt_big (n := 61) m61 (by decide), fun E1 H1 s1 g1 g2 => ?_⟩
    obtain rfl := lg_eq R.b2 (by omega) g1 g2
    refine ⟨_, _, rfl, rfl, ?_⟩
    have x1 := x.same s1
    refine ⟨_, rfl, _, rfl, b, h - l, rfl, R.b2, lt_big R.bB (by decide), by omega, lt_big (n := 1000) hB (by decide), fun E2 H2 s2 g3 g4 => ?_⟩
    obtain rfl := lg_eq R.b2 (by omega) g3 g4
    have x2 := x1.same s2
    refine ⟨_, rfl, _, _, rfl, rfl, _, rfl, _, _, rfl, rfl, ?_⟩
    refine ⟨_, rfl, D.lr, _, rfl, .inl (SqL.of x2.lr_), _, _, rfl, rfl, ?_, ?_⟩
    · have e1 := exp_lt R.b2 (Int.lt_of_le_of_lt g3 hB)
      have e2 := exp_lt (n := 61) R.b2 (Int.lt_of_le_of_lt g1 m61)
      refine wide_mul (a := 30) (b := 30) ?_ ?_ (by decide) (by decide) (by decide)
      · have : (2 : Nat) ^ 30 = 1073741824 := by decide
        have : (2 : Int) ^ 20 = 1048576 := by decide
        omega
      · rw [x.len, Int.natAbs_natCast]
        have : (2 : Nat) ^ 30 = 1073741824 := by decide
        omega
    · have e := q H2 (s1.trans s2)
      rw [x.len]
      exact e
end
end Ax

namespace Ax
open PySem L2
section
variable {P : Program} {w : World} {K : PySem.W.Frag} {mg : Str → Option Value} {base : Heap} {A : Adr}
/-! ### _fits -/
def spFits (A : Adr) : Sp := fun vs H Q _ => ∃ (r t sp : Addr) (m p l h d : Int) (b : Int) (k : Kd) (ms : List Int) (most : Int) (D : RD), vs = [.ref r, .ref t, .ref sp] ∧ RX A.c_Rule H r b k ms most D ∧ RArgs b k ms most ∧
  H t = some (.tup [.int m, .int p]) ∧ H sp = some (.tup [.int l, .int h, .int d]) ∧ 1 ≤ m ∧ m < 2 ^ 64 ∧ b ^ (p + d).natAbs < 2 ^ 2000 ∧ l.natAbs < 2 ^ 1500 ∧ h.natAbs < 2 ^ 1500 ∧
  ∀ H' : Hp, Same H H' → Q (.bl (decide (FitE b k most l h m (p + d)))) H'
abbrev nm_Rule__fits : List Str := ["self", "step", "span", "low", "high", "digits", "factor", "size"]
theorem sc_Rule__fits : FnScope ["self", "step", "span", "low", "high", "digits", "factor", "size"] ["self", "step", "span"] (defScope s_Rule__fits) := ⟨rfl, rfl, rfl, by decide +kernel, rfl, by decide +kernel, by decide +kernel⟩
theorem ok_fits (T : Txt K mg A w) : FnOk P w K mg base CX0 3 A.a_Rule__fits A.d_Rule__fits ["self", "step", "span"] (spFits A) := by
  have G_measure : FnOk P w K mg base CX0 2 A.a_measure A.d_measure ["base", "step", "digits"] (spMeasure K) := ok_measure T
  have G_reach : FnOk P w K mg base CX0 1 A.a_reach A.d_reach ["kind", "most", "low", "size"] spReach := ok_reach T
  refine T.F_Rule__fits.ok sc_Rule__fits (fun vs H Q E h => ?_) (fun cdv A0 outer s H vs Q E hr h => ?_)
  · obtain ⟨r, t, sp, m, p, l, h, d, b, k, ms, most, D, rfl, _⟩ := h
    rfl
  · obtain ⟨r, t, sp, m, p, l, h, d, b, k, ms, most, D, rfl, x, R, ht, hsp, m1, mB, eB, lB, hB, q⟩ := h
    have b1 : 1 ≤ b := by have := R.b2; omega
    obtain ⟨f1, f2⟩ := fac_bound b1 eB
    obtain ⟨z1, z2⟩ := siz_bound b1 m1 mB eB
    have fN : (facZ b (p + d)).natAbs < 2 ^ 2000 := abs_lt_pow (by omega) f2
    have lf : (l * facZ b (p + d)).natAbs < 2 ^ 3500 := wide_lt lB fN
    have lf2 : (((l * facZ b (p + d)).natAbs : Nat) : Int) < 2 ^ 3500 := by
      have := Int.ofNat_lt.mpr lf
      rwa [Int.natCast_pow] at this
    have lf3 : (2 : Int) ^ 3500 < BIG := pow_lt' (b := 2) (by decide) (by decide)
    refine ⟨_, (pss_cons (ps_asg (pv 2) (pg_tup (by rfl) (pgs_cons (pg_name (i := 3) sc_Rule__fits.nd rfl (Or.inl rfl)) (pgs_cons (pg_name (i := 4) sc_Rule__fits.nd rfl (Or.inl rfl)) (pgs_cons (pg_name (i := 5) sc_Rule__fits.nd rfl (Or.inl rfl)) pgs_nil)))))
  (pss_cons (ps_asg (pe_call G_measure (hr.mono (by decide)) (by rfl) T.m_measure T.F_measure.kp T.B_measure .nil pass0 (pa_cons (pe_fld (pv 0) rfl) (pa_cons (pv 1) (pa_cons (pv 5) pa_nil)))) (pg_tup (by rfl) (pgs_cons (pg_name (i := 6) sc_Rule__fits.nd rfl (Or.inl rfl)) (pgs_cons (pg_name (i := 7) sc_Rule__fits.nd rfl (Or.inl rfl)) pgs_nil))))
  (pss_one (ps_ret (pe_cmpR op_le (pe_op op_mulW (pv 4) (pv 6)) (pe_call G_reach (hr.mono (by decide)) (by rfl) T.m_reach T.F_reach.kp T.B_reach .nil pass0 (pa_cons (pe_fld (pv 0) rfl) (pa_cons (pe_fld (pv 0) rfl) (pa_cons (pe_op op_mulW (pv 3) (pv 6)) (pa_cons (pv 7) pa_nil))))) (nomark _)))))), ?_⟩
    refine ⟨_, rfl, sp, _, rfl, SqT.of hsp, rfl, _, _, rfl, _, _, rfl, _, _, rfl, rfl, ?_⟩
    refine ⟨_, rfl, r, A.c_Rule, D.dx, _, _, rfl, x.at_, T.cl, T.na_base, rf_base _ _ _ _ _ _, _, rfl, _, rfl, b, m, p, d, t, rfl, SqT.of ht, b1, lt_big R.bB (by decide), lt_big (n := 2000) eB (by decide), by omega, lt_big mB (by decide), ?_⟩
    rintro H1 q1 s1 hq1 rfl
    refine ⟨q1, _, rfl, SqT.of upd_same, rfl, _, _, rfl, _, _, rfl, rfl, ?_⟩
    have x1 := x.same s1
    refine ⟨_, rfl, _, rfl, _, _, rfl, rfl, wide_mul hB fN (by decide) (by decide) (by decide), ?_⟩
    refine ⟨_, rfl, r, A.c_Rule, D.dx, _, _, rfl, x1.at_, T.cl, T.na_kind, rf_kind _ _ _ _ _ _, _, rfl, r, A.c_Rule, D.dx, _, _, rfl, x1.at_, T.cl, T.na_most, rf_most _ _ _ _ _ _, _, rfl, _, rfl, _, _, rfl, rfl, wide_mul lB fN (by decide) (by decide) (by decide), _, rfl, ?_⟩
    refine ⟨k, most, l * facZ b (p + d), sizZ b m (p + d), rfl, z1, lt_big (n := 2064) z2 (by decide), by omega, by omega, by have := R.m1; omega, lt_big R.mB (by decide), ?_⟩
    exact ⟨_, _, rfl, rfl, q _ s1⟩
/-! ### step -/
/-- the ranges that are asked -/
structure Rng (l h d : Int) : Prop where
  lt : l < h
  len : h - l < 2 ^ 1000
  lo : l.natAbs < 2 ^ 1500
  hi : h.natAbs < 2 ^ 1500
  d0 : 0 ≤ d
  dB : d < 2 ^ 20
def spStep (A : Adr) : Sp := fun vs H Q _ => ∃ (r sp : Addr) (l h d : Int) (b : Int) (k : Kd) (ms : List Int) (most : Int) (D : RD), vs = [.ref r, .ref sp] ∧ RX A.c_Rule H r b k ms most D ∧ RArgs b k ms most ∧
  H sp = some (.tup [.int l, .int h, .int d]) ∧ Rng l h d ∧
  ∀ (H' : Hp) (q : Addr) (m p : Int), Same H H' → H q = none → H' q = some (.tup [.int m, .int p]) → LeastFit b ms k most l h d m p → b ^ (p + d).natAbs < 2 ^ 2000 → (lg b (h - l) : Int) - (lg b (most + 1) + 1) ≤ p + d + lg b m → Q (.ref q) H'
abbrev nm_Rule_step : List Str := ["self", "span", "low", "high", "digits", "number"]
theorem sc_Rule_step : FnScope ["self", "span", "low", "high", "digits", "number"] ["self", "span"] (defScope s_Rule_step) := ⟨rfl, rfl, rfl, by decide +kernel, rfl, by decide +kernel, by decide +kernel⟩
theorem ok_step (T : Txt K mg A w) : FnOk P w K mg base CX0 4 A.a_Rule_step A.d_Rule_step ["self", "span"] (spStep A) := by
  have G_is_span : FnOk P w K mg base CX0 2 A.a_is_span A.d_is_span ["value"] spSpan := ok_is_span T
  have G_low_rung : FnOk P w K mg base CX0 2 A.a_low_rung A.d_low_rung ["base", "rungs", "most", "length", "digits"] (spLow A) := ok_low T
  have G_step_at : FnOk P w K mg base CX0 1 A.a_step_at A.d_step_at ["rungs", "number"] (spAt A) := ok_step_at T
  have G_Rule__fits : FnOk P w K mg base CX0 3 A.a_Rule__fits A.d_Rule__fits ["self", "step", "span"] (spFits A) := ok_fits T
  refine T.F_Rule_step.ok sc_Rule_step (fun vs H Q E h => ?_) (fun cdv A0 outer s H vs Q E hr h => ?_)
  · obtain ⟨r, sp, l, h, d, b, k, ms, most, D, rfl, _⟩ := h
    rfl
  · obtain ⟨r, sp, l, h, d, b, k, ms, most, D, rfl, x, R, hsp, G, q⟩ := h
    have X := x.rungs R
    have rB : ∀ m ∈ D.rs, m < 2 ^ 64 := fun m hm => (R.all m (x.pr.mem_iff.mp hm)).2.1
    have noF : (rf b k D.lm most D.dv D.lr).lookup ("_fits" : Str) = none := by
      rw [rf_lookup, if_neg (by decide +kernel), if_neg (by decide +kernel), if_neg (by decide +kernel), if_neg (by decide +kernel), if_neg (by decide +kernel), if_neg (by decide +kernel)]
    refine ⟨_, (pss_cons (ps_if (pt_not (pt_val (pe_call G_is_span (hr.mono (by decide)) (by rfl) T.m_is_span T.F_is_span.kp T.B_is_span .nil pass0 (pa_cons (pv 1) pa_nil)))) (pss_one ps_never) pss_nil)
  (pss_cons (ps_asg (pv 1) (pg_tup (by rfl) (pgs_cons (pg_name (i := 2) sc_Rule_step.nd rfl (Or.inl rfl)) (pgs_cons (pg_name (i := 3) sc_Rule_step.nd rfl (Or.inl rfl)) (pgs_cons (pg_name (i := 4) sc_Rule_step.nd rfl (Or.inl rfl)) pgs_nil)))))
  (pss_cons (ps_set (i := 5) sc_Rule_step.nd rfl (Or.inl rfl) (pe_call G_low_rung (hr.mono (by decide)) (by rfl) T.m_low_rung T.F_low_rung.kp T.B_low_rung .nil pass0 (pa_cons (pe_fld (pv 0) rfl) (pa_cons (pe_fld (pv 0) rfl) (pa_cons (pe_fld (pv 0) rfl) (pa_cons (pe_op op_sub (pv 3) (pv 2)) (pa_cons (pv 4) pa_nil)))))))
  (pss_cons (ps_while PassesOwn.never (pt_not (pt_val (pe_meth (pv 0) T.cl T.t_Rule__fits G_Rule__fits (hr.mono (by decide)) T.B_Rule__fits .nil pass0 (pa_cons (pe_call G_step_at (hr.mono (by decide)) (by rfl) T.m_step_at T.F_step_at.kp T.B_step_at .nil pass0 (pa_cons (pe_fld (pv 0) rfl) (pa_cons (pv 5) pa_nil))) (pa_cons (pv 1) pa_nil)))))
  (pss_one (ps_set (i := 5) sc_Rule_step.nd rfl (Or.inl rfl) (pe_op op_add (pv 5) pe_int))))
  (pss_one (ps_ret (pe_call G_step_at (hr.mono (by decide)) (by rfl) T.m_step_at T.F_step_at.kp T.B_step_at .nil pass0 (pa_cons (pe_fld (pv 0) rfl) (pa_cons (pv 5) pa_nil))))))))), ?_⟩
    refine ⟨_, rfl, sp, l, h, d, rfl, hsp, G.lt, G.d0, fun H1 s1 => ⟨_, rfl, ?_⟩⟩
    refine iteF ?_
    have x1 := x.same s1
    refine ⟨_, rfl, sp, _, rfl, SqT.of (s1 _ _ hsp), rfl, _, _, rfl, _, _, rfl, _, _, rfl, rfl, ?_⟩
    refine ⟨_, rfl, r, A.c_Rule, D.dx, _, _, rfl, x1.at_, T.cl, T.na_base, rf_base _ _ _ _ _ _, _, rfl, r, A.c_Rule, D.dx, _, _, rfl, x1.at_, T.cl, T.na_rungs, rf_rungs _ _ _ _ _ _, _, rfl, r, A.c_Rule, D.dx, _, _, rfl, x1.at_, T.cl, T.na_most, rf_most _ _ _ _ _ _, _, rfl, _, rfl, _, _, rfl, rfl, _, rfl, r, l, h, d, b, k, ms, most, D, rfl, x1, R, G.lt, G.len, G.d0, G.dB, fun H2 s2 => ?_⟩
    have x2 := x1.same s2
    have s02 : Same H H2 := s1.trans s2
    have hR := fit_high (k := k) X G.lt R.m1 R.mC (Int.le_refl ((lg b (h - l) - d + 1) * D.rs.length)) (d := d)
    have hn : 0 < (D.rs.length : Int) := by have := X.ne; omega
    refine ⟨fun m σ H' => ∃ (i : Int), σ = [some (.ref r), some (.ref sp), some (.int l), some (.int h), some (.int d), some (.int i)] ∧ Same H H' ∧
        lowQ b most l h d * D.rs.length ≤ i ∧ i ≤ (lg b (h - l) - d + 1) * D.rs.length ∧ (∀ j, lowQ b most l h d * D.rs.length ≤ j → j < i → ¬ FitI b D.rs k most l h d j) ∧ m = ((lg b (h - l) - d + 1) * D.rs.length - i).toNat,
      ⟨_, lowQ b most l h d * D.rs.length, rfl, s02, Int.le_refl _, Int.mul_le_mul_of_nonneg_right (by unfold lowQ; omega) (by omega), fun j h1 h2 => by omega, rfl⟩, ?_⟩
    rintro m σ H' ⟨i, rfl, s4, i1, i2, i3, rfl⟩
    have x4 := x.same s4
    have eB := exp_bound X R.bB G.lt G.len R.m1 R.mB rB i1 i2
    -- self._fits(step_at(self._rungs, number), span)
    refine ⟨_, rfl, r, D.dx, _, rfl, x4.at_, noF, _, rfl, r, A.c_Rule, D.dx, _, _, rfl, x4.at_, T.cl, T.na_rungs, rf_rungs _ _ _ _ _ _, _, rfl, r, i, b, k, ms, most, D, rfl, x4, R, fun H3 t s3 ht0 ht => ?_⟩
    have x5 := x4.same s3
    have s43 := s4.trans s3
    refine ⟨_, rfl, r, t, sp, _, _, l, h, d, b, k, ms, most, D, rfl, x5, R, ht, s43 _ _ hsp, X.pos _ (X.mem i), rB _ (X.mem i), eB, G.lo, G.hi, fun H5 s5 => ⟨_, rfl, ?_⟩⟩
    have s05 := s43.trans s5
    have x6 := x.same s05
    by_cases c : FitE b k most l h (sAt b D.rs i).1 ((sAt b D.rs i).2 + d)
    · rw [decide_eq_true c]
      refine iteF ⟨_, rfl, r, A.c_Rule, D.dx, _, _, rfl, x6.at_, T.cl, T.na_rungs, rf_rungs _ _ _ _ _ _, _, rfl, r, i, b, k, ms, most, D, rfl, x6, R, fun H7 t7 s7 ht7 e7 => ?_⟩
      refine q H7 t7 _ _ (s05.trans s7) (s05.free ht7) e7 (least_of X G.lt R.m1 x.pr c i3) eB ?_
      have q1 : lowQ b most l h d ≤ i / D.rs.length := (Int.le_ediv_iff_mul_le hn).mpr i1
      unfold lowQ at q1
      show (lg b (h - l) : Int) - (lg b (most + 1) + 1) ≤ (i / D.rs.length - lg b (sAt b D.rs i).1) + d + lg b (sAt b D.rs i).1
      omega
    · rw [decide_eq_false c]
      have ilt : i < (lg b (h - l) - d + 1) * D.rs.length := by
        rcases Int.lt_or_eq_of_le i2 with z | z
        · exact z
        · rw [z] at c
          exact absurd hR c
      refine iteT ⟨fun σ' H6 => σ' = [some (.ref r), some (.ref sp), some (.int l), some (.int h), some (.int d), some (.int (i + 1))] ∧ Same H H6, ?_, ?_⟩
      · rintro σ' H6 ⟨rfl, s6⟩
        refine ⟨((lg b (h - l) - d + 1) * D.rs.length - (i + 1)).toNat, by omega, i + 1, rfl, s6, by omega, by omega, fun j h1 h2 => ?_, rfl⟩
        by_cases e : j = i
        · rw [e]
          exact c
        · exact i3 j h1 (by omega)
      · exact ⟨_, rfl, _, _, rfl, rfl, rfl, s05⟩
end
end Ax

namespace L2
open PySem PySem.Spec PyProof.Rows
/-- a power that is not too great -/
def CPowX (i j : Int) : Prop := 0 ≤ j ∧ (Builtin.Int.intBits i : Int) * j ≤ 2 ^ 27
theorem op_powX {X : Cx} : OpR X (binaryOp .Pow) (rI CPowX fun i j => .int (i ^ j.toNat)) := opI fun _ _ _ _ _ _ _ hc q => pow_int hc.1 hc.2 q
end L2
namespace Ax
open PySem L2
section
variable {P : Program} {w : World} {K : PySem.W.Frag} {mg : Str → Option Value} {base : Heap} {A : Adr}
/-! ### the purse of draws -/
abbrev PM : Int := (10 ^ (40 : Int).toNat) ^ (10 : Int).toNat
/-- a purse that at most t draws have been taken from -/
def Purse (H : Hp) (p : Addr) (t : Nat) : Prop := ∃ a c u : Int, H p = some (.lst [.int a, .int c, .int u]) ∧ 0 ≤ a ∧ a < PM ∧ 0 ≤ c ∧ c < 2 ^ 31 ∧ 0 ≤ u ∧ u ≤ t
/-- all but the purse is kept -/
def Kp (p : Addr) (H H' : Hp) : Prop := ∀ c o, c ≠ p → H c = some o → H' c = some o
theorem Kp.refl (p : Addr) (H : Hp) : Kp p H H := fun _ _ _ e => e
theorem Kp.trans {p : Addr} {H H1 H2 : Hp} (a : Kp p H H1) (b : Kp p H1 H2) : Kp p H H2 := fun c o h e => b c o h (a c o h e)
theorem Same.kp {H H' : Hp} (s : Same H H') (p : Addr) : Kp p H H' := fun c o _ e => s c o e
theorem Purse.same {H H' : Hp} {p : Addr} {t : Nat} (x : Purse H p t) (s : Same H H') : Purse H' p t := by
  obtain ⟨a, c, u, h, r⟩ := x
  exact ⟨a, c, u, s _ _ h, r⟩
theorem Purse.le {H : Hp} {p : Addr} {t t' : Nat} (x : Purse H p t) (h : t ≤ t') : Purse H p t' := by
  obtain ⟨a, c, u, h1, h2, h3, h4, h5, h6, h7⟩ := x
  exact ⟨a, c, u, h1, h2, h3, h4, h5, h6, by omega⟩
theorem Purse.some {H : Hp} {p : Addr} {t : Nat} (x : Purse H p t) : ∃ xs, H p = some (.lst xs) := by
  obtain ⟨a, c, u, h, _⟩ := x
  exact ⟨_, h⟩
theorem Purse.ne {H : Hp} {p l : Addr} {t : Nat} (x : Purse H p t) (h : H l = none) : l ≠ p := by
  obtain ⟨xs, e⟩ := x.some
  exact (ne_of_none e h).symm
/-- what was free before is free, behind an all-but-the-purse step -/
theorem Kp.free {p : Addr} {H H' : Hp} {l : Addr} {t' : Nat} (k : Kp p H H') (y : Purse H' p t') (h : H' l = none) : H l = none := by
  have n := y.ne h
  cases e : H l with
  | none => rfl
  | some o =>
    rw [k l o n e] at h
    cases h
theorem PM_lt : PM < 2 ^ 1400 := by
  show ((10 : Int) ^ 40) ^ 10 < 2 ^ 1400
  decide +kernel
def spPurse (K : PySem.W.Frag) : Sp := fun vs H Q _ => ∃ (s : Addr) (ns : List Int) (i : Nat), vs = [.ref s, .int i] ∧ SqL K H s (ns.map V.int) ∧ ns.length ≤ 63 ∧ ∀ (H' : Hp) (p : Addr), Same H H' → H p = none → Purse H' p 0 → Q (.ref p) H'
abbrev nm_law_purse : List Str := ["_law_script", "_law_at", "_law_cell"]
theorem sc_law_purse : FnScope ["_law_script", "_law_at", "_law_cell"] ["_law_script", "_law_at"] (defScope s_law_purse) := ⟨rfl, rfl, rfl, by decide +kernel, rfl, by decide +kernel, by decide +kernel⟩
theorem ok_purse (T : Txt K mg A w) : FnOk P w K mg base CX0 1 A.a_law_purse A.d_law_purse ["_law_script", "_law_at"] (spPurse K) := by
  refine T.F_law_purse.ok sc_law_purse (fun vs H Q E h => ?_) (fun cdv A0 outer s H vs Q E hr h => ?_)
  · obtain ⟨r, ns, i, rfl, _⟩ := h
    rfl
  · obtain ⟨r, ns, i, rfl, hS, hl, q⟩ := h
    refine ⟨_, (pss_cons (ps_set (i := 2) sc_law_purse.nd rfl (Or.inl rfl) pe_int)
  (pss_cons (ps_if (pt_cmpR op_lt (pv 1) (pe_callB call_len_seq (by rfl) T.n_len (by decide +kernel) (pa_cons (pv 0) pa_nil)) (nomark _)) (pss_one (ps_set (i := 2) sc_law_purse.nd rfl (Or.inl rfl) (pe_ix ix_list (pv 0) (pv 1) (fun _ _ => rfl)))) pss_nil)
  (pss_one (ps_ret (pe_lst (pa_cons (pe_op op_mod (pe_callTy call_int1 (by rfl) T.n_int (by decide +kernel) (pa_cons (pe_callB (call_max2 rfl) (by rfl) T.n_max (by decide +kernel) (pa_cons (pe_op op_sub (pv 2) (pe_op op_pow pe_int pe_int)) (pa_cons pe_int pa_nil))) pa_nil)) (pe_op op_powX (pe_op op_pow pe_int pe_int) pe_int)) (pa_cons (pe_op op_mod (pe_callTy call_int1 (by rfl) T.n_int (by decide +kernel) (pa_cons (pv 2) pa_nil)) pe_int) (pa_cons pe_int pa_nil)))))))), ?_⟩
    have lm : (ns.map V.int).length = ns.length := List.length_map _
    -- behind the cell
    have rest : ∀ c : Int, ∀ p, H p = none → Q (.ref p) (upd H p (.lst [.int ((if 0 > c - 10 ^ (18 : Int).toNat then 0 else c - 10 ^ (18 : Int).toNat) % PM), .int (c % 2147483629), .int 0])) := fun c p hp => by
      refine q _ p (same_new hp) hp ⟨_, _, _, upd_same, Int.emod_nonneg _ ?_, Int.emod_lt_of_pos _ ?_, Int.emod_nonneg _ (by decide), ?_, by decide, by decide⟩
      · show ((10 : Int) ^ 40) ^ 10 ≠ 0
        decide +kernel
      · show 0 < ((10 : Int) ^ 40) ^ 10
        decide +kernel
      · have := Int.emod_lt_of_pos c (show (0 : Int) < 2147483629 by decide)
        have : (2 : Int) ^ 31 = 2147483648 := by decide
        omega
    refine ⟨_, rfl, _, rfl, r, _, rfl, .inl hS, _, _, rfl, rfl, _, rfl, ?_⟩
    refine ite2 (fun hc => ?_) (fun hc => ?_)
    · have hc : (i : Int) < ((ns.map V.int).length : Nat) := of_decide_eq_true hc
      have hi : i < ns.length := by omega
      refine ⟨_, rfl, _, rfl, r, _, _, _, rfl, rfl, hS, atI_nat (by rw [List.getElem?_map, List.getElem?_eq_getElem hi]; rfl), ?_⟩
      refine ⟨_, rfl, _, _, rfl, rfl, ⟨by decide, by decide, by decide⟩, _, _, rfl, rfl, _, _, rfl, .inl ⟨_, rfl, _, _, rfl, rfl, ⟨by decide, by decide, by decide⟩, _, _, rfl, rfl, ⟨by decide, by decide +kernel⟩, _, _, rfl, rfl, ?_, _, rfl, .inl ⟨_, rfl, _, _, rfl, rfl, (by show (0 : Int) < 2147483629; decide), ?_⟩⟩⟩
      · show 0 < ((10 : Int) ^ 40) ^ 10
        decide +kernel
      · exact ⟨(by show 3 ≤ sizeLine; decide), fun p hp => rest _ p hp⟩
    · refine ⟨_, rfl, _, _, rfl, rfl, ⟨by decide, by decide, by decide⟩, _, _, rfl, rfl, _, _, rfl, .inl ⟨_, rfl, _, _, rfl, rfl, ⟨by decide, by decide, by decide⟩, _, _, rfl, rfl, ⟨by decide, by decide +kernel⟩, _, _, rfl, rfl, ?_, _, rfl, .inl ⟨_, rfl, _, _, rfl, rfl, (by show (0 : Int) < 2147483629; decide), ?_⟩⟩⟩
      · show 0 < ((10 : Int) ^ 40) ^ 10
        decide +kernel
      · exact ⟨(by show 3 ≤ sizeLine; decide), fun p hp => rest _ p hp⟩
/-! ### a draw -/
theorem mulS {i j : Int} (h0 : 0 ≤ i) (h1 : i < 18446744073709551616) (h2 : 0 ≤ j) (h3 : j < 18446744073709551616) : CMulW i j :=
  wide_mul (a := 64) (b := 64) (abs_lt_pow h0 h1) (abs_lt_pow h2 h3) (by decide) (by decide) (by decide)
theorem ofNat_le {t : Nat} {u : Int} (h : u ≤ t) (ht : t ≤ 2 ^ 20) : u < 2 ^ 21 := by
  have : (2 : Nat) ^ 20 = 1048576 := by decide
  have : (2 : Int) ^ 21 = 2097152 := by decide
  omega
theorem nab {i : Int} {n : Nat} (h0 : 0 ≤ i) (h : i < 2 ^ n) : i.natAbs < 2 ^ n := abs_lt_pow h0 h
theorem atL {xs : List V} {j : Nat} {v : V} (h : xs[j]? = some v) : atI xs (j : Int) = some v := atI_nat h
def spDraw : Sp := fun vs H Q _ => ∃ (p : Addr) (many : Int) (t : Nat), vs = [.ref p, .int many] ∧ Purse H p t ∧ t ≤ 2 ^ 20 ∧ 0 < many ∧ many < 2 ^ 2000 ∧ ∀ (H' : Hp) (n : Int), Kp p H H' → Purse H' p (t + 1) → 0 ≤ n → n < many → Q (.int n) H'
abbrev nm_law_draw : List Str := ["_law_purse_here", "_law_many", "_law_drawn", "_law_turn", "_law_number_here"]
theorem sc_law_draw : FnScope ["_law_purse_here", "_law_many", "_law_drawn", "_law_turn", "_law_number_here"] ["_law_purse_here", "_law_many"] (defScope s_law_draw) := ⟨rfl, rfl, rfl, by decide +kernel, rfl, by decide +kernel, by decide +kernel⟩
theorem ok_draw (T : Txt K mg A w) : FnOk P w K mg base CX0 1 A.a_law_draw A.d_law_draw ["_law_purse_here", "_law_many"] spDraw := by
  refine T.F_law_draw.ok sc_law_draw (fun vs H Q E h => ?_) (fun cdv A0 outer s H vs Q E hr h => ?_)
  · obtain ⟨p, many, t, rfl, _⟩ := h
    rfl
  · obtain ⟨p, many, t, rfl, ⟨a, c, u, hp, a0, aB, c0, cB, u0, uB⟩, ht, m0, mB, q⟩ := h
    refine ⟨_, (pss_cons (ps_if (pt_cmpR op_gt (pe_ix ix_list (pv 0) pe_int (fun _ _ => rfl)) pe_int (nomark _)) (pss_cons (ps_set (i := 2) sc_law_draw.nd rfl (Or.inl rfl) (pe_op op_mod (pe_callTy call_int1 (by rfl) T.n_int (by decide +kernel) (pa_cons (pe_ix ix_list (pv 0) pe_int (fun _ _ => rfl)) pa_nil)) (pv 1)))
  (pss_cons (ps_asg (pe_op op_fdivW (pe_ix ix_list (pv 0) pe_int (fun _ _ => rfl)) (pv 1)) (pg_sub (pv 0) pe_int set_list))
  (pss_one (ps_ret (pv 2))))) pss_nil)
  (pss_cons (ps_set (i := 3) sc_law_draw.nd rfl (Or.inl rfl) (pe_op op_add (pe_ix ix_list (pv 0) pe_int (fun _ _ => rfl)) pe_int))
  (pss_cons (ps_asg (pv 3) (pg_sub (pv 0) pe_int set_list))
  (pss_cons (ps_set (i := 4) sc_law_draw.nd rfl (Or.inl rfl) (pe_op op_mod (pe_callTy call_int1 (by rfl) T.n_int (by decide +kernel) (pa_cons (pe_op op_mulW (pe_op op_add (pe_ix ix_list (pv 0) pe_int (fun _ _ => rfl)) (pe_op op_mulW pe_int (pv 3))) (pe_op op_add (pe_op op_mulW (pv 3) (pv 3)) pe_int)) pa_nil)) pe_int))
  (pss_cons (ps_set (i := 4) sc_law_draw.nd rfl (Or.inl rfl) (pe_op op_mod (pe_callTy call_int1 (by rfl) T.n_int (by decide +kernel) (pa_cons (pe_op op_add (pe_op op_mulW (pv 4) (pv 4)) (pv 3)) pa_nil)) pe_int))
  (pss_one (ps_ret (pe_op op_mod (pe_op op_fdivW (pe_op op_mod (pe_callTy call_int1 (by rfl) T.n_int (by decide +kernel) (pa_cons (pe_op op_mulW (pv 4) pe_int) pa_nil)) pe_int) pe_int) (pv 1))))))))), ?_⟩
    refine ⟨_, rfl, p, _, _, _, rfl, rfl, SqL.of hp, atL (j := 0) rfl, _, _, rfl, rfl, _, rfl, ?_⟩
    have kp : ∀ xs, Kp p H (upd H p (.lst xs)) := fun xs b o n e => by
      rw [upd_ne n]
      exact e
    refine ite2 (fun hc => ?_) (fun hc => ?_)
    · have hc : 0 < a := of_decide_eq_true hc
      refine ⟨_, rfl, p, _, _, _, rfl, rfl, SqL.of hp, atL (j := 0) rfl, .inl ⟨_, rfl, _, rfl, _, _, rfl, rfl, m0, ?_⟩⟩
      refine ⟨_, rfl, p, _, _, _, rfl, rfl, SqL.of hp, atL (j := 0) rfl, _, rfl, _, _, rfl, rfl, size_div (by omega) (lt_big mB (by decide)) _, ?_⟩
      refine ⟨_, rfl, p, _, _, 0, rfl, rfl, hp, rfl, ?_⟩
      refine ⟨_, rfl, q _ _ (kp _) ⟨_, _, _, upd_same, Int.ediv_nonneg a0 (by omega), Int.lt_of_le_of_lt (Int.ediv_le_self _ a0) aB, c0, cB, u0, by omega⟩ (Int.emod_nonneg _ (by omega)) (Int.emod_lt_of_pos _ m0)⟩
    · refine ⟨_, rfl, p, _, _, _, rfl, rfl, SqL.of hp, atL (j := 2) rfl, _, _, rfl, rfl, ?_⟩
      have u1 := ofNat_le uB ht
      have e21 : (2 : Int) ^ 21 = 2097152 := by decide
      have e31 : (2 : Int) ^ 31 = 2147483648 := by decide
      refine ⟨_, rfl, _, rfl, p, _, _, 2, rfl, rfl, hp, rfl, ?_⟩
      have v1 : (u + 1) * (u + 1) ≤ 2097152 * 2097152 := Int.mul_le_mul (by omega) (by omega) (by omega) (by decide)
      have v0 : 0 ≤ (u + 1) * (u + 1) := Int.mul_nonneg (by omega) (by omega)
      refine ⟨_, rfl, p, _, _, _, rfl, rfl, SqL.of upd_same, atL (j := 1) rfl, _, rfl, _, _, rfl, rfl, mulS (by decide) (by decide) (by omega) (by omega), _, _, rfl, rfl, ?_⟩
      refine ⟨_, rfl, _, rfl, _, _, rfl, rfl, mulS (by omega) (by omega) (by omega) (by omega), _, _, rfl, rfl, _, _, rfl, rfl, mulS (by omega) (by omega) (by omega) (by omega), .inl ⟨_, rfl, _, _, rfl, rfl, (by show (0 : Int) < 2147483629; decide), ?_⟩⟩
      have g10 : 0 ≤ (((c + 104729 * (u + 1)) * ((u + 1) * (u + 1) + 7919)) % 2147483629) := Int.emod_nonneg _ (by decide)
      have g11 : (((c + 104729 * (u + 1)) * ((u + 1) * (u + 1) + 7919)) % 2147483629) < 2147483629 := Int.emod_lt_of_pos _ (by decide)
      refine ⟨_, rfl, _, rfl, _, _, rfl, rfl, mulS g10 (Int.lt_trans g11 (by decide)) g10 (Int.lt_trans g11 (by decide)), _, rfl, _, _, rfl, rfl, .inl ⟨_, rfl, _, _, rfl, rfl, (by show (0 : Int) < 2147483587; decide), ?_⟩⟩
      have g20 : 0 ≤ (((((c + 104729 * (u + 1)) * ((u + 1) * (u + 1) + 7919)) % 2147483629) * (((c + 104729 * (u + 1)) * ((u + 1) * (u + 1) + 7919)) % 2147483629) + (u + 1)) % 2147483587) := Int.emod_nonneg _ (by decide)
      have g21 : (((((c + 104729 * (u + 1)) * ((u + 1) * (u + 1) + 7919)) % 2147483629) * (((c + 104729 * (u + 1)) * ((u + 1) * (u + 1) + 7919)) % 2147483629) + (u + 1)) % 2147483587) < 2147483587 := Int.emod_lt_of_pos _ (by decide)
      refine ⟨_, rfl, _, _, rfl, rfl, mulS g20 (Int.lt_trans g21 (by decide)) (by decide) (by decide), .inl ⟨_, rfl, _, _, rfl, rfl, (by show (0 : Int) < 2147483647; decide), _, _, rfl, rfl, ⟨by decide, by decide⟩, _, rfl, _, _, rfl, rfl, m0, ?_⟩⟩
      exact q _ _ (kp _) ⟨a, c, u + 1, upd_same, a0, aB, c0, cB, by omega, by omega⟩ (Int.emod_nonneg _ (by omega)) (Int.emod_lt_of_pos _ m0)
end
end Ax

namespace Ax
open PySem L2
section
variable {P : Program} {w : World} {K : PySem.W.Frag} {mg : Str → Option Value} {base : Heap} {A : Adr}
theorem two20 {t : Nat} {n : Nat} (h : t ≤ 2 ^ 20) (hn : n < 2 ^ 1000) : (n : Int) < 2 ^ 2000 := by
  have h1 : ((n : Nat) : Int) < ((2 ^ 1000 : Nat) : Int) := Int.ofNat_lt.mpr hn
  rw [Int.natCast_pow] at h1
  exact Int.lt_trans h1 (pow_lt' (b := 2) (by decide) (by decide))
theorem small2000 {n : Int} (h : n < 18446744073709551616) : n < 2 ^ 2000 := Int.lt_of_lt_of_le (show n < 2 ^ 64 from h) (pow_le' (b := 2) (by decide) (by decide))
/-! ### _law_pick -/
def spPick : Sp := fun vs H Q _ => ∃ (p l : Addr) (xs : List V) (t : Nat), vs = [.ref p, .ref l] ∧ Purse H p t ∧ t ≤ 2 ^ 20 ∧ H l = some (.lst xs) ∧ l ≠ p ∧ 0 < xs.length ∧ xs.length ≤ 1000 ∧ ∀ (H' : Hp) (i : Nat) (x : V), Kp p H H' → Purse H' p (t + 1) → xs[i]? = some x → Q x H'
abbrev nm_law_pick : List Str := ["_law_purse_here", "_law_items"]
theorem sc_law_pick : FnScope ["_law_purse_here", "_law_items"] ["_law_purse_here", "_law_items"] (defScope s_law_pick) := ⟨rfl, rfl, rfl, by decide +kernel, rfl, by decide +kernel, by decide +kernel⟩
theorem ok_pick (T : Txt K mg A w) : FnOk P w K mg base CX0 2 A.a_law_pick A.d_law_pick ["_law_purse_here", "_law_items"] spPick := by
  have G_law_draw : FnOk P w K mg base CX0 1 A.a_law_draw A.d_law_draw ["_law_purse_here", "_law_many"] spDraw := ok_draw T
  refine T.F_law_pick.ok sc_law_pick (fun vs H Q E h => ?_) (fun cdv A0 outer s H vs Q E hr h => ?_)
  · obtain ⟨p, l, xs, t, rfl, _⟩ := h
    rfl
  · obtain ⟨p, l, xs, t, rfl, hP, ht, hl, nlp, h0, h1, q⟩ := h
    refine ⟨_, (pss_one (ps_ret (pe_ix ix_list (pv 1) (pe_call G_law_draw (hr.mono (by decide)) (by rfl) T.m_law_draw T.F_law_draw.kp T.B_law_draw .nil pass0 (pa_cons (pv 0) (pa_cons (pe_callB call_len_seq (by rfl) T.n_len (by decide +kernel) (pa_cons (pv 1) pa_nil)) pa_nil))) (fun _ _ => rfl)))), ?_⟩
    refine ⟨_, rfl, _, rfl, _, rfl, l, _, rfl, .inl (SqL.of hl), p, _, t, rfl, hP, ht, by omega, small2000 (by omega), fun H' n k P' n0 n1 => ?_⟩
    have hn : n.toNat < xs.length := by omega
    refine ⟨l, _, n, xs[n.toNat], rfl, rfl, SqL.of (k _ _ nlp hl), at_of (j := n.toNat) (by omega) (List.getElem?_eq_getElem hn), q H' n.toNat _ k P' (List.getElem?_eq_getElem hn)⟩
/-- what a pick out of a written list of whole numbers gives -/
theorem pick_int {ms : List Int} {i : Nat} {x : V} {P : Int → Prop} (h : (ms.map V.int)[i]? = some x) (hp : ∀ m ∈ ms, P m) : ∃ m, x = .int m ∧ P m := by
  obtain ⟨m, hm, rfl⟩ := map_get h
  exact ⟨m, rfl, hp m (List.mem_of_getElem? hm)⟩
/-! ### _law_times -/
def spTimes : Sp := fun vs H Q _ => ∃ (b n : Int), vs = [.int b, .int n] ∧ 1 ≤ b ∧ b < BIG ∧ -(2 ^ 62) ≤ n ∧ n < 2 ^ 62 ∧ b ^ n.toNat < BIG ∧ Q (.int (b ^ n.toNat)) H
abbrev nm_law_times : List Str := ["_law_base", "_law_many", "_law_found", "_law_turn"]
theorem sc_law_times : FnScope ["_law_base", "_law_many", "_law_found", "_law_turn"] ["_law_base", "_law_many"] (defScope s_law_times) := ⟨rfl, rfl, rfl, by decide +kernel, rfl, by decide +kernel, by decide +kernel⟩
theorem ok_times (T : Txt K mg A w) : FnOk P w K mg base CX0 1 A.a_law_times A.d_law_times ["_law_base", "_law_many"] spTimes := by
  refine T.F_law_times.ok sc_law_times (fun vs H Q E h => ?_) (fun cdv A0 outer s H vs Q E hr h => ?_)
  · obtain ⟨b, n, rfl, _⟩ := h
    rfl
  · obtain ⟨b, n, rfl, hb, hbB, n1, n2, hB, q⟩ := h
    refine ⟨_, (pss_cons (ps_set (i := 2) sc_law_times.nd rfl (Or.inl rfl) pe_int)
  (pss_cons (ps_for PassesOwn.never rfl (pi_range1 rfl T.n_range (pa_cons (pv 1) pa_nil)) (pg_name (i := 3) sc_law_times.nd rfl (Or.inl rfl))
  (pss_one (ps_set (i := 2) sc_law_times.nd rfl (Or.inl rfl) (pe_op op_mulW (pv 2) (pv 0)))))
  (pss_one (ps_ret (pv 2))))), ?_⟩
    refine ⟨_, rfl, n, rfl, n1, n2, for_range (lo := 0) (n := n.toNat) (fun i σ H' => ∃ v : Option V, σ = [some (.int b), some (.int n), some (.int (b ^ i)), v] ∧ H' = H) ⟨none, by rw [Int.pow_zero]; rfl, rfl⟩ ?_ ?_⟩
    · rintro i σ H' hi ⟨v, rfl, rfl⟩
      have h1 := pow_le' hb (show i ≤ n.toNat by omega)
      have h2 := pow_pos' hb i
      refine ⟨_, rfl, _, rfl, _, _, rfl, rfl, mulBig (by omega) (big_le (by omega)) (by omega) (big_le hbB), ?_⟩
      exact ⟨_, by rw [Int.pow_succ]; rfl, rfl⟩
    · rintro σ H' ⟨v, rfl, rfl⟩
      exact ⟨_, rfl, q⟩
theorem kpNew {p l : Addr} {H : Hp} {o : HO} (h : H l = none) : Kp p H (upd H l o) := fun c u _ e => by
  rw [upd_ne (ne_of_none e h)]
  exact e
/-! ### _law_number -/
def spNumber : Sp := fun vs H Q _ => ∃ (p : Addr) (t : Nat), vs = [.ref p] ∧ Purse H p t ∧ t ≤ 2 ^ 19 ∧ ∀ (H' : Hp) (n : Int), Kp p H H' → Purse H' p (t + 30) → n.natAbs < 2 ^ 126 → Q (.int n) H'
abbrev nm_law_number : List Str := ["_law_purse_here", "_law_number_here", "_law_turn"]
theorem sc_law_number : FnScope ["_law_purse_here", "_law_number_here", "_law_turn"] ["_law_purse_here"] (defScope s_law_number) := ⟨rfl, rfl, rfl, by decide +kernel, rfl, by decide +kernel, by decide +kernel⟩
theorem num_step {n a c : Int} {i : Nat} (h0 : 0 ≤ n) (h1 : n < 2 ^ (6 + 10 * i)) (a0 : 0 ≤ a) (a1 : a ≤ 997) (c0 : 0 ≤ c) (c1 : c ≤ 60) : 0 ≤ n * a + c ∧ n * a + c < 2 ^ (6 + 10 * (i + 1)) := by
  have e : (2 : Int) ^ (6 + 10 * (i + 1)) = 2 ^ (6 + 10 * i) * 1024 := by
    rw [show 6 + 10 * (i + 1) = 6 + 10 * i + 10 by omega, pow_add']
    rfl
  have m0 := Int.mul_nonneg h0 a0
  have m1 := Int.mul_le_mul_of_nonneg_left a1 h0
  have p1 := pow_le' (b := 2) (by decide) (show 6 ≤ 6 + 10 * i by omega)
  have p2 : (2 : Int) ^ 6 = 64 := by decide
  rw [e]
  omega
theorem ok_number (T : Txt K mg A w) : FnOk P w K mg base CX0 3 A.a_law_number A.d_law_number ["_law_purse_here"] spNumber := by
  have G_law_draw : FnOk P w K mg base CX0 1 A.a_law_draw A.d_law_draw ["_law_purse_here", "_law_many"] spDraw := ok_draw T
  have G_law_pick : FnOk P w K mg base CX0 2 A.a_law_pick A.d_law_pick ["_law_purse_here", "_law_items"] spPick := ok_pick T
  refine T.F_law_number.ok sc_law_number (fun vs H Q E h => ?_) (fun cdv A0 outer s H vs Q E hr h => ?_)
  · obtain ⟨p, t, rfl, _⟩ := h
    rfl
  · obtain ⟨p, t, rfl, hP, ht, q⟩ := h
    have e19 : (2 : Nat) ^ 19 = 524288 := by decide
    have e20 : (2 : Nat) ^ 20 = 1048576 := by decide
    refine ⟨_, (pss_cons (ps_set (i := 1) sc_law_number.nd rfl (Or.inl rfl) (pe_call G_law_draw (hr.mono (by decide)) (by rfl) T.m_law_draw T.F_law_draw.kp T.B_law_draw .nil pass0 (pa_cons (pv 0) (pa_cons pe_int pa_nil))))
  (pss_cons (ps_for PassesOwn.never rfl (pi_range1 rfl T.n_range (pa_cons (pe_call G_law_pick (hr.mono (by decide)) (by rfl) T.m_law_pick T.F_law_pick.kp T.B_law_pick .nil pass0 (pa_cons (pv 0) (pa_cons (pe_lst (pa_cons pe_int (pa_cons pe_int (pa_cons pe_int (pa_cons pe_int (pa_cons pe_int (pa_cons pe_int pa_nil))))))) pa_nil))) pa_nil)) (pg_name (i := 2) sc_law_number.nd rfl (Or.inl rfl))
  (pss_one (ps_set (i := 1) sc_law_number.nd rfl (Or.inl rfl) (pe_op op_add (pe_op op_mulW (pv 1) (pe_call G_law_pick (hr.mono (by decide)) (by rfl) T.m_law_pick T.F_law_pick.kp T.B_law_pick .nil pass0 (pa_cons (pv 0) (pa_cons (pe_lst (pa_cons pe_int (pa_cons pe_int (pa_cons pe_int (pa_cons pe_int pa_nil))))) pa_nil)))) (pe_call G_law_draw (hr.mono (by decide)) (by rfl) T.m_law_draw T.F_law_draw.kp T.B_law_draw .nil pass0 (pa_cons (pv 0) (pa_cons pe_int pa_nil)))))))
  (pss_one (ps_ret (pe_op op_sub (pv 1) (pe_call G_law_pick (hr.mono (by decide)) (by rfl) T.m_law_pick T.F_law_pick.kp T.B_law_pick .nil pass0 (pa_cons (pv 0) (pa_cons (pe_lst (pa_cons pe_int (pa_cons pe_int (pa_cons (pe_op op_mulW pe_int (pv 1)) pa_nil)))) pa_nil)))))))), ?_⟩
    refine ⟨_, rfl, p, 60, t, rfl, hP, by omega, by decide, small2000 (by decide), fun H1 n1 k1 P1 n10 n11 => ?_⟩
    refine ⟨_, rfl, (by show 6 ≤ sizeLine; decide), fun l hl => ?_⟩
    have P1' := P1.same (same_new (o := .lst [.int 0, .int 0, .int 1, .int 1, .int 2, .int 12]) hl)
    refine ⟨p, l, _, t + 1, rfl, P1', by omega, upd_same, P1.ne hl, (by show 0 < 6; decide), (by show 6 ≤ 1000; decide), fun H2 i2 x2 k2 P2 g2 => ?_⟩
    obtain ⟨j, rfl, j0, j1⟩ := pick_int (ms := [0, 0, 1, 1, 2, 12]) (P := fun m => 0 ≤ m ∧ m ≤ 12) g2 (by decide)
    have k02 : Kp p H H2 := k1.trans ((kpNew hl).trans k2)
    have b6 : n1 < 2 ^ (6 + 10 * 0) := by
      show n1 < 2 ^ 6
      have : (2 : Int) ^ 6 = 64 := by decide
      omega
    refine ⟨j, rfl, by omega, by omega, for_range (lo := 0) (n := j.toNat) (fun i σ H' => ∃ (n : Int) (v : Option V), σ = [some (.ref p), some (.int n), v] ∧ Kp p H H' ∧ Purse H' p (t + 2 + 2 * i) ∧ 0 ≤ n ∧ n < 2 ^ (6 + 10 * i)) ⟨n1, none, rfl, k02, P2, n10, b6⟩ ?_ ?_⟩
    · rintro i σ H3 hi ⟨n, v, rfl, k3, P3, n0, nB⟩
      have nB2 : n < 2 ^ 400000 := Int.lt_of_lt_of_le nB (pow_le' (b := 2) (by decide) (by omega))
      refine ⟨_, rfl, _, rfl, (by show 4 ≤ sizeLine; decide), fun l2 hl2 => ?_⟩
      have P3' := P3.same (same_new (o := .lst [.int 10, .int 60, .int 997, .int 10]) hl2)
      refine ⟨p, l2, _, t + 2 + 2 * i, rfl, P3', by omega, upd_same, P3.ne hl2, (by show 0 < 4; decide), (by show 4 ≤ 1000; decide), fun H4 i4 x4 k4 P4 g4 => ?_⟩
      obtain ⟨a, rfl, a0, a1⟩ := pick_int (ms := [10, 60, 997, 10]) (P := fun m => 0 ≤ m ∧ m ≤ 997) g4 (by decide)
      refine ⟨_, _, rfl, rfl, mulBig n0 nB2 a0 (Int.lt_of_le_of_lt a1 (Int.lt_of_lt_of_le (show (997 : Int) < 2 ^ 10 by decide) (pow_le' (b := 2) (by decide) (by decide)))), ?_⟩
      refine ⟨_, rfl, p, 61, t + 2 + 2 * i + 1, rfl, P4, by omega, by decide, small2000 (by decide), fun H5 c k5 P5 c0 c1 => ?_⟩
      obtain ⟨s0, s1⟩ := num_step (c := c) n0 nB a0 a1 c0 (by omega)
      exact ⟨_, _, rfl, rfl, _, _, rfl, k3.trans ((kpNew hl2).trans (k4.trans k5)), P5.le (by omega), s0, s1⟩
    · rintro σ H3 ⟨n, v, rfl, k3, P3, n0, nB⟩
      have nB1 : n < 2 ^ 126 := Int.lt_of_lt_of_le nB (pow_le' (b := 2) (by decide) (by omega))
      have nB2 : n < 2 ^ 400000 := Int.lt_of_lt_of_le nB1 (pow_le' (b := 2) (by decide) (by decide))
      refine ⟨_, rfl, _, rfl, _, rfl, _, _, rfl, rfl, mulBig (by decide) (Int.lt_of_lt_of_le (show (2 : Int) < 2 ^ 10 by decide) (pow_le' (b := 2) (by decide) (by decide))) n0 nB2, (by show 3 ≤ sizeLine; decide), fun l2 hl2 => ?_⟩
      have P3' := P3.same (same_new (o := .lst [.int 0, .int 0, .int (2 * n)]) hl2)
      refine ⟨p, l2, _, t + 2 + 2 * j.toNat, rfl, P3', by omega, upd_same, P3.ne hl2, (by show 0 < 3; decide), (by show 3 ≤ 1000; decide), fun H4 i4 x4 k4 P4 g4 => ?_⟩
      obtain ⟨a, rfl, ha⟩ := pick_int (ms := [0, 0, 2 * n]) (P := fun m => m = 0 ∨ m = 2 * n) g4 (by
        intro m hm
        simp only [List.mem_cons, List.not_mem_nil, or_false] at hm
        omega)
      refine ⟨_, _, rfl, rfl, q H4 _ (k3.trans ((kpNew hl2).trans k4)) (P4.le (by omega)) ?_⟩
      rcases ha with rfl | rfl
      · exact nab (by omega) (by omega)
      · rw [← Int.natAbs_neg]
        exact nab (by omega) (by omega)
end
end Ax

namespace Ax
open PySem L2
/-- a drawn rule: a base, a kind, heads, a greatest number -/
structure Drawn (b : Int) (k : Kd) (hs : List Int) (most : Int) : Prop where
  b2 : 2 ≤ b
  b10 : b ≤ 10
  m1 : 1 ≤ most
  m6 : most ≤ 6
  mC : k = .cov → 2 ≤ most
  ne : hs ≠ []
  le : hs.length ≤ 4
  nd : hs.Nodup
  all : ∀ m ∈ hs, 1 ≤ m ∧ m ≤ 25 ∧ m % b ≠ 0
theorem Drawn.args {b : Int} {k : Kd} {hs : List Int} {most : Int} (d : Drawn b k hs most) : RArgs b k hs most := by
  have e60 : (2 : Int) ^ 60 = 1152921504606846976 := by decide
  have e64 : (2 : Int) ^ 64 = 18446744073709551616 := by decide
  obtain ⟨h1, h2, h3, h4, h5, h6, h7, h8, h9⟩ := d
  exact ⟨h1, by omega, h3, by omega, h5, h6, by omega, h8, fun m hm => by
    obtain ⟨a, c, e⟩ := h9 m hm
    exact ⟨a, by omega, e⟩⟩
/-- the tuple of a drawn rule, at ru; its heads at lh -/
def RuleT (H : Hp) (ru lh : Addr) (b : Int) (k : Kd) (hs : List Int) (most : Int) : Prop := H ru = some (.tup [.int b, .str k.s, .ref lh, .int most]) ∧ H lh = some (.lst (hs.map V.int))
section
variable {P : Program} {w : World} {K : PySem.W.Frag} {mg : Str → Option Value} {base : Heap} {A : Adr}
theorem RuleT.same {H H' : Hp} {ru lh : Addr} {b : Int} {k : Kd} {hs : List Int} {most : Int} (x : RuleT H ru lh b k hs most) (s : Same H H') : RuleT H' ru lh b k hs most := ⟨s _ _ x.1, s _ _ x.2⟩
theorem RuleT.kp {H H' : Hp} {p ru lh : Addr} {b : Int} {k : Kd} {hs : List Int} {most : Int} {t : Nat} (x : RuleT H ru lh b k hs most) (y : Purse H p t) (n : lh ≠ p) (s : Kp p H H') : RuleT H' ru lh b k hs most := by
  obtain ⟨xs, e⟩ := y.some
  exact ⟨s _ _ (ne_of x.1 e (by intro z; cases z)) x.1, s _ _ n x.2⟩
/-! ### _law_range -/
def spRange : Sp := fun vs H Q _ => ∃ (p ru lh : Addr) (t : Nat) (b : Int) (k : Kd) (hs : List Int) (most : Int), vs = [.ref p, .ref ru] ∧ Purse H p t ∧ t ≤ 2 ^ 18 ∧ RuleT H ru lh b k hs most ∧ lh ≠ p ∧ Drawn b k hs most ∧
  ∀ (H' : Hp) (q : Addr) (l h d : Int), Kp p H H' → Purse H' p (t + 100) → H' q = some (.tup [.int l, .int h, .int d]) → l < h → h - l < 2 ^ 102 → l.natAbs < 2 ^ 128 → h.natAbs < 2 ^ 129 → 0 ≤ d → d ≤ 5 → Q (.ref q) H'
abbrev nm_law_range : List Str := ["_law_purse_here", "_law_rule_here", "_law_length", "_law_turn", "_law_low"]
theorem sc_law_range : FnScope ["_law_purse_here", "_law_rule_here", "_law_length", "_law_turn", "_law_low"] ["_law_purse_here", "_law_rule_here"] (defScope s_law_range) := ⟨rfl, rfl, rfl, by decide +kernel, rfl, by decide +kernel, by decide +kernel⟩
theorem ok_range (T : Txt K mg A w) : FnOk P w K mg base CX0 4 A.a_law_range A.d_law_range ["_law_purse_here", "_law_rule_here"] spRange := by
  have G_law_draw : FnOk P w K mg base CX0 1 A.a_law_draw A.d_law_draw ["_law_purse_here", "_law_many"] spDraw := ok_draw T
  have G_law_pick : FnOk P w K mg base CX0 2 A.a_law_pick A.d_law_pick ["_law_purse_here", "_law_items"] spPick := ok_pick T
  have G_law_number : FnOk P w K mg base CX0 3 A.a_law_number A.d_law_number ["_law_purse_here"] spNumber := ok_number T
  refine T.F_law_range.ok sc_law_range (fun vs H Q E h => ?_) (fun cdv A0 outer s H vs Q E hr h => ?_)
  · obtain ⟨p, ru, lh, t, b, k, hs, most, rfl, _⟩ := h
    rfl
  · obtain ⟨p, ru, lh, t, b, k, hs, most, rfl, hP, ht, hT, nlp, G, q⟩ := h
    have e18 : (2 : Nat) ^ 18 = 262144 := by decide
    have e19 : (2 : Nat) ^ 19 = 524288 := by decide
    have e20 : (2 : Nat) ^ 20 = 1048576 := by decide
    have G3 := G.m1
    have G4 := G.m6
    have G5 := G.b2
    have G6 := G.b10
    refine ⟨_, (pss_cons (ps_set (i := 2) sc_law_range.nd rfl (Or.inl rfl) (pe_call G_law_pick (hr.mono (by decide)) (by rfl) T.m_law_pick T.F_law_pick.kp T.B_law_pick .nil pass0 (pa_cons (pv 0) (pa_cons (pe_lst (pa_cons pe_int (pa_cons pe_int (pa_cons pe_int (pa_cons (pe_ix ix_tup (pv 1) pe_int (fun _ _ => rfl)) (pa_cons (pe_op op_add (pe_ix ix_tup (pv 1) pe_int (fun _ _ => rfl)) pe_int) (pa_cons (pe_op op_add pe_int (pe_call G_law_draw (hr.mono (by decide)) (by rfl) T.m_law_draw T.F_law_draw.kp T.B_law_draw .nil pass0 (pa_cons (pv 0) (pa_cons pe_int pa_nil)))) pa_nil))))))) pa_nil))))
  (pss_cons (ps_for PassesOwn.never rfl (pi_range1 rfl T.n_range (pa_cons (pe_call G_law_pick (hr.mono (by decide)) (by rfl) T.m_law_pick T.F_law_pick.kp T.B_law_pick .nil pass0 (pa_cons (pv 0) (pa_cons (pe_lst (pa_cons pe_int (pa_cons pe_int (pa_cons pe_int (pa_cons pe_int (pa_cons pe_int pa_nil)))))) pa_nil))) pa_nil)) (pg_name (i := 3) sc_law_range.nd rfl (Or.inl rfl))
  (pss_one (ps_set (i := 2) sc_law_range.nd rfl (Or.inl rfl) (pe_op op_mulW (pv 2) (pe_call G_law_pick (hr.mono (by decide)) (by rfl) T.m_law_pick T.F_law_pick.kp T.B_law_pick .nil pass0 (pa_cons (pv 0) (pa_cons (pe_lst (pa_cons (pe_ix ix_tup (pv 1) pe_int (fun _ _ => rfl)) (pa_cons (pe_ix ix_list (pe_ix ix_tup (pv 1) pe_int (fun _ _ => rfl)) pe_int (fun _ _ => rfl)) pa_nil))) pa_nil)))))))
  (pss_cons (ps_set (i := 2) sc_law_range.nd rfl (Or.inl rfl) (pe_op op_add (pe_op op_mod (pe_callTy call_int1 (by rfl) T.n_int (by decide +kernel) (pa_cons (pv 2) pa_nil)) (pe_op op_pow pe_int pe_int)) (pe_call G_law_pick (hr.mono (by decide)) (by rfl) T.m_law_pick T.F_law_pick.kp T.B_law_pick .nil pass0 (pa_cons (pv 0) (pa_cons (pe_lst (pa_cons pe_int (pa_cons pe_int (pa_cons pe_int (pa_cons pe_int pa_nil))))) pa_nil)))))
  (pss_cons (ps_set (i := 4) sc_law_range.nd rfl (Or.inl rfl) (pe_call G_law_number (hr.mono (by decide)) (by rfl) T.m_law_number T.F_law_number.kp T.B_law_number .nil pass0 (pa_cons (pv 0) pa_nil)))
  (Evl.pss_cut (ps_if (pt_cmpR op_eq (pe_call G_law_draw (hr.mono (by decide)) (by rfl) T.m_law_draw T.F_law_draw.kp T.B_law_draw .nil pass0 (pa_cons (pv 0) (pa_cons pe_int pa_nil))) pe_int (nomark _)) (pss_one (ps_set (i := 4) sc_law_range.nd rfl (Or.inl rfl) (pe_op op_mulW (pe_op op_fdivW (pv 4) (pv 2)) (pv 2)))) pss_nil)
  (Evl.pss_cut (ps_if (pt_cmpR op_eq (pe_call G_law_draw (hr.mono (by decide)) (by rfl) T.m_law_draw T.F_law_draw.kp T.B_law_draw .nil pass0 (pa_cons (pv 0) (pa_cons pe_int pa_nil))) pe_int (nomark _)) (pss_one (ps_set (i := 4) sc_law_range.nd rfl (Or.inl rfl) (pe_op op_sub pe_int (pe_op op_fdivW (pv 2) pe_int)))) pss_nil)
  (pss_one (ps_ret (pe_tup (pa_cons (pv 4) (pa_cons (pe_op op_add (pv 4) (pe_callB (call_max2 rfl) (by rfl) T.n_max (by decide +kernel) (pa_cons (pe_callTy call_int1 (by rfl) T.n_int (by decide +kernel) (pa_cons (pv 2) pa_nil)) (pa_cons pe_int pa_nil)))) (pa_cons (pe_call G_law_pick (hr.mono (by decide)) (by rfl) T.m_law_pick T.F_law_pick.kp T.B_law_pick .nil pass0 (pa_cons (pv 0) (pa_cons (pe_lst (pa_cons pe_int (pa_cons pe_int (pa_cons pe_int (pa_cons pe_int (pa_cons pe_int (pa_cons pe_int pa_nil))))))) pa_nil))) pa_nil)))))))))))), ?_⟩
    -- the first pick
    refine ⟨_, rfl, _, rfl, ru, _, _, _, rfl, rfl, SqT.of hT.1, atL (j := 3) rfl, _, rfl, ru, _, _, _, rfl, rfl, SqT.of hT.1, atL (j := 3) rfl, _, _, rfl, rfl, _, rfl, p, 99, t, rfl, hP, by omega, by decide, small2000 (by decide), fun H1 n1 k1 P1 n10 n11 => ?_⟩
    have T1 := hT.kp hP nlp k1
    refine ⟨_, _, rfl, rfl, (by show 6 ≤ sizeLine; decide), fun l hl => ?_⟩
    have P1' := P1.same (same_new (o := .lst [.int 1, .int 2, .int 5, .int most, .int (most + 1), .int (1 + n1)]) hl)
    refine ⟨p, l, _, t + 1, rfl, P1', by omega, upd_same, P1.ne hl, (by show 0 < 6; decide), (by show 6 ≤ 1000; decide), fun H2 i2 x2 k2 P2 g2 => ?_⟩
    obtain ⟨len, rfl, len0, len1⟩ := pick_int (ms := [1, 2, 5, most, most + 1, 1 + n1]) (P := fun m => 1 ≤ m ∧ m ≤ 100) g2 (by
      intro m hm
      simp only [List.mem_cons, List.not_mem_nil, or_false] at hm
      omega)
    have k02 := k1.trans ((kpNew (o := .lst [.int 1, .int 2, .int 5, .int most, .int (most + 1), .int (1 + n1)]) hl).trans k2)
    have T2 := hT.kp hP nlp k02
    refine ⟨_, rfl, (by show 5 ≤ sizeLine; decide), fun l3 hl3 => ?_⟩
    have P3' := P2.same (same_new (o := .lst [.int 0, .int 0, .int 1, .int 2, .int 20]) hl3)
    refine ⟨p, l3, _, t + 2, rfl, P3', by omega, upd_same, P2.ne hl3, (by show 0 < 5; decide), (by show 5 ≤ 1000; decide), fun H4 i4 x4 k4 P4 g4 => ?_⟩
    obtain ⟨j, rfl, j0, j1⟩ := pick_int (ms := [0, 0, 1, 2, 20]) (P := fun m => 0 ≤ m ∧ m ≤ 20) g4 (by decide)
    have k04 := k02.trans ((kpNew (o := .lst [.int 0, .int 0, .int 1, .int 2, .int 20]) hl3).trans k4)
    refine ⟨j, rfl, by omega, by omega, for_range (lo := 0) (n := j.toNat) (fun i σ H' => ∃ (n : Int) (v : Option V), σ = [some (.ref p), some (.ref ru), some (.int n), v, none] ∧ Kp p H H' ∧ Purse H' p (t + 3 + i) ∧ 1 ≤ n ∧ n ≤ 100 * 25 ^ i) ⟨len, none, rfl, k04, P4, len0, by rw [Int.pow_zero, Int.mul_one]; exact len1⟩ ?_ ?_⟩
    · rintro i σ H5 hi ⟨n, v, rfl, k5, P5, n0, nB⟩
      have T5 := hT.kp hP nlp k5
      have hpos : 0 < hs.length := List.length_pos_iff.mpr G.ne
      obtain ⟨y, hy⟩ : ∃ y, hs[0]? = some y := ⟨_, List.getElem?_eq_getElem hpos⟩
      obtain ⟨y1, y2, _⟩ := G.all y (List.mem_of_getElem? hy)
      refine ⟨_, rfl, _, rfl, _, rfl, ru, _, _, _, rfl, rfl, SqT.of T5.1, atL (j := 0) rfl, _, rfl, ru, _, _, _, rfl, rfl, SqT.of T5.1, atL (j := 2) rfl, lh, _, _, .int y, rfl, rfl, SqL.of T5.2, atL (j := 0) (by rw [List.getElem?_map, hy]; rfl), (by show 2 ≤ sizeLine; decide), fun l6 hl6 => ?_⟩
      have P6' := P5.same (same_new (o := .lst [.int b, .int y]) hl6)
      refine ⟨p, l6, _, t + 3 + i, rfl, P6', by omega, upd_same, P5.ne hl6, (by show 0 < 2; decide), (by show 2 ≤ 1000; decide), fun H7 i7 x7 k7 P7 g7 => ?_⟩
      obtain ⟨a, rfl, a0, a1⟩ := pick_int (ms := [b, y]) (P := fun m => 1 ≤ m ∧ m ≤ 25) g7 (by
        intro m hm
        simp only [List.mem_cons, List.not_mem_nil, or_false] at hm
        omega)
      have p25 := pow_le' (b := 25) (by decide) (show i ≤ 20 by omega)
      have nS : n < 18446744073709551616 * 18446744073709551616 := by
        have : (100 : Int) * 25 ^ 20 < 18446744073709551616 * 18446744073709551616 := by decide
        omega
      have mul1 : CMulW n a := wide_mul (a := 128) (b := 64) (nab (by omega) (by rw [show (2 : Int) ^ 128 = 18446744073709551616 * 18446744073709551616 by decide]; exact nS)) (nab (by omega) (by rw [show (2 : Int) ^ 64 = 18446744073709551616 by decide]; omega)) (by decide) (by decide) (by decide)
      refine ⟨_, _, rfl, rfl, mul1, ?_⟩
      have na := Int.mul_le_mul nB a1 (by omega) (by have := pow_pos' (b := 25) (by decide) i; omega)
      have na0 := Int.mul_le_mul n0 a0 (by omega) (by omega)
      refine ⟨_, _, rfl, k5.trans ((kpNew hl6).trans k7), P7.le (by omega), by omega, ?_⟩
      rw [Int.pow_succ, ← Int.mul_assoc]
      exact na
    · rintro σ H5 ⟨n, v, rfl, k5, P5, n0, nB⟩
      have p25 := pow_le' (b := 25) (by decide) (show j.toNat ≤ 20 by omega)
      have nB1 : n ≤ 100 * 25 ^ 20 := by omega
      have c36 : (100 : Int) * 25 ^ 20 < 10 ^ 36 := by decide
      have c100 : (100 : Int) * 25 ^ 20 + 1 < 2 ^ 102 := by decide
      refine ⟨_, rfl, .inl ⟨_, rfl, _, _, rfl, rfl, ⟨by decide, by decide, by decide⟩, _, _, rfl, rfl, (by show (0 : Int) < 10 ^ 36; decide), ?_⟩⟩
      have em : n % ((10 : Int) ^ (36 : Int).toNat) = n := Int.emod_eq_of_lt (by omega) (by show n < 10 ^ 36; omega)
      refine ⟨_, rfl, (by show 4 ≤ sizeLine; decide), fun l6 hl6 => ?_⟩
      have P6' := P5.same (same_new (o := .lst [.int 0, .int 0, .int 0, .int 1]) hl6)
      refine ⟨p, l6, _, t + 3 + j.toNat, rfl, P6', by omega, upd_same, P5.ne hl6, (by show 0 < 4; decide), (by show 4 ≤ 1000; decide), fun H7 i7 x7 k7 P7 g7 => ?_⟩
      obtain ⟨e, rfl, e0, e1⟩ := pick_int (ms := [0, 0, 0, 1]) (P := fun m => 0 ≤ m ∧ m ≤ 1) g7 (by decide)
      have k07 := k5.trans ((kpNew (o := .lst [.int 0, .int 0, .int 0, .int 1]) hl6).trans k7)
      refine ⟨_, _, rfl, rfl, ?_⟩
      rw [em]
      have L1 : 1 ≤ n + e := by omega
      have L2 : n + e < 2 ^ 102 := by omega
      -- low
      refine ⟨_, rfl, p, t + 4 + j.toNat, rfl, P7.le (by omega), by omega, fun H8 lo k8 P8 loB => ?_⟩
      have k08 := k07.trans k8
      have lo1 : -(2 ^ 126) < lo ∧ lo < 2 ^ 126 := by
        have c126 : (2 : Nat) ^ 126 = 85070591730234615865843651857942052864 := by decide
        have d126 : (2 : Int) ^ 126 = 85070591730234615865843651857942052864 := by decide
        omega
      have c126 : (2 : Int) ^ 126 = 85070591730234615865843651857942052864 := by decide
      have c127 : (2 : Int) ^ 127 = 170141183460469231731687303715884105728 := by decide
      have c128 : (2 : Int) ^ 128 = 340282366920938463463374607431768211456 := by decide
      have c102 : (2 : Int) ^ 102 = 5070602400912917605986812821504 := by decide
      have LB : n + e < BIG := lt_big (n := 102) L2 (by decide)
      refine ⟨fun σ H9 => ∃ lo : Int, σ = [some (.ref p), some (.ref ru), some (.int (n + e)), v, some (.int lo)] ∧ Kp p H H9 ∧ Purse H9 p (t + 35 + j.toNat) ∧ -(2 ^ 127) < lo ∧ lo < 2 ^ 127, ?_, ?_⟩
      · refine ⟨_, rfl, p, 2, t + 34 + j.toNat, rfl, P8.le (by omega), by omega, by decide, small2000 (by decide), fun H9 z k9 P9 z0 z1 => ⟨rfl, _, rfl, ?_⟩⟩
        refine ite2 (fun hc => ?_) (fun hc => ?_)
        · refine ⟨_, rfl, _, rfl, _, _, rfl, rfl, size_div L1 LB _, _, rfl, _, _, rfl, rfl, ?_, ?_⟩
          · have d := div_big (i := lo) (j := n + e) L1 (by have : (2 : Int) ^ 126 < BIG := pow_lt' (b := 2) (by decide) (by decide)
                                                            omega) (by have : (2 : Int) ^ 126 < BIG := pow_lt' (b := 2) (by decide) (by decide)
                                                                       omega)
            exact mulBig' (by omega) (by omega) (by omega) LB
          · have f1 := Int.emod_add_mul_ediv lo (n + e)
            have f2 := Int.emod_nonneg lo (show n + e ≠ 0 by omega)
            have f3 := Int.emod_lt_of_pos lo (show 0 < n + e by omega)
            refine ⟨_, rfl, k08.trans k9, P9.le (by omega), ?_, ?_⟩
            · rw [Int.mul_comm]
              omega
            · rw [Int.mul_comm]
              omega
        · exact ⟨lo, rfl, k08.trans k9, P9.le (by omega), by omega, by omega⟩
      · rintro σ H9 ⟨lo, rfl, k9, P9, lo2, lo3⟩
        refine ⟨fun σ H9 => ∃ lo : Int, σ = [some (.ref p), some (.ref ru), some (.int (n + e)), v, some (.int lo)] ∧ Kp p H H9 ∧ Purse H9 p (t + 36 + j.toNat) ∧ -(2 ^ 127) < lo ∧ lo < 2 ^ 127, ?_, ?_⟩
        · refine ⟨_, rfl, p, 5, t + 35 + j.toNat, rfl, P9, by omega, by decide, small2000 (by decide), fun H10 z k10 P10 z0 z1 => ⟨rfl, _, rfl, ?_⟩⟩
          refine ite2 (fun hc => ?_) (fun hc => ?_)
          · refine ⟨_, rfl, _, _, rfl, rfl, two_div, _, _, rfl, rfl, ?_⟩
            exact ⟨_, rfl, k9.trans k10, P10.le (by omega), by omega, by omega⟩
          · exact ⟨lo, rfl, k9.trans k10, P10.le (by omega), by omega, by omega⟩
        · rintro σ H10 ⟨lo, rfl, k10, P10, lo4, lo5⟩
          refine ⟨_, rfl, _, rfl, _, rfl, .inl ⟨_, rfl, _, _, rfl, _, _, rfl, rfl, _, rfl, (by show 6 ≤ sizeLine; decide), fun l11 hl11 => ?_⟩⟩
          have P11' := P10.same (same_new (o := .lst [.int 0, .int 0, .int 0, .int 1, .int 2, .int 5]) hl11)
          refine ⟨p, l11, _, t + 36 + j.toNat, rfl, P11', by omega, upd_same, P10.ne hl11, (by show 0 < 6; decide), (by show 6 ≤ 1000; decide), fun H12 i12 x12 k12 P12 g12 => ?_⟩
          obtain ⟨d, rfl, d0, d1⟩ := pick_int (ms := [0, 0, 0, 1, 2, 5]) (P := fun m => 0 ≤ m ∧ m ≤ 5) g12 (by decide)
          refine ⟨(by show 3 ≤ sizeLine; decide), fun q1 hq1 => ?_⟩
          have emax : (if (1 : Int) > n + e then (1 : Int) else n + e) = n + e := if_neg (by omega)
          have k13 := k10.trans ((kpNew (o := .lst [.int 0, .int 0, .int 0, .int 1, .int 2, .int 5]) hl11).trans (k12.trans (kpNew (o := .tup [.int lo, .int (lo + (n + e)), .int d]) hq1)))
          rw [emax]
          have c128n : (2 : Nat) ^ 128 = 340282366920938463463374607431768211456 := by decide
          have c129n : (2 : Nat) ^ 129 = 680564733841876926926749214863536422912 := by decide
          exact q _ q1 lo (lo + (n + e)) d k13 ((P12.same (same_new hq1)).le (by omega)) upd_same (by omega) (by omega) (by omega) (by omega) d0 d1
end
end Ax

namespace Ax
open PySem L2
/-! ### written lists of lists -/
abbrev LsAt (H : Hp) : List (List Int) → List Addr → Prop := Paired fun is a => H a = some (.lst (is.map V.int))
theorem LsAt.same {H H' : Hp} (s : Same H H') : ∀ {ls : List (List Int)} {as : List Addr}, LsAt H ls as → LsAt H' ls as
  | _, _, .nil => .nil
  | _, _, .cons h t => .cons (s _ _ h) (LsAt.same s t)
theorem LsAt.app {H : Hp} : ∀ {ls ks : List (List Int)} {as bs : List Addr}, LsAt H ls as → LsAt H ks bs → LsAt H (ls ++ ks) (as ++ bs)
  | _, _, _, _, .nil, q => q
  | _, _, _, _, .cons h t, q => .cons h (LsAt.app t q)
theorem LsAt.get {H : Hp} : ∀ {ls : List (List Int)} {as : List Addr} {i : Nat} {a : Addr}, LsAt H ls as → as[i]? = some a → ∃ is, ls[i]? = some is ∧ H a = some (.lst (is.map V.int))
  | _, _, _, _, .nil, h => nomatch h
  | _, _, 0, _, .cons h _, e => by
    obtain rfl := Option.some.inj e
    exact ⟨_, rfl, h⟩
  | _, _, i + 1, _, .cons _ r, e => LsAt.get (i := i) r e
theorem LsAt.snoc {H : Hp} : ∀ {ls : List (List Int)} {as : List Addr} {is : List Int} {l : Addr}, LsAt H ls as → H l = some (.lst (is.map V.int)) → LsAt H (ls ++ [is]) (as ++ [l])
  | _, _, _, _, .nil, q => .cons q .nil
  | _, _, _, _, .cons h t, q => .cons h (LsAt.snoc t q)
theorem LsAt.new {H : Hp} {ls : List (List Int)} {as : List Addr} (is : List Int) {l : Addr} (a : LsAt H ls as) (h : H l = none) : LsAt (upd H l (.lst (is.map V.int))) (ls ++ [is]) (as ++ [l]) := (a.same (same_new h)).snoc upd_same
/-! ### the families -/
def BASES : List Int := [10, 2, 10, 3, 10, 4, 6, 5, 7, 10]
def FAM1 : List (List Int) := [[1, 2, 5], [1, 2, 3, 6], [1, 3, 5, 15], [2, 3, 5], [1, 3], [2, 3, 4], [1, 25], [1, 4, 12], [1, 2, 4]]
def FAM2 : List (List Int) := [[1, 7], [1, 11], [2, 13]]
def kept (b : Int) (is : List Int) : List Int := is.filter fun m => decide (0 < m % b)
def famOf (b : Int) (is : List Int) : List Int := if kept b is = [] then [1] else kept b is
/-- what is drawn as a base and a family -/
def Fam (b : Int) (ms : List Int) : Prop := b ∈ BASES ∧ ∃ is ∈ FAM1 ++ FAM2, ms = famOf b is
def FamOk (b : Int) (ms : List Int) : Prop := (2 ≤ b ∧ b ≤ 10) ∧ ms ≠ [] ∧ ms.length ≤ 4 ∧ ms.Nodup ∧ ∀ m ∈ ms, 1 ≤ m ∧ m ≤ 25 ∧ m % b ≠ 0
instance {b : Int} {ms : List Int} : Decidable (FamOk b ms) := inferInstanceAs (Decidable (_ ∧ _))
theorem fam_table : ∀ b ∈ BASES, ∀ is ∈ FAM1 ++ FAM2, FamOk b (famOf b is) := by decide +kernel
theorem Fam.ok {b : Int} {ms : List Int} (h : Fam b ms) : FamOk b ms := by
  obtain ⟨h1, is, h2, rfl⟩ := h
  exact fam_table b h1 is h2
section
variable {P : Program} {w : World} {K : PySem.W.Frag} {mg : Str → Option Value} {base : Heap} {A : Adr}
theorem eqv_nil_cons {d : PyData} {ds : List PyData} : PyData.eqv (.list (d :: ds)) (.list []) = false := by simp [PyData.eqv, PyData.eqvAll]
theorem eqv_nil_nil : PyData.eqv (.list []) (.list []) = true := by simp [PyData.eqv, PyData.eqvAll]
theorem dp_ints {H : Hp} : ∀ ms : List Int, DpAll K H (ms.map V.int) (ms.map PyData.int)
  | [] => .nil
  | m :: r => .cons (.int m) (dp_ints r)
theorem shaped_ints (ms : List Int) : SeqAt.shaped (.list (ms.map PyData.int)) = true := by
  exact PySem.W.shaped_ints ms
def spFamily : Sp := fun vs H Q _ => ∃ (p : Addr) (t : Nat), vs = [.ref p] ∧ Purse H p t ∧ t ≤ 2 ^ 18 ∧ ∀ (H' : Hp) (q lf : Addr) (b : Int) (ms : List Int), Kp p H H' → Purse H' p (t + 2) → H' q = some (.tup [.int b, .ref lf]) → H' lf = some (.lst (ms.map V.int)) → H lf = none → Fam b ms → Q (.ref q) H'
abbrev nm_law_family : List Str := ["_law_purse_here", "_law_base", "_law_some", "_law_family_here", "_law_one"]
theorem sc_law_family : FnScope ["_law_purse_here", "_law_base", "_law_some", "_law_family_here", "_law_one"] ["_law_purse_here"] (defScope s_law_family) := ⟨rfl, rfl, rfl, by decide +kernel, rfl, by decide +kernel, by decide +kernel⟩
theorem ok_family (T : Txt K mg A w) : FnOk P w K mg base CX0 3 A.a_law_family A.d_law_family ["_law_purse_here"] spFamily := by
  have G_law_pick : FnOk P w K mg base CX0 2 A.a_law_pick A.d_law_pick ["_law_purse_here", "_law_items"] spPick := ok_pick T
  refine T.F_law_family.ok sc_law_family (fun vs H Q E h => ?_) (fun cdv A0 outer s H vs Q E hr h => ?_)
  · obtain ⟨p, t, rfl, _⟩ := h
    rfl
  · obtain ⟨p, t, rfl, hP, ht, q⟩ := h
    have e18 : (2 : Nat) ^ 18 = 262144 := by decide
    have e20 : (2 : Nat) ^ 20 = 1048576 := by decide
    refine ⟨_, (pss_cons (ps_set (i := 1) sc_law_family.nd rfl (Or.inr rfl) (pe_call G_law_pick (hr.mono (by decide)) (by rfl) T.m_law_pick T.F_law_pick.kp T.B_law_pick .nil pass0 (pa_cons (pv 0) (pa_cons (pe_lst (pa_cons pe_int (pa_cons pe_int (pa_cons pe_int (pa_cons pe_int (pa_cons pe_int (pa_cons pe_int (pa_cons pe_int (pa_cons pe_int (pa_cons pe_int (pa_cons pe_int pa_nil))))))))))) pa_nil))))
  (pss_cons (ps_set (i := 2) sc_law_family.nd rfl (Or.inl rfl) (pe_lst (pa_cons (pe_lst (pa_cons pe_int (pa_cons pe_int (pa_cons pe_int pa_nil)))) (pa_cons (pe_lst (pa_cons pe_int (pa_cons pe_int (pa_cons pe_int (pa_cons pe_int pa_nil))))) (pa_cons (pe_lst (pa_cons pe_int (pa_cons pe_int (pa_cons pe_int (pa_cons pe_int pa_nil))))) (pa_cons (pe_lst (pa_cons pe_int (pa_cons pe_int (pa_cons pe_int pa_nil)))) (pa_cons (pe_lst (pa_cons pe_int (pa_cons pe_int pa_nil))) (pa_cons (pe_lst (pa_cons pe_int (pa_cons pe_int (pa_cons pe_int pa_nil)))) (pa_cons (pe_lst (pa_cons pe_int (pa_cons pe_int pa_nil))) (pa_cons (pe_lst (pa_cons pe_int (pa_cons pe_int (pa_cons pe_int pa_nil)))) (pa_cons (pe_lst (pa_cons pe_int (pa_cons pe_int (pa_cons pe_int pa_nil)))) pa_nil)))))))))))
  (pss_cons (ps_set (i := 2) sc_law_family.nd rfl (Or.inl rfl) (pe_op op_cat (pv 2) (pe_lst (pa_cons (pe_lst (pa_cons pe_int (pa_cons pe_int pa_nil))) (pa_cons (pe_lst (pa_cons pe_int (pa_cons pe_int pa_nil))) (pa_cons (pe_lst (pa_cons pe_int (pa_cons pe_int pa_nil))) pa_nil))))))
  (pss_cons (ps_setLc (i := 3) (own := [("_law_one", 4)]) (g := gName 4) rfl sc_law_family.nd rfl rfl (sw_true rfl rfl rfl (by decide +kernel)) (pi_list (pe_call G_law_pick (hr.mono (by decide)) (by rfl) T.m_law_pick T.F_law_pick.kp T.B_law_pick .nil pass0 (pa_cons (pv 0) (pa_cons (pv 2) pa_nil)))) (blkOk_by (own := [("_law_one", 4)]) (N := nm_law_family) (sc := defScope s_law_family) (by decide +kernel)) (fun _ _ _ _ _ => (pg_name (i := 4) sc_law_family.nd rfl (Or.inl rfl))) (fun _ _ _ _ _ => (pts_one (pt_cmpR op_gt (pe_op op_mod (pe_callTy call_int1 (by rfl) T.n_int (by decide +kernel) (pa_cons (pv 4) pa_nil)) (pv 1)) pe_int (nomark _)))) (fun _ _ _ _ _ => (pv 4)))
  (Evl.pss_cut (ps_if (pt_cmpR (op_eqD (hr.units)) (pv 3) (pe_lst pa_nil) (nomark _)) (pss_one (ps_set (i := 3) sc_law_family.nd rfl (Or.inl rfl) (pe_lst (pa_cons pe_int pa_nil)))) pss_nil)
  (pss_one (ps_ret (pe_tup (pa_cons (pv 1) (pa_cons (pv 3) pa_nil)))))))))), ?_⟩
    refine ⟨_, rfl, (by show 10 ≤ sizeLine; decide), fun l hl => ?_⟩
    have P0 := hP.same (same_new (o := .lst (BASES.map V.int)) hl)
    refine ⟨p, l, BASES.map V.int, t, rfl, P0, by omega, upd_same, hP.ne hl, (by decide), (by decide), fun H1 i1 x1 k1 P1 g1 => ?_⟩
    obtain ⟨b, rfl, hb⟩ := pick_int (ms := BASES) (P := fun m => m ∈ BASES) g1 (fun m hm => hm)
    have k01 : Kp p H H1 := (kpNew hl).trans k1
    -- the families
    refine ⟨(by show 3 ≤ sizeLine; decide), fun a0 ha0 => ⟨(by show 4 ≤ sizeLine; decide), fun a1 ha1 => ⟨(by show 4 ≤ sizeLine; decide), fun a2 ha2 => ⟨(by show 3 ≤ sizeLine; decide), fun a3 ha3 => ⟨(by show 2 ≤ sizeLine; decide), fun a4 ha4 => ⟨(by show 3 ≤ sizeLine; decide), fun a5 ha5 => ⟨(by show 2 ≤ sizeLine; decide), fun a6 ha6 => ⟨(by show 3 ≤ sizeLine; decide), fun a7 ha7 => ⟨(by show 3 ≤ sizeLine; decide), fun a8 ha8 => ⟨(by show 9 ≤ sizeLine; decide), fun L2 hL2 => ?_⟩⟩⟩⟩⟩⟩⟩⟩⟩⟩
    have sA : Same H1 _ := (Same.trans (Same.trans (Same.trans (Same.trans (Same.trans (Same.trans (Same.trans (Same.trans (Same.trans (Same.refl _) (same_new (o := .lst ([1, 2, 5].map V.int)) ha0)) (same_new (o := .lst ([1, 2, 3, 6].map V.int)) ha1)) (same_new (o := .lst ([1, 3, 5, 15].map V.int)) ha2)) (same_new (o := .lst ([2, 3, 5].map V.int)) ha3)) (same_new (o := .lst ([1, 3].map V.int)) ha4)) (same_new (o := .lst ([2, 3, 4].map V.int)) ha5)) (same_new (o := .lst ([1, 25].map V.int)) ha6)) (same_new (o := .lst ([1, 4, 12].map V.int)) ha7)) (same_new (o := .lst ([1, 2, 4].map V.int)) ha8))
    have A1 : LsAt _ FAM1 [a0, a1, a2, a3, a4, a5, a6, a7, a8] := (LsAt.new [1, 2, 4] (LsAt.new [1, 4, 12] (LsAt.new [1, 25] (LsAt.new [2, 3, 4] (LsAt.new [1, 3] (LsAt.new [2, 3, 5] (LsAt.new [1, 3, 5, 15] (LsAt.new [1, 2, 3, 6] (LsAt.new [1, 2, 5] (Paired.nil : LsAt _ [] []) ha0) ha1) ha2) ha3) ha4) ha5) ha6) ha7) ha8)
    have s2 := sA.trans (same_new (o := .lst [V.ref a0, V.ref a1, V.ref a2, V.ref a3, V.ref a4, V.ref a5, V.ref a6, V.ref a7, V.ref a8]) hL2)
    refine ⟨_, rfl, ⟨(by show 2 ≤ sizeLine; decide), fun b0 hb0 => ⟨(by show 2 ≤ sizeLine; decide), fun b1 hb1 => ⟨(by show 2 ≤ sizeLine; decide), fun b2 hb2 => ⟨(by show 3 ≤ sizeLine; decide), fun L3 hL3 => ?_⟩⟩⟩⟩⟩
    have sB : Same _ _ := (Same.trans (Same.trans (Same.trans (Same.refl _) (same_new (o := .lst ([1, 7].map V.int)) hb0)) (same_new (o := .lst ([1, 11].map V.int)) hb1)) (same_new (o := .lst ([2, 13].map V.int)) hb2))
    have B1 : LsAt _ FAM2 [b0, b1, b2] := (LsAt.new [2, 13] (LsAt.new [1, 11] (LsAt.new [1, 7] (Paired.nil : LsAt _ [] []) hb0) hb1) hb2)
    have s3 := sB.trans (same_new (o := .lst [V.ref b0, V.ref b1, V.ref b2]) hL3)
    refine ⟨L2, L3, _, _, rfl, rfl, s3 _ _ upd_same, upd_same, (by show 9 + 3 ≤ sizeLine; decide), fun L4 hL4 => ?_⟩
    have sAll := (s2.trans s3).trans (same_new (o := .lst [V.ref a0, V.ref a1, V.ref a2, V.ref a3, V.ref a4, V.ref a5, V.ref a6, V.ref a7, V.ref a8, V.ref b0, V.ref b1, V.ref b2]) hL4)
    have AB : LsAt _ (FAM1 ++ FAM2) ([a0, a1, a2, a3, a4, a5, a6, a7, a8] ++ [b0, b1, b2]) := LsAt.app ((A1.same (same_new (o := .lst [V.ref a0, V.ref a1, V.ref a2, V.ref a3, V.ref a4, V.ref a5, V.ref a6, V.ref a7, V.ref a8]) hL2)).same (s3.trans (same_new (o := .lst [V.ref a0, V.ref a1, V.ref a2, V.ref a3, V.ref a4, V.ref a5, V.ref a6, V.ref a7, V.ref a8, V.ref b0, V.ref b1, V.ref b2]) hL4))) (B1.same ((same_new (o := .lst [V.ref b0, V.ref b1, V.ref b2]) hL3).trans (same_new (o := .lst [V.ref a0, V.ref a1, V.ref a2, V.ref a3, V.ref a4, V.ref a5, V.ref a6, V.ref a7, V.ref a8, V.ref b0, V.ref b1, V.ref b2]) hL4)))
    have P4 := P1.same sAll
    have n4p : L4 ≠ p := (P1.same (s2.trans s3)).ne hL4
    have na0 : a0 ≠ p := (P1.same (Same.refl _)).ne ha0
    have na1 : a1 ≠ p := (P1.same (Same.trans (Same.refl _) (same_new (o := .lst ([1, 2, 5].map V.int)) ha0))).ne ha1
    have na2 : a2 ≠ p := (P1.same (Same.trans (Same.trans (Same.refl _) (same_new (o := .lst ([1, 2, 5].map V.int)) ha0)) (same_new (o := .lst ([1, 2, 3, 6].map V.int)) ha1))).ne ha2
    have na3 : a3 ≠ p := (P1.same (Same.trans (Same.trans (Same.trans (Same.refl _) (same_new (o := .lst ([1, 2, 5].map V.int)) ha0)) (same_new (o := .lst ([1, 2, 3, 6].map V.int)) ha1)) (same_new (o := .lst ([1, 3, 5, 15].map V.int)) ha2))).ne ha3
    have na4 : a4 ≠ p := (P1.same (Same.trans (Same.trans (Same.trans (Same.trans (Same.refl _) (same_new (o := .lst ([1, 2, 5].map V.int)) ha0)) (same_new (o := .lst ([1, 2, 3, 6].map V.int)) ha1)) (same_new (o := .lst ([1, 3, 5, 15].map V.int)) ha2)) (same_new (o := .lst ([2, 3, 5].map V.int)) ha3))).ne ha4
    have na5 : a5 ≠ p := (P1.same (Same.trans (Same.trans (Same.trans (Same.trans (Same.trans (Same.refl _) (same_new (o := .lst ([1, 2, 5].map V.int)) ha0)) (same_new (o := .lst ([1, 2, 3, 6].map V.int)) ha1)) (same_new (o := .lst ([1, 3, 5, 15].map V.int)) ha2)) (same_new (o := .lst ([2, 3, 5].map V.int)) ha3)) (same_new (o := .lst ([1, 3].map V.int)) ha4))).ne ha5
    have na6 : a6 ≠ p := (P1.same (Same.trans (Same.trans (Same.trans (Same.trans (Same.trans (Same.trans (Same.refl _) (same_new (o := .lst ([1, 2, 5].map V.int)) ha0)) (same_new (o := .lst ([1, 2, 3, 6].map V.int)) ha1)) (same_new (o := .lst ([1, 3, 5, 15].map V.int)) ha2)) (same_new (o := .lst ([2, 3, 5].map V.int)) ha3)) (same_new (o := .lst ([1, 3].map V.int)) ha4)) (same_new (o := .lst ([2, 3, 4].map V.int)) ha5))).ne ha6
    have na7 : a7 ≠ p := (P1.same (Same.trans (Same.trans (Same.trans (Same.trans (Same.trans (Same.trans (Same.trans (Same.refl _) (same_new (o := .lst ([1, 2, 5].map V.int)) ha0)) (same_new (o := .lst ([1, 2, 3, 6].map V.int)) ha1)) (same_new (o := .lst ([1, 3, 5, 15].map V.int)) ha2)) (same_new (o := .lst ([2, 3, 5].map V.int)) ha3)) (same_new (o := .lst ([1, 3].map V.int)) ha4)) (same_new (o := .lst ([2, 3, 4].map V.int)) ha5)) (same_new (o := .lst ([1, 25].map V.int)) ha6))).ne ha7
    have na8 : a8 ≠ p := (P1.same (Same.trans (Same.trans (Same.trans (Same.trans (Same.trans (Same.trans (Same.trans (Same.trans (Same.refl _) (same_new (o := .lst ([1, 2, 5].map V.int)) ha0)) (same_new (o := .lst ([1, 2, 3, 6].map V.int)) ha1)) (same_new (o := .lst ([1, 3, 5, 15].map V.int)) ha2)) (same_new (o := .lst ([2, 3, 5].map V.int)) ha3)) (same_new (o := .lst ([1, 3].map V.int)) ha4)) (same_new (o := .lst ([2, 3, 4].map V.int)) ha5)) (same_new (o := .lst ([1, 25].map V.int)) ha6)) (same_new (o := .lst ([1, 4, 12].map V.int)) ha7))).ne ha8
    have nb0 : b0 ≠ p := ((P1.same s2).same (Same.refl _)).ne hb0
    have nb1 : b1 ≠ p := ((P1.same s2).same (Same.trans (Same.refl _) (same_new (o := .lst ([1, 7].map V.int)) hb0))).ne hb1
    have nb2 : b2 ≠ p := ((P1.same s2).same (Same.trans (Same.trans (Same.refl _) (same_new (o := .lst ([1, 7].map V.int)) hb0)) (same_new (o := .lst ([1, 11].map V.int)) hb1))).ne hb2
    have nes : ∀ a ∈ ([a0, a1, a2, a3, a4, a5, a6, a7, a8] ++ [b0, b1, b2]), a ≠ p := by
      intro a h
      simp only [List.cons_append, List.nil_append, List.mem_cons, List.not_mem_nil, or_false] at h
      rcases h with rfl | rfl | rfl | rfl | rfl | rfl | rfl | rfl | rfl | rfl | rfl | rfl
      · exact na0
      · exact na1
      · exact na2
      · exact na3
      · exact na4
      · exact na5
      · exact na6
      · exact na7
      · exact na8
      · exact nb0
      · exact nb1
      · exact nb2
    -- the family that is drawn
    refine ⟨_, rfl, _, rfl, p, L4, _, t + 1, rfl, P4, by omega, upd_same, n4p, (by show 0 < 12; decide), (by show 12 ≤ 1000; decide), fun H5 i5 x5 k5 P5 g5 => ?_⟩
    obtain ⟨a, is, rfl, his, ha, nap⟩ : ∃ a is, x5 = V.ref a ∧ (FAM1 ++ FAM2)[i5]? = some is ∧ H5 a = some (HO.lst (is.map V.int)) ∧ a ≠ p := by
      have g5' : (([a0, a1, a2, a3, a4, a5, a6, a7, a8] ++ [b0, b1, b2]).map V.ref)[i5]? = some x5 := g5
      rw [List.getElem?_map] at g5'
      cases e : ([a0, a1, a2, a3, a4, a5, a6, a7, a8] ++ [b0, b1, b2])[i5]? with
      | none =>
        rw [e] at g5'
        cases g5'
      | some a =>
        rw [e] at g5'
        obtain ⟨is, h1, h2⟩ := AB.get e
        have np := nes a (List.mem_of_getElem? e)
        exact ⟨a, is, (Option.some.inj g5').symm, h1, k5 _ _ np h2, np⟩
    have k05 : Kp p H H5 := k01.trans ((Ax.Same.kp sAll p).trans k5)
    have his2 : is ∈ FAM1 ++ FAM2 := List.mem_of_getElem? his
    have lenIs : is.length ≤ 4 := (by decide : ∀ is ∈ FAM1 ++ FAM2, is.length ≤ 4) is his2
    have bpos : 0 < b := (by decide : ∀ b ∈ BASES, 0 < b) b hb
    refine ⟨a, rfl, ⟨_, SqL.of ha⟩, fun D hD => lc_list (K := K) (a := a) (xs := is.map V.int) (fun i H' => H' = upd H5 D (.lst ((kept b (is.take i)).map V.int))) rfl ?_ ?_ ?_⟩
    · rintro i H' _ rfl
      exact SqL.of (by rw [upd_ne (ne_of_none ha hD)]; exact ha)
    · rintro i x H' hi rfl
      obtain ⟨m, hm, rfl⟩ := map_get hi
      have et : is.take (i + 1) = is.take i ++ [m] := by
        rw [List.take_add_one, hm]
        rfl
      refine ⟨rfl, _, rfl, .inl ⟨_, rfl, _, rfl, _, _, rfl, rfl, bpos, _, _, rfl, rfl, _, rfl, ?_⟩⟩
      refine ite2 (fun hc => ?_) (fun hc => ?_)
      · have hc : 0 < m % b := of_decide_eq_true hc
        refine ⟨_, rfl, _, upd_same, ?_, ?_⟩
        · rw [List.length_map]
          have h1 : (kept b (is.take i)).length ≤ (is.take i).length := List.length_filter_le _ _
          rw [List.length_take] at h1
          exact small1000 (by omega)
        · rw [upd_upd, et]
          have e2 : kept b (is.take i ++ [m]) = kept b (is.take i) ++ [m] := by
            unfold kept
            rw [List.filter_append, List.filter_cons, if_pos (decide_eq_true hc), List.filter_nil]
          rw [e2, List.map_append]
          rfl
      · have hc : ¬ 0 < m % b := fun z => hc (decide_eq_true z)
        rw [et]
        have e2 : kept b (is.take i ++ [m]) = kept b (is.take i) := by
          unfold kept
          rw [List.filter_append, List.filter_cons, if_neg (by rw [decide_eq_false hc]; decide), List.filter_nil, List.append_nil]
        rw [e2]
    · rintro H' rfl
      rw [List.length_map, List.take_length]
      have s6 := same_new (o := .lst ((kept b is).map V.int)) hD
      have P6 := P5.same s6
      have k06 : Kp p H (upd H5 D (.lst ((kept b is).map V.int))) := k05.trans (Ax.Same.kp s6 p)
      have fresh0 : ∀ l, upd H5 D (.lst ((kept b is).map V.int)) l = none → H l = none := fun l e => k06.free P6 e
      have D0 : H D = none := k05.free P5 hD
      refine ⟨fun σ H7 => ∃ lf : Addr, σ = [some (.ref p), some (.int b), some (.ref L4), some (.ref lf), none] ∧ Kp p H H7 ∧ Purse H7 p (t + 2) ∧ H7 lf = some (.lst ((famOf b is).map V.int)) ∧ H lf = none, ?_, ?_⟩
      · refine ⟨_, rfl, Nat.zero_le _, fun l8 hl8 => ?_⟩
        have nD8 : D ≠ l8 := ne_of_none upd_same hl8
        refine ⟨.list ((kept b is).map PyData.int), .list [], .lst (SqL.of (by rw [upd_ne nD8, upd_same])) (dp_ints _), .lst (SqL.of upd_same) .nil, ?_, by decide, _, rfl, ?_⟩
        · exact shaped_ints _
        · have k8 := k06.trans (kpNew (p := p) (o := .lst []) hl8)
          have P8 := P6.same (same_new (o := .lst []) hl8)
          by_cases c : kept b is = []
          · have e : famOf b is = [1] := if_pos c
            rw [c] at k8 P8 ⊢
            show if PyData.eqv (.list []) (.list []) = true then _ else _
            rw [eqv_nil_nil]
            refine iteT ⟨(by show 1 ≤ sizeLine; decide), fun l9 hl9 => ?_⟩
            exact ⟨l9, rfl, k8.trans (kpNew hl9), P8.same (same_new hl9), by rw [e]; exact upd_same, k8.free P8 hl9⟩
          · have e : famOf b is = kept b is := if_neg c
            obtain ⟨m0, mr, em⟩ : ∃ m0 mr, kept b is = m0 :: mr := by
              cases q : kept b is with
              | nil => exact absurd q c
              | cons x r => exact ⟨x, r, rfl⟩
            rw [em] at k8 P8 ⊢
            show if PyData.eqv (.list (PyData.int m0 :: mr.map PyData.int)) (.list []) = true then _ else _
            rw [eqv_nil_cons]
            refine iteF ?_
            exact ⟨D, rfl, k8, P8, by rw [e, em, upd_ne nD8, upd_same], D0⟩
      · rintro σ H7 ⟨lf, rfl, k7, P7, h7, f7⟩
        refine ⟨_, rfl, _, rfl, (by show 2 ≤ sizeLine; decide), fun q1 hq1 => ?_⟩
        have nl := ne_of_none h7 hq1
        exact q _ q1 lf b _ (k7.trans (kpNew hq1)) (P7.same (same_new hq1)) upd_same (by rw [upd_ne nl]; exact h7) f7 ⟨hb, is, his2, rfl⟩
end
end Ax

namespace Ax
open PySem L2
section
variable {P : Program} {w : World} {K : PySem.W.Frag} {mg : Str → Option Value} {base : Heap} {A : Adr}
theorem drawn_of {b most : Int} {k : Kd} {ms hs : List Int} (F : FamOk b ms) (ne : hs ≠ []) (sub : hs.Sublist ms) (m1 : 1 ≤ most) (m5 : most ≤ 5) : Drawn b k hs (most + (if decide (k = .cov) = true then 1 else 0)) := by
  obtain ⟨⟨h1, h2⟩, h3, h4, h5, h6⟩ := F
  refine ⟨h1, h2, ?_, ?_, fun z => ?_, ne, Nat.le_trans sub.length_le h4, sub.nodup h5, fun m hm => h6 m (sub.mem hm)⟩
  · split <;> omega
  · split <;> omega
  · rw [if_pos (decide_eq_true z)]
    omega
theorem kd_cov (k : Kd) : decide (V.str k.s = V.str "cover") = decide (k = .cov) := kd_is k .cov
theorem pick_kd {i : Nat} {x : V} (h : ([V.str "inside", V.str "cover", V.str "length", V.str "inside", V.str "cover"] : List V)[i]? = some x) : ∃ k : Kd, x = .str k.s := by
  have h' : (([Kd.ins, .cov, .len, .ins, .cov] : List Kd).map fun k => V.str k.s)[i]? = some x := h
  rw [List.getElem?_map] at h'
  cases e : ([Kd.ins, .cov, .len, .ins, .cov] : List Kd)[i]? with
  | none =>
    rw [e] at h'
    cases h'
  | some k =>
    rw [e] at h'
    exact ⟨k, (Option.some.inj h').symm⟩
theorem take_sub {ms : List Int} {i : Nat} {m : Int} (hm : ms[i]? = some m) : ms.take (i + 1) = ms.take i ++ [m] := by
  rw [List.take_add_one, hm]
  rfl
def spRule : Sp := fun vs H Q _ => ∃ (p f lf : Addr) (t : Nat) (b : Int) (ms : List Int), vs = [.ref p, .ref f] ∧ Purse H p t ∧ t ≤ 2 ^ 18 ∧ H f = some (.tup [.int b, .ref lf]) ∧ H lf = some (.lst (ms.map V.int)) ∧ lf ≠ p ∧ Fam b ms ∧
  ∀ (H' : Hp) (q lh : Addr) (k : Kd) (hs : List Int) (most : Int), Kp p H H' → Purse H' p (t + 8) → RuleT H' q lh b k hs most → H lh = none → Drawn b k hs most → (∀ m ∈ hs, m ∈ ms) → Q (.ref q) H'
abbrev nm_law_rule : List Str := ["_law_purse_here", "_law_family_here", "_law_base", "_law_some", "_law_kind", "_law_heads", "_law_one"]
theorem sc_law_rule : FnScope ["_law_purse_here", "_law_family_here", "_law_base", "_law_some", "_law_kind", "_law_heads", "_law_one"] ["_law_purse_here", "_law_family_here"] (defScope s_law_rule) := ⟨rfl, rfl, rfl, by decide +kernel, rfl, by decide +kernel, by decide +kernel⟩
theorem ok_rule (T : Txt K mg A w) : FnOk P w K mg base CX0 3 A.a_law_rule A.d_law_rule ["_law_purse_here", "_law_family_here"] spRule := by
  have G_law_draw : FnOk P w K mg base CX0 1 A.a_law_draw A.d_law_draw ["_law_purse_here", "_law_many"] spDraw := ok_draw T
  have G_law_pick : FnOk P w K mg base CX0 2 A.a_law_pick A.d_law_pick ["_law_purse_here", "_law_items"] spPick := ok_pick T
  refine T.F_law_rule.ok sc_law_rule (fun vs H Q E h => ?_) (fun cdv A0 outer s H vs Q E hr h => ?_)
  · obtain ⟨p, f, lf, t, b, ms, rfl, _⟩ := h
    rfl
  · obtain ⟨p, f, lf, t, b, ms, rfl, hP, ht, hf, hl, nlp, F, q⟩ := h
    have Fo := F.ok
    have e18 : (2 : Nat) ^ 18 = 262144 := by decide
    have e20 : (2 : Nat) ^ 20 = 1048576 := by decide
    have lm4 : ms.length ≤ 4 := Fo.2.2.1
    have lpos : 0 < ms.length := List.length_pos_iff.mpr Fo.2.1
    refine ⟨_, (pss_cons (ps_asg (pv 1) (pg_tup (by rfl) (pgs_cons (pg_name (i := 2) sc_law_rule.nd rfl (Or.inl rfl)) (pgs_cons (pg_name (i := 3) sc_law_rule.nd rfl (Or.inl rfl)) pgs_nil))))
  (pss_cons (ps_set (i := 4) sc_law_rule.nd rfl (Or.inl rfl) (pe_call G_law_pick (hr.mono (by decide)) (by rfl) T.m_law_pick T.F_law_pick.kp T.B_law_pick .nil pass0 (pa_cons (pv 0) (pa_cons (pe_lst (pa_cons pe_str (pa_cons pe_str (pa_cons pe_str (pa_cons pe_str (pa_cons pe_str pa_nil)))))) pa_nil))))
  (pss_cons (ps_setLc (i := 5) (own := [("_law_one", 6)]) (g := gName 6) rfl sc_law_rule.nd rfl rfl (sw_true rfl rfl rfl (by decide +kernel)) (pi_list (pv 3)) (blkOk_by (own := [("_law_one", 6)]) (N := nm_law_rule) (sc := defScope s_law_rule) (by decide +kernel)) (fun _ _ _ _ _ => (pg_name (i := 6) sc_law_rule.nd rfl (Or.inl rfl))) (fun _ _ _ _ _ => (pts_one (pt_cmpR op_gt (pe_call G_law_draw (hr.mono (by decide)) (by rfl) T.m_law_draw T.F_law_draw.kp T.B_law_draw .nil pass0 (pa_cons (pv 0) (pa_cons pe_int pa_nil))) pe_int (nomark _)))) (fun _ _ _ _ _ => (pv 6)))
  (Evl.pss_cut (ps_if (pt_cmpR (op_eqD (hr.units)) (pv 5) (pe_lst pa_nil) (nomark _)) (pss_one (ps_set (i := 5) sc_law_rule.nd rfl (Or.inl rfl) (pe_lst (pa_cons (pe_call G_law_pick (hr.mono (by decide)) (by rfl) T.m_law_pick T.F_law_pick.kp T.B_law_pick .nil pass0 (pa_cons (pv 0) (pa_cons (pv 3) pa_nil))) pa_nil)))) pss_nil)
  (pss_one (ps_ret (pe_tup (pa_cons (pv 2) (pa_cons (pv 4) (pa_cons (pv 5) (pa_cons (pe_op op_add (pe_call G_law_pick (hr.mono (by decide)) (by rfl) T.m_law_pick T.F_law_pick.kp T.B_law_pick .nil pass0 (pa_cons (pv 0) (pa_cons (pe_lst (pa_cons pe_int (pa_cons pe_int (pa_cons pe_int (pa_cons pe_int (pa_cons pe_int (pa_cons pe_int (pa_cons pe_int pa_nil)))))))) pa_nil))) (pe_callTy call_int1 (by rfl) T.n_int (by decide +kernel) (pa_cons (pe_cmpR op_eq (pv 4) pe_str (nomark _)) pa_nil))) pa_nil))))))))))), ?_⟩
    refine ⟨_, rfl, f, _, rfl, SqT.of hf, rfl, _, _, rfl, _, _, rfl, rfl, ?_⟩
    refine ⟨_, rfl, (by show 5 ≤ sizeLine; decide), fun l hl0 => ?_⟩
    have P0 := hP.same (same_new (o := .lst [.str "inside", .str "cover", .str "length", .str "inside", .str "cover"]) hl0)
    refine ⟨p, l, _, t, rfl, P0, by omega, upd_same, hP.ne hl0, (by show 0 < 5; decide), (by show 5 ≤ 1000; decide), fun H1 i1 x1 k1 P1 g1 => ?_⟩
    obtain ⟨k, rfl⟩ := pick_kd g1
    have k01 : Kp p H H1 := (kpNew hl0).trans k1
    have hl1 := k01 _ _ nlp hl
    -- the heads
    refine ⟨_, rfl, lf, rfl, ⟨_, SqL.of hl1⟩, fun D hD => ?_⟩
    have nDp : D ≠ p := P1.ne hD
    have nlD : lf ≠ D := ne_of_none hl1 hD
    refine lc_list (K := K) (a := lf) (xs := ms.map V.int) (fun i H' => Kp p H1 H' ∧ Purse H' p (t + 1 + i) ∧ ∃ hx : List Int, H' D = some (.lst (hx.map V.int)) ∧ hx.Sublist (ms.take i)) ⟨kpNew hD, P1.same (same_new hD), [], upd_same, .slnil⟩ ?_ ?_ ?_
    · rintro i H' _ ⟨k2, _⟩
      exact SqL.of (k2 _ _ nlp hl1)
    · rintro i x H' hi ⟨k2, P2, hx, hD2, sub⟩
      obtain ⟨m, hm, rfl⟩ := map_get hi
      have hi3 : i < ms.length := (List.getElem?_eq_some_iff.mp hm).1
      refine ⟨rfl, _, rfl, p, 3, t + 1 + i, rfl, P2, by omega, by decide, small2000 (by decide), fun H3 z k3 P3 z0 z1 => ⟨_, _, rfl, rfl, _, rfl, ?_⟩⟩
      have hD3 := k3 _ _ nDp hD2
      have sub2 : hx.Sublist (ms.take (i + 1)) := by
        rw [take_sub hm]
        exact sub.trans (List.sublist_append_left _ _)
      refine ite2 (fun hc => ?_) (fun hc => ?_)
      · refine ⟨_, rfl, _, hD3, ?_, fun c o n e => ?_, ?_, hx ++ [m], ?_, ?_⟩
        · rw [List.length_map]
          have := sub.length_le
          rw [List.length_take] at this
          exact small1000 (by omega)
        · have ncD : c ≠ D := ne_of_none e hD
          rw [upd_ne ncD]
          exact k3 c o n (k2 c o n e)
        · obtain ⟨a, c, u, h1, r⟩ := P3
          exact Purse.le ⟨a, c, u, by rw [upd_ne nDp.symm]; exact h1, r⟩ (by omega)
        · rw [upd_same, List.map_append]
          rfl
        · rw [take_sub hm]
          exact List.Sublist.append sub (List.Sublist.refl _)
      · exact ⟨k2.trans k3, P3.le (by omega), hx, hD3, sub2⟩
    · rintro H' ⟨k2, P2, hx, hD2, sub⟩
      rw [List.length_map, List.take_length] at sub
      rw [List.length_map] at P2
      have k02 : Kp p H H' := k01.trans k2
      have D0 : H D = none := k01.free P1 hD
      refine ⟨fun σ H7 => ∃ (lh : Addr) (hs : List Int) (v : Option V), σ = [some (.ref p), some (.ref f), some (.int b), some (.ref lf), some (.str k.s), some (.ref lh), v] ∧ Kp p H H7 ∧ Purse H7 p (t + 6) ∧ H7 lh = some (.lst (hs.map V.int)) ∧ lh ≠ p ∧ H lh = none ∧ hs ≠ [] ∧ hs.Sublist ms, ?_, ?_⟩
      · refine ⟨_, rfl, Nat.zero_le _, fun l8 hl8 => ?_⟩
        have nD8 : D ≠ l8 := ne_of_none hD2 hl8
        refine ⟨.list (hx.map PyData.int), .list [], .lst (SqL.of (by rw [upd_ne nD8]; exact hD2)) (dp_ints _), .lst (SqL.of upd_same) .nil, shaped_ints _, by decide, _, rfl, ?_⟩
        have k8 := k02.trans (kpNew (p := p) (o := .lst []) hl8)
        have P8 := P2.same (same_new (o := .lst []) hl8)
        cases hx with
        | nil =>
          show if PyData.eqv (.list []) (.list []) = true then _ else _
          rw [eqv_nil_nil]
          have hlf8 := k8 _ _ nlp hl
          refine iteT ⟨_, rfl, _, rfl, p, lf, _, t + 1 + ms.length, rfl, P8, by omega, hlf8, nlp, by rw [List.length_map]; exact lpos, by rw [List.length_map]; omega, fun H9 i9 x9 k9 P9 g9 => ?_⟩
          obtain ⟨m, hm, rfl⟩ := map_get g9
          refine ⟨(by show 1 ≤ sizeLine; decide), fun l10 hl10 => ?_⟩
          have k9' := k8.trans k9
          exact ⟨l10, [m], none, rfl, k9'.trans (kpNew hl10), (P9.same (same_new hl10)).le (by omega), upd_same, P9.ne hl10, k9'.free P9 hl10, by simp, List.singleton_sublist.mpr (List.mem_of_getElem? hm)⟩
        | cons m0 mr =>
          show if PyData.eqv (.list (PyData.int m0 :: mr.map PyData.int)) (.list []) = true then _ else _
          rw [eqv_nil_cons]
          refine iteF ?_
          exact ⟨D, m0 :: mr, none, rfl, k8, P8.le (by omega), by rw [upd_ne nD8]; exact hD2, nDp, D0, by simp, sub⟩
      · rintro σ H7 ⟨lh, hs, v, rfl, k7, P7, h7, n7, f7, ne7, sub7⟩
        refine ⟨_, rfl, _, rfl, _, rfl, _, rfl, (by show 7 ≤ sizeLine; decide), fun l11 hl11 => ?_⟩
        have P11 := P7.same (same_new (o := .lst [.int 1, .int 2, .int 3, .int 4, .int 5, .int 2, .int 3]) hl11)
        refine ⟨p, l11, _, t + 6, rfl, P11, by omega, upd_same, P7.ne hl11, (by show 0 < 7; decide), (by show 7 ≤ 1000; decide), fun H12 i12 x12 k12 P12 g12 => ?_⟩
        obtain ⟨mo, rfl, mo1, mo5⟩ := pick_int (ms := [1, 2, 3, 4, 5, 2, 3]) (P := fun m => 1 ≤ m ∧ m ≤ 5) g12 (by decide)
        refine ⟨_, rfl, rfl, .inr ⟨_, rfl, _, _, rfl, rfl, (by show 4 ≤ sizeLine; decide), fun q1 hq1 => ?_⟩⟩
        have k13 : Kp p H7 _ := (kpNew (o := .lst [.int 1, .int 2, .int 3, .int 4, .int 5, .int 2, .int 3]) hl11).trans k12
        have h12 := k13 _ _ n7 h7
        have nq : lh ≠ q1 := ne_of_none h12 hq1
        refine q _ q1 lh k hs (mo + (if decide (k = .cov) = true then 1 else 0)) ((k7.trans k13).trans (kpNew hq1)) ((P12.same (same_new hq1)).le (by omega)) ⟨?_, by rw [upd_ne nq]; exact h12⟩ f7 (drawn_of Fo ne7 sub7 mo1 mo5) (fun m hm => sub7.mem hm)
        rw [upd_same, ← kd_cov]
end
end Ax

namespace Ax
theorem siz_pos {b m e : Int} (hb : 1 ≤ b) (hm : 1 ≤ m) : 1 ≤ sizZ b m e := by
  unfold sizZ
  split
  · have h1 := pow_pos' hb e.toNat
    have := Int.mul_le_mul hm h1 (by omega) (by omega)
    omega
  · exact hm
theorem least_le {b : Int} {ms : List Int} {k1 k2 : Kd} {n1 n2 l h d m1 p1 m2 p2 : Int} (L1 : LeastFit b ms k1 n1 l h d m1 p1) (L2 : LeastFit b ms k2 n2 l h d m2 p2) (imp : ∀ m ∈ ms, ∀ e, FitE b k2 n2 l h m e → FitE b k1 n1 l h m e) {N : Int} (q1 : 0 ≤ N + p1) (q2 : 0 ≤ N + p2) :
    szN b N m1 p1 ≤ szN b N m2 p2 := by
  apply Int.not_lt.mp
  intro c
  exact L1.least m2 L2.mem p2 ⟨N, q2, q1, c⟩ (imp m2 L2.mem _ L2.fit)
section
variable {l h s n : Int}
theorem div_facts (l : Int) (hs : 0 < s) : s * (l / s) ≤ l ∧ l < s * (l / s) + s := by
  have e1 := Int.emod_add_mul_ediv l s
  have e2 := Int.emod_nonneg l (show s ≠ 0 by omega)
  have e3 := Int.emod_lt_of_pos l hs
  omega
theorem len_ins (hs : 0 < s) (q : h ≤ reachZ .len n l s) : h ≤ reachZ .ins (n + 1) l s := by
  obtain ⟨f1, f2⟩ := div_facts (-l) hs
  have q : h ≤ l + n * s := q
  show h ≤ (-(-l / s) + (n + 1)) * s - 1
  rw [Int.add_mul, Int.neg_mul, Int.mul_comm (-l / s), Int.add_mul]
  omega
theorem cov_len (hs : 0 < s) (q : h ≤ reachZ .cov n l s) : h ≤ reachZ .len n l s := by
  obtain ⟨f1, f2⟩ := div_facts l hs
  have q : h ≤ (l / s + n) * s := q
  rw [Int.add_mul, Int.mul_comm (l / s)] at q
  show h ≤ l + n * s
  omega
theorem len_cov (hs : 0 < s) (q : h ≤ reachZ .len n l s) : h ≤ reachZ .cov (n + 1) l s := by
  obtain ⟨f1, f2⟩ := div_facts l hs
  have q : h ≤ l + n * s := q
  show h ≤ (l / s + (n + 1)) * s
  rw [Int.add_mul, Int.mul_comm (l / s), Int.add_mul]
  omega
theorem ins_cov (hs : 0 < s) (q : h ≤ reachZ .ins n l s) : h ≤ reachZ .cov (n + 1) l s := by
  obtain ⟨f1, f2⟩ := div_facts l hs
  obtain ⟨g1, g2⟩ := div_facts (-l) hs
  have q : h ≤ (-(-l / s) + n) * s - 1 := q
  rw [Int.add_mul, Int.neg_mul, Int.mul_comm (-l / s)] at q
  show h ≤ (l / s + (n + 1)) * s
  rw [Int.add_mul, Int.mul_comm (l / s), Int.add_mul]
  -- the least multiple at or above l is at most one step above the greatest at or below it
  have c : -(s * (-l / s)) ≤ s * (l / s) + s := by
    apply Int.not_lt.mp
    intro z
    have z2 : s * (l / s + 1) < s * (-(-l / s)) := by
      rw [Int.mul_add, Int.mul_one, Int.mul_neg]
      exact z
    have z3 : l / s + 1 < -(-l / s) := Int.lt_of_mul_lt_mul_left z2 (by omega)
    have z4 := Int.mul_le_mul_of_nonneg_left (show l / s + 1 + 1 ≤ -(-l / s) by omega) (show 0 ≤ s by omega)
    rw [Int.mul_add, Int.mul_add, Int.mul_one, Int.mul_neg] at z4
    omega
  omega
end
end Ax

namespace Ax
/-- the first and the last mark, in whole numbers -/
def fstZ (k : Kd) (l s : Int) : Int := if k = .cov then l / s else -(-l / s)
def lstZ (k : Kd) (h s : Int) : Int := if k = .cov then -(-h / s) else h / s
end Ax
namespace Ax
/-! ### of two least steps that fit there is one -/
theorem least_one {b : Int} {ms : List Int} {k : Kd} {n l h d m1 p1 m2 p2 : Int} (hb : 2 ≤ b) (hm : ∀ m ∈ ms, 1 ≤ m ∧ m % b ≠ 0) (L1 : LeastFit b ms k n l h d m1 p1) (L2 : LeastFit b ms k n l h d m2 p2) : m1 = m2 ∧ p1 = p2 := by
  obtain ⟨N, hN⟩ : ∃ N : Int, N = p1.natAbs + p2.natAbs := ⟨_, rfl⟩
  have a := least_le L1 L2 (fun m _ e q => q) (N := N) (by omega) (by omega)
  have c := least_le L2 L1 (fun m _ e q => q) (N := N) (by omega) (by omega)
  have e : szN b N m1 p1 = szN b N m2 p2 := by omega
  unfold szN at e
  rcases Int.le_total p1 p2 with q | q
  · have x : (N + p2).toNat = (p2 - p1).toNat + (N + p1).toNat := by omega
    rw [x, pow_add', ← Int.mul_assoc] at e
    have y := mul_cancel (pow_pos' (by omega) _) e
    cases z : (p2 - p1).toNat with
    | zero =>
      rw [z, Int.pow_zero, Int.mul_one] at y
      exact ⟨y, by omega⟩
    | succ j =>
      rw [z] at y
      exact absurd (dvd_of_mul y.symm) (hm m1 L1.mem).2
  · have x : (N + p1).toNat = (p1 - p2).toNat + (N + p2).toNat := by omega
    rw [x, pow_add', ← Int.mul_assoc] at e
    have y := mul_cancel (pow_pos' (by omega) _) e
    cases z : (p1 - p2).toNat with
    | zero =>
      rw [z, Int.pow_zero, Int.mul_one] at y
      exact ⟨y, by omega⟩
    | succ j =>
      rw [z] at y
      exact absurd (dvd_of_mul y) (hm m2 L2.mem).2
/-! ### how many marks -/
section
variable {k : Kd} {l h s n : Int}
theorem lt_div_iff {x y s : Int} (hs : 0 < s) : y / s < x ↔ y < x * s := Int.ediv_lt_iff_lt_mul hs
theorem le_div_iff {x y s : Int} (hs : 0 < s) : x ≤ y / s ↔ x * s ≤ y := Int.le_ediv_iff_mul_le hs
theorem ceil_facts (l : Int) (hs : 0 < s) : l ≤ s * (-(-l / s)) ∧ s * (-(-l / s)) < l + s := by
  obtain ⟨f1, f2⟩ := div_facts (-l) hs
  rw [Int.mul_neg]
  omega
theorem floor_ceil (l : Int) (hs : 0 < s) : l / s ≤ -(-l / s) ∧ -(-l / s) ≤ l / s + 1 := by
  obtain ⟨f1, f2⟩ := div_facts l hs
  obtain ⟨g1, g2⟩ := ceil_facts l hs
  constructor
  · apply Int.not_lt.mp
    intro z
    have := Int.mul_le_mul_of_nonneg_left (show -(-l / s) + 1 ≤ l / s by omega) (show 0 ≤ s by omega)
    rw [Int.mul_add, Int.mul_one] at this
    omega
  · apply Int.not_lt.mp
    intro z
    have := Int.mul_le_mul_of_nonneg_left (show l / s + 1 + 1 ≤ -(-l / s) by omega) (show 0 ≤ s by omega)
    rw [Int.mul_add, Int.mul_add, Int.mul_one] at this
    omega
theorem marks_most (hs : 0 < s) (q : h ≤ reachZ k n l s) : lstZ k h s - fstZ k l s + 1 ≤ n + (if k = .ins then 0 else 1) := by
  obtain ⟨c1, c2⟩ := floor_ceil l hs
  unfold fstZ lstZ
  cases k with
  | ins =>
    rw [if_neg (by decide), if_neg (by decide), if_pos rfl]
    have q : h ≤ (-(-l / s) + n) * s - 1 := q
    have := (lt_div_iff hs (y := h) (x := -(-l / s) + n)).mpr (by omega)
    omega
  | cov =>
    rw [if_pos rfl, if_pos rfl, if_neg (by decide)]
    have q : h ≤ (l / s + n) * s := q
    have := (le_div_iff hs (y := -h) (x := -(l / s + n))).mpr (by rw [Int.neg_mul]; omega)
    omega
  | len =>
    rw [if_neg (by decide), if_neg (by decide), if_neg (by decide)]
    have q : h ≤ l + n * s := q
    obtain ⟨f1, f2⟩ := div_facts l hs
    have := (lt_div_iff hs (y := h) (x := l / s + n + 1)).mpr (by rw [Int.add_mul, Int.add_mul, Int.one_mul, Int.mul_comm (l / s)]; omega)
    omega
theorem marks_least (hs : 0 < s) (lt : l < h) : (if k = .cov then 2 else 0) ≤ lstZ k h s - fstZ k l s + 1 := by
  obtain ⟨c1, c2⟩ := floor_ceil l hs
  obtain ⟨f1, f2⟩ := div_facts l hs
  obtain ⟨g1, g2⟩ := ceil_facts h hs
  have mono : l / s ≤ h / s := Int.ediv_le_ediv hs (by omega)
  unfold fstZ lstZ
  by_cases c : k = .cov
  · rw [if_pos c, if_pos c, if_pos c]
    have : l / s < -(-h / s) := by
      apply Int.not_le.mp
      intro z
      have := Int.mul_le_mul_of_nonneg_left z (show 0 ≤ s by omega)
      omega
    omega
  · rw [if_neg c, if_neg c, if_neg c]
    omega
/-- the law's own words of what fits -/
def fitL (k : Kd) (n l h s : Int) : Bool := match k with
  | .ins => decide (h / s - (0 - (0 - l) / s) + 1 ≤ n)
  | .cov => decide (0 - (0 - h) / s - l / s ≤ n)
  | .len => decide (h - l ≤ n * s)
theorem fitL_eq (hs : 0 < s) : fitL k n l h s = decide (h ≤ reachZ k n l s) := by
  have e : ∀ x : Int, 0 - x = -x := fun x => by omega
  cases k with
  | ins =>
    show decide (h / s - (0 - (0 - l) / s) + 1 ≤ n) = decide (h ≤ (-(-l / s) + n) * s - 1)
    rw [e, e]
    have := lt_div_iff hs (y := h) (x := -(-l / s) + n)
    apply decide_eq_decide.mpr
    omega
  | cov =>
    show decide (0 - (0 - h) / s - l / s ≤ n) = decide (h ≤ (l / s + n) * s)
    rw [e, e]
    have := le_div_iff hs (y := -h) (x := -(l / s + n))
    rw [Int.neg_mul] at this
    apply decide_eq_decide.mpr
    omega
  | len =>
    show decide (h - l ≤ n * s) = decide (h ≤ l + n * s)
    apply decide_eq_decide.mpr
    omega
end
end Ax

namespace Ax
open PySem L2
section
variable {P : Program} {w : World} {K : PySem.W.Frag} {mg : Str → Option Value} {base : Heap} {A : Adr}
theorem rf_no {b : Int} {k : Kd} {lm : Addr} {most : Int} {dv : Bool} {lr : Addr} {f : Str} (h1 : ¬ f = "_rungs") (h2 : ¬ f = "_dividing") (h3 : ¬ f = "_most") (h4 : ¬ f = "_mantissas") (h5 : ¬ f = "_kind") (h6 : ¬ f = "_base") : (rf b k lm most dv lr).lookup f = none := by
  rw [rf_lookup, if_neg h1, if_neg h2, if_neg h3, if_neg h4, if_neg h5, if_neg h6]
/-! ### marks -/
def spMarks (A : Adr) : Sp := fun vs H Q _ => ∃ (r sp : Addr) (l h d : Int) (b : Int) (k : Kd) (ms : List Int) (most : Int) (D : RD), vs = [.ref r, .ref sp] ∧ RX A.c_Rule H r b k ms most D ∧ RArgs b k ms most ∧
  H sp = some (.tup [.int l, .int h, .int d]) ∧ Rng l h d ∧
  ∀ (H' : Hp) (q : Addr) (m p : Int), Same H H' → H q = none → LeastFit b ms k most l h d m p → b ^ (p + d).natAbs < 2 ^ 2000 → (lg b (h - l) : Int) - (lg b (most + 1) + 1) ≤ p + d + lg b m →
    H' q = some (.tup [.int (fstZ k (l * facZ b (p + d)) (sizZ b m (p + d))), .int (lstZ k (h * facZ b (p + d)) (sizZ b m (p + d)))]) → Q (.ref q) H'
abbrev nm_Rule_marks : List Str := ["self", "span", "factor", "size", "low", "high"]
theorem sc_Rule_marks : FnScope ["self", "span", "factor", "size", "low", "high"] ["self", "span"] (defScope s_Rule_marks) := ⟨rfl, rfl, rfl, by decide +kernel, rfl, by decide +kernel, by decide +kernel⟩
theorem ok_marks (T : Txt K mg A w) : FnOk P w K mg base CX0 5 A.a_Rule_marks A.d_Rule_marks ["self", "span"] (spMarks A) := by
  have G_measure : FnOk P w K mg base CX0 2 A.a_measure A.d_measure ["base", "step", "digits"] (spMeasure K) := ok_measure T
  have G_Rule_step : FnOk P w K mg base CX0 4 A.a_Rule_step A.d_Rule_step ["self", "span"] (spStep A) := ok_step T
  refine T.F_Rule_marks.ok sc_Rule_marks (fun vs H Q E h => ?_) (fun cdv A0 outer s H vs Q E hr h => ?_)
  · obtain ⟨r, sp, l, h, d, b, k, ms, most, D, rfl, _⟩ := h
    rfl
  · obtain ⟨r, sp, l, h, d, b, k, ms, most, D, rfl, x, R, hsp, G, q⟩ := h
    have noS : (rf b k D.lm most D.dv D.lr).lookup ("step" : Str) = none := rf_no (by decide +kernel) (by decide +kernel) (by decide +kernel) (by decide +kernel) (by decide +kernel) (by decide +kernel)
    have b1 : 1 ≤ b := by have := R.b2; omega
    refine ⟨_, (pss_cons (ps_asg (pe_call G_measure (hr.mono (by decide)) (by rfl) T.m_measure T.F_measure.kp T.B_measure .nil pass0 (pa_cons (pe_fld (pv 0) rfl) (pa_cons (pe_meth (pv 0) T.cl T.t_Rule_step G_Rule_step (hr.mono (by decide)) T.B_Rule_step .nil pass0 (pa_cons (pv 1) pa_nil)) (pa_cons (pe_ix ix_tup (pv 1) pe_int (fun _ _ => rfl)) pa_nil)))) (pg_tup (by rfl) (pgs_cons (pg_name (i := 2) sc_Rule_marks.nd rfl (Or.inl rfl)) (pgs_cons (pg_name (i := 3) sc_Rule_marks.nd rfl (Or.inl rfl)) pgs_nil))))
  (pss_cons (ps_set (i := 4) sc_Rule_marks.nd rfl (Or.inl rfl) (pe_op op_mulW (pe_ix ix_tup (pv 1) pe_int (fun _ _ => rfl)) (pv 2)))
  (pss_cons (ps_set (i := 5) sc_Rule_marks.nd rfl (Or.inl rfl) (pe_op op_mulW (pe_ix ix_tup (pv 1) pe_int (fun _ _ => rfl)) (pv 2)))
  (pss_cons (ps_if (pt_cmpR op_eq (pe_fld (pv 0) rfl) pe_str (nomark _)) (pss_one (ps_ret (pe_tup (pa_cons (pe_op op_fdivW (pv 4) (pv 3)) (pa_cons (pe_un un_neg (pe_op op_fdivW (pe_un un_neg (pv 5)) (pv 3))) pa_nil))))) pss_nil)
  (pss_one (ps_ret (pe_tup (pa_cons (pe_un un_neg (pe_op op_fdivW (pe_un un_neg (pv 4)) (pv 3))) (pa_cons (pe_op op_fdivW (pv 5) (pv 3)) pa_nil))))))))), ?_⟩
    refine ⟨_, rfl, r, A.c_Rule, D.dx, _, _, rfl, x.at_, T.cl, T.na_base, rf_base _ _ _ _ _ _, _, rfl, r, D.dx, _, rfl, x.at_, noS, _, rfl, r, sp, l, h, d, b, k, ms, most, D, rfl, x, R, hsp, G, fun H1 q1 m p s1 hq1 ht1 L eB low => ?_⟩
    obtain ⟨m1, mB, m3⟩ := R.all m L.mem
    have hsp1 := s1 _ _ hsp
    refine ⟨_, rfl, sp, _, _, _, rfl, rfl, SqT.of hsp1, atL (j := 2) rfl, b, m, p, d, q1, rfl, SqT.of ht1, b1, lt_big R.bB (by decide), lt_big (n := 2000) eB (by decide), by omega, lt_big mB (by decide), ?_⟩
    rintro H2 q2 s2 hq2 rfl
    refine ⟨q2, _, rfl, SqT.of upd_same, rfl, _, _, rfl, _, _, rfl, rfl, ?_⟩
    have s02 := s1.trans s2
    have x2 := x.same s02
    have hsp2 := s02 _ _ hsp
    obtain ⟨f1, f2⟩ := fac_bound b1 eB
    obtain ⟨z1, z2⟩ := siz_bound b1 m1 mB eB
    have fN : (facZ b (p + d)).natAbs < 2 ^ 2000 := abs_lt_pow (by omega) f2
    have zB : sizZ b m (p + d) < BIG := lt_big (n := 2064) z2 (by decide)
    refine ⟨_, rfl, sp, _, _, _, rfl, rfl, SqT.of hsp2, atL (j := 0) rfl, _, rfl, _, _, rfl, rfl, wide_mul G.lo fN (by decide) (by decide) (by decide), ?_⟩
    refine ⟨_, rfl, sp, _, _, _, rfl, rfl, SqT.of hsp2, atL (j := 1) rfl, _, rfl, _, _, rfl, rfl, wide_mul G.hi fN (by decide) (by decide) (by decide), ?_⟩
    refine ⟨_, rfl, r, A.c_Rule, D.dx, _, _, rfl, x2.at_, T.cl, T.na_kind, rf_kind _ _ _ _ _ _, rfl, _, rfl, ?_⟩
    show if (decide (V.str k.s = V.str "cover")) = true then _ else _
    rw [kd_cov]
    by_cases c : k = .cov
    · rw [decide_eq_true c]
      refine iteT ⟨_, rfl, _, rfl, _, _, rfl, rfl, size_div z1 zB _, _, rfl, _, rfl, _, rfl, _, _, rfl, rfl, size_div z1 zB _, _, rfl, (by show 2 ≤ sizeLine; decide), fun q3 hq3 => ?_⟩
      refine q _ q3 m p (s02.trans (same_new hq3)) (s02.free hq3) L eB low ?_
      rw [upd_same]
      unfold fstZ lstZ
      rw [if_pos c, if_pos c]
    · rw [decide_eq_false c]
      refine iteF ⟨_, rfl, _, rfl, _, rfl, _, _, rfl, rfl, size_div z1 zB _, _, rfl, _, rfl, _, rfl, _, _, rfl, rfl, size_div z1 zB _, (by show 2 ≤ sizeLine; decide), fun q3 hq3 => ?_⟩
      refine q _ q3 m p (s02.trans (same_new hq3)) (s02.free hq3) L eB low ?_
      rw [upd_same]
      unfold fstZ lstZ
      rw [if_neg c, if_neg c]
/-! ### count -/
def spCount (A : Adr) : Sp := fun vs H Q _ => ∃ (r sp : Addr) (l h d : Int) (b : Int) (k : Kd) (ms : List Int) (most : Int) (D : RD), vs = [.ref r, .ref sp] ∧ RX A.c_Rule H r b k ms most D ∧ RArgs b k ms most ∧
  H sp = some (.tup [.int l, .int h, .int d]) ∧ Rng l h d ∧
  ∀ (H' : Hp) (m p : Int), Same H H' → LeastFit b ms k most l h d m p → Q (.int (lstZ k (h * facZ b (p + d)) (sizZ b m (p + d)) - fstZ k (l * facZ b (p + d)) (sizZ b m (p + d)) + 1)) H'
abbrev nm_Rule_count : List Str := ["self", "span", "first", "last"]
theorem sc_Rule_count : FnScope ["self", "span", "first", "last"] ["self", "span"] (defScope s_Rule_count) := ⟨rfl, rfl, rfl, by decide +kernel, rfl, by decide +kernel, by decide +kernel⟩
theorem ok_count (T : Txt K mg A w) : FnOk P w K mg base CX0 6 A.a_Rule_count A.d_Rule_count ["self", "span"] (spCount A) := by
  have G_Rule_marks : FnOk P w K mg base CX0 5 A.a_Rule_marks A.d_Rule_marks ["self", "span"] (spMarks A) := ok_marks T
  refine T.F_Rule_count.ok sc_Rule_count (fun vs H Q E h => ?_) (fun cdv A0 outer s H vs Q E hr h => ?_)
  · obtain ⟨r, sp, l, h, d, b, k, ms, most, D, rfl, _⟩ := h
    rfl
  · obtain ⟨r, sp, l, h, d, b, k, ms, most, D, rfl, x, R, hsp, G, q⟩ := h
    have noM : (rf b k D.lm most D.dv D.lr).lookup ("marks" : Str) = none := rf_no (by decide +kernel) (by decide +kernel) (by decide +kernel) (by decide +kernel) (by decide +kernel) (by decide +kernel)
    refine ⟨_, (pss_cons (ps_asg (pe_meth (pv 0) T.cl T.t_Rule_marks G_Rule_marks (hr.mono (by decide)) T.B_Rule_marks .nil pass0 (pa_cons (pv 1) pa_nil)) (pg_tup (by rfl) (pgs_cons (pg_name (i := 2) sc_Rule_count.nd rfl (Or.inl rfl)) (pgs_cons (pg_name (i := 3) sc_Rule_count.nd rfl (Or.inl rfl)) pgs_nil))))
  (pss_one (ps_ret (pe_op op_add (pe_op op_sub (pv 3) (pv 2)) pe_int)))), ?_⟩
    refine ⟨_, rfl, r, D.dx, _, rfl, x.at_, noM, _, rfl, r, sp, l, h, d, b, k, ms, most, D, rfl, x, R, hsp, G, fun H1 q1 m p s1 hq1 L eB low ht => ?_⟩
    refine ⟨q1, _, rfl, SqT.of ht, rfl, _, _, rfl, _, _, rfl, rfl, ?_⟩
    exact ⟨_, rfl, _, rfl, _, _, rfl, rfl, _, _, rfl, rfl, q H1 m p s1 L⟩
end
end Ax

namespace Ax
open PySem L2
section
variable {P : Program} {w : World} {K : PySem.W.Frag} {mg : Str → Option Value} {base : Heap} {A : Adr}
/-! ### _law_made -/
def spMade (A : Adr) : Sp := fun vs H Q _ => ∃ (ru lh : Addr) (b : Int) (k : Kd) (hs : List Int) (most : Int), vs = [.ref ru] ∧ RuleT H ru lh b k hs most ∧ RArgs b k hs most ∧
  ∀ (H' : Hp) (r : Addr) (D : RD), Same H H' → H r = none → RX A.c_Rule H' r b k hs most D → H D.lm = none → H D.lr = none → Q (.ref r) H'
abbrev nm_law_made : List Str := ["_law_rule_here"]
theorem sc_law_made : FnScope ["_law_rule_here"] ["_law_rule_here"] (defScope s_law_made) := ⟨rfl, rfl, rfl, by decide +kernel, rfl, by decide +kernel, by decide +kernel⟩
theorem ok_made (T : Txt K mg A w) : FnOk P w K mg base CX0 6 A.a_law_made A.d_law_made ["_law_rule_here"] (spMade A) := by
  have G_Rule_init : FnOk P w K mg base CX0 4 A.a_Rule_init A.d_Rule_init ["self", "base", "kind", "mantissas", "most"] (spInit A) := ok_init T
  refine T.F_law_made.ok sc_law_made (fun vs H Q E h => ?_) (fun cdv A0 outer s H vs Q E hr h => ?_)
  · obtain ⟨ru, lh, b, k, hs, most, rfl, _⟩ := h
    rfl
  · obtain ⟨ru, lh, b, k, hs, most, rfl, RT, R, q⟩ := h
    refine ⟨_, (pss_one (ps_ret (pe_make T.mk_Rule G_Rule_init (hr.mono (by decide)) (by rfl) T.c_Rule T.B_Rule_init .nil pass0 (pa_cons (pe_ix ix_tup (pv 0) pe_int (fun _ _ => rfl)) (pa_cons (pe_ix ix_tup (pv 0) pe_int (fun _ _ => rfl)) (pa_cons (pe_callTy call_list_of (by rfl) T.n_list (by decide +kernel) (pa_cons (pe_ix ix_tup (pv 0) pe_int (fun _ _ => rfl)) pa_nil)) (pa_cons (pe_ix ix_tup (pv 0) pe_int (fun _ _ => rfl)) pa_nil))))))), ?_⟩
    refine ⟨_, rfl, ru, _, _, _, rfl, rfl, SqT.of RT.1, atL (j := 0) rfl, _, rfl, ru, _, _, _, rfl, rfl, SqT.of RT.1, atL (j := 1) rfl, _, rfl, ru, _, _, _, rfl, rfl, SqT.of RT.1, atL (j := 2) rfl, lh, _, rfl, .inl (SqL.of RT.2), fun l9 hl9 => ?_⟩
    have s8 : Same H (upd H l9 (.lst (hs.map V.int))) := same_new hl9
    refine ⟨_, rfl, ru, _, _, _, rfl, rfl, SqT.of (s8 _ _ RT.1), atL (j := 3) rfl, fun x dx nx ndx nex => ?_⟩
    generalize hH8 : upd H l9 (.lst (hs.map V.int)) = H8 at s8 nx ndx ⊢
    have l98 : H8 l9 = some (.lst (hs.map V.int)) := by rw [← hH8]; exact upd_same
    have s9 : Same H8 (upd (upd H8 dx (.own x)) x (.ins A.c_Rule dx [])) := (same_new ndx).trans (same_new (by rw [upd_ne nex.symm]; exact nx))
    refine ⟨x, dx, l9, b, k, hs, most, rfl, upd_same, s9 _ _ l98, R, fun H10 D kept X10 n1 n2 => ⟨rfl, ?_⟩⟩
    have s10 : Same H H10 := fun c o e => kept c o (ne_of_none (s8 _ _ e) nx) (s9 _ _ (s8 _ _ e))
    exact q H10 x D s10 (s8.free nx) X10 ((s8.trans s9).free n1) ((s8.trans s9).free n2)
/-! ### _law_places -/
def spPlaces : Sp := fun vs H Q _ => ∃ (l h s : Int), vs = [.int l, .int h, .int s] ∧ 1 ≤ s ∧ s < BIG ∧ ∀ (H' : Hp) (q : Addr), Same H H' → H q = none → H' q = some (.tup [.int (l / s), .int (0 - (0 - l) / s), .int (h / s), .int (0 - (0 - h) / s)]) → Q (.ref q) H'
abbrev nm_law_places : List Str := ["_law_low", "_law_high", "_law_size"]
theorem sc_law_places : FnScope ["_law_low", "_law_high", "_law_size"] ["_law_low", "_law_high", "_law_size"] (defScope s_law_places) := ⟨rfl, rfl, rfl, by decide +kernel, rfl, by decide +kernel, by decide +kernel⟩
theorem ok_places (T : Txt K mg A w) : FnOk P w K mg base CX0 1 A.a_law_places A.d_law_places ["_law_low", "_law_high", "_law_size"] spPlaces := by
  refine T.F_law_places.ok sc_law_places (fun vs H Q E h => ?_) (fun cdv A0 outer s H vs Q E hr h => ?_)
  · obtain ⟨l, h, s, rfl, _⟩ := h
    rfl
  · obtain ⟨l, h, s, rfl, s1, sB, q⟩ := h
    refine ⟨_, (pss_one (ps_ret (pe_tup (pa_cons (pe_op op_fdivW (pv 0) (pv 2)) (pa_cons (pe_op op_sub pe_int (pe_op op_fdivW (pe_op op_sub pe_int (pv 0)) (pv 2))) (pa_cons (pe_op op_fdivW (pv 1) (pv 2)) (pa_cons (pe_op op_sub pe_int (pe_op op_fdivW (pe_op op_sub pe_int (pv 1)) (pv 2))) pa_nil))))))), ?_⟩
    refine ⟨_, rfl, _, rfl, _, _, rfl, rfl, size_div s1 sB _, _, rfl, _, _, rfl, rfl, _, rfl, _, _, rfl, rfl, size_div s1 sB _, _, _, rfl, rfl, _, rfl, _, rfl, _, _, rfl, rfl, size_div s1 sB _, _, rfl, _, _, rfl, rfl, _, rfl, _, _, rfl, rfl, size_div s1 sB _, _, _, rfl, rfl, (by show 4 ≤ sizeLine; decide), fun q1 hq1 => ?_⟩
    exact q _ q1 (same_new hq1) hq1 upd_same
/-! ### _law_is_fit -/
def spIsFit : Sp := fun vs H Q _ => ∃ (ru lh : Addr) (b : Int) (k : Kd) (hs : List Int) (most l h s : Int), vs = [.ref ru, .int l, .int h, .int s] ∧ RuleT H ru lh b k hs most ∧ 0 ≤ most ∧ most < 2 ^ 60 ∧ 1 ≤ s ∧ s < BIG ∧ ∀ H' : Hp, Same H H' → Q (.bl (decide (h ≤ reachZ k most l s))) H'
abbrev nm_law_is_fit : List Str := ["_law_rule_here", "_law_low", "_law_high", "_law_size", "_law_before", "_law_first", "_law_last", "_law_outer"]
theorem sc_law_is_fit : FnScope ["_law_rule_here", "_law_low", "_law_high", "_law_size", "_law_before", "_law_first", "_law_last", "_law_outer"] ["_law_rule_here", "_law_low", "_law_high", "_law_size"] (defScope s_law_is_fit) := ⟨rfl, rfl, rfl, by decide +kernel, rfl, by decide +kernel, by decide +kernel⟩
theorem ok_is_fit (T : Txt K mg A w) : FnOk P w K mg base CX0 2 A.a_law_is_fit A.d_law_is_fit ["_law_rule_here", "_law_low", "_law_high", "_law_size"] spIsFit := by
  have G_law_places : FnOk P w K mg base CX0 1 A.a_law_places A.d_law_places ["_law_low", "_law_high", "_law_size"] spPlaces := ok_places T
  refine T.F_law_is_fit.ok sc_law_is_fit (fun vs H Q E h => ?_) (fun cdv A0 outer s H vs Q E hr h => ?_)
  · obtain ⟨ru, lh, b, k, hs, most, l, h, s, rfl, _⟩ := h
    rfl
  · obtain ⟨ru, lh, b, k, hs, most, l, h, z, rfl, RT, m0, mB, s1, sB, q⟩ := h
    refine ⟨_, (pss_cons (ps_asg (pe_call G_law_places (hr.mono (by decide)) (by rfl) T.m_law_places T.F_law_places.kp T.B_law_places .nil pass0 (pa_cons (pv 1) (pa_cons (pv 2) (pa_cons (pv 3) pa_nil)))) (pg_tup (by rfl) (pgs_cons (pg_name (i := 4) sc_law_is_fit.nd rfl (Or.inl rfl)) (pgs_cons (pg_name (i := 5) sc_law_is_fit.nd rfl (Or.inl rfl)) (pgs_cons (pg_name (i := 6) sc_law_is_fit.nd rfl (Or.inl rfl)) (pgs_cons (pg_name (i := 7) sc_law_is_fit.nd rfl (Or.inl rfl)) pgs_nil))))))
  (pss_cons (ps_if (pt_cmpR op_eq (pe_ix ix_tup (pv 0) pe_int (fun _ _ => rfl)) pe_str (nomark _)) (pss_one (ps_ret (pe_cmpR op_le (pe_op op_add (pe_op op_sub (pv 6) (pv 5)) pe_int) (pe_ix ix_tup (pv 0) pe_int (fun _ _ => rfl)) (nomark _)))) pss_nil)
  (pss_cons (ps_if (pt_cmpR op_eq (pe_ix ix_tup (pv 0) pe_int (fun _ _ => rfl)) pe_str (nomark _)) (pss_one (ps_ret (pe_cmpR op_le (pe_op op_sub (pv 7) (pv 4)) (pe_ix ix_tup (pv 0) pe_int (fun _ _ => rfl)) (nomark _)))) pss_nil)
  (pss_one (ps_ret (pe_cmpR op_le (pe_op op_sub (pv 2) (pv 1)) (pe_op op_mulW (pe_ix ix_tup (pv 0) pe_int (fun _ _ => rfl)) (pv 3)) (nomark _))))))), ?_⟩
    refine ⟨_, rfl, _, rfl, _, rfl, l, h, z, rfl, s1, sB, fun H1 q1 k1 _ ht => ⟨q1, _, rfl, SqT.of ht, rfl, _, _, rfl, _, _, rfl, _, _, rfl, _, _, rfl, rfl, ?_⟩⟩
    have R1 := RT.same k1
    have q1' := q H1 k1
    rw [← fitL_eq (by omega)] at q1'
    refine ⟨_, rfl, ru, _, _, _, rfl, rfl, SqT.of R1.1, atL (j := 1) rfl, rfl, _, rfl, ?_⟩
    show if (decide (V.str k.s = V.str Kd.ins.s)) = true then _ else _
    rw [kd_is]
    cases k with
    | ins =>
      refine iteT ?_
      exact ⟨_, rfl, _, rfl, _, _, rfl, rfl, _, _, rfl, rfl, _, rfl, ru, _, _, _, rfl, rfl, SqT.of R1.1, atL (j := 3) rfl, _, _, rfl, rfl, q1'⟩
    | cov =>
      refine iteF ⟨_, rfl, ru, _, _, _, rfl, rfl, SqT.of R1.1, atL (j := 1) rfl, rfl, _, rfl, ?_⟩
      show if (decide (V.str Kd.cov.s = V.str Kd.cov.s)) = true then _ else _
      rw [kd_is]
      refine iteT ?_
      exact ⟨_, rfl, _, rfl, _, _, rfl, rfl, _, rfl, ru, _, _, _, rfl, rfl, SqT.of R1.1, atL (j := 3) rfl, _, _, rfl, rfl, q1'⟩
    | len =>
      refine iteF ⟨_, rfl, ru, _, _, _, rfl, rfl, SqT.of R1.1, atL (j := 1) rfl, rfl, _, rfl, ?_⟩
      show if (decide (V.str Kd.len.s = V.str Kd.cov.s)) = true then _ else _
      rw [kd_is]
      refine iteF ?_
      exact ⟨_, rfl, _, rfl, _, _, rfl, rfl, _, rfl, ru, _, _, _, rfl, rfl, SqT.of R1.1, atL (j := 3) rfl, _, rfl, _, _, rfl, rfl, mulBig m0 (big_le (lt_big (n := 60) mB (by decide))) (by omega) (big_le sB), _, _, rfl, rfl, q1'⟩
/-! ### _law_scaled -/
def spScaled : Sp := fun vs H Q _ => ∃ (ru lh st : Addr) (b : Int) (k : Kd) (hs : List Int) (most l h m e : Int), vs = [.ref ru, .ref st, .int l, .int h] ∧ RuleT H ru lh b k hs most ∧ H st = some (.tup [.int m, .int e]) ∧ 1 ≤ b ∧ b < BIG ∧ 1 ≤ m ∧ m < 2 ^ 64 ∧ b ^ e.natAbs < 2 ^ 2100 ∧ e.natAbs < 2 ^ 60 ∧ l.natAbs < 2 ^ 1500 ∧ h.natAbs < 2 ^ 1500 ∧
  ∀ (H' : Hp) (q : Addr), Same H H' → H q = none → H' q = some (.tup [.int (l * facZ b e), .int (h * facZ b e), .int (sizZ b m e)]) → Q (.ref q) H'
abbrev nm_law_scaled : List Str := ["_law_rule_here", "_law_step_here", "_law_low", "_law_high", "_law_many"]
theorem sc_law_scaled : FnScope ["_law_rule_here", "_law_step_here", "_law_low", "_law_high", "_law_many"] ["_law_rule_here", "_law_step_here", "_law_low", "_law_high"] (defScope s_law_scaled) := ⟨rfl, rfl, rfl, by decide +kernel, rfl, by decide +kernel, by decide +kernel⟩
theorem ok_scaled (T : Txt K mg A w) : FnOk P w K mg base CX0 2 A.a_law_scaled A.d_law_scaled ["_law_rule_here", "_law_step_here", "_law_low", "_law_high"] spScaled := by
  have G_law_times : FnOk P w K mg base CX0 1 A.a_law_times A.d_law_times ["_law_base", "_law_many"] spTimes := ok_times T
  refine T.F_law_scaled.ok sc_law_scaled (fun vs H Q E h => ?_) (fun cdv A0 outer s H vs Q E hr h => ?_)
  · obtain ⟨ru, lh, st, b, k, hs, most, l, h, m, e, rfl, _⟩ := h
    rfl
  · obtain ⟨ru, lh, st, b, k, hs, most, l, h, m, e, rfl, RT, hst, b1, bB, m1, mB, eB, e60, lB, hB, q⟩ := h
    have c60 : (2 : Nat) ^ 60 = 1152921504606846976 := by decide
    have c62 : (2 : Int) ^ 62 = 4611686018427387904 := by decide
    have eBB : b ^ e.natAbs < BIG := lt_big (n := 2100) eB (by decide)
    have p1 := pow_pos' b1 e.natAbs
    refine ⟨_, (pss_cons (ps_if (pt_cmpR op_ge (pe_ix ix_tup (pv 1) pe_int (fun _ _ => rfl)) pe_int (nomark _)) (pss_one (ps_ret (pe_tup (pa_cons (pv 2) (pa_cons (pv 3) (pa_cons (pe_op op_mulW (pe_ix ix_tup (pv 1) pe_int (fun _ _ => rfl)) (pe_call G_law_times (hr.mono (by decide)) (by rfl) T.m_law_times T.F_law_times.kp T.B_law_times .nil pass0 (pa_cons (pe_ix ix_tup (pv 0) pe_int (fun _ _ => rfl)) (pa_cons (pe_ix ix_tup (pv 1) pe_int (fun _ _ => rfl)) pa_nil)))) pa_nil)))))) pss_nil)
  (pss_cons (ps_set (i := 4) sc_law_scaled.nd rfl (Or.inl rfl) (pe_call G_law_times (hr.mono (by decide)) (by rfl) T.m_law_times T.F_law_times.kp T.B_law_times .nil pass0 (pa_cons (pe_ix ix_tup (pv 0) pe_int (fun _ _ => rfl)) (pa_cons (pe_op op_sub pe_int (pe_ix ix_tup (pv 1) pe_int (fun _ _ => rfl))) pa_nil))))
  (pss_one (ps_ret (pe_tup (pa_cons (pe_op op_mulW (pv 2) (pv 4)) (pa_cons (pe_op op_mulW (pv 3) (pv 4)) (pa_cons (pe_ix ix_tup (pv 1) pe_int (fun _ _ => rfl)) pa_nil)))))))), ?_⟩
    refine ⟨_, rfl, st, _, _, _, rfl, rfl, SqT.of hst, atL (j := 1) rfl, _, _, rfl, rfl, _, rfl, ?_⟩
    refine ite2 (fun hc => ?_) (fun hc => ?_)
    · have hc : 0 ≤ e := of_decide_eq_true hc
      have e1 : e.toNat = e.natAbs := by omega
      refine ⟨_, rfl, _, rfl, _, rfl, st, _, _, _, rfl, rfl, SqT.of hst, atL (j := 0) rfl, _, rfl, ru, _, _, _, rfl, rfl, SqT.of RT.1, atL (j := 0) rfl, _, rfl, st, _, _, _, rfl, rfl, SqT.of hst, atL (j := 1) rfl, b, e, rfl, b1, bB, by omega, by omega, by rw [e1]; exact eBB, _, _, rfl, rfl, mulBig (by omega) (big_le (lt_big (n := 64) mB (by decide))) (by rw [e1]; omega) (by rw [e1]; exact big_le eBB), (by show 3 ≤ sizeLine; decide), fun q1 hq1 => ?_⟩
      refine q _ q1 (same_new hq1) hq1 ?_
      rw [upd_same]
      unfold facZ sizZ
      rw [if_pos hc, if_pos hc, Int.mul_one, Int.mul_one]
    · have hc : ¬ 0 ≤ e := fun z => hc (decide_eq_true z)
      have e1 : (0 - e).toNat = e.natAbs := by omega
      have e2 : (-e).toNat = e.natAbs := by omega
      have pN : (b ^ e.natAbs).natAbs < 2 ^ 2100 := abs_lt_pow (by omega) eB
      refine ⟨_, rfl, ru, _, _, _, rfl, rfl, SqT.of RT.1, atL (j := 0) rfl, _, rfl, st, _, _, _, rfl, rfl, SqT.of hst, atL (j := 1) rfl, _, _, rfl, rfl, b, 0 - e, rfl, b1, bB, by omega, by omega, by rw [e1]; exact eBB, ?_⟩
      rw [e1]
      refine ⟨_, rfl, _, rfl, _, _, rfl, rfl, wide_mul lB pN (by decide) (by decide) (by decide), _, rfl, _, rfl, _, _, rfl, rfl, wide_mul hB pN (by decide) (by decide) (by decide), _, rfl, st, _, _, _, rfl, rfl, SqT.of hst, atL (j := 0) rfl, (by show 3 ≤ sizeLine; decide), fun q1 hq1 => ?_⟩
      refine q _ q1 (same_new hq1) hq1 ?_
      rw [upd_same]
      unfold facZ sizZ
      rw [if_neg hc, if_neg hc, e2]
end
end Ax

namespace Ax
/-! ### ranges within, upside down, times the base -/
theorem least_gen {b : Int} {ms1 : List Int} {k1 : Kd} {n1 l1 h1 d m1 p1 m2 p2 : Int} (L1 : LeastFit b ms1 k1 n1 l1 h1 d m1 p1) (hin : m2 ∈ ms1) (fit : FitE b k1 n1 l1 h1 m2 (p2 + d)) {N : Int} (q1 : 0 ≤ N + p1) (q2 : 0 ≤ N + p2) :
    szN b N m1 p1 ≤ szN b N m2 p2 := by
  apply Int.not_lt.mp
  intro c
  exact L1.least m2 hin p2 ⟨N, q2, q1, c⟩ fit
theorem reach_in {k : Kd} {n l h l' h' s : Int} (hs : 0 < s) (h1 : l ≤ l') (h2 : h' ≤ h) (q : h ≤ reachZ k n l s) : h' ≤ reachZ k n l' s := by
  cases k with
  | len =>
    have q : h ≤ l + n * s := q
    show h' ≤ l' + n * s
    omega
  | cov =>
    have q : h ≤ (l / s + n) * s := q
    have m : l / s ≤ l' / s := Int.ediv_le_ediv hs h1
    have := Int.mul_le_mul_of_nonneg_right (show l / s + n ≤ l' / s + n by omega) (show 0 ≤ s by omega)
    show h' ≤ (l' / s + n) * s
    omega
  | ins =>
    have q : h ≤ (-(-l / s) + n) * s - 1 := q
    have m : -l' / s ≤ -l / s := Int.ediv_le_ediv hs (by omega)
    have := Int.mul_le_mul_of_nonneg_right (show -(-l / s) + n ≤ -(-l' / s) + n by omega) (show 0 ≤ s by omega)
    show h' ≤ (-(-l' / s) + n) * s - 1
    omega
theorem reach_more {k : Kd} {n n' l h s : Int} (hs : 0 < s) (h1 : n ≤ n') (q : h ≤ reachZ k n l s) : h ≤ reachZ k n' l s := by
  cases k with
  | len =>
    have q : h ≤ l + n * s := q
    have := Int.mul_le_mul_of_nonneg_right h1 (show 0 ≤ s by omega)
    show h ≤ l + n' * s
    omega
  | cov =>
    have q : h ≤ (l / s + n) * s := q
    have := Int.mul_le_mul_of_nonneg_right (show l / s + n ≤ l / s + n' by omega) (show 0 ≤ s by omega)
    show h ≤ (l / s + n') * s
    omega
  | ins =>
    have q : h ≤ (-(-l / s) + n) * s - 1 := q
    have := Int.mul_le_mul_of_nonneg_right (show -(-l / s) + n ≤ -(-l / s) + n' by omega) (show 0 ≤ s by omega)
    show h ≤ (-(-l / s) + n') * s - 1
    omega
theorem reach_flip {k : Kd} {n l h s : Int} (hs : 0 < s) : -l ≤ reachZ k n (-h) s ↔ h ≤ reachZ k n l s := by
  cases k with
  | len =>
    show -l ≤ -h + n * s ↔ h ≤ l + n * s
    omega
  | cov =>
    show -l ≤ (-h / s + n) * s ↔ h ≤ (l / s + n) * s
    have a := le_div_iff hs (x := -(l / s + n)) (y := -h)
    have c := le_div_iff hs (x := -(-h / s + n)) (y := l)
    rw [Int.neg_mul] at a c
    omega
  | ins =>
    show -l ≤ (-(- -h / s) + n) * s - 1 ↔ h ≤ (-(-l / s) + n) * s - 1
    rw [Int.neg_neg]
    have a := lt_div_iff hs (x := -(-l / s) + n) (y := h)
    have c := lt_div_iff hs (x := -(h / s) + n) (y := -l)
    omega
section
variable {b : Int} {ms : List Int} {k : Kd} {n l h d m p : Int}
theorem fitE_in {l' h' e : Int} (hb : 1 ≤ b) (hm : 1 ≤ m) (h1 : l ≤ l') (h2 : h' ≤ h) (q : FitE b k n l h m e) : FitE b k n l' h' m e := by
  have f1 : 1 ≤ facZ b e := by
    unfold facZ
    split
    · decide
    · exact pow_pos' hb _
  unfold FitE at q ⊢
  exact reach_in (by have := siz_pos (e := e) hb hm; omega) (Int.mul_le_mul_of_nonneg_right h1 (by omega)) (Int.mul_le_mul_of_nonneg_right h2 (by omega)) q
theorem fitE_more {n' e : Int} (hb : 1 ≤ b) (hm : 1 ≤ m) (h1 : n ≤ n') (q : FitE b k n l h m e) : FitE b k n' l h m e :=
  reach_more (by have := siz_pos (e := e) hb hm; omega) h1 q
theorem fitE_flip {e : Int} (hb : 1 ≤ b) (hm : 1 ≤ m) : FitE b k n (-h) (-l) m e ↔ FitE b k n l h m e := by
  unfold FitE
  rw [Int.neg_mul, Int.neg_mul]
  exact reach_flip (by have := siz_pos (e := e) hb hm; omega)
theorem fitE_base {e : Int} (hb : 1 ≤ b) (hm : 1 ≤ m) : FitE b k n (l * b) (h * b) m (e + 1) ↔ FitE b k n l h m e := by
  obtain ⟨N, hN⟩ : ∃ N : Nat, N = e.natAbs := ⟨_, rfl⟩
  rw [fitE_N (N := N) hb hm (by omega) (by omega), fitE_N (N := N + 1) hb hm (by omega) (by omega)]
  have e1 : szN b N m (e + 1) = szN b (N + 1) m e := by
    unfold szN
    rw [show (N : Int) + (e + 1) = N + 1 + e by omega]
  have e2 : ∀ x : Int, x * b * b ^ (N : Int).toNat = x * b ^ ((N : Int) + 1).toNat := fun x => by
    rw [show ((N : Int) + 1).toNat = N + 1 by omega, Int.toNat_natCast, Int.pow_succ, Int.mul_assoc, Int.mul_comm b]
  rw [e1, e2, e2]
theorem LeastFit.flip (hb : 1 ≤ b) (hm : ∀ m ∈ ms, 1 ≤ m) (L : LeastFit b ms k n l h d m p) : LeastFit b ms k n (-h) (-l) d m p :=
  ⟨L.mem, (fitE_flip hb (hm m L.mem)).mpr L.fit, fun m' hm' p' s q => L.least m' hm' p' s ((fitE_flip hb (hm m' hm')).mp q)⟩
theorem SLt.up {x y : Int × Int} (h : SLt b x (y.1, y.2 + 1)) : SLt b (x.1, x.2 - 1) y := by
  obtain ⟨N, h1, h2, h3⟩ := h
  have h1 : 0 ≤ N + x.2 := h1
  have h2 : 0 ≤ N + (y.2 + 1) := h2
  refine ⟨N + 1, by show 0 ≤ N + 1 + (x.2 - 1); omega, by omega, ?_⟩
  have h3 : x.1 * b ^ (N + x.2).toNat < y.1 * b ^ (N + (y.2 + 1)).toNat := h3
  show x.1 * b ^ (N + 1 + (x.2 - 1)).toNat < y.1 * b ^ (N + 1 + y.2).toNat
  rw [show N + 1 + (x.2 - 1) = N + x.2 by omega, show N + 1 + y.2 = N + (y.2 + 1) by omega]
  exact h3
theorem LeastFit.base (hb : 1 ≤ b) (hm : ∀ m ∈ ms, 1 ≤ m) (L : LeastFit b ms k n l h d m p) : LeastFit b ms k n (l * b) (h * b) d m (p + 1) := by
  refine ⟨L.mem, ?_, fun m' hm' p' s q => ?_⟩
  · rw [show p + 1 + d = p + d + 1 by omega]
    exact (fitE_base hb (hm m L.mem)).mpr L.fit
  · refine L.least m' hm' (p' - 1) (SLt.up (x := (m', p')) (y := (m, p)) s) ?_
    rw [show p' + d = p' - 1 + d + 1 by omega] at q
    exact (fitE_base hb (hm m' hm')).mp q
end
end Ax

namespace Ax
/-! # the step of growing ranges -/
abbrev Te := Int × Int × Int
theorem nodup_le {α : Type} [DecidableEq α] : ∀ {l u : List α}, l.Nodup → (∀ x ∈ l, x ∈ u) → l.length ≤ u.length
  | [], _, _, _ => Nat.zero_le _
  | a :: r, u, nd, h => by
    have nd2 := List.nodup_cons.mp nd
    have ha := h a (List.mem_cons_self ..)
    have ih := nodup_le (l := r) (u := u.erase a) nd2.2 fun x hx => (List.mem_erase_of_ne fun e => nd2.1 (by rw [← e]; exact hx)).mpr (h x (List.mem_cons_of_mem _ hx))
    rw [List.length_erase_of_mem ha] at ih
    have := List.length_pos_of_mem ha
    rw [List.length_cons]
    omega
section
variable {b most low : Int} {ms : List Int} {k : Kd}
/-- the last high end for which a step fits -/
def lastZ (b : Int) (k : Kd) (most low m p : Int) : Int := reachZ k most (low * facZ b p) (sizZ b m p) / facZ b p
theorem fac_one {p : Int} (b1 : 1 ≤ b) : 1 ≤ facZ b p := by
  unfold facZ
  split
  · decide
  · exact pow_pos' b1 _
theorem fit_last {m p h : Int} (b1 : 1 ≤ b) : FitE b k most low h m p ↔ h ≤ lastZ b k most low m p := by
  unfold FitE lastZ
  exact (Int.le_ediv_iff_mul_le (by have := fac_one (p := p) b1; omega)).symm
theorem LeastFit.grow {m p h h' : Int} (L : LeastFit b ms k most low h 0 m p) (b1 : 1 ≤ b) (hall : ∀ m ∈ ms, 1 ≤ m) (h1 : h ≤ h') (h2 : h' ≤ lastZ b k most low m p) : LeastFit b ms k most low h' 0 m p :=
  ⟨L.mem, by rw [Int.add_zero]; exact (fit_last b1).mpr h2, fun m' hm p' hs hf => L.least m' hm p' hs (fitE_in b1 (hall m' hm) (Int.le_refl _) h1 hf)⟩
/-- entries that cover the high ends below nx -/
structure Seg (b : Int) (ms : List Int) (k : Kd) (most low : Int) (es : List Te) (nx : Int) : Prop where
  fst : ∀ e, es[0]? = some e → e.1 = low + 1
  lt : ∀ i e, es[i]? = some e → ∀ y, (es.map (·.1) ++ [nx])[i + 1]? = some y → e.1 < y
  lf : ∀ i e, es[i]? = some e → ∀ y, (es.map (·.1) ++ [nx])[i + 1]? = some y → ∀ h, e.1 ≤ h → h < y → LeastFit b ms k most low h 0 e.2.1 e.2.2
  nd : (es.map (·.2)).Nodup
  gt : ∀ e ∈ es, low < e.1
  ltn : ∀ e ∈ es, e.1 < nx
theorem Seg.nil {nx : Int} : Seg b ms k most low [] nx := ⟨fun _ h => (nomatch h), fun _ _ h => (nomatch h), fun _ _ h => (nomatch h), .nil, fun _ h => (nomatch h), fun _ h => (nomatch h)⟩
theorem Seg.snoc {es : List Te} {nx nx' m p : Int} (S : Seg b ms k most low es nx) (h0 : es = [] → nx = low + 1) (lt : nx < nx') (lf : ∀ h, nx ≤ h → h < nx' → LeastFit b ms k most low h 0 m p) (new : (m, p) ∉ es.map (·.2)) (hlow : low < nx) : Seg b ms k most low (es ++ [(nx, m, p)]) nx' := by
  have same : ∀ i, i < es.length → ((es ++ [(nx, m, p)]).map (·.1) ++ [nx'])[i + 1]? = (es.map (·.1) ++ [nx])[i + 1]? := fun i hi => by
    rw [List.map_append]
    exact List.getElem?_append_left (by simp; omega)
  have last : ((es ++ [(nx, m, p)]).map (·.1) ++ [nx'])[es.length + 1]? = some nx' := by
    rw [List.getElem?_append_right (by simp)]
    simp
  have split : ∀ {i e}, (es ++ [(nx, m, p)])[i]? = some e → (i < es.length ∧ es[i]? = some e) ∨ (i = es.length ∧ e = (nx, m, p)) := fun {i e} h => by
    by_cases c : i < es.length
    · rw [List.getElem?_append_left c] at h
      exact .inl ⟨c, h⟩
    · rw [List.getElem?_append_right (by omega)] at h
      obtain ⟨h1, h2⟩ := List.getElem?_eq_some_iff.mp h
      rw [List.length_singleton] at h1
      have e1 : i = es.length := by omega
      subst e1
      refine .inr ⟨rfl, ?_⟩
      rw [← h2]
      simp
  refine ⟨fun e h => ?_, fun i e h y hy => ?_, fun i e h y hy => ?_, ?_, fun e he => ?_, fun e he => ?_⟩
  · rcases split h with ⟨c, h⟩ | ⟨c, rfl⟩
    · exact S.fst e h
    · exact h0 (List.eq_nil_of_length_eq_zero c.symm)
  · rcases split h with ⟨c, h⟩ | ⟨rfl, rfl⟩
    · rw [same i c] at hy
      exact S.lt i e h y hy
    · rw [last] at hy
      cases hy
      exact lt
  · rcases split h with ⟨c, h⟩ | ⟨rfl, rfl⟩
    · rw [same i c] at hy
      exact S.lf i e h y hy
    · rw [last] at hy
      cases hy
      exact lf
  · rw [List.map_append]
    exact List.nodup_append.mpr ⟨S.nd, List.nodup_cons.mpr ⟨List.not_mem_nil, .nil⟩, fun a ha c hc => by
      rw [List.map_cons, List.map_nil, List.mem_singleton] at hc
      intro e
      rw [e, hc] at ha
      exact new ha⟩
  · rcases List.mem_append.mp he with y | y
    · exact S.gt e y
    · rw [List.mem_singleton.mp y]
      exact hlow
  · rcases List.mem_append.mp he with y | y
    · have := S.ltn e y
      omega
    · rw [List.mem_singleton.mp y]
      exact lt
theorem Seg.cut {es : List Te} {nx top : Int} (S : Seg b ms k most low es nx) (h : top + 1 ≤ nx) (le : ∀ e ∈ es, e.1 ≤ top) : Seg b ms k most low es (top + 1) := by
  have rel : ∀ i e, es[i]? = some e → ∀ y, (es.map (·.1) ++ [top + 1])[i + 1]? = some y → ∃ y', (es.map (·.1) ++ [nx])[i + 1]? = some y' ∧ y ≤ y' ∧ e.1 < y := fun i e he y hy => by
    have hi := (List.getElem?_eq_some_iff.mp he).1
    by_cases c : i + 1 < es.length
    · rw [List.getElem?_append_left (by simpa using c)] at hy
      have hy' : (es.map (·.1) ++ [nx])[i + 1]? = some y := by rw [List.getElem?_append_left (by simpa using c)]; exact hy
      exact ⟨y, hy', Int.le_refl _, S.lt i e he y hy'⟩
    · have c1 : i + 1 = es.length := by omega
      rw [List.getElem?_append_right (by simp; omega)] at hy
      have ey : y = top + 1 := by
        rw [List.length_map, c1, Nat.sub_self] at hy
        exact (Option.some.inj hy).symm
      refine ⟨nx, ?_, by omega, ?_⟩
      · rw [List.getElem?_append_right (by simp; omega), List.length_map, c1, Nat.sub_self]
        rfl
      · have := le e (List.mem_of_getElem? he)
        omega
  exact ⟨S.fst, fun i e he y hy => (rel i e he y hy).elim fun _ z => z.2.2, fun i e he y hy h h1 h2 => by
    obtain ⟨y', a1, a2, a3⟩ := rel i e he y hy
    exact S.lf i e he y' a1 h h1 (by omega), S.nd, S.gt, fun e he => by have := le e he; omega⟩
theorem Seg.at_nx {es : List Te} {nx : Int} {i : Nat} (hi : i + 1 = es.length) : (es.map (·.1) ++ [nx])[i + 1]? = some nx := by
  rw [List.getElem?_append_right (by simp; omega), List.length_map, hi, Nat.sub_self]
  rfl
theorem Seg.at_e {es : List Te} {nx : Int} {i : Nat} {e : Te} (h : es[i]? = some e) : (es.map (·.1) ++ [nx])[i]? = some e.1 := by
  have hi := (List.getElem?_eq_some_iff.mp h).1
  rw [List.getElem?_append_left (by simpa using hi), List.getElem?_map, h]
  rfl
/-- two of them about the same ranges: the next entry is the same -/
theorem Seg.step {es es' : List Te} {nx : Int} (S : Seg b ms k most low es nx) (S' : Seg b ms k most low es' nx) (b2 : 2 ≤ b) (hall : ∀ m ∈ ms, 1 ≤ m ∧ m % b ≠ 0) {i : Nat} {e : Te} (h : es[i]? = some e) (h' : es'[i]? = some e) : ∀ {e1 : Te}, es[i + 1]? = some e1 → es'[i + 1]? = some e1 := by
  intro e1 h1
  have hi := (List.getElem?_eq_some_iff.mp h').1
  have y1 := Seg.at_e (nx := nx) h1
  have l1 := S.lt i e h _ y1
  have m1 := List.mem_of_getElem? h1
  have n1 := S.ltn e1 m1
  -- e's step is no more that of e1's high end
  have other : ¬ LeastFit b ms k most low e1.1 0 e.2.1 e.2.2 := fun L => by
    obtain ⟨z, hz⟩ : ∃ z, (es.map (·.1) ++ [nx])[i + 2]? = some z := by
      have := (List.getElem?_eq_some_iff.mp h1).1
      exact ⟨_, List.getElem?_eq_getElem (by simp; omega)⟩
    have L1 := S.lf (i + 1) e1 h1 z hz e1.1 (Int.le_refl _) (S.lt (i + 1) e1 h1 z hz)
    obtain ⟨q1, q2⟩ := least_one b2 hall L L1
    have a1 : (es.map (·.2))[i]? = some e.2 := by rw [List.getElem?_map, h]; rfl
    have a2 : (es.map (·.2))[i + 1]? = some e1.2 := by rw [List.getElem?_map, h1]; rfl
    have ee : e.2 = e1.2 := Prod.ext q1 q2
    obtain ⟨x1, x2⟩ := List.getElem?_eq_some_iff.mp a1
    obtain ⟨x3, x4⟩ := List.getElem?_eq_some_iff.mp a2
    have := (List.getElem_inj (h₀ := x1) (h₁ := x3) S.nd).mp (by rw [x2, x4, ee])
    omega
  by_cases c : i + 1 < es'.length
  · obtain ⟨e1', g1⟩ : ∃ z, es'[i + 1]? = some z := ⟨_, List.getElem?_eq_getElem c⟩
    have y1' := Seg.at_e (nx := nx) g1
    have l1' := S'.lt i e h' _ y1'
    have m1' := List.mem_of_getElem? g1
    have eq : e1'.1 = e1.1 := by
      rcases Int.lt_trichotomy e1'.1 e1.1 with z | z | z
      · exfalso
        obtain ⟨y, hy⟩ : ∃ z, (es'.map (·.1) ++ [nx])[i + 2]? = some z := ⟨_, List.getElem?_eq_getElem (by simp; omega)⟩
        have L1 := S'.lf (i + 1) e1' g1 y hy e1'.1 (Int.le_refl _) (S'.lt (i + 1) e1' g1 y hy)
        have L2 := S.lf i e h _ y1 e1'.1 (by omega) z
        obtain ⟨q1, q2⟩ := least_one b2 hall L2 L1
        have a1 : (es'.map (·.2))[i]? = some e.2 := by rw [List.getElem?_map, h']; rfl
        have a2 : (es'.map (·.2))[i + 1]? = some e1'.2 := by rw [List.getElem?_map, g1]; rfl
        have ee : e.2 = e1'.2 := Prod.ext q1 q2
        obtain ⟨x1, x2⟩ := List.getElem?_eq_some_iff.mp a1
        obtain ⟨x3, x4⟩ := List.getElem?_eq_some_iff.mp a2
        have := (List.getElem_inj (h₀ := x1) (h₁ := x3) S'.nd).mp (by rw [x2, x4, ee])
        omega
      · exact z
      · exact absurd (S'.lf i e h' _ y1' e1.1 (by omega) z) other
    obtain ⟨z, hz⟩ : ∃ z, (es.map (·.1) ++ [nx])[i + 2]? = some z := by
      have := (List.getElem?_eq_some_iff.mp h1).1
      exact ⟨_, List.getElem?_eq_getElem (by simp; omega)⟩
    obtain ⟨y, hy⟩ : ∃ z, (es'.map (·.1) ++ [nx])[i + 2]? = some z := ⟨_, List.getElem?_eq_getElem (by simp; omega)⟩
    have L1 := S.lf (i + 1) e1 h1 z hz e1.1 (Int.le_refl _) (S.lt (i + 1) e1 h1 z hz)
    have L2 := S'.lf (i + 1) e1' g1 y hy e1'.1 (Int.le_refl _) (S'.lt (i + 1) e1' g1 y hy)
    rw [eq] at L2
    obtain ⟨q1, q2⟩ := least_one b2 hall L1 L2
    rw [g1]
    congr 1
    exact Prod.ext eq (Prod.ext q1.symm q2.symm)
  · exact absurd (S'.lf i e h' nx (Seg.at_nx (by omega)) e1.1 (by omega) n1) other
theorem Seg.uniq {es es' : List Te} {nx : Int} (S : Seg b ms k most low es nx) (S' : Seg b ms k most low es' nx) (b2 : 2 ≤ b) (hall : ∀ m ∈ ms, 1 ≤ m ∧ m % b ≠ 0) (ne : es ≠ []) (ne' : es' ≠ []) : es = es' := by
  have all : ∀ i : Nat, es[i]? = es'[i]? := by
    intro i
    induction i with
    | zero =>
      obtain ⟨e, r, rfl⟩ : ∃ e r, es = e :: r := by
        cases es with
        | nil => exact absurd rfl ne
        | cons e r => exact ⟨e, r, rfl⟩
      obtain ⟨e', r', rfl⟩ : ∃ e r, es' = e :: r := by
        cases es' with
        | nil => exact absurd rfl ne'
        | cons e r => exact ⟨e, r, rfl⟩
      have f1 := S.fst e rfl
      have f2 := S'.fst e' rfl
      obtain ⟨z, hz⟩ : ∃ z, ((e :: r).map (·.1) ++ [nx])[0 + 1]? = some z := ⟨_, List.getElem?_eq_getElem (by simp)⟩
      obtain ⟨y, hy⟩ : ∃ z, ((e' :: r').map (·.1) ++ [nx])[0 + 1]? = some z := ⟨_, List.getElem?_eq_getElem (by simp)⟩
      have L1 := S.lf 0 e rfl z hz e.1 (Int.le_refl _) (S.lt 0 e rfl z hz)
      have L2 := S'.lf 0 e' rfl y hy e'.1 (Int.le_refl _) (S'.lt 0 e' rfl y hy)
      rw [f2, ← f1] at L2
      obtain ⟨q1, q2⟩ := least_one b2 hall L1 L2
      show some e = some e'
      congr 1
      exact Prod.ext (f1.trans f2.symm) (Prod.ext q1 q2)
    | succ i ih =>
      cases h : es[i]? with
      | none =>
        rw [h] at ih
        have h1 := List.getElem?_eq_none_iff.mp h
        have h2 := List.getElem?_eq_none_iff.mp ih.symm
        rw [List.getElem?_eq_none (by omega), List.getElem?_eq_none (by omega)]
      | some e =>
        rw [h] at ih
        cases h1 : es[i + 1]? with
        | some e1 => exact (S.step S' b2 hall h ih.symm h1).symm
        | none =>
          cases h2 : es'[i + 1]? with
          | none => rfl
          | some e2 =>
            have := S'.step S b2 hall ih.symm h h2
            rw [h1] at this
            cases this
  exact List.ext_getElem? all
end
end Ax

namespace Ax
open PySem L2
section
variable {P : Program} {w : World} {K : PySem.W.Frag} {mg : Str → Option Value} {base : Heap} {A : Adr}
/-! ### properties -/
def spPB (A : Adr) : Sp := fun vs H Q _ => ∃ (r : Addr) (b : Int) (k : Kd) (ms : List Int) (most : Int) (D : RD), vs = [.ref r] ∧ RX A.c_Rule H r b k ms most D ∧ Q (.int b) H
def spPK (A : Adr) : Sp := fun vs H Q _ => ∃ (r : Addr) (b : Int) (k : Kd) (ms : List Int) (most : Int) (D : RD), vs = [.ref r] ∧ RX A.c_Rule H r b k ms most D ∧ Q (.str k.s) H
def spPM (A : Adr) : Sp := fun vs H Q _ => ∃ (r : Addr) (b : Int) (k : Kd) (ms : List Int) (most : Int) (D : RD), vs = [.ref r] ∧ RX A.c_Rule H r b k ms most D ∧ Q (.int most) H
abbrev nm_Rule_base : List Str := ["self"]
theorem sc_Rule_base : FnScope ["self"] ["self"] (defScope s_Rule_base) := ⟨rfl, rfl, rfl, by decide +kernel, rfl, by decide +kernel, by decide +kernel⟩
abbrev nm_Rule_kind : List Str := ["self"]
theorem sc_Rule_kind : FnScope ["self"] ["self"] (defScope s_Rule_kind) := ⟨rfl, rfl, rfl, by decide +kernel, rfl, by decide +kernel, by decide +kernel⟩
abbrev nm_Rule_most : List Str := ["self"]
theorem sc_Rule_most : FnScope ["self"] ["self"] (defScope s_Rule_most) := ⟨rfl, rfl, rfl, by decide +kernel, rfl, by decide +kernel, by decide +kernel⟩
theorem ok_pb (T : Txt K mg A w) : FnOk P w K mg base CX0 1 A.a_Rule_base A.d_Rule_base ["self"] (spPB A) := by
  refine T.F_Rule_base.ok sc_Rule_base (fun vs H Q E h => ?_) (fun cdv A0 outer s H vs Q E hr h => ?_)
  · obtain ⟨r, b, k, ms, most, D, rfl, _⟩ := h
    rfl
  · obtain ⟨r, b, k, ms, most, D, rfl, x, q⟩ := h
    refine ⟨_, (pss_one (ps_ret (pe_fld (pv 0) rfl))), ?_⟩
    exact ⟨_, rfl, r, A.c_Rule, D.dx, _, _, rfl, x.at_, T.cl, T.na_base, rf_base _ _ _ _ _ _, q⟩
theorem ok_pk (T : Txt K mg A w) : FnOk P w K mg base CX0 1 A.a_Rule_kind A.d_Rule_kind ["self"] (spPK A) := by
  refine T.F_Rule_kind.ok sc_Rule_kind (fun vs H Q E h => ?_) (fun cdv A0 outer s H vs Q E hr h => ?_)
  · obtain ⟨r, b, k, ms, most, D, rfl, _⟩ := h
    rfl
  · obtain ⟨r, b, k, ms, most, D, rfl, x, q⟩ := h
    refine ⟨_, (pss_one (ps_ret (pe_fld (pv 0) rfl))), ?_⟩
    exact ⟨_, rfl, r, A.c_Rule, D.dx, _, _, rfl, x.at_, T.cl, T.na_kind, rf_kind _ _ _ _ _ _, q⟩
theorem ok_pm (T : Txt K mg A w) : FnOk P w K mg base CX0 1 A.a_Rule_most A.d_Rule_most ["self"] (spPM A) := by
  refine T.F_Rule_most.ok sc_Rule_most (fun vs H Q E h => ?_) (fun cdv A0 outer s H vs Q E hr h => ?_)
  · obtain ⟨r, b, k, ms, most, D, rfl, _⟩ := h
    rfl
  · obtain ⟨r, b, k, ms, most, D, rfl, x, q⟩ := h
    refine ⟨_, (pss_one (ps_ret (pe_fld (pv 0) rfl))), ?_⟩
    exact ⟨_, rfl, r, A.c_Rule, D.dx, _, _, rfl, x.at_, T.cl, T.na_most, rf_most _ _ _ _ _ _, q⟩
/-! ### check_rule -/
def spCheck (A : Adr) : Sp := fun vs H Q _ => ∃ (r : Addr) (b : Int) (k : Kd) (ms : List Int) (most : Int) (D : RD), vs = [.ref r] ∧ RX A.c_Rule H r b k ms most D ∧ Q .non H
abbrev nm_check_rule : List Str := ["rule"]
theorem sc_check_rule : FnScope ["rule"] ["rule"] (defScope s_check_rule) := ⟨rfl, rfl, rfl, by decide +kernel, rfl, by decide +kernel, by decide +kernel⟩
theorem ok_check (T : Txt K mg A w) : FnOk P w K mg base CX0 1 A.a_check_rule A.d_check_rule ["rule"] (spCheck A) := by
  refine T.F_check_rule.ok sc_check_rule (fun vs H Q E h => ?_) (fun cdv A0 outer s H vs Q E hr h => ?_)
  · obtain ⟨r, b, k, ms, most, D, rfl, _⟩ := h
    rfl
  · obtain ⟨r, b, k, ms, most, D, rfl, x, q⟩ := h
    refine ⟨_, (pss_one (ps_if (pt_not (pt_val (pe_callB (C8.call_isC T.ic) (by rfl) T.n_isinstance (by decide +kernel) (pa_cons (pv 0) (pa_cons (pe_glob (v := .ref A.c_Rule) rfl T.c_Rule rfl) pa_nil))))) (pss_one ps_never) pss_nil)), ?_⟩
    refine ⟨_, rfl, r, D.dx, _, rfl, x.at_, _, rfl, ?_⟩
    exact iteF q
end
end Ax

namespace L2
open PySem PySem.Spec PyProof.Rows
/-! ### operators of an own class: x & y, x in c, ~x -/
section
variable {X : Cx} {CX : CXT} {n : Nat} {C f : Addr} {fd : FuncData} {ps : List Str} {sp : Sp} {E : XK}
/-- x op y, both of the class at C -/
def rBinO (C : Addr) (sp : Sp) (E : XK) : R2 := fun x y H Q => ∃ a dx fs c dy gs, x = .ref a ∧ y = .ref c ∧ H a = some (.ins C dx fs) ∧ H c = some (.ins C dy gs) ∧ sp [x, y] H (fun v H' => ∃ q, v = .ref q ∧ Q v H') E
theorem op_binO {op : Operator} (F : FnOk X.prog X.w X.K X.mg X.base CX n f fd ps sp) (hr : Room n X.A) (hc : PySem.W.selfFirst X.K C = true)
    (hs : PySem.W.findIn X.K (.ref C) (PySem.dunder op.info.2) = some (some (.ref f))) (hf : PySem.W.isFn X.K (.ref f) = true) (hb : Binds X.K fd ps []) (hx : Passes CX X E) : OpR X (binaryOp op) (rBinO C sp E) := by
  intro pins s σ H x y v u Q I rx ry hq
  obtain ⟨a, dx, fs, c, dy, gs, rfl, rfl, ha, hcc, q⟩ := hq
  cases rx
  cases ry
  obtain ⟨mA, J, _⟩ := ins_get I.hok ha
  obtain ⟨mB, J', _⟩ := ins_get I.hok hcc
  obtain ⟨od, J, _⟩ := J.look
  obtain ⟨od', J', _⟩ := J'.look
  obtain ⟨m, hF⟩ := I.fr
  refine PySem.W.binop_K hF I.ok.mod.kin J J'.type hc hs hf ?_
  have hl := F.len _ _ _ _ q
  have r2 : Vals [V.ref a, V.ref c] [Value.ref a, Value.ref c] := .cons rfl (.cons rfl .nil)
  refine wpAny_call (codeAny_mono (F.run X.A X.stack s H ⟨[.ref a, .ref c], []⟩ [.ref a, .ref c] [.ref a, .ref c] _ E hr I.env0 (by
    have := hb s [.ref a, .ref c] I.kIn (by simpa using hl)
    simpa using this) r2 q) fun r s' hq => ?_)
  cases r with
  | error e => exact hx pins σ H s e s' I hq
  | ok fl =>
    cases fl with
    | ret w =>
      obtain ⟨z, H', I', rz, b, ez, qz⟩ := I.after hq
      subst ez
      cases rz
      exact ⟨.ref b, H', I', rfl, qz⟩
    | next => exact False.elim hq
    | brk => exact False.elim hq
    | cont => exact False.elim hq
/-- v in x, x of the class at C with an own __contains__ that tells a Boolean -/
def rInO (C : Addr) (sp : Sp) (E : XK) : R2 := fun y x H Q => ∃ a dx fs, x = .ref a ∧ H a = some (.ins C dx fs) ∧ sp [x, y] H (fun v H' => ∃ b, v = .bl b ∧ Q v H') E
theorem op_inO (F : FnOk X.prog X.w X.K X.mg X.base CX n f fd ps sp) (hr : Room n X.A)
    (hs : PySem.W.findIn X.K (.ref C) "__contains__" = some (some (.ref f))) (hf : PySem.W.isFn X.K (.ref f) = true) (hb : Binds X.K fd ps []) (hx : Passes CX X E) : OpR X (compareOp .In) (rInO C sp E) := by
  intro pins s σ H y x v u Q I ry rx hq
  obtain ⟨a, dx, fs, rfl, ha, q⟩ := hq
  cases rx
  obtain ⟨mA, J, _⟩ := ins_get I.hok ha
  obtain ⟨od, J, _⟩ := J.look
  obtain ⟨m, hF⟩ := I.fr
  refine PySem.W.in_K hF I.ok.mod.kin J hs hf ?_
  have hl := F.len _ _ _ _ q
  have r2 : Vals [V.ref a, y] [Value.ref a, v] := .cons rfl (.cons ry .nil)
  refine wpAny_call (codeAny_mono (F.run X.A X.stack s H ⟨[.ref a, v], []⟩ [.ref a, v] [.ref a, y] _ E hr I.env0 (by
    have := hb s [.ref a, v] I.kIn (by simpa using hl)
    simpa using this) r2 q) fun r s' hq => ?_)
  cases r with
  | error e => exact hx pins σ H s e s' I hq
  | ok fl =>
    cases fl with
    | ret w =>
      obtain ⟨z, H', I', rz, b, ez, qz⟩ := I.after hq
      subst ez
      cases rz
      exact wpAny_pure ⟨.bl b, H', I', rfl, qz⟩
    | next => exact False.elim hq
    | brk => exact False.elim hq
    | cont => exact False.elim hq
/-- ~x of an instance of the class at C -/
def rInvO (C : Addr) (sp : Sp) (E : XK) : V → Hp → VK → Prop := fun x H Q => ∃ a dx fs, x = .ref a ∧ H a = some (.ins C dx fs) ∧ sp [x] H Q E
theorem un_invO (F : FnOk X.prog X.w X.K X.mg X.base CX n f fd ps sp) (hr : Room n X.A)
    (hs : PySem.W.findIn X.K (.ref C) "__invert__" = some (some (.ref f))) (hf : PySem.W.isFn X.K (.ref f) = true) (hb : Binds X.K fd ps []) (hx : Passes CX X E) : UnR X (unaryOp .Invert) (rInvO C sp E) := by
  intro pins s σ H x v Q I rx hq
  obtain ⟨a, dx, fs, rfl, ha, q⟩ := hq
  cases rx
  obtain ⟨mA, J, _⟩ := ins_get I.hok ha
  obtain ⟨od, J, _⟩ := J.look
  unfold unaryOp
  refine wpAny_holding ?_
  have hl := F.len _ _ _ _ q
  have r2 : Vals [V.ref a] [Value.ref a] := .cons rfl .nil
  refine wpAny_bind (PySem.W.special_fn I.kIn J hs (beq_iff_eq.mp hf) ?_)
  refine wpAny_call (codeAny_mono (F.run X.A X.stack s H ⟨[.ref a], []⟩ [.ref a] [.ref a] _ E hr I.env0 (by
    have := hb s [.ref a] I.kIn (by simpa using hl)
    simpa using this) r2 q) fun r s' hq => ?_)
  cases r with
  | error e => exact hx pins σ H s e s' I hq
  | ok fl =>
    cases fl with
    | ret w =>
      obtain ⟨z, H', I', rz, qz⟩ := I.after hq
      exact wpAny_pure ⟨z, H', I', rz, qz⟩
    | next => exact False.elim hq
    | brk => exact False.elim hq
    | cont => exact False.elim hq
end
/-! ### a class that a local holds, called -/
def tMakeL (i : Nat) (C : Addr) (sp : Sp) (dvs : List V) (E : XK) (t : TA) : TE := fun σ H Q => σ[i]? = some (some (.ref C)) ∧ tMake C sp dvs E t σ H Q
section
variable {X : Cx} {CX : CXT} {k i : Nat} {C f : Addr} {fd : FuncData} {ps : List Str} {sp : Sp} {dvs : List V} {ds : List Value} {E : XK} {x : Str} {p pos : Pos} {e : Expr} {es : List Expr} {t : TA}
theorem pe_makeL (M : Mk X.K C f) (F : FnOk X.prog X.w X.K X.mg X.base CX k f fd ps sp) (hr : Room (k + 1) X.A) (hN : X.N[i]? = some x) (hv : Vis X.env.scope x) (hb : Binds X.K fd ps ds) (hd : Vals dvs ds) (hx : Passes CX X E)
    (ha : PA X (e :: es) t) (hdb : (x == ("__debug__" : Str)) = false := by decide) (hcd : (x == ("__classdict__" : Str)) = false := by decide)
    (he : starEach (e :: es) X.env = (false, eval e X.env) :: starEach es X.env := by rfl) (hpl : (backTo pos (starEach es X.env)).any (·.1) = false := by rfl) : PE X (.Call (.Name x p) (e :: es) [] pos) (tMakeL i C sp dvs E t) := by
  refine ⟨fun pins s σ H Q I h => ?_⟩
  obtain ⟨hs, ht⟩ := h
  refine wpAny_Call_Name_kw (thn ((pe_var (pos := p) hN hv hdb hcd).run pins s σ H (fun v H1 => v = .ref C ∧ H1 = H) I ⟨.ref C, hs, rfl, rfl⟩) fun u s1 ⟨v, H1, I1, r1, q1⟩ => ?_)
  obtain ⟨rfl, rfl⟩ := q1
  cases r1
  refine PySem.W.callWith_K (h₀ := X.base) I.ok.mod.kin M.kp (thn (ha.run pos pins s1 σ _ _ I1 ht) fun us s2 ⟨vs, H2, I2, r, q⟩ => ⟨I2.kIn, ?_⟩) he hpl
  exact run_make M F hr hb hd hx I2 r q
end
end L2

namespace Ax
open PySem L2
/-! ### lists of tuples of three numbers -/
abbrev Tr := Int × Int × Int
def trV (z : Tr) : HO := .tup [.int z.1, .int z.2.1, .int z.2.2]
abbrev TrAt (H : Hp) : List Tr → List Addr → Prop := Paired fun z a => H a = some (trV z)
theorem TrAt.same {H H' : Hp} (s : ∀ c xs, H c = some (.tup xs) → H' c = some (.tup xs)) : ∀ {zs : List Tr} {as : List Addr}, TrAt H zs as → TrAt H' zs as
  | _, _, .nil => .nil
  | _, _, .cons h r => .cons (s _ _ h) (TrAt.same s r)
theorem TrAt.snoc {H : Hp} {z : Tr} {a : Addr} : ∀ {zs : List Tr} {as : List Addr}, TrAt H zs as → H a = some (trV z) → TrAt H (zs ++ [z]) (as ++ [a])
  | _, _, .nil, h => .cons h .nil
  | _, _, .cons h r, q => .cons h (TrAt.snoc r q)
theorem TrAt.app {H : Hp} : ∀ {zs ys : List Tr} {as bs : List Addr}, TrAt H zs as → TrAt H ys bs → TrAt H (zs ++ ys) (as ++ bs)
  | _, _, _, _, .nil, q => q
  | _, _, _, _, .cons h r, q => .cons h (TrAt.app r q)
theorem TrAt.len {H : Hp} {zs : List Tr} {as : List Addr} (h : TrAt H zs as) : zs.length = as.length := Paired.length h
theorem TrAt.get {H : Hp} : ∀ {zs : List Tr} {as : List Addr} {i : Nat} {a : Addr}, TrAt H zs as → as[i]? = some a → ∃ z, zs[i]? = some z ∧ H a = some (trV z)
  | _, _, _, _, .nil, h => nomatch h
  | _, _, 0, _, .cons h _, e => by
    obtain rfl := Option.some.inj e
    exact ⟨_, rfl, h⟩
  | _, _, i + 1, _, .cons _ r, e => TrAt.get (i := i) r e
theorem blkOk_eq {N N' : List Str} {sc sc' scope : Scope} {own : List (Str × Nat)} (h1 : N = N') (h2 : sc = sc') (h : blkC N' sc' scope own = true) : BlkOk N sc scope own := by
  subst h1
  subst h2
  exact blkOk_by h
theorem ixT (K : PySem.W.Frag) {X : Cx} (h : X.K = K := by rfl) : IxR X (rIxT K) := h ▸ ix_tup
theorem piL (K : PySem.W.Frag) {X : Cx} {tg l : Expr} {tl : TE} (hl : PE X l tl) (h : X.K = K := by rfl) : PI X tg l (iList K tl) := h ▸ pi_list hl
def lcSc : Expr → Scope
  | .ListComp _ _ sc _ => sc
  | _ => { kind := .function, names := [], isGenerator := false, isCoroutine := false }
def asVal : Stmt → Expr
  | .Assign _ v _ => v
  | _ => .Constant .none 0 ⟨0, 0, 0, 0⟩
def subBase : Expr → Expr
  | .Subscript a _ _ => a
  | e => e
def cellSc (s : Scope) : Scope := { s with names := s.names.map fun p => if p.2 == NameKind.free then (p.1, NameKind.cell) else p }
theorem min_ex : ∀ {l : List Int}, l ≠ [] → ∃ M ∈ l, ∀ y ∈ l, M ≤ y
  | [], h => absurd rfl h
  | [x], _ => ⟨x, List.mem_cons_self .., fun y hy => by
    rw [List.mem_singleton] at hy
    omega⟩
  | x :: y :: r, _ => by
    obtain ⟨M, h1, h2⟩ := min_ex (l := y :: r) (by simp)
    by_cases c : M ≤ x
    · exact ⟨M, List.mem_cons_of_mem _ h1, fun z hz => by
        rcases List.mem_cons.mp hz with rfl | hz
        · exact c
        · exact h2 z hz⟩
    · exact ⟨x, List.mem_cons_self .., fun z hz => by
        rcases List.mem_cons.mp hz with rfl | hz
        · omega
        · have := h2 z hz
          omega⟩
theorem filter_snoc {p : Tr → Bool} {l : List Tr} {z : Tr} : (l ++ [z]).filter p = if p z = true then l.filter p ++ [z] else l.filter p := by
  rw [List.filter_append, List.filter_cons]
  by_cases c : p z = true
  · rw [if_pos c, if_pos c, List.filter_nil]
  · rw [if_neg c, if_neg c, List.filter_nil, List.append_nil]
theorem take_tr {zs : List Tr} {i : Nat} {z : Tr} (h : zs[i]? = some z) : zs.take (i + 1) = zs.take i ++ [z] := by
  rw [List.take_add_one, h]
  rfl
theorem kd_ins (k : Kd) : decide (V.str k.s = V.str "inside") = decide (k = .ins) := kd_is k .ins
end Ax

/-! # Promises of defs that are called where no guard stands below: they may tell texts of data (repr). -/
namespace Ax
open PySem PySem.Spec PyProof.Rows L2
structure FnG (P : Program) (w : World) (K : PySem.W.Frag) (mg : Str → Option Value) (base : Heap) (k : Nat) (f : Addr) (fd : FuncData) (ps : List Str) (sp : Sp) : Prop where
  many : ∀ vs H Q E, sp vs H Q E → vs.length = ps.length
  go : ∀ {A : Around} {callers : List Env} {st : Shared} {H : Hp} {ar : Args} {us : List Value} {vs : List V} {Q : VK} {E : XK}, A.guards = some [] → Room k A →
    Env0 P w K mg base A callers st H → BindsTo st fd ar (ps.zip us) → Vals vs us → sp vs H Q E →
    codeAny (model P w) A (.call (.ref f) ar) (CR CX0 callers P w H st Q E) st
section
variable {P : Program} {w : World} {K : PySem.W.Frag} {mg : Str → Option Value} {base : Heap} {k : Nat} {f : Addr} {fd : FuncData} {ps N : List Str} {sp : Sp}
/-- by its body -/
theorem fnG {x qual : Str} {d : Stmt} (F : Fun K x qual d f fd) (S : FnScope N ps (defScope d)) (many : ∀ vs H Q E, sp vs H Q E → vs.length = ps.length)
    (body : ∀ (cd : Value) (A : Around) (callers : List Env) (st : Shared) (H : Hp) (vs : List V) (Q : VK) (E : XK), A.guards = some [] → Room k (A.deeper (envOfC qual (defScope d) st.heap.objs.size f cd)) → sp vs H Q E →
      ∃ t, PSs (cxOf CX0 P w K mg base N qual (defScope d) f cd A callers st H E).nox (defBody d) t ∧ t ⟨fun _ H' => Q .non H', Q, fun _ _ => False, fun _ _ => False⟩ (L2.start N vs) H) :
    FnG P w K mg base (k + 1) f fd ps sp := by
  obtain ⟨_, _, _, _, _, _, cd, _, _, rfl, look, isCode⟩ := F.ex
  constructor
  · exact many
  · intro A callers st H ar us vs Q E hg room en bi rel hsp
    have old : ∀ b o, base.get? b = some o → st.heap.get? b = some o := fun b o e => (en.bs b o e).1
    have inK := en.mod.kin.keeps old
    have free := en.mod.nolimit.keeps old
    have kinds : ∀ y ∈ ps.zip us, (defScope d).names.lookup y.1 = some .local ∨ (defScope d).names.lookup y.1 = some .cell ∧ ((cellsFrom (st.heap.objs.size + 1) (defScope d).names []).lookup y.1).isSome = true := by
      rintro ⟨n, u⟩ hy
      exact (S.par n (List.of_mem_zip hy).1).imp id fun z => ⟨z, PySem.W.cellsFrom_some _ _ _ (.inl z)⟩
    refine codeAny_call_function room.depth (inK _ _ look) rfl S.co S.gen rfl (PySem.W.codeRec_of inK isCode) (bi _ _ _ _ (wpAny_newFunctionEnv_cells S.kind kinds ?_))
    rintro _ rfl s1 fresh
    refine ⟨free.keeps fresh.toInCall.keep, codeAny_func ?_⟩
    obtain ⟨t, read, now⟩ := body cd A callers st H vs Q E hg (room.deeper _) hsp
    have start := inv_start (CX := CX0) (E := E) S room.hd en (many _ _ _ _ hsp) rel fresh
    refine wpAny_mono (read.nox.run [] s1 (L2.start N vs) H _ start now) ?_ fun _ _ z => z
    intro fl s2 hs
    have out : ∀ {σ' : L2.St} {H' : Hp} {v : V} {u : Value}, Inv (cxOf CX0 P w K mg base N qual (defScope d) f cd A callers st H E) [] σ' H' s2 → RelV v u → Q v H' → CE callers P w H st Q u s2 :=
      fun J r q => ⟨_, _, J.os, J.bare, J.base, J.hok, r, q⟩
    match fl, hs with
    | .ret u, ⟨v, σ', H', J, r, q⟩ => exact out J r q
    | .next, ⟨σ', H', J, q⟩ => exact out (v := .non) (u := .none) J rfl q
    | .brk, ⟨_, _, _, q⟩ => exact q.elim
    | .cont, ⟨_, _, _, q⟩ => exact q.elim
end
/-! ### its call -/
section
variable {X : Cx} {k : Nat} {f : Addr} {fd : FuncData} {ps : List Str} {sp : Sp} {E : XK} {x : Str} {p pos : Pos} {e : Expr} {es : List Expr} {t : TA}
theorem pe_callG (F : FnG X.prog X.w X.K X.mg X.base k f fd ps sp) (gu : X.A.guards = some []) (room : Room k X.A) (gl : Gl X x) (hm : X.mg x = some (.ref f)) (kp : PySem.W.keepIn X.K (.ref f) = true) (bi : Binds X.K fd ps []) (ps0 : Passes CX0 X E)
    (args : PA X (e :: es) t) (nd : (x == ("__debug__" : Str)) = false := by decide) (st1 : starEach (e :: es) X.env = (false, eval e X.env) :: starEach es X.env := by rfl)
    (st2 : (backTo pos (starEach es X.env)).any (·.1) = false := by rfl) : PE X (.Call (.Name x p) (e :: es) [] pos) (tCall sp [] E t) := by
  constructor
  intro pins s σ H Q I h
  refine wpAny_Call_Name_kw (ld_glob I gl hm (PySem.W.callWith_K (h₀ := X.base) I.ok.mod.kin kp (thn (args.run pos pins s σ H _ I h) ?_) st1 st2) nd)
  rintro us s1 ⟨vs, H1, I1, rel, now⟩
  refine ⟨I1.kIn, ?_⟩
  have rel' : Vals (vs ++ []) (us ++ []) := rel.append .nil
  have len : (us ++ []).length = ps.length := rel'.length.symm.trans (F.many _ _ _ _ now)
  refine wpAny_call (codeAny_mono (F.go gu room I1.env0 (bi s1 us I1.kIn len) rel' now) ?_)
  rintro (er | fl) s2 z
  · exact ps0 pins σ H1 s1 er s2 I1 z
  · match fl, z with
    | .ret u, z => exact I1.after z
    | .next, z => exact z.elim
    | .brk, z => exact z.elim
    | .cont, z => exact z.elim
end
/-! ### the law's call -/
theorem lawG {P : Program} {w : World} {K : PySem.W.Frag} {mg mb : Str → Option Value} {k : Nat} {fa a : Addr} {fd : FuncData} {x : Str} {sp : Sp} {st : Shared} {vs : List Value} {ns : List Int}
    (inK : K.In st.heap) (gl : st.heap.Ns mainGlobals mg) (bl : st.heap.Ns builtinsNs mb) (bb : ∀ y : Str, y ≠ "__name__" → mb y = bootBuiltins y) (free : st.heap.NoLimit) (gens : st.gens = #[])
    (at_ : st.heap.get? a = some { cls := .type "list", data := .seq vs.toArray }) (isI : IntsAre vs ns) (few : ns.length ≤ sizeLine) (room : Room k callerA)
    (F : ∀ base : Heap, K.In base → base.Ns mainGlobals mg → FnG P w K mg base k fa fd [x] sp) (bi : ∀ (s : Shared) (u : Value), BindsTo s fd ⟨[u], []⟩ [(x, u)])
    (hsp : ∀ H : Hp, SqL K H a (ns.map V.int) → sp [.ref a] H (fun v _ => v = .bl true) fun _ _ _ => False) :
    codeAny (model P w) callerA (.call (.ref fa) ⟨[.ref a], []⟩) (fun r s' => r = .ok (.ret (.bool true)) ∧ OldK st.heap s'.heap ∧ s'.os = st.os ∧ AllBare s'.gens) st := by
  have rel := vals_ints isI
  obtain ⟨ob, eob⟩ : ∃ ob : Obj, ob = { cls := .type "list", data := .seq vs.toArray } := ⟨_, rfl⟩
  obtain ⟨H, eH⟩ : ∃ H : Hp, H = fun b => if b = a ∧ K.lookup a = none then some (.frz ob (.lst (ns.map V.int))) else none := ⟨_, rfl⟩
  have only : ∀ {b u}, H b = some u → b = a ∧ K.lookup a = none ∧ u = .frz ob (.lst (ns.map V.int)) := fun {b u} z => by
    rw [eH] at z
    by_cases c : b = a ∧ K.lookup a = none
    · exact ⟨c.1, c.2, (Option.some.inj ((if_pos c).symm.trans z)).symm⟩
    · cases (if_neg c).symm.trans z
  have sizes : vs.length = ns.length := isI.length
  have hS : SqL K H a (ns.map V.int) := by
    cases look : K.lookup a with
    | some o =>
      have same := inK a o look
      rw [at_] at same
      cases same
      exact .inr ⟨_, vs.toArray, _, look, rfl, rfl, rfl, by rw [List.size_toArray, sizes]; exact few, by simpa using rel⟩
    | none => exact .inl (.inr ⟨ob, by rw [eH]; exact if_pos ⟨rfl, look⟩⟩)
  have ok : HOk P w H st.heap := fun b u z => by
    obtain ⟨rfl, _, rfl⟩ := only z
    subst eob
    exact ⟨at_, by rw [List.length_map]; exact few, vs, _, rel, at_⟩
  have shown : ∀ {b o}, st.heap.get? b = some o → (b = a → K.lookup a ≠ none) → (hidT st.heap H).get? b = some o := fun {b o} e n => hidT_get e (by
    cases z : H b with
    | none => rfl
    | some u => exact absurd (only z).2.1 (n (only z).1))
  have names : ∀ {b m}, st.heap.Ns b m → (hidT st.heap H).Ns b m := by
    rintro b m ⟨o, es, ep, e, dd, r⟩
    refine ⟨o, es, ep, shown e (fun z => ?_), dd, r⟩
    rw [z, at_] at e
    cases e
    cases dd
  have inB : K.In (hidT st.heap H) := by
    intro b o e
    refine shown (inK b o e) (fun z n => ?_)
    rw [z, n] at e
    cases e
  have nolim : (hidT st.heap H).NoLimit := by
    obtain ⟨mc, h1, h2⟩ := free
    exact ⟨mc, names h1, h2⟩
  have en : Env0 P w K mg (hidT st.heap H) callerA [] st H :=
    { frames := rfl, mod := ⟨inB, names gl, ⟨mb, names bl, bb⟩, nolim⟩, bs := fun b o e => of_hidT e, bsz := Nat.le_of_eq (hidT_size _ _), funs := trivial,
      frf := fun b hb => (List.not_mem_nil hb).elim, hok := ok, bare := .of_eq gens }
  refine codeAny_mono ((F _ inB (names gl)).go rfl room en (us := [.ref a]) (vs := [V.ref a]) (bi st (.ref a)) (.cons rfl .nil) (hsp H hS)) ?_
  rintro (er | fl) s' z
  · exact (show False from z).elim
  · match fl, z with
    | .next, z => exact z.elim
    | .brk, z => exact z.elim
    | .cont, z => exact z.elim
    | .ret u, ⟨v, H', os, bare, un, ok', r, q⟩ =>
      cases (show v = .bl true from q)
      cases (show u = Value.bool true from r)
      refine ⟨rfl, OldK.of_keep fun b o e => ?_, os, bare⟩
      cases z : H b with
      | none => exact un.keep b o e z (fun y => (List.not_mem_nil y).elim) (fun y => (List.not_mem_nil y).elim)
      | some u =>
        obtain ⟨rfl, _, rfl⟩ := only z
        have e1 := (ok _ _ z).1
        have e2 := (ok' _ _ (un.frzs _ _ _ z)).1
        rw [e] at e1
        cases e1
        exact e2
theorem walkG {l : PySem.W.OpenLaw} {q : Program} {loose : List Str} {XP : (Str → Option Value) → Heap → Prop} {YP : World → Heap → Prop} {d : DefRec} {K : Params → PySem.W.Frag} {k : Nat} {x : Str} {sp : World → Sp}
    (most : l.most = some 63) (nodef : d.params.defaults = []) (room : Room k callerA) (inK : ∀ (w : World) (h : Heap), YP w h → (K w.params).In h)
    (F : ∀ (w : World) (mg : Str → Option Value) (fa : Addr) (h : Heap), (K w.params).In h → h.Ns mainGlobals mg → mg d.name = some (.ref fa) →
      ∃ fd : FuncData, (∀ (s : Shared) (u : Value), BindsTo s fd ⟨[u], []⟩ [(x, u)]) ∧ ∀ base : Heap, (K w.params).In base → base.Ns mainGlobals mg → FnG l.prog w (K w.params) mg base k fa fd [x] (sp w))
    (hsp : ∀ (w : World) (H : Hp) (a : Addr) (ns : List Int), ns.length ≤ 63 → SqL (K w.params) H a (ns.map V.int) → sp w [.ref a] H (fun v _ => v = .bl true) fun _ _ _ => False) :
    PySem.W.WalkO q loose XP YP l.row.toRowW d [] (fun f vs => PySem.call f vs) := by
  refine Att.attach_call most nodef ?_
  intro w s0 st mg mb fa o pm cd doc a vs ns G Y _ _ _ hm at_ isI few gens
  obtain ⟨fd, bi, hF⟩ := F w mg fa _ (inK w _ Y) G.T.g hm
  exact lawG (inK w _ Y) G.T.g G.T.b G.T.builtins G.T.nolimit gens at_ isI (Nat.le_trans few (by decide)) room hF bi fun H hS => hsp w H a ns few hS
/-! ### texts of data -/
/-- repr of data that holds no dict, where no guard stands below -/
def rRepr (K : PySem.W.Frag) (A : Around) : List V → Hp → VK → Prop := fun xs H Q => ∃ (a : Addr) (d : PyData), xs = [.ref a] ∧ Dp K H (.ref a) d ∧ d.showable = true ∧ d.hasDict = false ∧ d.shown.length ≤ sizeLine ∧ A.units + (d.depth + 1) < cLine ∧ Q (.str d.shown) H
theorem call_reprD {X : Cx} (gu : X.A.guards = some []) : CallR X (.builtin "repr") (rRepr X.K X.A) := by
  intro pins s σ H xs us Q I rel h
  obtain ⟨a, d, rfl, dp, s1, s2, s3, s4, q⟩ := h
  obtain ⟨u, rfl, ru⟩ : ∃ u, us = [u] ∧ RelV (.ref a) u := by
    cases rel with
    | cons h t =>
      cases t
      exact ⟨_, rfl, h⟩
  cases ru
  obtain ⟨as, rd⟩ := Dp.reads I d _ _ dp rfl
  refine repr_of_reads' rd s1 (PyData.noDict_hsm s2) gu s4 (fun _ _ e => e) (fun h' u tk kept => ?_) s3
  exact ⟨.str d.shown, H, I.kept kept, ⟨u, rfl⟩, q⟩
theorem shown2 {a b : Int} (h1 : a.natAbs.log2 < 1920) (h2 : b.natAbs.log2 < 1920) : (PyData.tuple [.int a, .int b]).showable = true ∧ (PyData.tuple [.int a, .int b]).hasDict = false ∧ (PyData.tuple [.int a, .int b]).shown.length ≤ sizeLine ∧ (PyData.tuple [.int a, .int b]).depth ≤ 8 := by
  refine ⟨?_, ?_, ?_, ?_⟩
  · simp [PyData.showable, PyData.showableAll, h1, h2]
  · simp [PyData.hasDict, PyData.hasDictAll]
  · have l1 := PyProof.Rows.int_text_len_1921 h1
    have l2 := PyProof.Rows.int_text_len_1921 h2
    simp only [PyData.shown, PyData.shownAll]
    unfold tupleText
    rw [strLen_append, strLen_append]
    have j := join_length_add [Str.ofString (toString a), Str.ofString (toString b)] (by simp)
    simp only [piled] at j
    simp only [List.map_cons, List.map_nil, List.sum_cons, List.sum_nil] at j
    have e1 : (Str.ofString "(").length = 1 := rfl
    have e2 : (Str.ofString (if ([Str.ofString (toString a), Str.ofString (toString b)].length == 1) = true then ",)" else ")")).length ≤ 2 := by
      rw [if_neg (by simp)]
      decide
    rw [sizeLine_eq]
    omega
  · simp [PyData.depth, PyData.depthAll]
end Ax

namespace Ax
/-! # all steps of a rule about a length, in order; the first one that fits -/
abbrev Tz := Int × Int × Int
theorem sorted_split (s : Int) : ∀ {zs : List Tz}, zs.Pairwise (fun x y => x.1 ≤ y.1) →
    zs.take (zs.filter fun z => decide (z.1 < s)).length = zs.filter (fun z => decide (z.1 < s)) ∧ zs.drop (zs.filter fun z => decide (z.1 < s)).length = zs.filter (fun z => decide (s ≤ z.1))
  | [], _ => ⟨rfl, rfl⟩
  | z :: r, h => by
    have h2 := List.pairwise_cons.mp h
    obtain ⟨i1, i2⟩ := sorted_split s h2.2
    by_cases c : z.1 < s
    · have c2 : ¬ s ≤ z.1 := by omega
      rw [List.filter_cons, if_pos (decide_eq_true c), List.filter_cons, if_neg (by rw [decide_eq_false c2]; decide)]
      exact ⟨by rw [List.length_cons, List.take_succ_cons, i1], by rw [List.length_cons, List.drop_succ_cons, i2]⟩
    · have e : (z :: r).filter (fun z => decide (z.1 < s)) = [] := List.filter_eq_nil_iff.mpr fun x hx => by
        have : z.1 ≤ x.1 := by
          rcases List.mem_cons.mp hx with q | q
          · rw [q]
            exact Int.le_refl _
          · exact h2.1 x q
        rw [decide_eq_false (show ¬ x.1 < s by omega)]
        decide
      have e2 : (z :: r).filter (fun z => decide (s ≤ z.1)) = z :: r := List.filter_eq_self.mpr fun x hx => by
        have : z.1 ≤ x.1 := by
          rcases List.mem_cons.mp hx with q | q
          · rw [q]
            exact Int.le_refl _
          · exact h2.1 x q
        exact decide_eq_true (by omega)
      rw [e, e2]
      exact ⟨rfl, rfl⟩
/-- a new one put in at its place -/
def putIn (x : Tz) (zs : List Tz) : List Tz := zs.take (zs.filter fun z => decide (z.1 < x.1)).length ++ [x] ++ zs.drop (zs.filter fun z => decide (z.1 < x.1)).length
theorem putIn_sorted {x : Tz} {zs : List Tz} (h : zs.Pairwise fun x y => x.1 ≤ y.1) : (putIn x zs).Pairwise fun x y => x.1 ≤ y.1 := by
  obtain ⟨e1, e2⟩ := sorted_split x.1 h
  unfold putIn
  rw [e1, e2, List.append_assoc]
  refine List.pairwise_append.mpr ⟨h.filter _, List.pairwise_append.mpr ⟨List.pairwise_singleton _ _, h.filter _, ?_⟩, ?_⟩
  · intro a ha c hc
    rw [List.mem_singleton.mp ha]
    exact of_decide_eq_true (List.mem_filter.mp hc).2
  · intro a ha c hc
    have h1 : a.1 < x.1 := of_decide_eq_true (List.mem_filter.mp ha).2
    rcases List.mem_append.mp hc with q | q
    · rw [List.mem_singleton.mp q]
      omega
    · have h2 : x.1 ≤ c.1 := of_decide_eq_true (List.mem_filter.mp q).2
      omega
theorem putIn_mem {x z : Tz} {zs : List Tz} (h : zs.Pairwise fun x y => x.1 ≤ y.1) : z ∈ putIn x zs ↔ z = x ∨ z ∈ zs := by
  obtain ⟨e1, e2⟩ := sorted_split x.1 h
  unfold putIn
  rw [e1, e2]
  simp only [List.mem_append, List.mem_singleton, List.mem_filter, decide_eq_true_eq]
  constructor
  · rintro ((⟨a, _⟩ | a) | ⟨a, _⟩)
    · exact .inr a
    · exact .inl a
    · exact .inr a
  · rintro (a | a)
    · exact .inl (.inr a)
    · by_cases c : z.1 < x.1
      · exact .inl (.inl ⟨a, c⟩)
      · exact .inr ⟨a, by omega⟩
theorem putIn_len {x : Tz} {zs : List Tz} : (putIn x zs).length = zs.length + 1 := by
  unfold putIn
  rw [List.length_append, List.length_append, List.length_take, List.length_drop, List.length_singleton]
  have := List.length_filter_le (fun z : Tz => decide (z.1 < x.1)) zs
  omega
/-- the list about a length: powers from P0 up to below W, and of the next power the first heads -/
structure Szs (b : Int) (hs part : List Int) (P0 W : Nat) (zs : List Tz) : Prop where
  st : zs.Pairwise fun x y => x.1 ≤ y.1
  of : ∀ z ∈ zs, ∃ m, ∃ e : Nat, m ∈ hs ∧ P0 ≤ e ∧ (e < W ∨ (e = W ∧ m ∈ part)) ∧ z = (m * b ^ e, m, (e : Int))
  all : ∀ m ∈ hs, ∀ e : Nat, P0 ≤ e → e < W → (m * b ^ e, m, (e : Int)) ∈ zs
  nxt : ∀ m ∈ part, (m * b ^ W, m, (W : Int)) ∈ zs
theorem Szs.put {b : Int} {hs part : List Int} {P0 W : Nat} {zs : List Tz} (S : Szs b hs part P0 W zs) {m : Int} (hm : m ∈ hs) (hW : P0 ≤ W) : Szs b hs (part ++ [m]) P0 W (putIn (m * b ^ W, m, (W : Int)) zs) := by
  refine ⟨putIn_sorted S.st, fun z hz => ?_, fun n hn e h1 h2 => (putIn_mem S.st).mpr (.inr (S.all n hn e h1 h2)), fun n hn => ?_⟩
  · rcases (putIn_mem S.st).mp hz with q | q
    · exact ⟨m, W, hm, hW, .inr ⟨rfl, List.mem_append_right _ (List.mem_singleton.mpr rfl)⟩, q⟩
    · obtain ⟨n, e, h1, h2, h3, h4⟩ := S.of z q
      exact ⟨n, e, h1, h2, h3.imp id fun y => ⟨y.1, List.mem_append_left _ y.2⟩, h4⟩
  · rcases List.mem_append.mp hn with q | q
    · exact (putIn_mem S.st).mpr (.inr (S.nxt n q))
    · rw [List.mem_singleton.mp q]
      exact (putIn_mem S.st).mpr (.inl rfl)
theorem Szs.next {b : Int} {hs : List Int} {P0 W : Nat} {zs : List Tz} (S : Szs b hs hs P0 W zs) : Szs b hs [] P0 (W + 1) zs :=
  ⟨S.st, fun z hz => by
    obtain ⟨m, e, h1, h2, h3, h4⟩ := S.of z hz
    exact ⟨m, e, h1, h2, .inl (by omega), h4⟩, fun m hm e h1 h2 => by
    by_cases c : e = W
    · rw [c]
      exact S.nxt m hm
    · exact S.all m hm e h1 (by omega), fun _ h => nomatch h⟩
theorem Szs.nil {b : Int} {hs : List Int} {P0 : Nat} : Szs b hs [] P0 P0 [] :=
  ⟨.nil, fun _ h => (nomatch h), fun m _ e h1 h2 => absurd h2 (by omega), fun _ h => nomatch h⟩
/-- the whole list -/
structure Whole (b : Int) (hs : List Int) (L : Int) (zs : List Tz) : Prop where
  ex : ∃ P0 W : Nat, Szs b hs [] P0 W zs ∧ P0 < W ∧ 10 * b * L < b ^ W ∧ (P0 = 0 ∨ b ^ P0 * 225 < L)
section
variable {b most l h : Int} {hs : List Int} {k : Kd}
theorem fit_at {m : Int} {e : Nat} (b2 : 2 ≤ b) (m1 : 1 ≤ m) : FitE b k most l h m ((e : Int) - 9) ↔ h * b ^ 9 ≤ reachZ k most (l * b ^ 9) (m * b ^ e) := by
  have := fitE_N (b := b) (k := k) (most := most) (l := l) (h := h) (m := m) (e := (e : Int) - 9) (N := 9) (by omega) m1 (by decide) (by omega)
  rw [this]
  unfold szN
  rw [show ((9 : Int) + ((e : Int) - 9)).toNat = e by omega]
  exact Iff.rfl
/-- THE FIRST that fits is the least -/
theorem first_least {zs pre post : List Tz} {m e : Int} (Wh : Whole b hs ((h - l) * b ^ 9) zs) (b2 : 2 ≤ b) (lt : l < h) (m1 : 1 ≤ most) (m6 : most ≤ 6) (hc : k = .cov → 2 ≤ most) (hd : ∀ m ∈ hs, 1 ≤ m ∧ m ≤ 25) {s : Int}
    (ez : zs = pre ++ (s, m, e) :: post) (un : ∀ z ∈ pre, ¬ h * b ^ 9 ≤ reachZ k most (l * b ^ 9) z.1) (fit : h * b ^ 9 ≤ reachZ k most (l * b ^ 9) s) : LeastFit b hs k most l h 0 m (e - 9) := by
  obtain ⟨P0, W, S, PW, big, low⟩ := Wh.ex
  obtain ⟨m0, e0, hm, he, _, q⟩ := S.of (s, m, e) (by rw [ez]; simp)
  cases q
  have b1 : 1 ≤ b := by omega
  have st := S.st
  rw [ez] at st
  obtain ⟨_, st2, _⟩ := List.pairwise_append.mp st
  have after := (List.pairwise_cons.mp st2).1
  have p9 := pow_pos' (b := b) b1 9
  -- one that is in the list and smaller is ahead
  have ahead : ∀ z ∈ zs, z.1 < m * b ^ e0 → ¬ h * b ^ 9 ≤ reachZ k most (l * b ^ 9) z.1 := fun z hz c => by
    rw [ez] at hz
    rcases List.mem_append.mp hz with y | y
    · exact un z y
    · rcases List.mem_cons.mp y with y | y
      · rw [y] at c
        exact absurd c (Int.lt_irrefl _)
      · have := after z y
        have this : m * b ^ e0 ≤ z.1 := this
        omega
  refine ⟨hm, by rw [Int.add_zero]; exact (fit_at b2 (hd m hm).1).mpr fit, fun m' hm' p' hs' hf => ?_⟩
  rw [Int.add_zero] at hf
  obtain ⟨n1, n25⟩ := hd m' hm'
  by_cases c1 : p' + 9 < P0
  · -- too small
    obtain ⟨N, hN⟩ : ∃ N : Int, N = 9 + p'.natAbs := ⟨_, rfl⟩
    have hf' := (fitE_N b1 n1 (N := N) (by omega) (by omega)).mp hf
    refine fit_small ?_ ?_ hf'
    · unfold szN
      rw [← Int.sub_mul]
      have eN : N.toNat = 9 + (N - 9).toNat := by omega
      rw [eN, pow_add']
      have asc : (h - l) * (b ^ 9 * b ^ (N - 9).toNat) = (h - l) * b ^ 9 * b ^ (N - 9).toNat := (Int.mul_assoc ..).symm
      have pN := pow_pos' (b := b) b1 (N - 9).toNat
      have pp := pow_pos' (b := b) b1 (N + p').toNat
      have L1 : 1 ≤ h - l := by omega
      have s1 : (most + 1) * (m' * b ^ (N + p').toNat) ≤ 175 * b ^ (N + p').toNat := by
        rw [← Int.mul_assoc]
        refine Int.mul_le_mul_of_nonneg_right ?_ (by omega)
        have := Int.mul_le_mul (show most + 1 ≤ 7 by omega) n25 (by omega) (by decide)
        omega
      rcases low with z | z
      · have e1 : b ^ (N + p').toNat ≤ b ^ (N - 9).toNat := pow_le' b1 (by omega)
        have q1 := pow_base_le (a := 2) (b := b) (by decide) b2 9
        have q2 : (2 : Int) ^ 9 = 512 := by decide
        have q3 := Int.mul_le_mul (show (175 : Int) ≤ b ^ 9 by omega) e1 (by omega) (by omega)
        have q4 := Int.mul_le_mul_of_nonneg_right L1 (show 0 ≤ b ^ 9 by omega)
        have q5 := Int.mul_le_mul_of_nonneg_right q4 (show 0 ≤ b ^ (N - 9).toNat by omega)
        rw [Int.one_mul] at q5
        omega
      · have e1 : b ^ (N + p').toNat ≤ b ^ (P0 + (N - 9).toNat) := pow_le' b1 (by omega)
        rw [pow_add'] at e1
        have pP := pow_pos' (b := b) b1 P0
        have q3 := Int.mul_le_mul_of_nonneg_left e1 (show (0 : Int) ≤ 175 by decide)
        have q6 : 175 * b ^ P0 ≤ (h - l) * b ^ 9 := by omega
        have q7 := Int.mul_le_mul_of_nonneg_right q6 (show 0 ≤ b ^ (N - 9).toNat by omega)
        rw [Int.mul_assoc] at q7
        omega
    · have := szN_pos (b := b) (N := N) (m := m') (p := p') b1 n1
      omega
  · obtain ⟨E, hE⟩ : ∃ E : Nat, (E : Int) = p' + 9 := ⟨(p' + 9).toNat, by omega⟩
    have lt2 : m' * b ^ E < m * b ^ e0 := by
      have := hs'.at b1 (M := 9) (by show 0 ≤ 9 + p'; omega) (by show 0 ≤ 9 + ((e0 : Int) - 9); omega)
      unfold szN at this
      have this : m' * b ^ ((9 : Int) + p').toNat < m * b ^ ((9 : Int) + ((e0 : Int) - 9)).toNat := this
      rw [show ((9 : Int) + p').toNat = E by omega, show ((9 : Int) + ((e0 : Int) - 9)).toNat = e0 by omega] at this
      exact this
    by_cases c2 : E < W
    · have hz := S.all m' hm' E (by omega) c2
      refine ahead _ hz lt2 ?_
      rw [show p' = (E : Int) - 9 by omega] at hf
      exact (fit_at b2 n1).mp hf
    · -- a great one is not smaller
      have hz := S.all m' hm' (W - 1) (by omega) (by omega)
      have f1 : h * b ^ 9 ≤ reachZ k most (l * b ^ 9) (m' * b ^ (W - 1)) := by
        have pw := pow_pos' (b := b) b1 (W - 1)
        have eW : b ^ W = b ^ (W - 1) * b := by
          rw [← Int.pow_succ]
          congr 1
          omega
        have q1 : 10 * ((h - l) * b ^ 9) < b ^ (W - 1) := by
          rw [eW, Int.mul_comm 10 b, Int.mul_assoc, Int.mul_comm (b ^ (W - 1)) b] at big
          exact Int.lt_of_mul_lt_mul_left big (by omega)
        have q2 := Int.mul_le_mul_of_nonneg_right n1 (show 0 ≤ b ^ (W - 1) by omega)
        have q3 := Int.mul_le_mul_of_nonneg_right (show 1 ≤ h - l by omega) (show 0 ≤ b ^ 9 by omega)
        refine fit_big m1 hc ?_ (by omega)
        rw [← Int.sub_mul]
        omega
      have le : m' * b ^ (W - 1) ≤ m' * b ^ E := Int.mul_le_mul_of_nonneg_left (pow_le' b1 (by omega)) (by omega)
      exact ahead _ hz (by show m' * b ^ (W - 1) < _; omega) f1
/-- there is one -/
theorem some_fit {zs : List Tz} (Wh : Whole b hs ((h - l) * b ^ 9) zs) (b2 : 2 ≤ b) (lt : l < h) (m1 : 1 ≤ most) (hc : k = .cov → 2 ≤ most) (hd : ∀ m ∈ hs, 1 ≤ m ∧ m ≤ 25) (ne : hs ≠ []) : ∃ z ∈ zs, h * b ^ 9 ≤ reachZ k most (l * b ^ 9) z.1 := by
  obtain ⟨P0, W, S, PW, big, low⟩ := Wh.ex
  obtain ⟨m', r, e⟩ : ∃ m' r, hs = m' :: r := by
    cases hs with
    | nil => exact absurd rfl ne
    | cons x r => exact ⟨x, r, rfl⟩
  have hm' : m' ∈ hs := by rw [e]; exact List.mem_cons_self ..
  obtain ⟨n1, n25⟩ := hd m' hm'
  have b1 : 1 ≤ b := by omega
  refine ⟨_, S.all m' hm' (W - 1) (by omega) (by omega), ?_⟩
  have p9 := pow_pos' (b := b) b1 9
  have pw := pow_pos' (b := b) b1 (W - 1)
  have eW : b ^ W = b ^ (W - 1) * b := by
    rw [← Int.pow_succ]
    congr 1
    omega
  have q1 : 10 * ((h - l) * b ^ 9) < b ^ (W - 1) := by
    rw [eW, Int.mul_comm 10 b, Int.mul_assoc, Int.mul_comm (b ^ (W - 1)) b] at big
    exact Int.lt_of_mul_lt_mul_left big (by omega)
  have q2 := Int.mul_le_mul_of_nonneg_right n1 (show 0 ≤ b ^ (W - 1) by omega)
  have q3 := Int.mul_le_mul_of_nonneg_right (show 1 ≤ h - l by omega) (show 0 ≤ b ^ 9 by omega)
  show h * b ^ 9 ≤ reachZ k most (l * b ^ 9) (m' * b ^ (W - 1))
  refine fit_big m1 hc ?_ (by omega)
  rw [← Int.sub_mul]
  omega
end
end Ax

namespace Ax
open PySem L2
theorem gN {i : Nat} {v : V} {σ σ' : L2.St} {H : Hp} {Q : L2.St → Hp → Prop} (e : σ.set i (some v) = σ') (h : Q σ' H) : gName i v σ H Q := by
  subst e
  exact h
theorem norm2 {F : L2.St → Hp → Prop} {σ σ' : L2.St} {H : Hp} (e : σ = σ') (h : F σ' H) : F σ H := by
  subst e
  exact h
theorem norm3 {F : L2.St → Hp → Prop} {σ σ' : L2.St} {H H' : Hp} (e : σ = σ') (e2 : H = H') (h : F σ' H') : F σ H := by
  subst e
  subst e2
  exact h
theorem cut_to (xs : List V) (n : Nat) : cutV xs none (some (n : Int)) = xs.take n := by
  unfold cutV HT.sIx
  simp
  rw [if_neg (by omega)]
  omega
theorem cut_from (xs : List V) (n : Nat) : cutV xs (some (n : Int)) none = xs.drop n := by
  unfold cutV HT.sIx
  simp
  rw [if_neg (by omega)]
  by_cases c : n ≤ xs.length
  · rw [Nat.min_eq_left c]
    exact List.take_of_length_le (by rw [List.length_drop]; omega)
  · rw [Nat.min_eq_right (by omega), List.drop_of_length_le (Nat.le_refl _), List.drop_of_length_le (by omega), List.take_nil]
theorem TrAt.take {H : Hp} : ∀ {zs : List Tr} {as : List Addr} (n : Nat), TrAt H zs as → TrAt H (zs.take n) (as.take n)
  | _, _, _, .nil => by
    rw [List.take_nil, List.take_nil]
    exact .nil
  | _, _, 0, .cons _ _ => .nil
  | _, _, n + 1, .cons h r => .cons h (TrAt.take n r)
theorem TrAt.drop {H : Hp} : ∀ {zs : List Tr} {as : List Addr} (n : Nat), TrAt H zs as → TrAt H (zs.drop n) (as.drop n)
  | _, _, _, .nil => by
    rw [List.drop_nil, List.drop_nil]
    exact .nil
  | _, _, 0, .cons h r => .cons h r
  | _, _, n + 1, .cons h r => TrAt.drop n r
theorem filtT_snoc {p : Tr → Bool} {l : List Tr} {i : Nat} {z : Tr} (h : l[i]? = some z) : (l.take (i + 1)).filter p = if p z = true then (l.take i).filter p ++ [z] else (l.take i).filter p := by
  rw [take_tr h, filter_snoc]
theorem natI {x : Int} {n : Nat} (h0 : 0 ≤ x) (h : x < 2 ^ n) : x.natAbs < 2 ^ n := abs_lt_pow h0 h
section
variable {P : Program} {w : World} {K : PySem.W.Frag} {mg : Str → Option Value} {base : Heap} {A : Adr}
/-! ### _law_sizes -/
def spSizes : Sp := fun vs H Q _ => ∃ (ru lh : Addr) (b : Int) (k : Kd) (hs : List Int) (most L : Int), vs = [.ref ru, .int L] ∧ RuleT H ru lh b k hs most ∧ Drawn b k hs most ∧ 1 ≤ L ∧ L < 2 ^ 140 ∧
  ∀ (H' : Hp) (lf : Addr) (as : List Addr) (zs : List Tr), Same H H' → H' lf = some (.lst (as.map V.ref)) → TrAt H' zs as → Whole b hs L zs → (∀ z ∈ zs, ∃ m ∈ hs, ∃ e : Nat, e ≤ 150 ∧ z = (m * b ^ e, m, (e : Int))) → zs.length ≤ 1000 → Q (.ref lf) H'
abbrev nm_law_sizes : List Str := ["_law_rule_here", "_law_length", "_law_base", "_law_found", "_law_start", "_law_power", "_law_head", "_law_at", "_law_one"]
theorem sc_law_sizes : FnScope ["_law_rule_here", "_law_length", "_law_base", "_law_found", "_law_start", "_law_power", "_law_head", "_law_at", "_law_one"] ["_law_rule_here", "_law_length"] (defScope s_law_sizes) := ⟨rfl, rfl, rfl, by decide +kernel, rfl, by decide +kernel, by decide +kernel⟩
theorem ok_sizes (T : Txt K mg A w) : FnOk P w K mg base CX0 1 A.a_law_sizes A.d_law_sizes ["_law_rule_here", "_law_length"] spSizes := by
  refine T.F_law_sizes.ok sc_law_sizes (fun vs H Q E h => ?_) (fun cdv A0 outer s H vs Q E hr h => ?_)
  · obtain ⟨ru, lh, b, k, hs, most, L, rfl, _⟩ := h
    rfl
  · obtain ⟨ru, lh, b, k, hs, most, L, rfl, RT, G, L1, LB, q⟩ := h
    refine ⟨_, (pss_cons (ps_asg (pe_tup (pa_cons (pe_ix ix_tup (pv 0) pe_int (fun _ _ => rfl)) (pa_cons (pe_lst pa_nil) (pa_cons pe_int (pa_cons pe_int pa_nil))))) (pg_tup (by rfl) (pgs_cons (pg_name (i := 2) sc_law_sizes.nd rfl (Or.inl rfl)) (pgs_cons (pg_name (i := 3) sc_law_sizes.nd rfl (Or.inl rfl)) (pgs_cons (pg_name (i := 4) sc_law_sizes.nd rfl (Or.inr rfl)) (pgs_cons (pg_name (i := 5) sc_law_sizes.nd rfl (Or.inl rfl)) pgs_nil))))))
  (pss_cons (ps_while PassesOwn.never (pt_cmpR op_lt (pe_op op_mulW (pe_op op_mulW (pe_op op_mulW (pv 4) (pv 2)) pe_int) pe_int) (pv 1) (nomark _))
  (pss_one (ps_asg (pe_tup (pa_cons (pe_op op_mulW (pv 4) (pv 2)) (pa_cons (pe_op op_add (pv 5) pe_int) pa_nil))) (pg_tup (by rfl) (pgs_cons (pg_name (i := 4) sc_law_sizes.nd rfl (Or.inr rfl)) (pgs_cons (pg_name (i := 5) sc_law_sizes.nd rfl (Or.inl rfl)) pgs_nil))))))
  (pss_cons (ps_while PassesOwn.never (pt_cmpR op_le (pv 4) (pe_op op_mulW (pe_op op_mulW pe_int (pv 2)) (pv 1)) (nomark _))
  (pss_cons (ps_for PassesOwn.never rfl (pi_list (pe_ix ix_tup (pv 0) pe_int (fun _ _ => rfl))) (pg_name (i := 6) sc_law_sizes.nd rfl (Or.inr rfl))
  (pss_cons (ps_set (i := 7) sc_law_sizes.nd rfl (Or.inl rfl) (pe_callB call_len_seq (by rfl) T.n_len (by decide +kernel) (pa_cons (pe_lc (own := [("_law_one", 8)]) (g := gName 8) rfl sc_law_sizes.nd (pi_list (pv 3)) (blkOk_by (own := [("_law_one", 8)]) (N := nm_law_sizes) (sc := defScope s_law_sizes) (by decide +kernel)) (fun _ _ _ _ _ => (pg_name (i := 8) sc_law_sizes.nd rfl (Or.inl rfl))) (fun _ _ _ _ _ => (pts_one (pt_cmpR op_lt (pe_ix (ixT K) (pv 8) pe_int (fun _ _ => rfl)) (pe_op op_mulW (pv 6) (pv 4)) (nomark _)))) (fun _ _ _ _ _ => (pv 8))) pa_nil)))
  (pss_one (ps_set (i := 3) sc_law_sizes.nd rfl (Or.inl rfl) (pe_op op_cat (pe_op op_cat (pe_slice sl_list (pv 3) po_none (po_some (pv 7))) (pe_lst (pa_cons (pe_tup (pa_cons (pe_op op_mulW (pv 6) (pv 4)) (pa_cons (pv 6) (pa_cons (pv 5) pa_nil)))) pa_nil))) (pe_slice sl_list (pv 3) (po_some (pv 7)) po_none))))))
  (pss_one (ps_asg (pe_tup (pa_cons (pe_op op_mulW (pv 4) (pv 2)) (pa_cons (pe_op op_add (pv 5) pe_int) pa_nil))) (pg_tup (by rfl) (pgs_cons (pg_name (i := 4) sc_law_sizes.nd rfl (Or.inr rfl)) (pgs_cons (pg_name (i := 5) sc_law_sizes.nd rfl (Or.inl rfl)) pgs_nil)))))))
  (pss_one (ps_ret (pv 3)))))), ?_⟩
    have b2 := G.b2
    have b10 := G.b10
    have hle := G.le
    have lhs : (hs.map V.int).length = hs.length := List.length_map _
    have c5 : (2 : Nat) ^ 5 = 32 := by decide
    have c5i : (2 : Int) ^ 5 = 32 := by decide
    have bN : b.natAbs < 2 ^ 5 := by omega
    have mul : ∀ {x y : Int} {a c : Nat}, x.natAbs < 2 ^ a → y.natAbs < 2 ^ c → a ≤ 3000 → c ≤ 3000 → CMulW x y := fun hx hy ha hc => wide_mul (a := 3000) (b := 3000) (Nat.lt_of_lt_of_le hx (Nat.pow_le_pow_right (by decide) ha)) (Nat.lt_of_lt_of_le hy (Nat.pow_le_pow_right (by decide) hc)) (by decide) (by decide) (by decide)
    have mulN : ∀ {x y : Int} {a c : Nat}, x.natAbs < 2 ^ a → y.natAbs < 2 ^ c → (x * y).natAbs < 2 ^ (a + c) := fun h1 h2 => by
      rw [Int.natAbs_mul, Nat.pow_add]
      exact Nat.mul_lt_mul'' h1 h2
    refine ⟨_, rfl, ru, _, _, _, rfl, rfl, SqT.of RT.1, atL (j := 0) rfl, Nat.zero_le _, fun l0 hl0 => ⟨(by show 4 ≤ sizeLine; decide), fun q0 hq0 => ⟨q0, _, rfl, SqT.of upd_same, rfl, _, _, rfl, _, _, rfl, _, _, rfl, _, _, rfl, rfl, ?_⟩⟩⟩
    have s0 : Same H (upd (upd H l0 (.lst [])) q0 (.tup [.int b, .ref l0, .int 1, .int 0])) := (same_new hl0).trans (same_new hq0)
    have n0 : l0 ≠ q0 := ne_of_none upd_same hq0
    have e0 : (upd (upd H l0 (.lst [])) q0 (.tup [.int b, .ref l0, .int 1, .int 0])) l0 = some (.lst ([] : List V)) := by rw [upd_ne n0, upd_same]
    refine norm3 (σ' := [some (.ref ru), some (.int L), some (.int b), some (.ref l0), some (.int 1), some (.int 0), none, none, none]) (H' := upd (upd H l0 (.lst [])) q0 (.tup [.int b, .ref l0, .int 1, .int 0])) rfl rfl ?_
    generalize upd (upd H l0 (.lst [])) q0 (.tup [.int b, .ref l0, .int 1, .int 0]) = H0 at s0 e0 ⊢
    -- the first power
    refine ⟨fun n σ H' => ∃ W : Nat, σ = [some (.ref ru), some (.int L), some (.int b), some (.ref l0), some (.int (b ^ W)), some (.int W), none, none, none] ∧ Same H0 H' ∧ (W = 0 ∨ b ^ W * 225 < L) ∧ W ≤ 140 ∧ n = 140 - W, ⟨_, 0, by rw [Int.pow_zero]; rfl, Same.refl _, .inl rfl, by decide, rfl⟩, ?_⟩
    rintro n σ H1 ⟨W, rfl, s1, low, W140, rfl⟩
    have pW := pow_pos' (b := b) (by omega) W
    have WB : b ^ W < 2 ^ 140 := by
      rcases low with z | z
      · rw [z, Int.pow_zero]
        decide
      · omega
    have WN : (b ^ W).natAbs < 2 ^ 140 := natI (by omega) WB
    have t25 : (25 : Int).natAbs < 2 ^ 5 := by decide
    have t9 : (9 : Int).natAbs < 2 ^ 5 := by decide
    refine ⟨_, rfl, _, rfl, _, _, rfl, rfl, mul WN bN (by decide) (by decide), _, _, rfl, rfl, mul (mulN WN bN) t25 (by decide) (by decide), _, _, rfl, rfl, mul (mulN (mulN WN bN) t25) t9 (by decide) (by decide), _, rfl, _, _, rfl, rfl, _, rfl, ?_⟩
    refine ite2 (fun hc => ?_) (fun hc => ?_)
    · have hc : b ^ W * b * 25 * 9 < L := of_decide_eq_true hc
      have e225 : b ^ (W + 1) * 225 < L := by
        rw [Int.pow_succ]
        omega
      have W139 : W + 1 < 140 := by
        have pW1 := pow_pos' (b := b) (by omega) (W + 1)
        exact exp_lt (n := 140) b2 (by omega)
      refine ⟨fun σ' H6 => σ' = [some (.ref ru), some (.int L), some (.int b), some (.ref l0), some (.int (b ^ (W + 1))), some (.int ((W + 1 : Nat) : Int)), none, none, none] ∧ Same H0 H6, ?_, ?_⟩
      · rintro σ' H6 ⟨rfl, s6⟩
        exact ⟨140 - (W + 1), by omega, W + 1, rfl, s6, .inr e225, by omega, rfl⟩
      · refine ⟨_, rfl, _, rfl, _, _, rfl, rfl, mul WN bN (by decide) (by decide), _, rfl, _, _, rfl, rfl, (by show 2 ≤ sizeLine; decide), fun q3 hq3 => ⟨q3, _, rfl, SqT.of upd_same, rfl, _, _, rfl, _, _, rfl, rfl, ?_⟩⟩
        refine ⟨?_, s1.trans (same_new hq3)⟩
        rw [Int.pow_succ]
        rfl
    · clear hc
      have P140 : W < 140 := exp_lt (n := 140) b2 (by omega)
      have B156 : b ^ W < 2 ^ 156 := Int.lt_trans WB (by decide)
      have LN : L.natAbs < 2 ^ 140 := natI (by omega) LB
      have t10 : (10 : Int).natAbs < 2 ^ 5 := by decide
      have hall := G.all
      -- the steps about the length
      refine ⟨fun n σ H' => ∃ (V : Nat) (lf : Addr) (as : List Addr) (zs : List Tr) (v6 v7 : Option L2.V), σ = [some (.ref ru), some (.int L), some (.int b), some (.ref lf), some (.int (b ^ V)), some (.int V), v6, v7, none] ∧ Same H H' ∧ H' lf = some (.lst (as.map L2.V.ref)) ∧ TrAt H' zs as ∧ Szs b hs [] W V zs ∧ W ≤ V ∧ zs.length ≤ 4 * V ∧ b ^ V < 2 ^ 156 ∧ V ≤ 150 ∧ n = 150 - V, ⟨_, W, l0, [], [], none, none, rfl, s0.trans s1, s1 _ _ e0, .nil, Szs.nil, Nat.le_refl _, Nat.zero_le _, B156, by omega, rfl⟩, ?_⟩
      rintro n σ H2 ⟨V, lf, as, zs, v6, v7, rfl, s2, hlf, TA, S, WV, zl, VB, V150, rfl⟩
      have pV := pow_pos' (b := b) (by omega) V
      have VN : (b ^ V).natAbs < 2 ^ 156 := natI (by omega) VB
      refine ⟨_, rfl, _, rfl, _, _, rfl, rfl, mul t10 bN (by decide) (by decide), _, rfl, _, _, rfl, rfl, mul (mulN t10 bN) LN (by decide) (by decide), _, _, rfl, rfl, _, rfl, ?_⟩
      refine ite2 (fun hc => ?_) (fun hc => ?_)
      · have hc : b ^ V ≤ 10 * b * L := of_decide_eq_true hc
        have V148 : b ^ V < 2 ^ 149 := by
          have h1 : 10 * b ≤ 100 := by omega
          have h2 := Int.mul_le_mul h1 (Int.le_of_lt LB) (by omega) (by decide)
          have h3 : (100 : Int) * 2 ^ 140 < 2 ^ 149 := by decide
          omega
        have V149 := exp_lt (n := 149) b2 V148
        have V1B : b ^ (V + 1) < 2 ^ 156 := by
          rw [Int.pow_succ]
          have h2 := Int.mul_le_mul (Int.le_of_lt V148) b10 (by omega) (by decide)
          have h3 : (2 : Int) ^ 149 * 10 < 2 ^ 156 := by decide
          omega
        refine ⟨fun σ' H6 => ∃ (lf' : Addr) (as' : List Addr) (zs' : List Tr) (w6 w7 : Option L2.V), σ' = [some (.ref ru), some (.int L), some (.int b), some (.ref lf'), some (.int (b ^ (V + 1))), some (.int ((V + 1 : Nat) : Int)), w6, w7, none] ∧ Same H H6 ∧ H6 lf' = some (.lst (as'.map L2.V.ref)) ∧ TrAt H6 zs' as' ∧ Szs b hs [] W (V + 1) zs' ∧ zs'.length ≤ 4 * (V + 1), ?_, ?_⟩
        · rintro σ' H6 ⟨lf', as', zs', w6, w7, rfl, s6, h6, T6, S6, l6⟩
          exact ⟨150 - (V + 1), by omega, V + 1, lf', as', zs', w6, w7, rfl, s6, h6, T6, S6, by omega, l6, V1B, by omega, rfl⟩
        · have RT2 := RT.same s2
          refine ⟨_, rfl, ru, _, _, _, rfl, rfl, SqT.of RT2.1, atL (j := 2) rfl, lh, rfl, ⟨_, SqL.of RT2.2⟩, for_list (K := K) (a := lh) (xs := hs.map L2.V.int) (fun i σ H' => ∃ (lf : Addr) (as : List Addr) (zs : List Tr) (v6 v7 : Option L2.V), σ = [some (.ref ru), some (.int L), some (.int b), some (.ref lf), some (.int (b ^ V)), some (.int V), v6, v7, none] ∧ Same H H' ∧ H' lf = some (.lst (as.map L2.V.ref)) ∧ TrAt H' zs as ∧ Szs b hs (hs.take i) W V zs ∧ zs.length ≤ 4 * V + i) ⟨lf, as, zs, v6, v7, rfl, s2, hlf, TA, S, zl⟩ (fun i σ H' _ ⟨_, _, _, _, _, _, s, _⟩ => SqL.of ((RT.same s).2)) ?_ ?_⟩
          · clear hlf TA S zl v6 v7 RT2
            rintro i y σ H3 hi ⟨lf, as, zs, v6, v7, rfl, s3, hlf, TA, S, zl⟩
            obtain ⟨m, hm, rfl⟩ := map_get hi
            have hmem := List.mem_of_getElem? hm
            obtain ⟨m1, m25, m3⟩ := hall m hmem
            have mN : m.natAbs < 2 ^ 5 := by omega
            have asl : zs.length = as.length := TA.len
            have hi4 : i < hs.length := (List.getElem?_eq_some_iff.mp hm).1
            refine gN (σ' := [some (.ref ru), some (.int L), some (.int b), some (.ref lf), some (.int (b ^ V)), some (.int V), some (.int m), v7, none]) rfl ?_
            -- its place
            refine ⟨_, rfl, lf, rfl, ⟨_, SqL.of hlf⟩, fun D hD => lc_list (K := K) (a := lf) (xs := as.map L2.V.ref) (fun j H' => ∃ bs : List Addr, H' = upd H3 D (.lst (bs.map L2.V.ref)) ∧ bs.length = ((zs.take j).filter fun z => decide (z.1 < m * b ^ V)).length) ⟨[], rfl, rfl⟩ ?_ ?_ ?_⟩
            · rintro j H' _ ⟨bs, rfl, _⟩
              exact SqL.of (by rw [upd_ne (ne_of_none hlf hD)]; exact hlf)
            · rintro j x H' hj ⟨bs, rfl, hbs⟩
              obtain ⟨a, ha, rfl⟩ := ref_get hj
              obtain ⟨z, hz, htr⟩ := TA.get ha
              have htr2 : (upd H3 D (.lst (bs.map L2.V.ref))) a = some (trV z) := by rw [upd_ne (ne_of_none htr hD)]; exact htr
              have hj3 : j < as.length := (List.getElem?_eq_some_iff.mp ha).1
              refine ⟨rfl, _, rfl, a, _, _, _, rfl, rfl, SqT.of htr2, atL (j := 0) rfl, _, rfl, _, rfl, _, _, rfl, rfl, mul mN VN (by decide) (by decide), _, _, rfl, rfl, _, rfl, ?_⟩
              rw [filtT_snoc hz]
              refine ite2 (fun hc => ?_) (fun hc => ?_)
              · refine ⟨_, rfl, _, upd_same, ?_, bs ++ [a], ?_, ?_⟩
                · rw [List.length_map, hbs]
                  have h1 := List.length_filter_le (fun z : Tr => decide (z.1 < m * b ^ V)) (zs.take j)
                  rw [List.length_take] at h1
                  exact small1000 (by omega)
                · rw [upd_upd, List.map_append]
                  rfl
                · rw [if_pos hc, List.length_append, List.length_append, hbs]
                  rfl
              · rw [if_neg hc]
                exact ⟨bs, rfl, hbs⟩
            · rintro H4 ⟨bs, rfl, hbs⟩
              rw [List.length_map, ← asl, List.take_length] at hbs
              have s34 : Same H3 (upd H3 D (.lst (bs.map L2.V.ref))) := same_new hD
              refine ⟨D, _, rfl, .inl (SqL.of upd_same), ?_⟩
              rw [List.length_map, hbs]
              have hlf4 := s34 _ _ hlf
              have TA4 := TA.same fun c xs e => s34 _ _ e
              generalize upd H3 D (.lst (bs.map L2.V.ref)) = H4 at s34 hlf4 TA4 ⊢
              generalize hn : (zs.filter fun z => decide (z.1 < m * b ^ V)).length = n
              refine gN (σ' := [some (.ref ru), some (.int L), some (.int b), some (.ref lf), some (.int (b ^ V)), some (.int V), some (.int m), some (.int n), none]) rfl ?_
              -- put in
              refine ⟨_, rfl, _, rfl, _, rfl, lf, _, rfl, SqL.of hlf4, fun p1 hp1 => ?_⟩
              rw [cut_to]
              have sA1 : Same H4 (upd H4 p1 (.lst ((as.map L2.V.ref).take n))) := same_new hp1
              have g1 : (upd H4 p1 (.lst ((as.map L2.V.ref).take n))) p1 = some (.lst ((as.map L2.V.ref).take n)) := upd_same
              generalize upd H4 p1 (.lst ((as.map L2.V.ref).take n)) = A1 at sA1 g1 ⊢
              refine ⟨_, rfl, _, rfl, _, _, rfl, rfl, mul mN VN (by decide) (by decide), _, rfl, _, rfl, (by show 3 ≤ sizeLine; decide), fun t1 ht1 => ⟨(by show 1 ≤ sizeLine; decide), fun l1 hl1 => ?_⟩⟩
              have sA2 : Same A1 (upd A1 t1 (.tup [.int (m * b ^ V), .int m, .int V])) := same_new ht1
              have g2 : (upd A1 t1 (.tup [.int (m * b ^ V), .int m, .int V])) t1 = some (trV (m * b ^ V, m, (V : Int))) := upd_same
              have sA3 : Same (upd A1 t1 (.tup [.int (m * b ^ V), .int m, .int V])) (upd (upd A1 t1 (.tup [.int (m * b ^ V), .int m, .int V])) l1 (.lst [.ref t1])) := same_new hl1
              have g3 : (upd (upd A1 t1 (.tup [.int (m * b ^ V), .int m, .int V])) l1 (.lst [.ref t1])) l1 = some (.lst [.ref t1]) := upd_same
              refine ⟨p1, l1, (as.map L2.V.ref).take n, [.ref t1], rfl, rfl, sA3 _ _ (sA2 _ _ g1), g3, ?_, fun c1 hc1 => ?_⟩
              · rw [List.length_take, List.length_map, List.length_singleton]
                exact Nat.le_of_lt (small1000 (by omega))
              have sA4 := sA2.trans (sA3.trans (same_new (o := .lst ((as.map L2.V.ref).take n ++ [.ref t1])) hc1))
              have g4 : (upd (upd (upd A1 t1 (.tup [.int (m * b ^ V), .int m, .int V])) l1 (.lst [.ref t1])) c1 (.lst ((as.map L2.V.ref).take n ++ [.ref t1]))) c1 = some (.lst ((as.map L2.V.ref).take n ++ [.ref t1])) := upd_same
              have g2' : (upd (upd (upd A1 t1 (.tup [.int (m * b ^ V), .int m, .int V])) l1 (.lst [.ref t1])) c1 (.lst ((as.map L2.V.ref).take n ++ [.ref t1]))) t1 = some (trV (m * b ^ V, m, (V : Int))) := same_new hc1 _ _ (sA3 _ _ g2)
              obtain ⟨A4, eA4⟩ : ∃ A4, A4 = upd (upd (upd A1 t1 (.tup [.int (m * b ^ V), .int m, .int V])) l1 (.lst [.ref t1])) c1 (.lst ((as.map L2.V.ref).take n ++ [.ref t1])) := ⟨_, rfl⟩
              rw [← eA4] at sA4 g4 g2'
              have sB4 := sA1.trans sA4
              refine ⟨_, rfl, _, rfl, _, rfl, lf, _, rfl, SqL.of (by rw [eA4] at sB4; exact sB4 _ _ hlf4), fun p2 hp2 => ?_⟩
              rw [cut_from]
              refine ⟨c1, p2, (as.map L2.V.ref).take n ++ [.ref t1], (as.map L2.V.ref).drop n, rfl, rfl, same_new hp2 _ _ (by rw [eA4] at g4; exact g4), upd_same, ?_, fun c2 hc2 => ?_⟩
              · rw [List.length_append, List.length_take, List.length_drop, List.length_map, List.length_singleton]
                exact Nat.le_of_lt (small1000 (by omega))
              have s6 : Same H4 _ := sB4.trans (by rw [eA4]; exact (same_new (o := .lst ((as.map L2.V.ref).drop n)) hp2).trans (same_new (o := .lst ((as.map L2.V.ref).take n ++ [.ref t1] ++ (as.map L2.V.ref).drop n)) hc2))
              refine ⟨c2, as.take n ++ [t1] ++ as.drop n, putIn (m * b ^ V, m, (V : Int)) zs, _, _, rfl, s3.trans (s34.trans s6), ?_, ?_, ?_, ?_⟩
              · refine upd_same.trans ?_
                rw [List.map_append, List.map_append, List.map_take, List.map_drop]
                rfl
              · have T1 := (TA4.take n).same fun c xs e => s6 _ _ e
                have T2 := (TA4.drop n).same fun c xs e => s6 _ _ e
                have g6 := same_new (o := .lst ((as.map L2.V.ref).take n ++ [.ref t1] ++ (as.map L2.V.ref).drop n)) hc2 _ _ (same_new (o := .lst ((as.map L2.V.ref).drop n)) hp2 _ _ (by rw [eA4] at g2'; exact g2'))
                have r := TrAt.app (TrAt.app T1 (.cons g6 .nil)) T2
                unfold putIn
                rw [hn]
                exact r
              · have et : hs.take (i + 1) = hs.take i ++ [m] := by
                  rw [List.take_add_one, hm]
                  rfl
                rw [et]
                exact S.put hmem WV
              · rw [putIn_len]
                omega
          · clear hlf TA S zl v6 v7
            rintro σ H3 ⟨lf, as, zs, v6, v7, rfl, s3, hlf, TA, S, zl⟩
            rw [lhs, List.take_length] at S
            rw [lhs] at zl
            refine ⟨_, rfl, _, rfl, _, _, rfl, rfl, mul VN bN (by decide) (by decide), _, rfl, _, _, rfl, rfl, (by show 2 ≤ sizeLine; decide), fun q3 hq3 => ⟨q3, _, rfl, SqT.of upd_same, rfl, _, _, rfl, _, _, rfl, rfl, ?_⟩⟩
            have s4 := same_new (o := .tup [.int (b ^ V * b), .int ((V : Int) + 1)]) hq3
            refine ⟨lf, as, zs, v6, v7, ?_, s3.trans s4, s4 _ _ hlf, TA.same fun c xs e => s4 _ _ e, S.next, by omega⟩
            rw [Int.pow_succ]
            rfl
      · have hc : 10 * b * L < b ^ V := by
          have : ¬ b ^ V ≤ 10 * b * L := fun z => hc (decide_eq_true z)
          omega
        have WV' : W < V := by
          rcases Nat.lt_or_eq_of_le WV with z | z
          · exact z
          · exfalso
            rw [← z] at hc
            have h1 : 1 * L ≤ 10 * b * L := Int.mul_le_mul_of_nonneg_right (by omega) (by omega)
            rcases low with y | y
            · rw [y, Int.pow_zero] at hc
              omega
            · omega
        exact ⟨_, rfl, q H2 lf as zs s2 hlf TA ⟨W, V, S, WV', hc, low⟩ (fun z hz => by
          obtain ⟨m, e, h1, h2, h3, h4⟩ := S.of z hz
          exact ⟨m, h1, e, by omega, h4⟩) (by omega)⟩
end
end Ax

namespace Ax
open PySem L2
section
variable {P : Program} {w : World} {K : PySem.W.Frag} {mg : Str → Option Value} {base : Heap} {A : Adr}
/-! ### _law_step -/
def spStepL : Sp := fun vs H Q _ => ∃ (ru lh : Addr) (b : Int) (k : Kd) (hs : List Int) (most l h : Int), vs = [.ref ru, .int l, .int h] ∧ RuleT H ru lh b k hs most ∧ Drawn b k hs most ∧ l < h ∧ h - l < 2 ^ 102 ∧ l.natAbs < 2 ^ 130 ∧ h.natAbs < 2 ^ 130 ∧
  ∀ (H' : Hp) (q : Addr) (m p : Int), Same H H' → H' q = some (.tup [.int m, .int p]) → LeastFit b hs k most l h 0 m p → -9 ≤ p → p ≤ 150 → Q (.ref q) H'
abbrev nm_law_step : List Str := ["_law_rule_here", "_law_low", "_law_high", "_law_many", "_law_size", "_law_head", "_law_power"]
theorem sc_law_step : FnScope ["_law_rule_here", "_law_low", "_law_high", "_law_many", "_law_size", "_law_head", "_law_power"] ["_law_rule_here", "_law_low", "_law_high"] (defScope s_law_step) := ⟨rfl, rfl, rfl, by decide +kernel, rfl, by decide +kernel, by decide +kernel⟩
theorem ok_stepL (T : Txt K mg A w) : FnOk P w K mg base CX0 3 A.a_law_step A.d_law_step ["_law_rule_here", "_law_low", "_law_high"] spStepL := by
  have G_law_times : FnOk P w K mg base CX0 1 A.a_law_times A.d_law_times ["_law_base", "_law_many"] spTimes := ok_times T
  have G_law_sizes : FnOk P w K mg base CX0 1 A.a_law_sizes A.d_law_sizes ["_law_rule_here", "_law_length"] spSizes := ok_sizes T
  have G_law_is_fit : FnOk P w K mg base CX0 2 A.a_law_is_fit A.d_law_is_fit ["_law_rule_here", "_law_low", "_law_high", "_law_size"] spIsFit := ok_is_fit T
  refine T.F_law_step.ok sc_law_step (fun vs H Q E h => ?_) (fun cdv A0 outer s H vs Q E hr h => ?_)
  · obtain ⟨ru, lh, b, k, hs, most, l, h, rfl, _⟩ := h
    rfl
  · obtain ⟨ru, lh, b, k, hs, most, l, h, rfl, RT, G, lt, ln, lN, hN, q⟩ := h
    have b2 := G.b2
    have b10 := G.b10
    have bB : b < BIG := lt_big G.args.bB (by decide)
    have p9 := pow_pos' (b := b) (by omega) 9
    have c9 : b ^ 9 ≤ 10 ^ 9 := pow_base_le (a := b) (b := 10) (by omega) b10 9
    have c9' : (10 : Int) ^ 9 < 2 ^ 30 := by decide
    have MN : (b ^ 9).natAbs < 2 ^ 30 := abs_lt_pow (by omega) (by omega)
    refine ⟨_, (pss_cons (ps_set (i := 3) sc_law_step.nd rfl (Or.inl rfl) (pe_call G_law_times (hr.mono (by decide)) (by rfl) T.m_law_times T.F_law_times.kp T.B_law_times .nil pass0 (pa_cons (pe_ix ix_tup (pv 0) pe_int (fun _ _ => rfl)) (pa_cons pe_int pa_nil))))
  (pss_cons (ps_par (i := 1) (j := 2) (by rfl) sc_law_step.nd rfl rfl (by decide) rfl rfl (pa_cons (pe_op op_mulW (pv 1) (pv 3)) (pa_cons (pe_op op_mulW (pv 2) (pv 3)) pa_nil)) (by rfl))
  (pss_cons (ps_for PassesOwn.never rfl (pi_list (pe_call G_law_sizes (hr.mono (by decide)) (by rfl) T.m_law_sizes T.F_law_sizes.kp T.B_law_sizes .nil pass0 (pa_cons (pv 0) (pa_cons (pe_op op_sub (pv 2) (pv 1)) pa_nil)))) (pg_tup (by rfl) (pgs_cons (pg_name (i := 4) sc_law_step.nd rfl (Or.inl rfl)) (pgs_cons (pg_name (i := 5) sc_law_step.nd rfl (Or.inl rfl)) (pgs_cons (pg_name (i := 6) sc_law_step.nd rfl (Or.inl rfl)) pgs_nil))))
  (pss_one (ps_if (pt_val (pe_call G_law_is_fit (hr.mono (by decide)) (by rfl) T.m_law_is_fit T.F_law_is_fit.kp T.B_law_is_fit .nil pass0 (pa_cons (pv 0) (pa_cons (pv 1) (pa_cons (pv 2) (pa_cons (pv 4) pa_nil)))))) (pss_one (ps_ret (pe_tup (pa_cons (pv 5) (pa_cons (pe_op op_sub (pv 6) pe_int) pa_nil))))) pss_nil)))
  (pss_one (ps_ret pe_non))))), ?_⟩
    refine ⟨_, rfl, ru, _, _, _, rfl, rfl, SqT.of RT.1, atL (j := 0) rfl, b, 9, rfl, by omega, bB, by decide, by decide, lt_big (n := 30) (by show b ^ 9 < _; omega) (by decide), ?_⟩
    refine gN (σ' := [some (.ref ru), some (.int l), some (.int h), some (.int (b ^ 9)), none, none, none]) rfl ?_
    refine ⟨_, rfl, _, rfl, _, _, rfl, rfl, wide_mul lN MN (by decide) (by decide) (by decide), _, rfl, _, rfl, _, _, rfl, rfl, wide_mul hN MN (by decide) (by decide) (by decide), _, _, rfl, ?_⟩
    refine norm2 (σ' := [some (.ref ru), some (.int (l * b ^ 9)), some (.int (h * b ^ 9)), some (.int (b ^ 9)), none, none, none]) rfl ?_
    have eL : h * b ^ 9 - l * b ^ 9 = (h - l) * b ^ 9 := (Int.sub_mul ..).symm
    have L1 : 1 ≤ (h - l) * b ^ 9 := by
      have := Int.mul_le_mul (show 1 ≤ h - l by omega) p9 (by omega) (by omega)
      omega
    have LB : (h - l) * b ^ 9 < 2 ^ 140 := by
      have h1 := Int.mul_le_mul (Int.le_of_lt ln) (show b ^ 9 ≤ 2 ^ 30 by omega) (by omega) (by decide)
      have h2 : (2 : Int) ^ 102 * 2 ^ 30 < 2 ^ 140 := by decide
      omega
    refine ⟨_, rfl, _, rfl, _, rfl, _, _, rfl, rfl, ru, lh, b, k, hs, most, h * b ^ 9 - l * b ^ 9, rfl, RT, G, by omega, by omega, fun H1 lf as zs s1 hlf TA Wh form few => ?_⟩
    rw [eL] at Wh
    have asl : zs.length = as.length := TA.len
    have hd : ∀ m ∈ hs, 1 ≤ m ∧ m ≤ 25 := fun m hm => ⟨(G.all m hm).1, (G.all m hm).2.1⟩
    refine ⟨lf, rfl, ⟨_, SqL.of hlf⟩, for_list (K := K) (a := lf) (xs := as.map V.ref) (fun i σ H' => ∃ v4 v5 v6 : Option V, σ = [some (.ref ru), some (.int (l * b ^ 9)), some (.int (h * b ^ 9)), some (.int (b ^ 9)), v4, v5, v6] ∧ Same H1 H' ∧ ∀ z ∈ zs.take i, ¬ h * b ^ 9 ≤ reachZ k most (l * b ^ 9) z.1) ⟨none, none, none, rfl, Same.refl _, fun _ hz => nomatch hz⟩ (fun i σ H' _ ⟨_, _, _, _, s, _⟩ => SqL.of (s _ _ hlf)) ?_ ?_⟩
    · rintro i y σ H2 hi ⟨v4, v5, v6, rfl, s2, un⟩
      obtain ⟨a, ha, rfl⟩ := ref_get hi
      obtain ⟨z, hz, htr⟩ := TA.get ha
      have hzm := List.mem_of_getElem? hz
      obtain ⟨m, hm, e, e150, ez⟩ := form z hzm
      obtain ⟨m1, m25⟩ := hd m hm
      have htr2 := s2 _ _ htr
      refine ⟨a, _, rfl, SqT.of htr2, rfl, _, _, rfl, _, _, rfl, _, _, rfl, rfl, ?_⟩
      refine norm2 (σ' := [some (.ref ru), some (.int (l * b ^ 9)), some (.int (h * b ^ 9)), some (.int (b ^ 9)), some (.int z.1), some (.int z.2.1), some (.int z.2.2)]) rfl ?_
      have pe := pow_pos' (b := b) (by omega) e
      have pe2 : b ^ e ≤ 10 ^ 150 := by
        have h1 := pow_le' (b := b) (by omega) e150
        have h2 := pow_base_le (a := b) (b := 10) (by omega) b10 150
        omega
      have z1 : 1 ≤ z.1 ∧ z.1 < BIG := by
        rw [ez]
        show 1 ≤ m * b ^ e ∧ m * b ^ e < BIG
        have h1 := Int.mul_le_mul m1 pe (by omega) (by omega)
        have h2 := Int.mul_le_mul m25 pe2 (by omega) (by decide)
        have h3 : (25 : Int) * 10 ^ 150 < 2 ^ 600 := by decide
        exact ⟨by omega, lt_big (n := 600) (by omega) (by decide)⟩
      refine ⟨_, rfl, _, rfl, _, rfl, _, rfl, ru, lh, b, k, hs, most, l * b ^ 9, h * b ^ 9, z.1, rfl, (RT.same s1).same s2, by have := G.m1; omega, G.args.mB, z1.1, z1.2, fun H3 s3 => ⟨_, rfl, ?_⟩⟩
      refine ite2 (fun hc => ?_) (fun hc => ?_)
      · have hc : h * b ^ 9 ≤ reachZ k most (l * b ^ 9) z.1 := of_decide_eq_true hc
        refine ⟨_, rfl, _, rfl, _, _, rfl, rfl, (by show 2 ≤ sizeLine; decide), fun q4 hq4 => ?_⟩
        have split : zs = zs.take i ++ (z.1, z.2.1, z.2.2) :: zs.drop (i + 1) := by
          have hlt := (List.getElem?_eq_some_iff.mp hz).1
          have hget := (List.getElem?_eq_some_iff.mp hz).2
          have e1 := (List.take_append_drop i zs).symm
          rw [List.drop_eq_getElem_cons hlt, hget] at e1
          exact e1
        have LF := first_least Wh b2 lt G.m1 G.m6 G.mC hd split un hc
        refine q _ q4 z.2.1 (z.2.2 - 9) ((s1.trans (s2.trans s3)).trans (same_new hq4)) upd_same LF ?_ ?_
        · rw [ez]
          show (-9 : Int) ≤ (e : Int) - 9
          omega
        · rw [ez]
          show (e : Int) - 9 ≤ 150
          omega
      · have hc : ¬ h * b ^ 9 ≤ reachZ k most (l * b ^ 9) z.1 := fun y => hc (decide_eq_true y)
        refine ⟨_, _, _, rfl, s2.trans s3, fun x hx => ?_⟩
        rw [take_tr hz] at hx
        rcases List.mem_append.mp hx with y | y
        · exact un x y
        · rw [List.mem_singleton.mp y]
          exact hc
    · rintro σ H2 ⟨v4, v5, v6, rfl, s2, un⟩
      exfalso
      rw [List.length_map, ← asl, List.take_length] at un
      obtain ⟨z, hz, hf⟩ := some_fit Wh b2 lt G.m1 G.mC hd G.ne
      exact un z hz hf
/-! ### _law_marks -/
def spMarksL : Sp := fun vs H Q _ => ∃ (ru lh : Addr) (b : Int) (k : Kd) (hs : List Int) (most l h : Int), vs = [.ref ru, .int l, .int h] ∧ RuleT H ru lh b k hs most ∧ Drawn b k hs most ∧ l < h ∧ h - l < 2 ^ 102 ∧ l.natAbs < 2 ^ 130 ∧ h.natAbs < 2 ^ 130 ∧
  ∀ (H' : Hp) (q : Addr) (m p : Int), Same H H' → LeastFit b hs k most l h 0 m p → H' q = some (.tup [.int (fstZ k (l * facZ b p) (sizZ b m p)), .int (lstZ k (h * facZ b p) (sizZ b m p))]) → -9 ≤ p → p ≤ 150 → Q (.ref q) H'
abbrev nm_law_marks : List Str := ["_law_rule_here", "_law_low", "_law_high", "_law_step_here", "_law_size", "_law_before", "_law_first", "_law_last", "_law_outer"]
theorem sc_law_marks : FnScope ["_law_rule_here", "_law_low", "_law_high", "_law_step_here", "_law_size", "_law_before", "_law_first", "_law_last", "_law_outer"] ["_law_rule_here", "_law_low", "_law_high"] (defScope s_law_marks) := ⟨rfl, rfl, rfl, by decide +kernel, rfl, by decide +kernel, by decide +kernel⟩
theorem ok_marksL (T : Txt K mg A w) : FnOk P w K mg base CX0 4 A.a_law_marks A.d_law_marks ["_law_rule_here", "_law_low", "_law_high"] spMarksL := by
  have G_law_step : FnOk P w K mg base CX0 3 A.a_law_step A.d_law_step ["_law_rule_here", "_law_low", "_law_high"] spStepL := ok_stepL T
  have G_law_scaled : FnOk P w K mg base CX0 2 A.a_law_scaled A.d_law_scaled ["_law_rule_here", "_law_step_here", "_law_low", "_law_high"] spScaled := ok_scaled T
  have G_law_places : FnOk P w K mg base CX0 1 A.a_law_places A.d_law_places ["_law_low", "_law_high", "_law_size"] spPlaces := ok_places T
  refine T.F_law_marks.ok sc_law_marks (fun vs H Q E h => ?_) (fun cdv A0 outer s H vs Q E hr h => ?_)
  · obtain ⟨ru, lh, b, k, hs, most, l, h, rfl, _⟩ := h
    rfl
  · obtain ⟨ru, lh, b, k, hs, most, l, h, rfl, RT, G, lt, ln, lN, hN, q⟩ := h
    have b2 := G.b2
    have b10 := G.b10
    have bB : b < BIG := lt_big G.args.bB (by decide)
    refine ⟨_, (pss_cons (ps_set (i := 3) sc_law_marks.nd rfl (Or.inl rfl) (pe_call G_law_step (hr.mono (by decide)) (by rfl) T.m_law_step T.F_law_step.kp T.B_law_step .nil pass0 (pa_cons (pv 0) (pa_cons (pv 1) (pa_cons (pv 2) pa_nil)))))
  (pss_cons (ps_asg (pe_call G_law_scaled (hr.mono (by decide)) (by rfl) T.m_law_scaled T.F_law_scaled.kp T.B_law_scaled .nil pass0 (pa_cons (pv 0) (pa_cons (pv 3) (pa_cons (pv 1) (pa_cons (pv 2) pa_nil))))) (pg_tup (by rfl) (pgs_cons (pg_name (i := 1) sc_law_marks.nd rfl (Or.inl rfl)) (pgs_cons (pg_name (i := 2) sc_law_marks.nd rfl (Or.inl rfl)) (pgs_cons (pg_name (i := 4) sc_law_marks.nd rfl (Or.inl rfl)) pgs_nil)))))
  (pss_cons (ps_asg (pe_call G_law_places (hr.mono (by decide)) (by rfl) T.m_law_places T.F_law_places.kp T.B_law_places .nil pass0 (pa_cons (pv 1) (pa_cons (pv 2) (pa_cons (pv 4) pa_nil)))) (pg_tup (by rfl) (pgs_cons (pg_name (i := 5) sc_law_marks.nd rfl (Or.inl rfl)) (pgs_cons (pg_name (i := 6) sc_law_marks.nd rfl (Or.inl rfl)) (pgs_cons (pg_name (i := 7) sc_law_marks.nd rfl (Or.inl rfl)) (pgs_cons (pg_name (i := 8) sc_law_marks.nd rfl (Or.inl rfl)) pgs_nil))))))
  (pss_cons (ps_if (pt_cmpR op_eq (pe_ix ix_tup (pv 0) pe_int (fun _ _ => rfl)) pe_str (nomark _)) (pss_one (ps_ret (pe_tup (pa_cons (pv 5) (pa_cons (pv 8) pa_nil))))) pss_nil)
  (pss_one (ps_ret (pe_tup (pa_cons (pv 6) (pa_cons (pv 7) pa_nil))))))))), ?_⟩
    refine ⟨_, rfl, _, rfl, _, rfl, ru, lh, b, k, hs, most, l, h, rfl, RT, G, lt, ln, lN, hN, fun H1 st m p s1 hst LF p9 p150 => ?_⟩
    obtain ⟨m1, m25, _⟩ := G.all m LF.mem
    have e64 : (2 : Int) ^ 64 = 18446744073709551616 := by decide
    have e60 : (2 : Nat) ^ 60 = 1152921504606846976 := by decide
    have pe : ∀ e : Nat, e ≤ 150 → b ^ e < 2 ^ 600 := fun e he => by
      have h1 := pow_le' (b := b) (by omega) he
      have h2 := pow_base_le (a := b) (b := 10) (by omega) b10 150
      have h3 : (10 : Int) ^ 150 < 2 ^ 600 := by decide
      omega
    have c600 : (2 : Int) ^ 600 < 2 ^ 2100 := pow_lt' (b := 2) (by decide) (by decide)
    have c130 : (2 : Nat) ^ 130 < 2 ^ 1500 := Nat.pow_lt_pow_right (by decide) (by decide)
    refine ⟨_, rfl, _, rfl, _, rfl, _, rfl, ru, lh, st, b, k, hs, most, l, h, m, p, rfl, RT.same s1, hst, by omega, bB, m1, by omega, Int.lt_trans (pe _ (by omega)) c600, by omega, by omega, by omega, fun H2 q2 s2 _ hq2 => ?_⟩
    refine ⟨q2, _, rfl, SqT.of hq2, rfl, _, _, rfl, _, _, rfl, _, _, rfl, rfl, ?_⟩
    have zp := siz_pos (b := b) (m := m) (e := p) (by omega) m1
    have zB : sizZ b m p < BIG := by
      unfold sizZ
      split
      · have h1 := pe p.toNat (by omega)
        have h0 := pow_pos' (b := b) (by omega) p.toNat
        have h2 := Int.mul_le_mul m25 (Int.le_of_lt h1) (by omega) (by decide)
        have h3 : (25 : Int) * 2 ^ 600 < 2 ^ 700 := by decide
        exact lt_big (n := 700) (by omega) (by decide)
      · exact lt_big (n := 64) (by omega) (by decide)
    generalize hZ : sizZ b m p = Z at zp zB hq2
    refine norm2 (σ' := [some (.ref ru), some (.int (l * facZ b p)), some (.int (h * facZ b p)), some (.ref st), some (.int Z), none, none, none, none]) rfl ?_
    refine ⟨_, rfl, _, rfl, _, rfl, l * facZ b p, h * facZ b p, Z, rfl, by omega, zB, fun H3 q3 s3 _ hq3 => ?_⟩
    refine ⟨q3, _, rfl, SqT.of hq3, rfl, _, _, rfl, _, _, rfl, _, _, rfl, _, _, rfl, rfl, ?_⟩
    have s03 := s1.trans (s2.trans s3)
    refine ⟨_, rfl, ru, _, _, _, rfl, rfl, SqT.of (RT.same s03).1, atL (j := 1) rfl, rfl, _, rfl, ?_⟩
    have nz : ∀ x : Int, 0 - x = -x := fun x => by omega
    show if decide (V.str k.s = V.str "cover") = true then _ else _
    rw [kd_cov]
    refine ite2 (fun hc => ?_) (fun hc => ?_)
    · have hc : k = .cov := of_decide_eq_true hc
      refine ⟨_, rfl, _, rfl, (by show 2 ≤ sizeLine; decide), fun q4 hq4 => ?_⟩
      refine q _ q4 m p (s03.trans (same_new hq4)) LF ?_ p9 p150
      refine upd_same.trans ?_
      unfold fstZ lstZ
      rw [if_pos hc, if_pos hc, hZ, nz, nz]
    · have hc : ¬ k = .cov := fun z => hc (decide_eq_true z)
      refine ⟨_, rfl, _, rfl, (by show 2 ≤ sizeLine; decide), fun q4 hq4 => ?_⟩
      refine q _ q4 m p (s03.trans (same_new hq4)) LF ?_ p9 p150
      refine upd_same.trans ?_
      unfold fstZ lstZ
      rw [if_neg hc, if_neg hc, hZ, nz, nz]
end
end Ax

namespace Ax
/-! ### a common multiple added to both ends -/
section
variable {b : Int} {ms : List Int} {k : Kd} {n l h d m p s : Int}
theorem div_add (hs : 0 < s) (x c : Int) : (x + c * s) / s = x / s + c := Int.add_mul_ediv_right x c (by omega)
theorem ceil_add (hs : 0 < s) (x c : Int) : -(-(x + c * s) / s) = -(-x / s) + c := by
  have e : -(x + c * s) = -x + -c * s := by rw [Int.neg_mul]; omega
  rw [e, div_add hs]
  omega
theorem reach_shift (hs : 0 < s) (c : Int) : h + c * s ≤ reachZ k n (l + c * s) s ↔ h ≤ reachZ k n l s := by
  cases k with
  | len =>
    show h + c * s ≤ l + c * s + n * s ↔ h ≤ l + n * s
    omega
  | cov =>
    show h + c * s ≤ ((l + c * s) / s + n) * s ↔ h ≤ (l / s + n) * s
    rw [div_add hs, show l / s + c + n = l / s + n + c by omega, Int.add_mul (l / s + n)]
    omega
  | ins =>
    show h + c * s ≤ (-(-(l + c * s) / s) + n) * s - 1 ↔ h ≤ (-(-l / s) + n) * s - 1
    rw [ceil_add hs, show -(-l / s) + c + n = -(-l / s) + n + c by omega, Int.add_mul (-(-l / s) + n)]
    omega
theorem marks_shift (hs : 0 < s) (c : Int) : lstZ k (h + c * s) s - fstZ k (l + c * s) s = lstZ k h s - fstZ k l s := by
  unfold fstZ lstZ
  split
  · rw [div_add hs, ceil_add hs]
    omega
  · rw [div_add hs, ceil_add hs]
    omega
/-- the shift is a multiple of each step up to a power -/
structure Common (b : Int) (ms : List Int) (sh : Int) (W : Nat) : Prop where
  two : 2 ≤ b
  one : ∀ m ∈ ms, 1 ≤ m
  div : ∀ m ∈ ms, ∃ c : Int, sh = c * m * b ^ W
theorem Common.at {sh : Int} {W : Nat} (C : Common b ms sh W) (hm : m ∈ ms) {e : Int} (he : e ≤ W) : ∃ c : Int, sh * facZ b e = c * sizZ b m e := by
  obtain ⟨c, hc⟩ := C.div m hm
  unfold facZ sizZ
  by_cases z : 0 ≤ e
  · rw [if_pos z, if_pos z]
    refine ⟨c * b ^ (W - e.toNat), ?_⟩
    obtain ⟨u, hu⟩ : ∃ u : Nat, W = u + e.toNat := ⟨W - e.toNat, by omega⟩
    rw [hc, Int.mul_one, hu, pow_add', Nat.add_sub_cancel]
    generalize b ^ u = x
    generalize b ^ e.toNat = y
    rw [Int.mul_assoc c m, Int.mul_assoc c x, Int.mul_left_comm m x y]
  · rw [if_neg z, if_neg z]
    refine ⟨c * b ^ W * b ^ (-e).toNat, ?_⟩
    rw [hc]
    generalize b ^ W = x
    generalize b ^ (-e).toNat = y
    rw [Int.mul_assoc c m x, Int.mul_comm m x, ← Int.mul_assoc c x m, Int.mul_assoc (c * x) m y, Int.mul_comm m y, ← Int.mul_assoc]
theorem big_fits {W : Nat} {most l h m e : Int} (hb : 2 ≤ b) (hm : 1 ≤ m) (h1 : 1 ≤ most) (h2 : k = .cov → 2 ≤ most) (hW : h - l < b ^ W) (he : (W : Int) ≤ e) : FitE b k most l h m e := by
  unfold FitE facZ sizZ
  rw [if_pos (by omega), if_pos (by omega), Int.mul_one, Int.mul_one]
  have p1 := pow_le' (b := b) (by omega) (show W ≤ e.toNat by omega)
  have p2 := Int.mul_le_mul_of_nonneg_right hm (show 0 ≤ b ^ e.toNat by have := pow_pos' (b := b) (by omega) e.toNat; omega)
  have p3 := pow_pos' (b := b) (by omega) e.toNat
  exact fit_big h1 h2 (by omega) (by omega)
theorem fitE_shift {sh : Int} {W : Nat} {most : Int} (C : Common b ms sh W) (hm : m ∈ ms) (h1 : 1 ≤ most) (h2 : k = .cov → 2 ≤ most) (hW : h - l < b ^ W) {e : Int} : FitE b k most (l + sh) (h + sh) m e ↔ FitE b k most l h m e := by
  have m1 := C.one m hm
  by_cases z : (W : Int) ≤ e
  · exact ⟨fun _ => big_fits C.two m1 h1 h2 hW z, fun _ => big_fits C.two m1 h1 h2 (by omega) z⟩
  · obtain ⟨c, hc⟩ := C.at hm (e := e) (by omega)
    unfold FitE
    rw [Int.add_mul, Int.add_mul, hc]
    have := siz_pos (e := e) (show 1 ≤ b by have := C.two; omega) m1
    exact reach_shift (by omega) c
theorem LeastFit.shift {sh : Int} {W : Nat} {most : Int} (C : Common b ms sh W) (h1 : 1 ≤ most) (h2 : k = .cov → 2 ≤ most) (hW : h - l < b ^ W) (L : LeastFit b ms k most l h d m p) : LeastFit b ms k most (l + sh) (h + sh) d m p :=
  ⟨L.mem, (fitE_shift C L.mem h1 h2 hW).mpr L.fit, fun m' hm' p' s q => L.least m' hm' p' s ((fitE_shift C hm' h1 h2 hW).mp q)⟩
theorem LeastFit.low {W : Nat} {most : Int} (hb : 2 ≤ b) (m1 : 1 ≤ m) (h1 : 1 ≤ most) (h2 : k = .cov → 2 ≤ most) (hW : h - l < b ^ W) (L : LeastFit b ms k most l h d m p) : p + d ≤ W := by
  apply Int.not_lt.mp
  intro c
  refine L.least m L.mem (p - 1) ⟨p.natAbs + 1, ?_, ?_, ?_⟩ (big_fits hb m1 h1 h2 hW (by omega))
  · show 0 ≤ (p.natAbs : Int) + 1 + (p - 1)
    omega
  · show 0 ≤ (p.natAbs : Int) + 1 + p
    omega
  · show m * b ^ ((p.natAbs : Int) + 1 + (p - 1)).toNat < m * b ^ ((p.natAbs : Int) + 1 + p).toNat
    rw [show ((p.natAbs : Int) + 1 + p).toNat = ((p.natAbs : Int) + 1 + (p - 1)).toNat + 1 by omega, Int.pow_succ]
    have p1 := pow_pos' (b := b) (by omega) ((p.natAbs : Int) + 1 + (p - 1)).toNat
    generalize b ^ ((p.natAbs : Int) + 1 + (p - 1)).toNat = x at p1 ⊢
    have q1 := Int.mul_lt_mul_of_pos_left (show 1 < b by omega) (show 0 < x by omega)
    rw [Int.mul_one] at q1
    exact Int.mul_lt_mul_of_pos_left q1 (by omega)
theorem count_shift {sh : Int} {W : Nat} {e : Int} (C : Common b ms sh W) (hm : m ∈ ms) (he : e ≤ W) : lstZ k ((h + sh) * facZ b e) (sizZ b m e) - fstZ k ((l + sh) * facZ b e) (sizZ b m e) = lstZ k (h * facZ b e) (sizZ b m e) - fstZ k (l * facZ b e) (sizZ b m e) := by
  obtain ⟨c, hc⟩ := C.at hm he
  have := siz_pos (e := e) (show 1 ≤ b by have := C.two; omega) (C.one m hm)
  rw [Int.add_mul, Int.add_mul, hc]
  exact marks_shift (by omega) c
end
end Ax

namespace Ax
/-! # rules of which each step divides the next greater one -/
theorem sorted_eq : ∀ {l₁ l₂ : List Int}, l₁.Perm l₂ → l₁.Pairwise (· ≤ ·) → l₂.Pairwise (· ≤ ·) → l₁ = l₂
  | [], _, p, _, _ => p.nil_eq
  | a :: r, [], p, _, _ => absurd p.length_eq (by simp)
  | a :: r, b :: s, p, s1, s2 => by
    have h1 := List.pairwise_cons.mp s1
    have h2 := List.pairwise_cons.mp s2
    have e : a = b := by
      rcases List.mem_cons.mp (p.mem_iff.mp (List.mem_cons_self ..)) with z | z
      · exact z
      · rcases List.mem_cons.mp (p.mem_iff.mpr (List.mem_cons_self ..)) with y | y
        · exact y.symm
        · have := h1.1 b y
          have := h2.1 a z
          omega
    subst e
    rw [sorted_eq (p.cons_inv) h1.2 h2.2]
def ins (a : Int) : List Int → List Int
  | [] => [a]
  | b :: r => if a ≤ b then a :: b :: r else b :: ins a r
def isort : List Int → List Int
  | [] => []
  | a :: r => ins a (isort r)
theorem ins_perm (a : Int) : ∀ l : List Int, (ins a l).Perm (a :: l)
  | [] => .refl _
  | b :: r => by
    unfold ins
    split
    · exact .refl _
    · exact ((ins_perm a r).cons b).trans (.swap a b r)
theorem isort_perm : ∀ l : List Int, (isort l).Perm l
  | [] => .refl _
  | a :: r => (ins_perm a (isort r)).trans ((isort_perm r).cons a)
theorem ins_sorted (a : Int) : ∀ {l : List Int}, l.Pairwise (· ≤ ·) → (ins a l).Pairwise (· ≤ ·)
  | [], _ => List.pairwise_singleton _ _
  | b :: r, h => by
    unfold ins
    have h2 := List.pairwise_cons.mp h
    split
    · rename_i c
      exact List.pairwise_cons.mpr ⟨fun x hx => by
        rcases List.mem_cons.mp hx with rfl | z
        · exact c
        · have := h2.1 x z
          omega, h⟩
    · rename_i c
      exact List.pairwise_cons.mpr ⟨fun x hx => by
        rcases List.mem_cons.mp ((ins_perm a r).mem_iff.mp hx) with rfl | z
        · omega
        · exact h2.1 x z, ins_sorted a h2.2⟩
theorem isort_sorted : ∀ l : List Int, (isort l).Pairwise (· ≤ ·)
  | [] => .nil
  | a :: r => ins_sorted a (isort_sorted r)
theorem eq_isort {l l' : List Int} (p : l'.Perm l) (s : l'.Pairwise (· ≤ ·)) : l' = isort l := sorted_eq (p.trans (isort_perm l).symm) s (isort_sorted l)
/-- of the steps of these mantissas one that is not greater divides, tried for a few powers -/
def DvT (b : Int) (ms : List Int) : Prop := ∀ m ∈ ms, ∀ n ∈ ms, ∀ j ∈ List.range 7, m * b ^ 3 ≤ n * b ^ j → n * b ^ j % (m * b ^ 3) = 0
instance {b : Int} {ms : List Int} : Decidable (DvT b ms) := inferInstanceAs (Decidable (∀ m ∈ ms, _))
theorem dvT_le {b : Int} {ms : List Int} (D : DvT b ms) (b2 : 2 ≤ b) (m7 : ∀ m ∈ ms, 1 ≤ m ∧ m ≤ 7) {m n : Int} (hm : m ∈ ms) (hn : n ∈ ms) {x y : Nat} (h : m * b ^ x ≤ n * b ^ y) : m * b ^ x ∣ n * b ^ y := by
  have pp : ∀ k : Nat, 1 ≤ b ^ k := fun k => pow_pos' (by omega) k
  have cube : (8 : Int) ≤ b ^ 3 := by
    have a1 : 2 * 2 ≤ b * b := Int.mul_le_mul b2 b2 (by decide) (by omega)
    have a2 : 2 * 2 * 2 ≤ b * b * b := Int.mul_le_mul a1 b2 (by decide) (by omega)
    have e : b ^ 3 = b * b * b := by rw [Int.pow_succ, Int.pow_succ, Int.pow_succ, Int.pow_zero, Int.one_mul]
    rw [e]
    exact a2
  obtain ⟨m1, m2⟩ := m7 m hm
  obtain ⟨n1, n2⟩ := m7 n hn
  have tab : ∀ j : Nat, j ≤ 6 → m * b ^ 3 ≤ n * b ^ j → m * b ^ 3 ∣ n * b ^ j := fun j hj hle => Int.dvd_of_emod_eq_zero (D m hm n hn j (List.mem_range.mpr (by omega)) hle)
  have p3 := pp 3
  rcases Nat.le_total x y with c | c
  · obtain ⟨k, rfl⟩ := Nat.exists_eq_add_of_le c
    have px := pp x
    have e1 : n * b ^ (x + k) = n * b ^ k * b ^ x := by rw [pow_add', Int.mul_comm (b ^ x), ← Int.mul_assoc]
    rw [e1] at h ⊢
    have hk : m ≤ n * b ^ k := Int.le_of_mul_le_mul_right h (by omega)
    have key : m ∣ n * b ^ k := by
      by_cases c3 : k ≤ 3
      · have e2 : n * b ^ (k + 3) = n * b ^ k * b ^ 3 := by rw [pow_add', ← Int.mul_assoc]
        have t := tab (k + 3) (by omega) (by rw [e2]; exact Int.mul_le_mul_of_nonneg_right hk (by omega))
        rw [e2] at t
        exact Int.dvd_of_mul_dvd_mul_right (by omega) t
      · have e2 : n * b ^ 6 = n * b ^ 3 * b ^ 3 := by rw [show (6 : Nat) = 3 + 3 by rfl, pow_add', ← Int.mul_assoc]
        have n3 : b ^ 3 ≤ n * b ^ 3 := by
          have := Int.mul_le_mul_of_nonneg_right n1 (show 0 ≤ b ^ 3 by omega)
          omega
        have t := tab 6 (by omega) (by rw [e2]; exact Int.mul_le_mul_of_nonneg_right (by omega) (by omega))
        rw [e2] at t
        have t2 := Int.dvd_of_mul_dvd_mul_right (by omega) t
        have e3 : n * b ^ k = n * b ^ 3 * b ^ (k - 3) := by
          rw [Int.mul_assoc, ← pow_add']
          congr 2
          omega
        rw [e3]
        exact Int.dvd_mul_of_dvd_left t2
    exact Int.mul_dvd_mul key (Int.dvd_refl _)
  · obtain ⟨k, rfl⟩ := Nat.exists_eq_add_of_le c
    have py := pp y
    have e1 : m * b ^ (y + k) = m * b ^ k * b ^ y := by rw [pow_add', Int.mul_comm (b ^ y), ← Int.mul_assoc]
    rw [e1] at h ⊢
    have hk : m * b ^ k ≤ n := Int.le_of_mul_le_mul_right h (by omega)
    have key : m * b ^ k ∣ n := by
      by_cases c3 : k ≤ 3
      · have e2 : m * b ^ 3 = m * b ^ k * b ^ (3 - k) := by
          rw [Int.mul_assoc, ← pow_add']
          congr 2
          omega
        have p4 := pp (3 - k)
        have t := tab (3 - k) (by omega) (by rw [e2]; exact Int.mul_le_mul_of_nonneg_right hk (by omega))
        rw [e2] at t
        exact Int.dvd_of_mul_dvd_mul_right (by omega) t
      · have e2 : b ^ k = b ^ 3 * b ^ (k - 3) := by
          rw [← pow_add']
          congr 1
          omega
        have p4 := pp (k - 3)
        have a1 : b ^ 3 * 1 ≤ b ^ 3 * b ^ (k - 3) := Int.mul_le_mul_of_nonneg_left p4 (by omega)
        have a2 : 1 * b ^ k ≤ m * b ^ k := Int.mul_le_mul_of_nonneg_right m1 (by have := pp k; omega)
        omega
    exact Int.mul_dvd_mul key (Int.dvd_refl _)
end Ax

namespace Ax
/-! # the same range told with more digits -/
theorem fac_siz {b m p : Int} (x : Nat) (b1 : 1 ≤ b) : ∃ c : Int, 1 ≤ c ∧ facZ b (p + x) * b ^ x = facZ b p * c ∧ sizZ b m (p + x) = sizZ b m p * c := by
  unfold facZ sizZ
  by_cases h : 0 ≤ p
  · refine ⟨b ^ x, pow_pos' b1 x, ?_, ?_⟩
    · rw [if_pos h, if_pos (by omega)]
    · rw [if_pos h, if_pos (by omega), Int.mul_assoc, ← pow_add']
      congr 2
      omega
  · by_cases h2 : 0 ≤ p + x
    · refine ⟨b ^ (p + x).toNat, pow_pos' b1 _, ?_, ?_⟩
      · rw [if_neg h, if_pos h2, Int.one_mul, ← pow_add']
        congr 1
        omega
      · rw [if_neg h, if_pos h2]
    · refine ⟨1, Int.le_refl _, ?_, ?_⟩
      · rw [if_neg h, if_neg h2, Int.mul_one, ← pow_add']
        congr 1
        omega
      · rw [if_neg h, if_neg h2, Int.mul_one]
theorem fst_scale {k : Kd} {l s c : Int} (hc : 1 ≤ c) (hs : 1 ≤ s) : fstZ k (l * c) (s * c) = fstZ k l s := by
  have d : ∀ x : Int, x * c / (s * c) = x / s := fun x => Int.mul_ediv_mul_of_pos_left x s (by omega)
  unfold fstZ
  rw [d, ← Int.neg_mul, d]
theorem lst_scale {k : Kd} {h s c : Int} (hc : 1 ≤ c) (hs : 1 ≤ s) : lstZ k (h * c) (s * c) = lstZ k h s := by
  have d : ∀ x : Int, x * c / (s * c) = x / s := fun x => Int.mul_ediv_mul_of_pos_left x s (by omega)
  unfold lstZ
  rw [d, ← Int.neg_mul, d]
theorem marks_wide {k : Kd} {b l h m p : Int} (x : Nat) (b1 : 1 ≤ b) (m1 : 1 ≤ m) : fstZ k (l * b ^ x * facZ b (p + x)) (sizZ b m (p + x)) = fstZ k (l * facZ b p) (sizZ b m p) ∧ lstZ k (h * b ^ x * facZ b (p + x)) (sizZ b m (p + x)) = lstZ k (h * facZ b p) (sizZ b m p) := by
  obtain ⟨c, c1, e1, e2⟩ := fac_siz (m := m) (p := p) x b1
  have z1 := siz_pos (b := b) (m := m) (e := p) b1 m1
  have r : ∀ y : Int, y * b ^ x * facZ b (p + x) = y * facZ b p * c := fun y => by
    rw [Int.mul_assoc, Int.mul_comm (b ^ x), e1, ← Int.mul_assoc]
  rw [r, r, e2, fst_scale c1 z1, lst_scale c1 z1]
  exact ⟨rfl, rfl⟩
theorem fitE_pow {b m n l h : Int} {k : Kd} (b1 : 1 ≤ b) (m1 : 1 ≤ m) : ∀ (x : Nat) {e : Int}, FitE b k n (l * b ^ x) (h * b ^ x) m (e + x) ↔ FitE b k n l h m e
  | 0, e => by rw [Int.pow_zero, Int.mul_one, Int.mul_one, Int.natCast_zero, Int.add_zero]
  | x + 1, e => by
    rw [Int.pow_succ, ← Int.mul_assoc, ← Int.mul_assoc, show (e + ((x + 1 : Nat) : Int)) = (e + x) + 1 by omega, fitE_base b1 m1]
    exact fitE_pow b1 m1 x
theorem LeastFit.wide {b : Int} {ms : List Int} {k : Kd} {n l h d m p : Int} (L : LeastFit b ms k n l h d m p) (x : Nat) (b1 : 1 ≤ b) (hall : ∀ m ∈ ms, 1 ≤ m) : LeastFit b ms k n (l * b ^ x) (h * b ^ x) (d + x) m p := by
  refine ⟨L.mem, ?_, fun m' hm p' hs => ?_⟩
  · rw [← Int.add_assoc]
    exact (fitE_pow b1 (hall m L.mem) x).mpr L.fit
  · rw [← Int.add_assoc]
    exact fun z => L.least m' hm p' hs ((fitE_pow b1 (hall m' hm) x).mp z)
theorem LeastFit.at0 {b : Int} {ms : List Int} {k : Kd} {n l h d m p : Int} (L : LeastFit b ms k n l h d m p) : LeastFit b ms k n l h 0 m (p + d) := by
  refine ⟨L.mem, by rw [Int.add_zero]; exact L.fit, fun m' hm p' hs hf => ?_⟩
  rw [Int.add_zero] at hf
  obtain ⟨N, h1, h2, h3⟩ := hs
  have e : p' = (p' - d) + d := by omega
  rw [e] at hf
  refine L.least m' hm (p' - d) ⟨N + d, by omega, by show 0 ≤ N + d + p; have h2 : 0 ≤ N + (p + d) := h2; omega, ?_⟩ hf
  unfold szN at h3 ⊢
  have h3 : m' * b ^ (N + p').toNat < m * b ^ (N + (p + d)).toNat := h3
  show m' * b ^ (N + d + (p' - d)).toNat < m * b ^ (N + d + p).toNat
  rw [show N + d + (p' - d) = N + p' by omega, show N + d + p = N + (p + d) by omega]
  exact h3
theorem log_small {x : Int} {n : Nat} (h : x.natAbs < 2 ^ n) (hn : n ≤ 1920) (n0 : 0 < n) : x.natAbs.log2 < 1920 := by
  by_cases c : x.natAbs = 0
  · rw [c]
    decide
  · have := (Nat.log2_lt c).mpr h
    omega
theorem marks_small {k : Kd} {l s : Int} {n : Nat} (h : l.natAbs < 2 ^ n) : (fstZ k l s).natAbs < 2 ^ n ∧ (lstZ k l s).natAbs < 2 ^ n := by
  have d : ∀ x : Int, (x / s).natAbs ≤ x.natAbs := fun x => Int.natAbs_ediv_le_natAbs x s
  have d1 := d l
  have d2 := d (-l)
  rw [Int.natAbs_neg] at d2
  unfold fstZ lstZ
  constructor <;> split <;> omega
end Ax

namespace Ax
/-! # formulas of sets of ranges -/
abbrev Ky := Kd × List Int × Int
inductive Fm where
  | all
  | not (f : Fm)
  | and (f g : Fm)
  | or (f g : Fm)
  | xor (f g : Fm)
  | counted (k : Ky) (lst : Int) (mst : Option Int)
  | taken (k : Ky) (m : Int)
  | coarser (k k2 : Ky) (n o : Int)
  | touched (k : Ky) (low : Bool)
/-- how many marks a range has whose step has this mantissa and power -/
def cntZ (b : Int) (k : Kd) (l h m q : Int) : Int := lstZ k (h * facZ b q) (sizZ b m q) - fstZ k (l * facZ b q) (sizZ b m q) + 1
/-- whether the first step is greater than n / o times the other -/
def moreZ (b m1 q1 m2 q2 n o : Int) : Bool := decide (m1 * b ^ (q1 - min q1 q2).toNat * o > n * (m2 * b ^ (q2 - min q1 q2).toNat))
/-- what a formula says of the range from l to h -/
def Val (b : Int) : Fm → Int → Int → Bool → Prop
  | .all, _, _, r => r = true
  | .not f, l, h, r => ∃ x, Val b f l h x ∧ r = !x
  | .and f g, l, h, r => ∃ x y, Val b f l h x ∧ Val b g l h y ∧ r = (x && y)
  | .or f g, l, h, r => ∃ x y, Val b f l h x ∧ Val b g l h y ∧ r = (x || y)
  | .xor f g, l, h, r => ∃ x y, Val b f l h x ∧ Val b g l h y ∧ r = (x != y)
  | .counted k lst mst, l, h, r => ∃ m q, LeastFit b k.2.1 k.1 k.2.2 l h 0 m q ∧ r = (decide (lst ≤ cntZ b k.1 l h m q) && mst.all fun z => decide (cntZ b k.1 l h m q ≤ z))
  | .taken k m0, l, h, r => ∃ m q, LeastFit b k.2.1 k.1 k.2.2 l h 0 m q ∧ r = decide (m = m0)
  | .coarser k k2 n o, l, h, r => ∃ m q m2 q2, LeastFit b k.2.1 k.1 k.2.2 l h 0 m q ∧ LeastFit b k2.2.1 k2.1 k2.2.2 l h 0 m2 q2 ∧ r = moreZ b m q m2 q2 n o
  | .touched k low, l, h, r => ∃ m q, LeastFit b k.2.1 k.1 k.2.2 l h 0 m q ∧ r = decide ((if low then l else h) * facZ b q % sizZ b m q = 0)
structure KyOk (b : Int) (k : Ky) : Prop where
  all : ∀ m ∈ k.2.1, 1 ≤ m ∧ m % b ≠ 0
  m1 : 1 ≤ k.2.2
  mC : k.1 = .cov → 2 ≤ k.2.2
def FmOk (b : Int) : Fm → Prop
  | .all => True
  | .not f => FmOk b f
  | .and f g => FmOk b f ∧ FmOk b g
  | .or f g => FmOk b f ∧ FmOk b g
  | .xor f g => FmOk b f ∧ FmOk b g
  | .counted k _ _ => KyOk b k
  | .taken k _ => KyOk b k
  | .coarser k k2 _ _ => KyOk b k ∧ KyOk b k2
  | .touched k _ => KyOk b k
section
variable {b l h : Int}
theorem LeastFit.one' {ms : List Int} {k : Kd} {n l h m1 p1 m2 p2 : Int} (hb : 2 ≤ b) (hm : ∀ m ∈ ms, 1 ≤ m ∧ m % b ≠ 0) (L1 : LeastFit b ms k n l h 0 m1 p1) (L2 : LeastFit b ms k n l h 0 m2 p2) : m1 = m2 ∧ p1 = p2 := least_one hb hm L1 L2
theorem Val.det (b2 : 2 ≤ b) : ∀ {f : Fm} {r r' : Bool}, FmOk b f → Val b f l h r → Val b f l h r' → r = r'
  | .all, _, _, _, h1, h2 => h1.trans h2.symm
  | .not f, _, _, ok, ⟨x, h1, e1⟩, ⟨y, h2, e2⟩ => by rw [e1, e2, Val.det b2 (f := f) ok h1 h2]
  | .and f g, _, _, ok, ⟨x, y, h1, h1', e1⟩, ⟨z, w, h2, h2', e2⟩ => by rw [e1, e2, Val.det b2 (f := f) ok.1 h1 h2, Val.det b2 (f := g) ok.2 h1' h2']
  | .or f g, _, _, ok, ⟨x, y, h1, h1', e1⟩, ⟨z, w, h2, h2', e2⟩ => by rw [e1, e2, Val.det b2 (f := f) ok.1 h1 h2, Val.det b2 (f := g) ok.2 h1' h2']
  | .xor f g, _, _, ok, ⟨x, y, h1, h1', e1⟩, ⟨z, w, h2, h2', e2⟩ => by rw [e1, e2, Val.det b2 (f := f) ok.1 h1 h2, Val.det b2 (f := g) ok.2 h1' h2']
  | .counted k _ _, _, _, ok, ⟨m, q, h1, e1⟩, ⟨m', q', h2, e2⟩ => by
    obtain ⟨rfl, rfl⟩ := h1.one' b2 ok.all h2
    rw [e1, e2]
  | .taken k _, _, _, ok, ⟨m, q, h1, e1⟩, ⟨m', q', h2, e2⟩ => by
    obtain ⟨rfl, rfl⟩ := h1.one' b2 ok.all h2
    rw [e1, e2]
  | .coarser k k2 _ _, _, _, ok, ⟨m, q, m2, q2, h1, g1, e1⟩, ⟨m', q', m2', q2', h2, g2, e2⟩ => by
    obtain ⟨rfl, rfl⟩ := h1.one' b2 ok.1.all h2
    obtain ⟨rfl, rfl⟩ := g1.one' b2 ok.2.all g2
    rw [e1, e2]
  | .touched k _, _, _, ok, ⟨m, q, h1, e1⟩, ⟨m', q', h2, e2⟩ => by
    obtain ⟨rfl, rfl⟩ := h1.one' b2 ok.all h2
    rw [e1, e2]
/-! ### the base times a range -/
theorem fac_siz1 {m q : Int} (b1 : 1 ≤ b) : ∃ c : Int, 1 ≤ c ∧ (∀ x : Int, x * b * facZ b (q + 1) = x * facZ b q * c) ∧ sizZ b m (q + 1) = sizZ b m q * c := by
  obtain ⟨c, c1, e1, e2⟩ := fac_siz (b := b) (m := m) (p := q) 1 b1
  refine ⟨c, c1, fun x => ?_, e2⟩
  have e1 : facZ b (q + 1) * b = facZ b q * c := by
    have := e1
    rw [Int.pow_succ, Int.pow_zero, Int.one_mul] at this
    exact this
  rw [Int.mul_assoc, Int.mul_comm b, e1, ← Int.mul_assoc]
theorem mark_mul {k : Kd} {l h s c : Int} (c0 : 0 < c) : lstZ k (h * c) (s * c) = lstZ k h s ∧ fstZ k (l * c) (s * c) = fstZ k l s := by
  have d : ∀ x : Int, x * c / (s * c) = x / s := fun x => Int.mul_ediv_mul_of_pos_left x s c0
  have d2 : ∀ x : Int, -(x * c) / (s * c) = -x / s := fun x => by rw [← Int.neg_mul]; exact d (-x)
  unfold lstZ fstZ
  exact ⟨by split <;> simp only [d, d2], by split <;> simp only [d, d2]⟩
theorem cnt_base {k : Kd} {m q : Int} (b1 : 1 ≤ b) : cntZ b k (l * b) (h * b) m (q + 1) = cntZ b k l h m q := by
  obtain ⟨c, c1, e1, e2⟩ := fac_siz1 (b := b) (m := m) (q := q) b1
  unfold cntZ
  rw [e1, e1, e2, (mark_mul (l := l * facZ b q) (h := h * facZ b q) (k := k) (s := sizZ b m q) (show 0 < c by omega)).1, (mark_mul (l := l * facZ b q) (h := h * facZ b q) (k := k) (s := sizZ b m q) (show 0 < c by omega)).2]
theorem Val.base (b2 : 2 ≤ b) : ∀ {f : Fm} {r : Bool}, FmOk b f → Val b f l h r → Val b f (l * b) (h * b) r
  | .all, _, _, h1 => h1
  | .not f, _, ok, ⟨x, h1, e1⟩ => ⟨x, Val.base b2 (f := f) ok h1, e1⟩
  | .and f g, _, ok, ⟨x, y, h1, h2, e⟩ => ⟨x, y, Val.base b2 (f := f) ok.1 h1, Val.base b2 (f := g) ok.2 h2, e⟩
  | .or f g, _, ok, ⟨x, y, h1, h2, e⟩ => ⟨x, y, Val.base b2 (f := f) ok.1 h1, Val.base b2 (f := g) ok.2 h2, e⟩
  | .xor f g, _, ok, ⟨x, y, h1, h2, e⟩ => ⟨x, y, Val.base b2 (f := f) ok.1 h1, Val.base b2 (f := g) ok.2 h2, e⟩
  | .counted k _ _, _, ok, ⟨m, q, h1, e1⟩ => ⟨m, q + 1, h1.base (by omega) fun m hm => (ok.all m hm).1, by rw [cnt_base (by omega)]; exact e1⟩
  | .taken k _, _, ok, ⟨m, q, h1, e1⟩ => ⟨m, q + 1, h1.base (by omega) fun m hm => (ok.all m hm).1, e1⟩
  | .coarser k k2 _ _, _, ok, ⟨m, q, m2, q2, h1, g1, e1⟩ => by
    refine ⟨m, q + 1, m2, q2 + 1, h1.base (by omega) fun m hm => (ok.1.all m hm).1, g1.base (by omega) fun m hm => (ok.2.all m hm).1, ?_⟩
    rw [e1]
    unfold moreZ
    rw [show q + 1 - min (q + 1) (q2 + 1) = q - min q q2 by omega, show q2 + 1 - min (q + 1) (q2 + 1) = q2 - min q q2 by omega]
  | .touched k low, _, ok, ⟨m, q, h1, e1⟩ => by
    refine ⟨m, q + 1, h1.base (by omega) fun m hm => (ok.all m hm).1, ?_⟩
    obtain ⟨c, c1, f1, f2⟩ := fac_siz1 (b := b) (m := m) (q := q) (show 1 ≤ b by omega)
    have e : ∀ x : Int, (x * b * facZ b (q + 1) % sizZ b m (q + 1) = 0) ↔ (x * facZ b q % sizZ b m q = 0) := fun x => by
      rw [f1, f2]
      constructor
      · intro z
        obtain ⟨t, ht⟩ := Int.dvd_of_emod_eq_zero z
        refine Int.emod_eq_zero_of_dvd ⟨t, Int.eq_of_mul_eq_mul_right (show c ≠ 0 by omega) ?_⟩
        rw [ht, Int.mul_assoc, Int.mul_comm c, ← Int.mul_assoc]
      · intro z
        obtain ⟨t, ht⟩ := Int.dvd_of_emod_eq_zero z
        refine Int.emod_eq_zero_of_dvd ⟨t, ?_⟩
        rw [ht, Int.mul_assoc (sizZ b m q) c, Int.mul_comm c, ← Int.mul_assoc]
    rw [e1]
    cases low
    · exact decide_eq_decide.mpr (e h).symm
    · exact decide_eq_decide.mpr (e l).symm
/-! ### a common multiple added -/
def ComF (b sh : Int) (W : Nat) : Fm → Prop
  | .all => True
  | .not f => ComF b sh W f
  | .and f g => ComF b sh W f ∧ ComF b sh W g
  | .or f g => ComF b sh W f ∧ ComF b sh W g
  | .xor f g => ComF b sh W f ∧ ComF b sh W g
  | .counted k _ _ => Common b k.2.1 sh W
  | .taken k _ => Common b k.2.1 sh W
  | .coarser k k2 _ _ => Common b k.2.1 sh W ∧ Common b k2.2.1 sh W
  | .touched k _ => Common b k.2.1 sh W
theorem Val.shift {sh : Int} {W : Nat} (b2 : 2 ≤ b) (hW : h - l < b ^ W) : ∀ {f : Fm} {r : Bool}, FmOk b f → ComF b sh W f → Val b f l h r → Val b f (l + sh) (h + sh) r
  | .all, _, _, _, h1 => h1
  | .not f, _, ok, C, ⟨x, h1, e1⟩ => ⟨x, Val.shift b2 hW (f := f) ok C h1, e1⟩
  | .and f g, _, ok, C, ⟨x, y, h1, h2, e⟩ => ⟨x, y, Val.shift b2 hW (f := f) ok.1 C.1 h1, Val.shift b2 hW (f := g) ok.2 C.2 h2, e⟩
  | .or f g, _, ok, C, ⟨x, y, h1, h2, e⟩ => ⟨x, y, Val.shift b2 hW (f := f) ok.1 C.1 h1, Val.shift b2 hW (f := g) ok.2 C.2 h2, e⟩
  | .xor f g, _, ok, C, ⟨x, y, h1, h2, e⟩ => ⟨x, y, Val.shift b2 hW (f := f) ok.1 C.1 h1, Val.shift b2 hW (f := g) ok.2 C.2 h2, e⟩
  | .counted k _ _, _, ok, C, ⟨m, q, h1, e1⟩ => by
    have lw := h1.low b2 (ok.all m h1.mem).1 ok.m1 ok.mC hW
    refine ⟨m, q, h1.shift C ok.m1 ok.mC hW, ?_⟩
    have e : cntZ b k.1 (l + sh) (h + sh) m q = cntZ b k.1 l h m q := by
      unfold cntZ
      rw [count_shift C h1.mem (by omega)]
    rw [e]
    exact e1
  | .taken k _, _, ok, C, ⟨m, q, h1, e1⟩ => ⟨m, q, h1.shift C ok.m1 ok.mC hW, e1⟩
  | .coarser k k2 _ _, _, ok, C, ⟨m, q, m2, q2, h1, g1, e1⟩ => ⟨m, q, m2, q2, h1.shift C.1 ok.1.m1 ok.1.mC hW, g1.shift C.2 ok.2.m1 ok.2.mC hW, e1⟩
  | .touched k low, _, ok, C, ⟨m, q, h1, e1⟩ => by
    have lw := h1.low b2 (ok.all m h1.mem).1 ok.m1 ok.mC hW
    refine ⟨m, q, h1.shift C ok.m1 ok.mC hW, ?_⟩
    obtain ⟨c, hc⟩ := C.at h1.mem (e := q) (by omega)
    have e : ∀ x : Int, (x + sh) * facZ b q % sizZ b m q = x * facZ b q % sizZ b m q := fun x => by
      rw [Int.add_mul, hc, Int.add_mul_emod_self_right]
    rw [e1]
    cases low
    · exact decide_eq_decide.mpr (by rw [if_neg (by decide), if_neg (by decide), e])
    · exact decide_eq_decide.mpr (by rw [if_pos rfl, if_pos rfl, e])
end
end Ax

namespace Ax
open PySem L2
/-! ### formulas and sets on the heap -/
def KyAt (H : Hp) (k : Ky) (a : Addr) : Prop := ∃ tm, H a = some (.tup [.str k.1.s, .ref tm, .int k.2.2]) ∧ H tm = some (.tup (k.2.1.map V.int))
def optV : Option Int → V
  | none => .non
  | some n => .int n
def FmAt (H : Hp) : Fm → Addr → Prop
  | .all, a => H a = some (.tup [.str "all"])
  | .not f, a => ∃ c, H a = some (.tup [.str "not", .ref c]) ∧ FmAt H f c
  | .and f g, a => ∃ c d, H a = some (.tup [.str "and", .ref c, .ref d]) ∧ FmAt H f c ∧ FmAt H g d
  | .or f g, a => ∃ c d, H a = some (.tup [.str "or", .ref c, .ref d]) ∧ FmAt H f c ∧ FmAt H g d
  | .xor f g, a => ∃ c d, H a = some (.tup [.str "xor", .ref c, .ref d]) ∧ FmAt H f c ∧ FmAt H g d
  | .counted k l m, a => ∃ c, H a = some (.tup [.str "counted", .ref c, .int l, optV m]) ∧ KyAt H k c
  | .taken k m, a => ∃ c, H a = some (.tup [.str "taken", .ref c, .int m]) ∧ KyAt H k c
  | .coarser k k2 n o, a => ∃ c d, H a = some (.tup [.str "coarser", .ref c, .ref d, .int n, .int o]) ∧ KyAt H k c ∧ KyAt H k2 d
  | .touched k low, a => ∃ c, H a = some (.tup [.str "touched", .ref c, .str (if low then "low" else "high")]) ∧ KyAt H k c
theorem KyAt.same {H H' : Hp} {k : Ky} {a : Addr} (h : KyAt H k a) (s : Same H H') : KyAt H' k a :=
  let ⟨tm, h1, h2⟩ := h
  ⟨tm, s _ _ h1, s _ _ h2⟩
theorem FmAt.same {H H' : Hp} (s : Same H H') : ∀ {f : Fm} {a : Addr}, FmAt H f a → FmAt H' f a
  | .all, _, h => s _ _ h
  | .not f, _, ⟨c, h, h1⟩ => ⟨c, s _ _ h, FmAt.same s (f := f) h1⟩
  | .and f g, _, ⟨c, d, h, h1, h2⟩ => ⟨c, d, s _ _ h, FmAt.same s (f := f) h1, FmAt.same s (f := g) h2⟩
  | .or f g, _, ⟨c, d, h, h1, h2⟩ => ⟨c, d, s _ _ h, FmAt.same s (f := f) h1, FmAt.same s (f := g) h2⟩
  | .xor f g, _, ⟨c, d, h, h1, h2⟩ => ⟨c, d, s _ _ h, FmAt.same s (f := f) h1, FmAt.same s (f := g) h2⟩
  | .counted _ _ _, _, ⟨c, h, h1⟩ => ⟨c, s _ _ h, h1.same s⟩
  | .taken _ _, _, ⟨c, h, h1⟩ => ⟨c, s _ _ h, h1.same s⟩
  | .coarser _ _ _ _, _, ⟨c, d, h, h1, h2⟩ => ⟨c, d, s _ _ h, h1.same s, h2.same s⟩
  | .touched _ _, _, ⟨c, h, h1⟩ => ⟨c, s _ _ h, h1.same s⟩
/-- what a key must have that a rule can be made of it -/
def KyR (b : Int) (k : Ky) : Prop := RArgs b k.1 k.2.1 k.2.2
def FmR (b : Int) : Fm → Prop
  | .all => True
  | .not f => FmR b f
  | .and f g => FmR b f ∧ FmR b g
  | .or f g => FmR b f ∧ FmR b g
  | .xor f g => FmR b f ∧ FmR b g
  | .counted k l m => KyR b k ∧ l.natAbs < 2 ^ 60 ∧ m.all fun z => decide (z.natAbs < 2 ^ 60)
  | .taken k _ => KyR b k
  | .coarser k k2 n o => KyR b k ∧ KyR b k2 ∧ 1 ≤ n ∧ n < 2 ^ 60 ∧ 1 ≤ o ∧ o < 2 ^ 60
  | .touched k _ => KyR b k
theorem KyR.ok {b : Int} {k : Ky} (h : KyR b k) : KyOk b k := ⟨fun m hm => ⟨(h.all m hm).1, (h.all m hm).2.2⟩, h.m1, h.mC⟩
theorem FmR.ok {b : Int} : ∀ {f : Fm}, FmR b f → FmOk b f
  | .all, _ => trivial
  | .not f, h => FmR.ok (f := f) h
  | .and f g, h => ⟨FmR.ok (f := f) h.1, FmR.ok (f := g) h.2⟩
  | .or f g, h => ⟨FmR.ok (f := f) h.1, FmR.ok (f := g) h.2⟩
  | .xor f g, h => ⟨FmR.ok (f := f) h.1, FmR.ok (f := g) h.2⟩
  | .counted _ _ _, h => KyR.ok h.1
  | .taken _ _, h => KyR.ok h
  | .coarser _ _ _ _, h => ⟨KyR.ok h.1, KyR.ok h.2.1⟩
  | .touched _ _, h => KyR.ok h
/-- a set's object -/
def sf1 (b : Int) : List (Str × V) := putF "_base" (.int b) []
def sf (b : Int) (fa : Addr) : List (Str × V) := putF "_formula" (.ref fa) (sf1 b)
theorem sf_lookup (b : Int) (fa : Addr) (f : Str) : (sf b fa).lookup f = if f = "_formula" then some (.ref fa) else if f = "_base" then some (.int b) else none := by
  unfold sf sf1
  simp only [lookup_putF, List.lookup_nil]
theorem sf_formula (b : Int) (fa : Addr) : (sf b fa).lookup ("_formula" : Str) = some (.ref fa) := by rw [sf_lookup, if_pos rfl]
theorem sf_base (b : Int) (fa : Addr) : (sf b fa).lookup ("_base" : Str) = some (.int b) := by rw [sf_lookup, if_neg (by decide +kernel), if_pos rfl]
structure SetAt (C : Addr) (H : Hp) (a : Addr) (b : Int) (f : Fm) (dx fa : Addr) : Prop where
  at_ : H a = some (.ins C dx (sf b fa))
  fm : FmAt H f fa
theorem SetAt.same {C : Addr} {H H' : Hp} {a : Addr} {b : Int} {f : Fm} {dx fa : Addr} (x : SetAt C H a b f dx fa) (s : Same H H') : SetAt C H' a b f dx fa := ⟨s _ _ x.at_, FmAt.same s x.fm⟩
theorem FunD.okN {P : Program} {w : World} {K : PySem.W.Frag} {mg : Str → Option Value} {base : Heap} {x qual : Str} {params : Arguments} {body : List Stmt} {scope : Scope} {dvs : List V} {kws : List (Str × V)} {f : Addr} {fd : FuncData} {N ps : List Str} {k : Nat} {sp : Sp} (F : FunD K x qual params body scope dvs kws f fd) (S : FnScope N ps scope) (len : ∀ vs H Q E, sp vs H Q E → vs.length = ps.length)
    (hbody : ∀ (cdv : Value) (A : Around) (outer : List Env) (s : Shared) (H : Hp) (vs : List V) (Q : VK) (E : XK), Room k (A.deeper (PyProof.Rows.envOfC qual scope s.heap.objs.size f cdv)) → sp vs H Q E →
      ∃ t, PSs (cxOf CX0 P w K mg base N qual scope f cdv A outer s H E).nox body t ∧ t { nx := fun _ H' => Q .non H', rt := Q } (L2.start N vs) H) : FnOk P w K mg base CX0 (k + 1) f fd ps sp :=
  F.ok S len fun cdv A outer s H vs Q E hr h => let ⟨t, p, q⟩ := hbody cdv A outer s H vs Q E hr h
    ⟨t, p.nox, q⟩
section
variable {P : Program} {w : World} {K : PySem.W.Frag} {mg : Str → Option Value} {base : Heap} {A : Adr}
/-! ### RangeSet.__init__, base -/
def spRInit (A : Adr) : Sp := fun vs H Q _ => ∃ (r dx fa : Addr) (b : Int), vs = [.ref r, .int b, .ref fa] ∧ H r = some (.ins A.c_RangeSet dx []) ∧
  ∀ (H' : Hp), (∀ c o, c ≠ r → H c = some o → H' c = some o) → H' r = some (.ins A.c_RangeSet dx (sf b fa)) → Q .non H'
abbrev nm_RangeSet_init : List Str := ["self", "base", "formula"]
theorem sc_RangeSet_init : FnScope ["self", "base", "formula"] ["self", "base", "formula"] (defScope s_RangeSet_init) := ⟨rfl, rfl, rfl, by decide +kernel, rfl, by decide +kernel, by decide +kernel⟩
theorem ok_rinit (T : Txt K mg A w) : FnOk P w K mg base CX0 1 A.a_RangeSet_init A.d_RangeSet_init ["self", "base", "formula"] (spRInit A) := by
  refine T.F_RangeSet_init.ok sc_RangeSet_init (fun vs H Q E h => ?_) (fun cdv A0 outer s H vs Q E hr h => ?_)
  · obtain ⟨r, dx, fa, b, rfl, _⟩ := h
    rfl
  · obtain ⟨r, dx, fa, b, rfl, hR, q⟩ := h
    refine ⟨_, (pss_cons (ps_fld (pv 0) (pv 1) rfl)
  (pss_one (ps_fld (pv 0) (pv 2) rfl))), ?_⟩
    refine ⟨_, rfl, _, rfl, r, A.c_RangeSet, dx, [], rfl, hR, T.cl2, T.nb_base, (by decide), ?_⟩
    refine ⟨_, rfl, _, rfl, r, A.c_RangeSet, dx, sf1 b, rfl, upd_same, T.cl2, T.nb_formula, Nat.lt_of_le_of_lt (length_putF _ _ _) (by decide), ?_⟩
    refine q _ (fun c o n e => ?_) upd_same
    rw [upd_ne n, upd_ne n]
    exact e
/-- a set is made -/
theorem set_new {C y dx fa : Addr} {H H1 : Hp} {b : Int} {f : Fm} (nx : H y = none) (ndx : H dx = none) (nex : dx ≠ y) (F : FmAt H f fa) (kept : ∀ c o, c ≠ y → (upd (upd H dx (.own y)) y (.ins C dx [])) c = some o → H1 c = some o) (h : H1 y = some (.ins C dx (sf b fa))) : Same H H1 ∧ SetAt C H1 y b f dx fa := by
  have s : Same H H1 := fun c o e => kept c o (ne_of_none e nx) (by rw [upd_ne (ne_of_none e nx), upd_ne (ne_of_none e ndx)]; exact e)
  exact ⟨s, h, FmAt.same s F⟩
def spSB (A : Adr) : Sp := fun vs H Q _ => ∃ (a : Addr) (b : Int) (f : Fm) (dx fa : Addr), vs = [.ref a] ∧ SetAt A.c_RangeSet H a b f dx fa ∧ Q (.int b) H
abbrev nm_RangeSet_base : List Str := ["self"]
theorem sc_RangeSet_base : FnScope ["self"] ["self"] (defScope s_RangeSet_base) := ⟨rfl, rfl, rfl, by decide +kernel, rfl, by decide +kernel, by decide +kernel⟩
theorem ok_sb (T : Txt K mg A w) : FnOk P w K mg base CX0 1 A.a_RangeSet_base A.d_RangeSet_base ["self"] (spSB A) := by
  refine T.F_RangeSet_base.ok sc_RangeSet_base (fun vs H Q E h => ?_) (fun cdv A0 outer s H vs Q E hr h => ?_)
  · obtain ⟨a, b, f, dx, fa, rfl, _⟩ := h
    rfl
  · obtain ⟨a, b, f, dx, fa, rfl, x, q⟩ := h
    refine ⟨_, (pss_one (ps_ret (pe_fld (pv 0) rfl))), ?_⟩
    exact ⟨_, rfl, a, A.c_RangeSet, dx, _, _, rfl, x.at_, T.cl2, T.nb_base, sf_base _ _, q⟩
end
end Ax

namespace Ax
open PySem L2
theorem inV_ints {m : Int} {ms : List Int} (h : m ∈ ms) : inV (.int m) (ms.map V.int) = true :=
  List.any_eq_true.mpr ⟨.int m, List.mem_map.mpr ⟨m, h, rfl⟩, by simp [eqV]⟩
theorem flat_ints (ms : List Int) : (ms.map V.int).all flatV = true := by
  rw [List.all_eq_true]
  intro x hx
  obtain ⟨m, _, rfl⟩ := List.mem_map.mp hx
  rfl
section
variable {P : Program} {w : World} {K : PySem.W.Frag} {mg : Str → Option Value} {base : Heap} {A : Adr}
theorem clist (K : PySem.W.Frag) {X : Cx} (h : X.K = K := by rfl) : CallR X (.type "list") (fun xs H Q => ∃ p ys, xs = [V.ref p] ∧ (SqL K H p ys ∨ SqT K H p ys) ∧ ∀ (l : Addr), H l = none → Q (V.ref l) (upd H l (HO.lst ys))) := h ▸ call_list_of
/-! ### mantissas -/
def spPMs (A : Adr) : Sp := fun vs H Q _ => ∃ (r : Addr) (b : Int) (k : Kd) (ms : List Int) (most : Int) (D : RD), vs = [.ref r] ∧ RX A.c_Rule H r b k ms most D ∧ ∀ l, H l = none → Q (.ref l) (upd H l (.lst (D.ms'.map V.int)))
abbrev nm_Rule_mantissas : List Str := ["self"]
theorem sc_Rule_mantissas : FnScope ["self"] ["self"] (defScope s_Rule_mantissas) := ⟨rfl, rfl, rfl, by decide +kernel, rfl, by decide +kernel, by decide +kernel⟩
theorem ok_pms (T : Txt K mg A w) : FnOk P w K mg base CX0 1 A.a_Rule_mantissas A.d_Rule_mantissas ["self"] (spPMs A) := by
  refine T.F_Rule_mantissas.ok sc_Rule_mantissas (fun vs H Q E h => ?_) (fun cdv A0 outer s H vs Q E hr h => ?_)
  · obtain ⟨r, b, k, ms, most, D, rfl, _⟩ := h
    rfl
  · obtain ⟨r, b, k, ms, most, D, rfl, x, q⟩ := h
    refine ⟨_, (pss_one (ps_ret (pe_callTy (clist K) (by rfl) T.n_list (by decide +kernel) (pa_cons (pe_fld (pv 0) rfl) pa_nil)))), ?_⟩
    exact ⟨_, rfl, r, A.c_Rule, D.dx, _, _, rfl, x.at_, T.cl, T.na_mantissas, rf_mantissas _ _ _ _ _ _, D.lm, _, rfl, .inl (SqL.of x.lm_), fun l hl => q l hl⟩
/-! ### check_number, check_rules_of_one_base -/
def spCkN : Sp := fun vs H Q _ => ∃ (n least : Int), vs = [.int n, .int least] ∧ least ≤ n ∧ Q .non H
abbrev nm_check_number : List Str := ["number", "least"]
theorem sc_check_number : FnScope ["number", "least"] ["number", "least"] (defScope s_check_number) := ⟨rfl, rfl, rfl, by decide +kernel, rfl, by decide +kernel, by decide +kernel⟩
theorem ok_ckn (T : Txt K mg A w) : FnOk P w K mg base CX0 2 A.a_check_number A.d_check_number ["number", "least"] spCkN := by
  have G_is_whole : FnOk P w K mg base CX0 1 A.a_is_whole A.d_is_whole ["value"] (spWhole K) := ok_is_whole T
  refine T.F_check_number.ok sc_check_number (fun vs H Q E h => ?_) (fun cdv A0 outer s H vs Q E hr h => ?_)
  · obtain ⟨n, least, rfl, _⟩ := h
    rfl
  · obtain ⟨n, least, rfl, le, q⟩ := h
    refine ⟨_, (pss_one (ps_if (PW.pt (pw_or (pt_not (pt_val (pe_call G_is_whole (hr.mono (by decide)) (by rfl) T.m_is_whole T.F_is_whole.kp T.B_is_whole .nil pass0 (pa_cons (pv 0) pa_nil)))) (pw_or1 (pt_cmpR op_lt (pv 0) (pv 1) (nomark _))))) (pss_one ps_never) pss_nil)), ?_⟩
    refine ⟨_, rfl, .int n, .type "int", true, false, rfl, .base (.int n), kit_ty (by decide +kernel), fun _ => kit_ty (by decide +kernel), ?_⟩
    refine ⟨_, rfl, iteF ?_⟩
    refine ⟨_, rfl, _, rfl, _, _, rfl, rfl, _, rfl, ?_⟩
    exact ite2 (fun hc => absurd (of_decide_eq_true hc) (by omega)) (fun _ => q)
def spCk2 (A : Adr) : Sp := fun vs H Q _ => ∃ (r r2 : Addr) (b : Int) (k k2 : Kd) (ms ms2 : List Int) (most most2 : Int) (D D2 : RD), vs = [.ref r, .ref r2] ∧ RX A.c_Rule H r b k ms most D ∧ RX A.c_Rule H r2 b k2 ms2 most2 D2 ∧ Q .non H
abbrev nm_check_rules_of_one_base : List Str := ["one", "other"]
theorem sc_check_rules_of_one_base : FnScope ["one", "other"] ["one", "other"] (defScope s_check_rules_of_one_base) := ⟨rfl, rfl, rfl, by decide +kernel, rfl, by decide +kernel, by decide +kernel⟩
theorem ok_ck2 (T : Txt K mg A w) : FnOk P w K mg base CX0 3 A.a_check_rules_of_one_base A.d_check_rules_of_one_base ["one", "other"] (spCk2 A) := by
  have G_check_rule : FnOk P w K mg base CX0 1 A.a_check_rule A.d_check_rule ["rule"] (spCheck A) := ok_check T
  have G_Rule_base := ok_pb (P := P) (base := base) T
  refine T.F_check_rules_of_one_base.ok sc_check_rules_of_one_base (fun vs H Q E h => ?_) (fun cdv A0 outer s H vs Q E hr h => ?_)
  · obtain ⟨r, r2, b, k, k2, ms, ms2, most, most2, D, D2, rfl, _⟩ := h
    rfl
  · obtain ⟨r, r2, b, k, k2, ms, ms2, most, most2, D, D2, rfl, x, x2, q⟩ := h
    refine ⟨_, (pss_cons (ps_expr (pe_call G_check_rule (hr.mono (by decide)) (by rfl) T.m_check_rule T.F_check_rule.kp T.B_check_rule .nil pass0 (pa_cons (pv 0) pa_nil)))
  (pss_cons (ps_expr (pe_call G_check_rule (hr.mono (by decide)) (by rfl) T.m_check_rule T.F_check_rule.kp T.B_check_rule .nil pass0 (pa_cons (pv 1) pa_nil)))
  (pss_one (ps_if (pt_cmpR op_ne (pe_prop (pv 1) T.cl T.pr_Rule_base G_Rule_base (hr.mono (by decide)) T.B_Rule_base .nil pass0 rfl) (pe_prop (pv 0) T.cl T.pr_Rule_base G_Rule_base (hr.mono (by decide)) T.B_Rule_base .nil pass0 rfl) (nomark _)) (pss_one ps_never) pss_nil)))), ?_⟩
    refine ⟨_, rfl, r, b, k, ms, most, D, rfl, x, ?_⟩
    refine ⟨_, rfl, r2, b, k2, ms2, most2, D2, rfl, x2, ?_⟩
    refine ⟨_, rfl, r2, D2.dx, _, rfl, x2.at_, r2, b, k2, ms2, most2, D2, rfl, x2, ?_⟩
    refine ⟨_, rfl, r, D.dx, _, rfl, x.at_, r, b, k, ms, most, D, rfl, x, rfl, _, rfl, ?_⟩
    rw [decide_eq_true rfl]
    exact iteF q
/-! ### key_of, rule_of -/
def spKey (A : Adr) : Sp := fun vs H Q _ => ∃ (r : Addr) (b : Int) (k : Kd) (ms : List Int) (most : Int) (D : RD), vs = [.ref r] ∧ RX A.c_Rule H r b k ms most D ∧
  ∀ (H' : Hp) (q : Addr), Same H H' → H q = none → KyAt H' (k, D.ms', most) q → Q (.ref q) H'
abbrev nm_key_of : List Str := ["rule"]
theorem sc_key_of : FnScope ["rule"] ["rule"] (defScope s_key_of) := ⟨rfl, rfl, rfl, by decide +kernel, rfl, by decide +kernel, by decide +kernel⟩
theorem ok_key (T : Txt K mg A w) : FnOk P w K mg base CX0 3 A.a_key_of A.d_key_of ["rule"] (spKey A) := by
  have G_Rule_kind := ok_pk (P := P) (base := base) T
  have G_Rule_most := ok_pm (P := P) (base := base) T
  have G_Rule_mantissas := ok_pms (P := P) (base := base) T
  refine T.F_key_of.ok sc_key_of (fun vs H Q E h => ?_) (fun cdv A0 outer s H vs Q E hr h => ?_)
  · obtain ⟨r, b, k, ms, most, D, rfl, _⟩ := h
    rfl
  · obtain ⟨r, b, k, ms, most, D, rfl, x, q⟩ := h
    refine ⟨_, (pss_one (ps_ret (pe_tup (pa_cons (pe_prop (pv 0) T.cl T.pr_Rule_kind G_Rule_kind (hr.mono (by decide)) T.B_Rule_kind .nil pass0 rfl) (pa_cons (pe_callTy call_tuple_of (by rfl) T.n_tuple (by decide +kernel) (pa_cons (pe_prop (pv 0) T.cl T.pr_Rule_mantissas G_Rule_mantissas (hr.mono (by decide)) T.B_Rule_mantissas .nil pass0 rfl) pa_nil)) (pa_cons (pe_prop (pv 0) T.cl T.pr_Rule_most G_Rule_most (hr.mono (by decide)) T.B_Rule_most .nil pass0 rfl) pa_nil)))))), ?_⟩
    refine ⟨_, rfl, r, D.dx, _, rfl, x.at_, r, b, k, ms, most, D, rfl, x, ?_⟩
    refine ⟨_, rfl, r, D.dx, _, rfl, x.at_, r, b, k, ms, most, D, rfl, x, fun l hl => ?_⟩
    have a1 := same_new (o := .lst (D.ms'.map V.int)) hl
    refine ⟨l, _, rfl, .inl ⟨SqL.of upd_same, fun t ht => ?_⟩⟩
    have a2 := same_new (o := .tup (D.ms'.map V.int)) ht
    have x2 := x.same (a1.trans a2)
    refine ⟨_, rfl, r, D.dx, _, rfl, x2.at_, r, b, k, ms, most, D, rfl, x2, ?_⟩
    refine ⟨(by show 3 ≤ sizeLine; decide), fun q1 hq1 => ?_⟩
    have a3 := same_new (o := .tup [.str k.s, .ref t, .int most]) hq1
    exact q _ q1 ((a1.trans a2).trans a3) ((a1.trans a2).free hq1) ⟨t, upd_same, a3 _ _ upd_same⟩
def spRuleOf (A : Adr) : Sp := fun vs H Q _ => ∃ (a : Addr) (b : Int) (k : Ky), vs = [.int b, .ref a] ∧ KyAt H k a ∧ KyR b k ∧
  ∀ (H' : Hp) (r : Addr) (D : RD), Same H H' → H r = none → RX A.c_Rule H' r b k.1 k.2.1 k.2.2 D → Q (.ref r) H'
abbrev nm_rule_of : List Str := ["base", "key", "kind", "mantissas", "most"]
theorem sc_rule_of : FnScope ["base", "key", "kind", "mantissas", "most"] ["base", "key"] (defScope s_rule_of) := ⟨rfl, rfl, rfl, by decide +kernel, rfl, by decide +kernel, by decide +kernel⟩
theorem ok_ruleof (T : Txt K mg A w) : FnOk P w K mg base CX0 6 A.a_rule_of A.d_rule_of ["base", "key"] (spRuleOf A) := by
  have G_Rule_init : FnOk P w K mg base CX0 4 A.a_Rule_init A.d_Rule_init ["self", "base", "kind", "mantissas", "most"] (spInit A) := ok_init T
  refine T.F_rule_of.ok sc_rule_of (fun vs H Q E h => ?_) (fun cdv A0 outer s H vs Q E hr h => ?_)
  · obtain ⟨a, b, k, rfl, _⟩ := h
    rfl
  · obtain ⟨a, b, k, rfl, ⟨tm, h1, h2⟩, R, q⟩ := h
    refine ⟨_, (pss_cons (ps_asg (pv 1) (pg_tup (by rfl) (pgs_cons (pg_name (i := 2) sc_rule_of.nd rfl (Or.inl rfl)) (pgs_cons (pg_name (i := 3) sc_rule_of.nd rfl (Or.inl rfl)) (pgs_cons (pg_name (i := 4) sc_rule_of.nd rfl (Or.inl rfl)) pgs_nil)))))
  (pss_one (ps_ret (pe_make T.mk_Rule G_Rule_init (hr.mono (by decide)) (by rfl) T.c_Rule T.B_Rule_init .nil pass0 (pa_cons (pv 0) (pa_cons (pv 2) (pa_cons (pe_callTy (clist K) (by rfl) T.n_list (by decide +kernel) (pa_cons (pv 3) pa_nil)) (pa_cons (pv 4) pa_nil)))))))), ?_⟩
    refine ⟨_, rfl, a, _, rfl, SqT.of h1, rfl, _, _, rfl, _, _, rfl, _, _, rfl, rfl, ?_⟩
    refine norm2 (σ' := [some (.int b), some (.ref a), some (.str k.1.s), some (.ref tm), some (.int k.2.2)]) rfl ?_
    refine ⟨_, rfl, _, rfl, _, rfl, tm, _, rfl, .inr (SqT.of h2), fun l9 hl9 => ?_⟩
    have s8 : Same H (upd H l9 (.lst (k.2.1.map V.int))) := same_new hl9
    refine ⟨_, rfl, fun x dx nx ndx nex => ?_⟩
    generalize hH8 : upd H l9 (.lst (k.2.1.map V.int)) = H8 at s8 nx ndx ⊢
    have l98 : H8 l9 = some (.lst (k.2.1.map V.int)) := by rw [← hH8]; exact upd_same
    have s9 : Same H8 (upd (upd H8 dx (.own x)) x (.ins A.c_Rule dx [])) := (same_new ndx).trans (same_new (by rw [upd_ne nex.symm]; exact nx))
    refine ⟨x, dx, l9, b, k.1, k.2.1, k.2.2, rfl, upd_same, s9 _ _ l98, R, fun H10 D kept X10 n1 n2 => ⟨rfl, ?_⟩⟩
    have s10 : Same H H10 := fun c o e => kept c o (ne_of_none (s8 _ _ e) nx) (s9 _ _ (s8 _ _ e))
    exact q H10 x D s10 (s8.free nx) X10
/-! ### compare_steps -/
def dgZ (p1 p2 : Int) : Int := if -(if p2 < p1 then p2 else p1) > 0 then -(if p2 < p1 then p2 else p1) else 0
def spCmpS : Sp := fun vs H Q _ => ∃ (s1 s2 : Addr) (b m1 p1 m2 p2 : Int), vs = [.int b, .ref s1, .ref s2] ∧ H s1 = some (.tup [.int m1, .int p1]) ∧ H s2 = some (.tup [.int m2, .int p2]) ∧ 1 ≤ b ∧ b < BIG ∧ 0 ≤ m1 ∧ m1 < BIG ∧ 0 ≤ m2 ∧ m2 < BIG ∧
  b ^ (p1 + dgZ p1 p2).natAbs < BIG ∧ b ^ (p2 + dgZ p1 p2).natAbs < BIG ∧
  ∀ (H' : Hp) (q : Addr), Same H H' → H q = none → H' q = some (.tup [.int (sizZ b m1 (p1 + dgZ p1 p2)), .int (sizZ b m2 (p2 + dgZ p1 p2))]) → Q (.ref q) H'
abbrev nm_compare_steps : List Str := ["base", "one", "other", "digits"]
theorem sc_compare_steps : FnScope ["base", "one", "other", "digits"] ["base", "one", "other"] (defScope s_compare_steps) := ⟨rfl, rfl, rfl, by decide +kernel, rfl, by decide +kernel, by decide +kernel⟩
theorem ok_cmps (T : Txt K mg A w) : FnOk P w K mg base CX0 3 A.a_compare_steps A.d_compare_steps ["base", "one", "other"] spCmpS := by
  have G_measure : FnOk P w K mg base CX0 2 A.a_measure A.d_measure ["base", "step", "digits"] (spMeasure K) := ok_measure T
  refine T.F_compare_steps.ok sc_compare_steps (fun vs H Q E h => ?_) (fun cdv A0 outer s H vs Q E hr h => ?_)
  · obtain ⟨s1, s2, b, m1, p1, m2, p2, rfl, _⟩ := h
    rfl
  · obtain ⟨s1, s2, b, m1, p1, m2, p2, rfl, h1, h2, b1, bB, m10, m1B, m20, m2B, B1, B2, q⟩ := h
    refine ⟨_, (pss_cons (ps_set (i := 3) sc_compare_steps.nd rfl (Or.inl rfl) (pe_callB (call_max2 rfl) (by rfl) T.n_max (by decide +kernel) (pa_cons pe_int (pa_cons (pe_un un_neg (pe_callB (call_min2 rfl) (by rfl) T.n_min (by decide +kernel) (pa_cons (pe_callTy call_int1 (by rfl) T.n_int (by decide +kernel) (pa_cons (pe_ix ix_tup (pv 1) pe_int (fun _ _ => rfl)) pa_nil)) (pa_cons (pe_ix ix_tup (pv 2) pe_int (fun _ _ => rfl)) pa_nil)))) pa_nil))))
  (pss_one (ps_ret (pe_tup (pa_cons (pe_ix ix_tup (pe_call G_measure (hr.mono (by decide)) (by rfl) T.m_measure T.F_measure.kp T.B_measure .nil pass0 (pa_cons (pv 0) (pa_cons (pv 1) (pa_cons (pv 3) pa_nil)))) pe_int (fun _ _ => rfl)) (pa_cons (pe_ix ix_tup (pe_call G_measure (hr.mono (by decide)) (by rfl) T.m_measure T.F_measure.kp T.B_measure .nil pass0 (pa_cons (pv 0) (pa_cons (pv 2) (pa_cons (pv 3) pa_nil)))) pe_int (fun _ _ => rfl)) pa_nil)))))), ?_⟩
    refine ⟨_, rfl, s1, _, _, _, rfl, rfl, SqT.of h1, atL (j := 1) rfl, .inl ⟨_, rfl, _, rfl, s2, _, _, _, rfl, rfl, SqT.of h2, atL (j := 1) rfl, _, _, rfl, _, rfl, _, _, rfl, ?_⟩⟩
    refine gN (σ' := [some (.int b), some (.ref s1), some (.ref s2), some (.int (dgZ p1 p2))]) rfl ?_
    refine ⟨_, rfl, _, rfl, _, rfl, b, m1, p1, dgZ p1 p2, s1, rfl, SqT.of h1, b1, bB, B1, m10, m1B, fun H1 q1 sm1 q10 e1 => ?_⟩
    have hq1 : H1 q1 = some (.tup [.int (facZ b (p1 + dgZ p1 p2)), .int (sizZ b m1 (p1 + dgZ p1 p2))]) := by rw [e1]; exact upd_same
    refine ⟨q1, _, _, _, rfl, rfl, SqT.of hq1, atL (j := 1) rfl, ?_⟩
    refine ⟨_, rfl, _, rfl, _, rfl, b, m2, p2, dgZ p1 p2, s2, rfl, SqT.of (sm1 _ _ h2), b1, bB, B2, m20, m2B, fun H2 q2 sm2 q20 e2 => ?_⟩
    have hq2 : H2 q2 = some (.tup [.int (facZ b (p2 + dgZ p1 p2)), .int (sizZ b m2 (p2 + dgZ p1 p2))]) := by rw [e2]; exact upd_same
    refine ⟨q2, _, _, _, rfl, rfl, SqT.of hq2, atL (j := 1) rfl, (by show 2 ≤ sizeLine; decide), fun q3 hq3 => ?_⟩
    have s12 := sm1.trans sm2
    exact q _ q3 (s12.trans (same_new hq3)) (s12.free hq3) upd_same
/-! ### the functions that make sets -/
def spCtd (A : Adr) : Sp := fun vs H Q _ => ∃ (r : Addr) (b : Int) (k : Kd) (ms : List Int) (most : Int) (D : RD) (lst : Int) (mst : Option Int), vs = [.ref r, .int lst, optV mst] ∧ RX A.c_Rule H r b k ms most D ∧ 0 ≤ lst ∧ (∀ z, mst = some z → 0 ≤ z) ∧
  ∀ (H' : Hp) (q dx fa : Addr), Same H H' → H q = none → SetAt A.c_RangeSet H' q b (.counted (k, D.ms', most) lst mst) dx fa → Q (.ref q) H'
abbrev nm_counted : List Str := ["rule", "least", "most"]
theorem sc_counted : FnScope ["rule", "least", "most"] ["rule", "least", "most"] (defScope s_counted) := ⟨rfl, rfl, rfl, by decide +kernel, rfl, by decide +kernel, by decide +kernel⟩
theorem ok_ctd (T : Txt K mg A w) : FnOk P w K mg base CX0 5 A.a_counted A.d_counted ["rule", "least", "most"] (spCtd A) := by
  have G_check_rule : FnOk P w K mg base CX0 1 A.a_check_rule A.d_check_rule ["rule"] (spCheck A) := ok_check T
  have G_check_number : FnOk P w K mg base CX0 2 A.a_check_number A.d_check_number ["number", "least"] spCkN := ok_ckn T
  have G_key_of : FnOk P w K mg base CX0 3 A.a_key_of A.d_key_of ["rule"] (spKey A) := ok_key T
  have G_RangeSet_init : FnOk P w K mg base CX0 1 A.a_RangeSet_init A.d_RangeSet_init ["self", "base", "formula"] (spRInit A) := ok_rinit T
  have G_Rule_base := ok_pb (P := P) (base := base) T
  refine FunD.okN T.F_counted sc_counted (fun vs H Q E h => ?_) (fun cdv A0 outer s H vs Q E hr h => ?_)
  · obtain ⟨r, b, k, ms, most, D, lst, mst, rfl, _⟩ := h
    rfl
  · obtain ⟨r, b, k, ms, most, D, lst, mst, rfl, x, l0, mz, q⟩ := h
    refine ⟨_, (pss_cons (ps_expr (pe_call G_check_rule (hr.mono (by decide)) (by rfl) T.m_check_rule T.F_check_rule.kp T.B_check_rule .nil pass0 (pa_cons (pv 0) pa_nil)))
  (pss_cons (ps_expr (pe_call G_check_number (hr.mono (by decide)) (by rfl) T.m_check_number T.F_check_number.kp T.B_check_number .nil pass0 (pa_cons (pv 1) (pa_cons pe_int pa_nil))))
  (Evl.pss_cut (ps_if (pt_cmpR op_notN (pv 2) pe_non (nomark _)) (pss_one (ps_expr (pe_call G_check_number (hr.mono (by decide)) (by rfl) T.m_check_number T.F_check_number.kp T.B_check_number .nil pass0 (pa_cons (pv 2) (pa_cons pe_int pa_nil))))) pss_nil)
  (pss_one (ps_ret (pe_make T.mk_RangeSet G_RangeSet_init (hr.mono (by decide)) (by rfl) T.c_RangeSet T.B_RangeSet_init .nil pass0 (pa_cons (pe_prop (pv 0) T.cl T.pr_Rule_base G_Rule_base (hr.mono (by decide)) T.B_Rule_base .nil pass0 rfl) (pa_cons (pe_tup (pa_cons pe_str (pa_cons (pe_call G_key_of (hr.mono (by decide)) (by rfl) T.m_key_of T.F_key_of.kp T.B_key_of .nil pass0 (pa_cons (pv 0) pa_nil)) (pa_cons (pv 1) (pa_cons (pv 2) pa_nil))))) pa_nil)))))))), ?_⟩
    refine ⟨_, rfl, r, b, k, ms, most, D, rfl, x, ?_⟩
    refine ⟨_, rfl, lst, 0, rfl, l0, ?_⟩
    refine ⟨fun σ H1 => σ = [some (.ref r), some (.int lst), some (optV mst)] ∧ H1 = H, ?_, ?_⟩
    · cases mst with
      | none =>
        refine ⟨_, rfl, rfl, _, rfl, ?_⟩
        refine iteF ⟨rfl, rfl⟩
      | some z =>
        refine ⟨_, rfl, rfl, _, rfl, ?_⟩
        refine iteT ⟨_, rfl, z, 0, rfl, mz z rfl, rfl, rfl⟩
    · rintro σ H1 ⟨rfl, rfl⟩
      refine ⟨_, rfl, r, D.dx, _, rfl, x.at_, r, b, k, ms, most, D, rfl, x, ?_⟩
      refine ⟨_, rfl, r, b, k, ms, most, D, rfl, x, fun H2 kq s2 _ hk => ?_⟩
      refine ⟨_, rfl, _, rfl, (by show 4 ≤ sizeLine; decide), fun fa hfa => ?_⟩
      have a3 := same_new (o := .tup [.str "counted", .ref kq, .int lst, optV mst]) hfa
      have F : FmAt (upd H2 fa (.tup [.str "counted", .ref kq, .int lst, optV mst])) (.counted (k, D.ms', most) lst mst) fa := ⟨kq, upd_same, hk.same a3⟩
      intro y dx nx ndx nex
      refine ⟨y, dx, fa, b, rfl, upd_same, fun H4 kept h4 => ⟨rfl, ?_⟩⟩
      obtain ⟨s4, S4⟩ := set_new nx ndx nex F kept h4
      exact q H4 y dx fa (s2.trans (a3.trans s4)) ((s2.trans a3).free nx) S4
def spTkn (A : Adr) : Sp := fun vs H Q _ => ∃ (r : Addr) (b : Int) (k : Kd) (ms : List Int) (most : Int) (D : RD) (m : Int), vs = [.ref r, .int m] ∧ RX A.c_Rule H r b k ms most D ∧ m ∈ ms ∧
  ∀ (H' : Hp) (q dx fa : Addr), Same H H' → H q = none → SetAt A.c_RangeSet H' q b (.taken (k, D.ms', most) m) dx fa → Q (.ref q) H'
abbrev nm_taken : List Str := ["rule", "mantissa"]
theorem sc_taken : FnScope ["rule", "mantissa"] ["rule", "mantissa"] (defScope s_taken) := ⟨rfl, rfl, rfl, by decide +kernel, rfl, by decide +kernel, by decide +kernel⟩
theorem ok_tkn (T : Txt K mg A w) : FnOk P w K mg base CX0 5 A.a_taken A.d_taken ["rule", "mantissa"] (spTkn A) := by
  have G_check_rule : FnOk P w K mg base CX0 1 A.a_check_rule A.d_check_rule ["rule"] (spCheck A) := ok_check T
  have G_is_whole : FnOk P w K mg base CX0 1 A.a_is_whole A.d_is_whole ["value"] (spWhole K) := ok_is_whole T
  have G_key_of : FnOk P w K mg base CX0 3 A.a_key_of A.d_key_of ["rule"] (spKey A) := ok_key T
  have G_RangeSet_init : FnOk P w K mg base CX0 1 A.a_RangeSet_init A.d_RangeSet_init ["self", "base", "formula"] (spRInit A) := ok_rinit T
  have G_Rule_base := ok_pb (P := P) (base := base) T
  have G_Rule_mantissas := ok_pms (P := P) (base := base) T
  refine T.F_taken.ok sc_taken (fun vs H Q E h => ?_) (fun cdv A0 outer s H vs Q E hr h => ?_)
  · obtain ⟨r, b, k, ms, most, D, m, rfl, _⟩ := h
    rfl
  · obtain ⟨r, b, k, ms, most, D, m, rfl, x, hm, q⟩ := h
    refine ⟨_, (pss_cons (ps_expr (pe_call G_check_rule (hr.mono (by decide)) (by rfl) T.m_check_rule T.F_check_rule.kp T.B_check_rule .nil pass0 (pa_cons (pv 0) pa_nil)))
  (pss_cons (ps_if (PW.pt (pw_or (pt_not (pt_val (pe_call G_is_whole (hr.mono (by decide)) (by rfl) T.m_is_whole T.F_is_whole.kp T.B_is_whole .nil pass0 (pa_cons (pv 1) pa_nil)))) (pw_or1 (pt_cmpR op_notIn_seq (pv 1) (pe_prop (pv 0) T.cl T.pr_Rule_mantissas G_Rule_mantissas (hr.mono (by decide)) T.B_Rule_mantissas .nil pass0 rfl) (by rfl))))) (pss_one ps_never) pss_nil)
  (pss_one (ps_ret (pe_make T.mk_RangeSet G_RangeSet_init (hr.mono (by decide)) (by rfl) T.c_RangeSet T.B_RangeSet_init .nil pass0 (pa_cons (pe_prop (pv 0) T.cl T.pr_Rule_base G_Rule_base (hr.mono (by decide)) T.B_Rule_base .nil pass0 rfl) (pa_cons (pe_tup (pa_cons pe_str (pa_cons (pe_call G_key_of (hr.mono (by decide)) (by rfl) T.m_key_of T.F_key_of.kp T.B_key_of .nil pass0 (pa_cons (pv 0) pa_nil)) (pa_cons (pv 1) pa_nil)))) pa_nil))))))), ?_⟩
    refine ⟨_, rfl, r, b, k, ms, most, D, rfl, x, ?_⟩
    refine ⟨_, rfl, .int m, .type "int", true, false, rfl, .base (.int m), kit_ty (by decide +kernel), fun _ => kit_ty (by decide +kernel), ?_⟩
    refine ⟨_, rfl, iteF ?_⟩
    refine ⟨_, rfl, _, rfl, r, D.dx, _, rfl, x.at_, r, b, k, ms, most, D, rfl, x, fun l hl => ?_⟩
    have a1 := same_new (o := .lst (D.ms'.map V.int)) hl
    refine ⟨l, _, rfl, .inl (SqL.of upd_same), rfl, flat_ints _, _, rfl, ?_⟩
    rw [if_pos rfl, inV_ints (x.pm.mem_iff.mpr hm)]
    refine iteF ?_
    have x1 := x.same a1
    refine ⟨_, rfl, r, D.dx, _, rfl, x1.at_, r, b, k, ms, most, D, rfl, x1, ?_⟩
    refine ⟨_, rfl, r, b, k, ms, most, D, rfl, x1, fun H2 kq s2 _ hk => ?_⟩
    refine ⟨_, rfl, (by show 3 ≤ sizeLine; decide), fun fa hfa => ?_⟩
    have a3 := same_new (o := .tup [.str "taken", .ref kq, .int m]) hfa
    have F : FmAt (upd H2 fa (.tup [.str "taken", .ref kq, .int m])) (.taken (k, D.ms', most) m) fa := ⟨kq, upd_same, hk.same a3⟩
    intro y dx nx ndx nex
    refine ⟨y, dx, fa, b, rfl, upd_same, fun H4 kept h4 => ⟨rfl, ?_⟩⟩
    obtain ⟨s4, S4⟩ := set_new nx ndx nex F kept h4
    exact q H4 y dx fa (a1.trans (s2.trans (a3.trans s4))) ((a1.trans (s2.trans a3)).free nx) S4
/-! ### coarser -/
def spFac : Sp := fun vs H Q _ => ∃ (t : Addr) (n o : Int), vs = [.ref t] ∧ H t = some (.tup [.int n, .int o]) ∧ 1 ≤ n ∧ 1 ≤ o ∧ ∀ H', Same H H' → Q (.bl true) H'
abbrev nm_is_factor : List Str := ["times", "number"]
theorem sc_is_factor : FnScope ["times", "number"] ["times"] (defScope s_is_factor) := ⟨rfl, rfl, rfl, by decide +kernel, rfl, by decide +kernel, by decide +kernel⟩
theorem ok_fac (T : Txt K mg A w) : FnOk P w K mg base CX0 2 A.a_is_factor A.d_is_factor ["times"] spFac := by
  have G_is_whole : FnOk P w K mg base CX0 1 A.a_is_whole A.d_is_whole ["value"] (spWhole K) := ok_is_whole T
  refine T.F_is_factor.ok sc_is_factor (fun vs H Q E h => ?_) (fun cdv A0 outer s H vs Q E hr h => ?_)
  · obtain ⟨t, n, o, rfl, _⟩ := h
    rfl
  · obtain ⟨t, n, o, rfl, ht, n1, o1, q⟩ := h
    refine ⟨_, (pss_cons (ps_if (PW.pt (pw_or (pt_not (pt_val (pe_callB call_isi (by rfl) T.n_isinstance (by decide +kernel) (pa_cons (pv 0) (pa_cons (pe_bltn (v := .ty "tuple") (by rfl) T.n_tuple (by decide +kernel) rfl) pa_nil))))) (pw_or1 (pt_cmpR op_ne (pe_callB call_len_seq (by rfl) T.n_len (by decide +kernel) (pa_cons (pv 0) pa_nil)) pe_int (nomark _))))) (pss_one (ps_ret pe_bl)) pss_nil)
  (pss_one (ps_ret (pe_callB (cr_all rfl) (by rfl) T.n_all (by decide +kernel) (pa_cons (pe_lc (own := [("number", 1)]) (g := gName 1) (tt := tYes) rfl sc_is_factor.nd (pi_tup (pv 0)) (blkOk_by (own := [("number", 1)]) (N := nm_is_factor) (sc := defScope s_is_factor) (by decide +kernel)) (fun _ _ _ _ _ => (pg_name (i := 1) sc_is_factor.nd rfl (Or.inl rfl))) (fun _ _ _ _ _ => pts_nil) (fun _ _ _ _ _ => (pe_and (pe_call G_is_whole (hr.mono (by decide)) (by rfl) T.m_is_whole T.F_is_whole.kp T.B_is_whole .nil pass0 (pa_cons (pv 1) pa_nil)) (pe_one (pe_cmpR op_ge (pv 1) pe_int (nomark _)))))) pa_nil))))), ?_⟩
    refine ⟨_, rfl, _, .ty "tuple", .type "tuple", .type "tuple", true, rfl, .ty _, .base (.tup ht), kit_ty (by decide +kernel), true, rfl, ?_⟩
    refine iteF ?_
    refine ⟨_, rfl, t, _, rfl, .inr (SqT.of ht), rfl, _, rfl, ?_⟩
    refine iteF ?_
    refine ⟨_, rfl, t, rfl, ⟨_, SqT.of ht⟩, fun D hD => lc_tup (K := K) (a := t) (xs := [.int n, .int o]) (fun i H' => H' = upd H D (.lst (List.replicate i (.bl true)))) rfl ?_ ?_ ?_⟩
    · rintro i H' _ rfl
      exact SqT.of (by rw [upd_ne (ne_of_none ht hD)]; exact ht)
    · rintro i x H' hi rfl
      obtain ⟨z, rfl, z1⟩ : ∃ z, x = V.int z ∧ 1 ≤ z := by
        match i, hi with
        | 0, hi => exact ⟨n, (Option.some.inj hi).symm, n1⟩
        | 1, hi => exact ⟨o, (Option.some.inj hi).symm, o1⟩
      refine ⟨rfl, yes_of ?_⟩
      refine ⟨_, rfl, .int z, .type "int", true, false, rfl, .base (.int z), kit_ty (by decide +kernel), fun _ => kit_ty (by decide +kernel), ?_⟩
      refine ⟨true, rfl, iteT ?_⟩
      refine ⟨_, rfl, _, _, rfl, rfl, ?_⟩
      have hi3 : i < 2 := (List.getElem?_eq_some_iff.mp hi).1
      refine ⟨_, upd_same, ?_, ?_⟩
      · rw [List.length_replicate]
        exact small1000 (by omega)
      · show upd (upd H D (.lst (List.replicate i (.bl true)))) D (.lst (List.replicate i (.bl true) ++ [.bl (decide (1 ≤ z))])) = _
        rw [upd_upd, List.replicate_succ', decide_eq_true z1]
    · rintro H' rfl
      refine ⟨D, [true, true], rfl, SqL.of upd_same, ?_⟩
      exact q _ (same_new hD)
def spCrs (A : Adr) : Sp := fun vs H Q _ => ∃ (r r2 t : Addr) (b : Int) (k k2 : Kd) (ms ms2 : List Int) (most most2 : Int) (D D2 : RD) (n o : Int), vs = [.ref r, .ref r2, .ref t] ∧ RX A.c_Rule H r b k ms most D ∧ RX A.c_Rule H r2 b k2 ms2 most2 D2 ∧ H t = some (.tup [.int n, .int o]) ∧ 1 ≤ n ∧ 1 ≤ o ∧
  ∀ (H' : Hp) (q dx fa : Addr), Same H H' → H q = none → SetAt A.c_RangeSet H' q b (.coarser (k, D.ms', most) (k2, D2.ms', most2) n o) dx fa → Q (.ref q) H'
abbrev nm_coarser : List Str := ["one", "other", "times"]
theorem sc_coarser : FnScope ["one", "other", "times"] ["one", "other", "times"] (defScope s_coarser) := ⟨rfl, rfl, rfl, by decide +kernel, rfl, by decide +kernel, by decide +kernel⟩
theorem ok_crs (T : Txt K mg A w) : FnOk P w K mg base CX0 5 A.a_coarser A.d_coarser ["one", "other", "times"] (spCrs A) := by
  have G_check_rules_of_one_base : FnOk P w K mg base CX0 3 A.a_check_rules_of_one_base A.d_check_rules_of_one_base ["one", "other"] (spCk2 A) := ok_ck2 T
  have G_is_factor : FnOk P w K mg base CX0 2 A.a_is_factor A.d_is_factor ["times"] spFac := ok_fac T
  have G_key_of : FnOk P w K mg base CX0 3 A.a_key_of A.d_key_of ["rule"] (spKey A) := ok_key T
  have G_RangeSet_init : FnOk P w K mg base CX0 1 A.a_RangeSet_init A.d_RangeSet_init ["self", "base", "formula"] (spRInit A) := ok_rinit T
  have G_Rule_base := ok_pb (P := P) (base := base) T
  refine FunD.okN T.F_coarser sc_coarser (fun vs H Q E h => ?_) (fun cdv A0 outer s H vs Q E hr h => ?_)
  · obtain ⟨r, r2, t, b, k, k2, ms, ms2, most, most2, D, D2, n, o, rfl, _⟩ := h
    rfl
  · obtain ⟨r, r2, t, b, k, k2, ms, ms2, most, most2, D, D2, n, o, rfl, x, x2, ht, n1, o1, q⟩ := h
    refine ⟨_, (pss_cons (ps_expr (pe_call G_check_rules_of_one_base (hr.mono (by decide)) (by rfl) T.m_check_rules_of_one_base T.F_check_rules_of_one_base.kp T.B_check_rules_of_one_base .nil pass0 (pa_cons (pv 0) (pa_cons (pv 1) pa_nil))))
  (pss_cons (ps_if (pt_not (pt_val (pe_call G_is_factor (hr.mono (by decide)) (by rfl) T.m_is_factor T.F_is_factor.kp T.B_is_factor .nil pass0 (pa_cons (pv 2) pa_nil)))) (pss_one ps_never) pss_nil)
  (pss_one (ps_ret (pe_make T.mk_RangeSet G_RangeSet_init (hr.mono (by decide)) (by rfl) T.c_RangeSet T.B_RangeSet_init .nil pass0 (pa_cons (pe_prop (pv 0) T.cl T.pr_Rule_base G_Rule_base (hr.mono (by decide)) T.B_Rule_base .nil pass0 rfl) (pa_cons (pe_tup (pa_cons pe_str (pa_cons (pe_call G_key_of (hr.mono (by decide)) (by rfl) T.m_key_of T.F_key_of.kp T.B_key_of .nil pass0 (pa_cons (pv 0) pa_nil)) (pa_cons (pe_call G_key_of (hr.mono (by decide)) (by rfl) T.m_key_of T.F_key_of.kp T.B_key_of .nil pass0 (pa_cons (pv 1) pa_nil)) (pa_cons (pe_ix ix_tup (pv 2) pe_int (fun _ _ => rfl)) (pa_cons (pe_ix ix_tup (pv 2) pe_int (fun _ _ => rfl)) pa_nil)))))) pa_nil))))))), ?_⟩
    refine ⟨_, rfl, _, rfl, r, r2, b, k, k2, ms, ms2, most, most2, D, D2, rfl, x, x2, ?_⟩
    refine ⟨_, rfl, t, n, o, rfl, ht, n1, o1, fun H1 s1 => ⟨_, rfl, iteF ?_⟩⟩
    have y1 := x.same s1
    refine ⟨_, rfl, r, D.dx, _, rfl, y1.at_, r, b, k, ms, most, D, rfl, y1, ?_⟩
    refine ⟨_, rfl, r, b, k, ms, most, D, rfl, y1, fun H2 kq s2 _ hk => ?_⟩
    refine ⟨_, rfl, r2, b, k2, ms2, most2, D2, rfl, x2.same (s1.trans s2), fun H3 kq2 s3 _ hk2 => ?_⟩
    have ht3 := (s1.trans (s2.trans s3)) _ _ ht
    refine ⟨_, rfl, t, _, _, _, rfl, rfl, SqT.of ht3, atL (j := 0) rfl, _, rfl, t, _, _, _, rfl, rfl, SqT.of ht3, atL (j := 1) rfl, (by show 5 ≤ sizeLine; decide), fun fa hfa => ?_⟩
    have a3 := same_new (o := .tup [.str "coarser", .ref kq, .ref kq2, .int n, .int o]) hfa
    have F : FmAt (upd H3 fa (.tup [.str "coarser", .ref kq, .ref kq2, .int n, .int o])) (.coarser (k, D.ms', most) (k2, D2.ms', most2) n o) fa := ⟨kq, kq2, upd_same, (hk.same s3).same a3, hk2.same a3⟩
    intro y dx nx ndx nex
    refine ⟨y, dx, fa, b, rfl, upd_same, fun H4 kept h4 => ⟨rfl, ?_⟩⟩
    obtain ⟨s4, S4⟩ := set_new nx ndx nex F kept h4
    have sA := s1.trans (s2.trans (s3.trans a3))
    exact q H4 y dx fa (sA.trans s4) (sA.free nx) S4
/-! ### touched -/
def spTch (A : Adr) : Sp := fun vs H Q _ => ∃ (r : Addr) (b : Int) (k : Kd) (ms : List Int) (most : Int) (D : RD) (low : Bool), vs = [.ref r, .str (if low then "low" else "high")] ∧ RX A.c_Rule H r b k ms most D ∧
  ∀ (H' : Hp) (q dx fa : Addr), Same H H' → H q = none → SetAt A.c_RangeSet H' q b (.touched (k, D.ms', most) low) dx fa → Q (.ref q) H'
abbrev nm_touched : List Str := ["rule", "end"]
theorem sc_touched : FnScope ["rule", "end"] ["rule", "end"] (defScope s_touched) := ⟨rfl, rfl, rfl, by decide +kernel, rfl, by decide +kernel, by decide +kernel⟩
theorem ok_tch (T : Txt K mg A w) : FnOk P w K mg base CX0 5 A.a_touched A.d_touched ["rule", "end"] (spTch A) := by
  have G_check_rule : FnOk P w K mg base CX0 1 A.a_check_rule A.d_check_rule ["rule"] (spCheck A) := ok_check T
  have G_key_of : FnOk P w K mg base CX0 3 A.a_key_of A.d_key_of ["rule"] (spKey A) := ok_key T
  have G_RangeSet_init : FnOk P w K mg base CX0 1 A.a_RangeSet_init A.d_RangeSet_init ["self", "base", "formula"] (spRInit A) := ok_rinit T
  have G_Rule_base := ok_pb (P := P) (base := base) T
  refine T.F_touched.ok sc_touched (fun vs H Q E h => ?_) (fun cdv A0 outer s H vs Q E hr h => ?_)
  · obtain ⟨r, b, k, ms, most, D, low, rfl, _⟩ := h
    rfl
  · obtain ⟨r, b, k, ms, most, D, low, rfl, x, q⟩ := h
    refine ⟨_, (pss_cons (ps_expr (pe_call G_check_rule (hr.mono (by decide)) (by rfl) T.m_check_rule T.F_check_rule.kp T.B_check_rule .nil pass0 (pa_cons (pv 0) pa_nil)))
  (pss_cons (ps_if (PW.pt (pw_or (pt_not (pt_val (pe_callB call_isi (by rfl) T.n_isinstance (by decide +kernel) (pa_cons (pv 1) (pa_cons (pe_bltn (v := .ty "str") (by rfl) T.n_str (by decide +kernel) rfl) pa_nil))))) (pw_or1 (pt_cmpR op_notIn_seq (pv 1) (pe_tup (pa_cons pe_str (pa_cons pe_str pa_nil))) (by rfl))))) (pss_one ps_never) pss_nil)
  (pss_one (ps_ret (pe_make T.mk_RangeSet G_RangeSet_init (hr.mono (by decide)) (by rfl) T.c_RangeSet T.B_RangeSet_init .nil pass0 (pa_cons (pe_prop (pv 0) T.cl T.pr_Rule_base G_Rule_base (hr.mono (by decide)) T.B_Rule_base .nil pass0 rfl) (pa_cons (pe_tup (pa_cons pe_str (pa_cons (pe_call G_key_of (hr.mono (by decide)) (by rfl) T.m_key_of T.F_key_of.kp T.B_key_of .nil pass0 (pa_cons (pv 0) pa_nil)) (pa_cons (pv 1) pa_nil)))) pa_nil))))))), ?_⟩
    refine ⟨_, rfl, r, b, k, ms, most, D, rfl, x, ?_⟩
    refine ⟨_, rfl, _, .ty "str", .type "str", .type "str", true, rfl, .ty _, .base (.str _), kit_ty (by decide +kernel), true, rfl, ?_⟩
    refine iteF ?_
    refine ⟨_, rfl, (by show 2 ≤ sizeLine; decide), fun t0 ht0 => ?_⟩
    have a1 := same_new (o := .tup [.str "low", .str "high"]) ht0
    refine ⟨t0, _, rfl, .inr (SqT.of upd_same), rfl, rfl, _, rfl, ?_⟩
    have ein : inV (.str (if low then "low" else "high")) [.str "low", .str "high"] = true := by cases low <;> decide +kernel
    rw [if_pos rfl, ein]
    refine iteF ?_
    have x1 := x.same a1
    refine ⟨_, rfl, r, D.dx, _, rfl, x1.at_, r, b, k, ms, most, D, rfl, x1, ?_⟩
    refine ⟨_, rfl, r, b, k, ms, most, D, rfl, x1, fun H2 kq s2 _ hk => ?_⟩
    refine ⟨_, rfl, (by show 3 ≤ sizeLine; decide), fun fa hfa => ?_⟩
    have a3 := same_new (o := .tup [.str "touched", .ref kq, .str (if low then "low" else "high")]) hfa
    have F : FmAt (upd H2 fa (.tup [.str "touched", .ref kq, .str (if low then "low" else "high")])) (.touched (k, D.ms', most) low) fa := ⟨kq, upd_same, hk.same a3⟩
    intro y dx nx ndx nex
    refine ⟨y, dx, fa, b, rfl, upd_same, fun H4 kept h4 => ⟨rfl, ?_⟩⟩
    obtain ⟨s4, S4⟩ := set_new nx ndx nex F kept h4
    have sA := a1.trans (s2.trans a3)
    exact q H4 y dx fa (sA.trans s4) (sA.free nx) S4
end
end Ax

namespace Ax
open PySem L2
section
variable {P : Program} {w : World} {K : PySem.W.Frag} {mg : Str → Option Value} {base : Heap} {A : Adr}
/-! ### RangeSet.every -/
def spEvery (A : Adr) : Sp := fun vs H Q _ => ∃ (b : Int), vs = [.ref A.c_RangeSet, .int b] ∧ 2 ≤ b ∧
  ∀ (H' : Hp) (q dx fa : Addr), Same H H' → H q = none → SetAt A.c_RangeSet H' q b .all dx fa → Q (.ref q) H'
abbrev nm_RangeSet_every : List Str := ["cls", "base"]
theorem sc_RangeSet_every : FnScope ["cls", "base"] ["cls", "base"] (defScope s_RangeSet_every) := ⟨rfl, rfl, rfl, by decide +kernel, rfl, by decide +kernel, by decide +kernel⟩
theorem ok_every (T : Txt K mg A w) : FnOk P w K mg base CX0 4 A.a_every A.d_every ["cls", "base"] (spEvery A) := by
  have G_is_base : FnOk P w K mg base CX0 2 A.a_is_base A.d_is_base ["value"] spBase := ok_is_base T
  have G_RangeSet_init : FnOk P w K mg base CX0 1 A.a_RangeSet_init A.d_RangeSet_init ["self", "base", "formula"] (spRInit A) := ok_rinit T
  refine T.F_every.ok sc_RangeSet_every (fun vs H Q E h => ?_) (fun cdv A0 outer s H vs Q E hr h => ?_)
  · obtain ⟨b, rfl, _⟩ := h
    rfl
  · obtain ⟨b, rfl, b2, q⟩ := h
    refine ⟨_, (pss_cons (ps_if (pt_not (pt_val (pe_call G_is_base (hr.mono (by decide)) (by rfl) T.m_is_base T.F_is_base.kp T.B_is_base .nil pass0 (pa_cons (pv 1) pa_nil)))) (pss_one ps_never) pss_nil)
  (pss_one (ps_ret (pe_makeL (i := 0) T.mk_RangeSet G_RangeSet_init (hr.mono (by decide)) rfl (Or.inl rfl) T.B_RangeSet_init .nil pass0 (pa_cons (pv 1) (pa_cons (pe_tup (pa_cons pe_str pa_nil)) pa_nil)))))), ?_⟩
    refine ⟨_, rfl, b, rfl, b2, _, rfl, iteF ?_⟩
    refine ⟨rfl, _, rfl, (by show 1 ≤ sizeLine; decide), fun fa hfa => ?_⟩
    have a3 := same_new (o := .tup [.str "all"]) hfa
    have F : FmAt (upd H fa (.tup [.str "all"])) .all fa := upd_same
    intro y dx nx ndx nex
    refine ⟨y, dx, fa, b, rfl, upd_same, fun H4 kept h4 => ⟨rfl, ?_⟩⟩
    obtain ⟨s4, S4⟩ := set_new nx ndx nex F kept h4
    exact q H4 y dx fa (a3.trans s4) (a3.free nx) S4
/-! ### operators -/
def spOpd (A : Adr) : Sp := fun vs H Q _ => ∃ (x y : Addr) (b : Int) (f g : Fm) (dx fa dy ga : Addr), vs = [.ref x, .ref y] ∧ SetAt A.c_RangeSet H x b f dx fa ∧ SetAt A.c_RangeSet H y b g dy ga ∧ Q .non H
abbrev nm_check_operand : List Str := ["left", "right"]
theorem sc_check_operand : FnScope ["left", "right"] ["left", "right"] (defScope s_check_operand) := ⟨rfl, rfl, rfl, by decide +kernel, rfl, by decide +kernel, by decide +kernel⟩
theorem ok_opd (T : Txt K mg A w) : FnOk P w K mg base CX0 3 A.a_check_operand A.d_check_operand ["left", "right"] (spOpd A) := by
  have G_RangeSet_base := ok_sb (P := P) (base := base) T
  refine T.F_check_operand.ok sc_check_operand (fun vs H Q E h => ?_) (fun cdv A0 outer s H vs Q E hr h => ?_)
  · obtain ⟨x, y, b, f, g, dx, fa, dy, ga, rfl, _⟩ := h
    rfl
  · obtain ⟨x, y, b, f, g, dx, fa, dy, ga, rfl, X, Y, q⟩ := h
    refine ⟨_, (pss_one (ps_if (PW.pt (pw_or (pt_not (pt_val (pe_callB (C8.call_isC T.ic2) (by rfl) T.n_isinstance (by decide +kernel) (pa_cons (pv 1) (pa_cons (pe_glob (v := .ref A.c_RangeSet) rfl T.c_RangeSet rfl) pa_nil))))) (pw_or1 (pt_cmpR op_ne (pe_prop (pv 1) T.cl2 T.pr_RangeSet_base G_RangeSet_base (hr.mono (by decide)) T.B_RangeSet_base .nil pass0 rfl) (pe_prop (pv 0) T.cl2 T.pr_RangeSet_base G_RangeSet_base (hr.mono (by decide)) T.B_RangeSet_base .nil pass0 rfl) (nomark _))))) (pss_one ps_never) pss_nil)), ?_⟩
    refine ⟨_, rfl, y, dy, _, rfl, Y.at_, true, rfl, iteF ?_⟩
    refine ⟨_, rfl, y, dy, _, rfl, Y.at_, y, b, g, dy, ga, rfl, Y, ?_⟩
    refine ⟨_, rfl, x, dx, _, rfl, X.at_, x, b, f, dx, fa, rfl, X, rfl, _, rfl, ?_⟩
    rw [decide_eq_true rfl]
    exact iteF q
def spBin (A : Adr) (op : Fm → Fm → Fm) : Sp := fun vs H Q _ => ∃ (x y : Addr) (b : Int) (f g : Fm) (dx fa dy ga : Addr), vs = [.ref x, .ref y] ∧ SetAt A.c_RangeSet H x b f dx fa ∧ SetAt A.c_RangeSet H y b g dy ga ∧
  ∀ (H' : Hp) (q dq qa : Addr), Same H H' → H q = none → SetAt A.c_RangeSet H' q b (op f g) dq qa → Q (.ref q) H'
abbrev nm_RangeSet___and__ : List Str := ["self", "other"]
theorem sc_RangeSet___and__ : FnScope ["self", "other"] ["self", "other"] (defScope s_RangeSet___and__) := ⟨rfl, rfl, rfl, by decide +kernel, rfl, by decide +kernel, by decide +kernel⟩
theorem ok_and (T : Txt K mg A w) : FnOk P w K mg base CX0 5 A.a_RangeSet___and__ A.d_RangeSet___and__ ["self", "other"] (spBin A Fm.and) := by
  have G_check_operand : FnOk P w K mg base CX0 3 A.a_check_operand A.d_check_operand ["left", "right"] (spOpd A) := ok_opd T
  have G_RangeSet_init : FnOk P w K mg base CX0 1 A.a_RangeSet_init A.d_RangeSet_init ["self", "base", "formula"] (spRInit A) := ok_rinit T
  refine T.F_RangeSet___and__.ok sc_RangeSet___and__ (fun vs H Q E h => ?_) (fun cdv A0 outer s H vs Q E hr h => ?_)
  · obtain ⟨x, y, b, f, g, dx, fa, dy, ga, rfl, _⟩ := h
    rfl
  · obtain ⟨x, y, b, f, g, dx, fa, dy, ga, rfl, X, Y, q⟩ := h
    refine ⟨_, (pss_cons (ps_expr (pe_call G_check_operand (hr.mono (by decide)) (by rfl) T.m_check_operand T.F_check_operand.kp T.B_check_operand .nil pass0 (pa_cons (pv 0) (pa_cons (pv 1) pa_nil))))
  (pss_one (ps_ret (pe_make T.mk_RangeSet G_RangeSet_init (hr.mono (by decide)) (by rfl) T.c_RangeSet T.B_RangeSet_init .nil pass0 (pa_cons (pe_fld (pv 0) rfl) (pa_cons (pe_tup (pa_cons pe_str (pa_cons (pe_fld (pv 0) rfl) (pa_cons (pe_fld (pv 1) rfl) pa_nil)))) pa_nil)))))), ?_⟩
    refine ⟨_, rfl, _, rfl, x, y, b, f, g, dx, fa, dy, ga, rfl, X, Y, ?_⟩
    refine ⟨_, rfl, x, A.c_RangeSet, dx, _, _, rfl, X.at_, T.cl2, T.nb_base, sf_base _ _, ?_⟩
    refine ⟨_, rfl, x, A.c_RangeSet, dx, _, _, rfl, X.at_, T.cl2, T.nb_formula, sf_formula _ _, ?_⟩
    refine ⟨_, rfl, y, A.c_RangeSet, dy, _, _, rfl, Y.at_, T.cl2, T.nb_formula, sf_formula _ _, ?_⟩
    refine ⟨(by show 3 ≤ sizeLine; decide), fun ta hta => ?_⟩
    have sA := same_new (o := .tup [.str "and", .ref fa, .ref ga]) hta
    have F : FmAt (upd H ta (.tup [.str "and", .ref fa, .ref ga])) (Fm.and f g) ta := ⟨fa, ga, upd_same, FmAt.same sA X.fm, FmAt.same sA Y.fm⟩
    intro z dz nz ndz nez
    refine ⟨z, dz, ta, b, rfl, upd_same, fun H4 kept h4 => ⟨rfl, ?_⟩⟩
    obtain ⟨s4, S4⟩ := set_new nz ndz nez F kept h4
    exact q H4 z dz ta (sA.trans s4) (sA.free nz) S4
abbrev nm_RangeSet___or__ : List Str := ["self", "other"]
theorem sc_RangeSet___or__ : FnScope ["self", "other"] ["self", "other"] (defScope s_RangeSet___or__) := ⟨rfl, rfl, rfl, by decide +kernel, rfl, by decide +kernel, by decide +kernel⟩
theorem ok_or (T : Txt K mg A w) : FnOk P w K mg base CX0 5 A.a_RangeSet___or__ A.d_RangeSet___or__ ["self", "other"] (spBin A Fm.or) := by
  have G_check_operand : FnOk P w K mg base CX0 3 A.a_check_operand A.d_check_operand ["left", "right"] (spOpd A) := ok_opd T
  have G_RangeSet_init : FnOk P w K mg base CX0 1 A.a_RangeSet_init A.d_RangeSet_init ["self", "base", "formula"] (spRInit A) := ok_rinit T
  refine T.F_RangeSet___or__.ok sc_RangeSet___or__ (fun vs H Q E h => ?_) (fun cdv A0 outer s H vs Q E hr h => ?_)
  · obtain ⟨x, y, b, f, g, dx, fa, dy, ga, rfl, _⟩ := h
    rfl
  · obtain ⟨x, y, b, f, g, dx, fa, dy, ga, rfl, X, Y, q⟩ := h
    refine ⟨_, (pss_cons (ps_expr (pe_call G_check_operand (hr.mono (by decide)) (by rfl) T.m_check_operand T.F_check_operand.kp T.B_check_operand .nil pass0 (pa_cons (pv 0) (pa_cons (pv 1) pa_nil))))
  (pss_one (ps_ret (pe_make T.mk_RangeSet G_RangeSet_init (hr.mono (by decide)) (by rfl) T.c_RangeSet T.B_RangeSet_init .nil pass0 (pa_cons (pe_fld (pv 0) rfl) (pa_cons (pe_tup (pa_cons pe_str (pa_cons (pe_fld (pv 0) rfl) (pa_cons (pe_fld (pv 1) rfl) pa_nil)))) pa_nil)))))), ?_⟩
    refine ⟨_, rfl, _, rfl, x, y, b, f, g, dx, fa, dy, ga, rfl, X, Y, ?_⟩
    refine ⟨_, rfl, x, A.c_RangeSet, dx, _, _, rfl, X.at_, T.cl2, T.nb_base, sf_base _ _, ?_⟩
    refine ⟨_, rfl, x, A.c_RangeSet, dx, _, _, rfl, X.at_, T.cl2, T.nb_formula, sf_formula _ _, ?_⟩
    refine ⟨_, rfl, y, A.c_RangeSet, dy, _, _, rfl, Y.at_, T.cl2, T.nb_formula, sf_formula _ _, ?_⟩
    refine ⟨(by show 3 ≤ sizeLine; decide), fun ta hta => ?_⟩
    have sA := same_new (o := .tup [.str "or", .ref fa, .ref ga]) hta
    have F : FmAt (upd H ta (.tup [.str "or", .ref fa, .ref ga])) (Fm.or f g) ta := ⟨fa, ga, upd_same, FmAt.same sA X.fm, FmAt.same sA Y.fm⟩
    intro z dz nz ndz nez
    refine ⟨z, dz, ta, b, rfl, upd_same, fun H4 kept h4 => ⟨rfl, ?_⟩⟩
    obtain ⟨s4, S4⟩ := set_new nz ndz nez F kept h4
    exact q H4 z dz ta (sA.trans s4) (sA.free nz) S4
abbrev nm_RangeSet___xor__ : List Str := ["self", "other"]
theorem sc_RangeSet___xor__ : FnScope ["self", "other"] ["self", "other"] (defScope s_RangeSet___xor__) := ⟨rfl, rfl, rfl, by decide +kernel, rfl, by decide +kernel, by decide +kernel⟩
theorem ok_xor (T : Txt K mg A w) : FnOk P w K mg base CX0 5 A.a_RangeSet___xor__ A.d_RangeSet___xor__ ["self", "other"] (spBin A Fm.xor) := by
  have G_check_operand : FnOk P w K mg base CX0 3 A.a_check_operand A.d_check_operand ["left", "right"] (spOpd A) := ok_opd T
  have G_RangeSet_init : FnOk P w K mg base CX0 1 A.a_RangeSet_init A.d_RangeSet_init ["self", "base", "formula"] (spRInit A) := ok_rinit T
  refine T.F_RangeSet___xor__.ok sc_RangeSet___xor__ (fun vs H Q E h => ?_) (fun cdv A0 outer s H vs Q E hr h => ?_)
  · obtain ⟨x, y, b, f, g, dx, fa, dy, ga, rfl, _⟩ := h
    rfl
  · obtain ⟨x, y, b, f, g, dx, fa, dy, ga, rfl, X, Y, q⟩ := h
    refine ⟨_, (pss_cons (ps_expr (pe_call G_check_operand (hr.mono (by decide)) (by rfl) T.m_check_operand T.F_check_operand.kp T.B_check_operand .nil pass0 (pa_cons (pv 0) (pa_cons (pv 1) pa_nil))))
  (pss_one (ps_ret (pe_make T.mk_RangeSet G_RangeSet_init (hr.mono (by decide)) (by rfl) T.c_RangeSet T.B_RangeSet_init .nil pass0 (pa_cons (pe_fld (pv 0) rfl) (pa_cons (pe_tup (pa_cons pe_str (pa_cons (pe_fld (pv 0) rfl) (pa_cons (pe_fld (pv 1) rfl) pa_nil)))) pa_nil)))))), ?_⟩
    refine ⟨_, rfl, _, rfl, x, y, b, f, g, dx, fa, dy, ga, rfl, X, Y, ?_⟩
    refine ⟨_, rfl, x, A.c_RangeSet, dx, _, _, rfl, X.at_, T.cl2, T.nb_base, sf_base _ _, ?_⟩
    refine ⟨_, rfl, x, A.c_RangeSet, dx, _, _, rfl, X.at_, T.cl2, T.nb_formula, sf_formula _ _, ?_⟩
    refine ⟨_, rfl, y, A.c_RangeSet, dy, _, _, rfl, Y.at_, T.cl2, T.nb_formula, sf_formula _ _, ?_⟩
    refine ⟨(by show 3 ≤ sizeLine; decide), fun ta hta => ?_⟩
    have sA := same_new (o := .tup [.str "xor", .ref fa, .ref ga]) hta
    have F : FmAt (upd H ta (.tup [.str "xor", .ref fa, .ref ga])) (Fm.xor f g) ta := ⟨fa, ga, upd_same, FmAt.same sA X.fm, FmAt.same sA Y.fm⟩
    intro z dz nz ndz nez
    refine ⟨z, dz, ta, b, rfl, upd_same, fun H4 kept h4 => ⟨rfl, ?_⟩⟩
    obtain ⟨s4, S4⟩ := set_new nz ndz nez F kept h4
    exact q H4 z dz ta (sA.trans s4) (sA.free nz) S4
abbrev nm_RangeSet___sub__ : List Str := ["self", "other"]
theorem sc_RangeSet___sub__ : FnScope ["self", "other"] ["self", "other"] (defScope s_RangeSet___sub__) := ⟨rfl, rfl, rfl, by decide +kernel, rfl, by decide +kernel, by decide +kernel⟩
theorem ok_sub (T : Txt K mg A w) : FnOk P w K mg base CX0 5 A.a_RangeSet___sub__ A.d_RangeSet___sub__ ["self", "other"] (spBin A (fun f g => .and f (.not g))) := by
  have G_check_operand : FnOk P w K mg base CX0 3 A.a_check_operand A.d_check_operand ["left", "right"] (spOpd A) := ok_opd T
  have G_RangeSet_init : FnOk P w K mg base CX0 1 A.a_RangeSet_init A.d_RangeSet_init ["self", "base", "formula"] (spRInit A) := ok_rinit T
  refine T.F_RangeSet___sub__.ok sc_RangeSet___sub__ (fun vs H Q E h => ?_) (fun cdv A0 outer s H vs Q E hr h => ?_)
  · obtain ⟨x, y, b, f, g, dx, fa, dy, ga, rfl, _⟩ := h
    rfl
  · obtain ⟨x, y, b, f, g, dx, fa, dy, ga, rfl, X, Y, q⟩ := h
    refine ⟨_, (pss_cons (ps_expr (pe_call G_check_operand (hr.mono (by decide)) (by rfl) T.m_check_operand T.F_check_operand.kp T.B_check_operand .nil pass0 (pa_cons (pv 0) (pa_cons (pv 1) pa_nil))))
  (pss_one (ps_ret (pe_make T.mk_RangeSet G_RangeSet_init (hr.mono (by decide)) (by rfl) T.c_RangeSet T.B_RangeSet_init .nil pass0 (pa_cons (pe_fld (pv 0) rfl) (pa_cons (pe_tup (pa_cons pe_str (pa_cons (pe_fld (pv 0) rfl) (pa_cons (pe_tup (pa_cons pe_str (pa_cons (pe_fld (pv 1) rfl) pa_nil))) pa_nil)))) pa_nil)))))), ?_⟩
    refine ⟨_, rfl, _, rfl, x, y, b, f, g, dx, fa, dy, ga, rfl, X, Y, ?_⟩
    refine ⟨_, rfl, x, A.c_RangeSet, dx, _, _, rfl, X.at_, T.cl2, T.nb_base, sf_base _ _, ?_⟩
    refine ⟨_, rfl, x, A.c_RangeSet, dx, _, _, rfl, X.at_, T.cl2, T.nb_formula, sf_formula _ _, ?_⟩
    refine ⟨_, rfl, y, A.c_RangeSet, dy, _, _, rfl, Y.at_, T.cl2, T.nb_formula, sf_formula _ _, ?_⟩
    refine ⟨(by show 2 ≤ sizeLine; decide), fun tn htn => ⟨(by show 3 ≤ sizeLine; decide), fun ta hta => ?_⟩⟩
    have s1 := same_new (o := .tup [.str "not", .ref ga]) htn
    have s2 := same_new (o := .tup [.str "and", .ref fa, .ref tn]) hta
    have sA := s1.trans s2
    have F : FmAt (upd (upd H tn (.tup [.str "not", .ref ga])) ta (.tup [.str "and", .ref fa, .ref tn])) (.and f (.not g)) ta := ⟨fa, tn, upd_same, FmAt.same sA X.fm, ga, s2 _ _ upd_same, FmAt.same sA Y.fm⟩
    intro z dz nz ndz nez
    refine ⟨z, dz, ta, b, rfl, upd_same, fun H4 kept h4 => ⟨rfl, ?_⟩⟩
    obtain ⟨s4, S4⟩ := set_new nz ndz nez F kept h4
    exact q H4 z dz ta (sA.trans s4) (sA.free nz) S4
def spInv (A : Adr) : Sp := fun vs H Q _ => ∃ (x : Addr) (b : Int) (f : Fm) (dx fa : Addr), vs = [.ref x] ∧ SetAt A.c_RangeSet H x b f dx fa ∧
  ∀ (H' : Hp) (q dq qa : Addr), Same H H' → H q = none → SetAt A.c_RangeSet H' q b (.not f) dq qa → Q (.ref q) H'
abbrev nm_RangeSet___invert__ : List Str := ["self"]
theorem sc_RangeSet___invert__ : FnScope ["self"] ["self"] (defScope s_RangeSet___invert__) := ⟨rfl, rfl, rfl, by decide +kernel, rfl, by decide +kernel, by decide +kernel⟩
theorem ok_inv (T : Txt K mg A w) : FnOk P w K mg base CX0 5 A.a_RangeSet___invert__ A.d_RangeSet___invert__ ["self"] (spInv A) := by
  have G_RangeSet_init : FnOk P w K mg base CX0 1 A.a_RangeSet_init A.d_RangeSet_init ["self", "base", "formula"] (spRInit A) := ok_rinit T
  refine T.F_RangeSet___invert__.ok sc_RangeSet___invert__ (fun vs H Q E h => ?_) (fun cdv A0 outer s H vs Q E hr h => ?_)
  · obtain ⟨x, b, f, dx, fa, rfl, _⟩ := h
    rfl
  · obtain ⟨x, b, f, dx, fa, rfl, X, q⟩ := h
    refine ⟨_, (pss_one (ps_ret (pe_make T.mk_RangeSet G_RangeSet_init (hr.mono (by decide)) (by rfl) T.c_RangeSet T.B_RangeSet_init .nil pass0 (pa_cons (pe_fld (pv 0) rfl) (pa_cons (pe_tup (pa_cons pe_str (pa_cons (pe_fld (pv 0) rfl) pa_nil))) pa_nil))))), ?_⟩
    refine ⟨_, rfl, x, A.c_RangeSet, dx, _, _, rfl, X.at_, T.cl2, T.nb_base, sf_base _ _, ?_⟩
    refine ⟨_, rfl, x, A.c_RangeSet, dx, _, _, rfl, X.at_, T.cl2, T.nb_formula, sf_formula _ _, ?_⟩
    refine ⟨(by show 2 ≤ sizeLine; decide), fun ta hta => ?_⟩
    have sA := same_new (o := .tup [.str "not", .ref fa]) hta
    have F : FmAt (upd H ta (.tup [.str "not", .ref fa])) (.not f) ta := ⟨fa, upd_same, FmAt.same sA X.fm⟩
    intro z dz nz ndz nez
    refine ⟨z, dz, ta, b, rfl, upd_same, fun H4 kept h4 => ⟨rfl, ?_⟩⟩
    obtain ⟨s4, S4⟩ := set_new nz ndz nez F kept h4
    exact q H4 z dz ta (sA.trans s4) (sA.free nz) S4
end
end Ax

namespace Ax
open PySem L2
theorem cmp_more {b m1 p1 m2 p2 n o d : Int} (b1 : 1 ≤ b) : decide (sizZ b m1 (p1 + dgZ p1 p2) * o > n * sizZ b m2 (p2 + dgZ p1 p2)) = moreZ b m1 (p1 + d) m2 (p2 + d) n o := by
  have dg : dgZ p1 p2 = max (-(min p1 p2)) 0 := by
    unfold dgZ
    split <;> split <;> omega
  obtain ⟨t, ht⟩ : ∃ t : Nat, (t : Int) = min p1 p2 + dgZ p1 p2 := ⟨(min p1 p2 + dgZ p1 p2).toNat, by omega⟩
  have e1 : sizZ b m1 (p1 + dgZ p1 p2) = m1 * b ^ (p1 - min p1 p2).toNat * b ^ t := by
    unfold sizZ
    rw [if_pos (by omega), Int.mul_assoc, ← pow_add']
    congr 2
    omega
  have e2 : sizZ b m2 (p2 + dgZ p1 p2) = m2 * b ^ (p2 - min p1 p2).toNat * b ^ t := by
    unfold sizZ
    rw [if_pos (by omega), Int.mul_assoc, ← pow_add']
    congr 2
    omega
  have pt := pow_pos' b1 t
  unfold moreZ
  rw [e1, e2, show p1 + d - min (p1 + d) (p2 + d) = p1 - min p1 p2 by omega, show p2 + d - min (p1 + d) (p2 + d) = p2 - min p1 p2 by omega]
  refine decide_eq_decide.mpr ?_
  generalize m1 * b ^ (p1 - min p1 p2).toNat = x
  generalize m2 * b ^ (p2 - min p1 p2).toNat = y
  rw [Int.mul_right_comm x, ← Int.mul_assoc n]
  exact mul_lt_iff (by omega)
theorem cmp_bound {b p1 p2 d : Int} (b1 : 1 ≤ b) (d0 : 0 ≤ d) (e1 : b ^ (p1 + d).natAbs < 2 ^ 2000) (e2 : b ^ (p2 + d).natAbs < 2 ^ 2000) : b ^ (p1 + dgZ p1 p2).natAbs < 2 ^ 4000 ∧ b ^ (p2 + dgZ p1 p2).natAbs < 2 ^ 4000 := by
  have dg : dgZ p1 p2 = max (-(min p1 p2)) 0 := by
    unfold dgZ
    split <;> split <;> omega
  have key : ∀ n : Nat, n ≤ (p1 + d).natAbs + (p2 + d).natAbs → b ^ n < 2 ^ 4000 := fun n hn => by
    refine Int.lt_of_le_of_lt (pow_le' b1 hn) ?_
    rw [pow_add']
    have q1 := pow_pos' b1 (p1 + d).natAbs
    have q2 := pow_pos' b1 (p2 + d).natAbs
    have h1 := Int.mul_le_mul (Int.le_of_lt e1) (Int.le_of_lt e2) (by omega) (by decide +kernel)
    have h2 := Int.mul_lt_mul_of_pos_right e1 (show 0 < b ^ (p2 + d).natAbs by omega)
    have h3 := Int.mul_le_mul_of_nonneg_left (Int.le_of_lt e2) (show (0 : Int) ≤ 2 ^ 2000 by decide +kernel)
    rw [← pow_add'] at h3
    exact Int.lt_of_lt_of_le h2 h3
  exact ⟨key _ (by omega), key _ (by omega)⟩
section
variable {P : Program} {w : World} {K : PySem.W.Frag} {mg : Str → Option Value} {base : Heap} {A : Adr}
/-! ### _states -/
def Fm.atom : Fm → Prop
  | .counted _ _ _ => True
  | .taken _ _ => True
  | .coarser _ _ _ _ => True
  | .touched _ _ => True
  | _ => False
def spStates (A : Adr) : Sp := fun vs H Q _ => ∃ (fa sp : Addr) (b l h d : Int) (f : Fm), vs = [.int b, .ref fa, .ref sp] ∧ FmAt H f fa ∧ FmR b f ∧ f.atom ∧ H sp = some (.tup [.int l, .int h, .int d]) ∧ Rng l h d ∧
  ∀ (H' : Hp) (r : Bool), Same H H' → Val b f l h r → Q (.bl r) H'
abbrev nm_states : List Str := ["base", "formula", "span", "word", "rule", "count", "step", "factor", "size", "end", "other", "other_size"]
theorem sc_states : FnScope ["base", "formula", "span", "word", "rule", "count", "step", "factor", "size", "end", "other", "other_size"] ["base", "formula", "span"] (defScope s_states) := ⟨rfl, rfl, rfl, by decide +kernel, rfl, by decide +kernel, by decide +kernel⟩
theorem ok_states (T : Txt K mg A w) : FnOk P w K mg base CX0 8 A.a_states A.d_states ["base", "formula", "span"] (spStates A) := by
  have G_rule_of : FnOk P w K mg base CX0 6 A.a_rule_of A.d_rule_of ["base", "key"] (spRuleOf A) := ok_ruleof T
  have G_compare_steps : FnOk P w K mg base CX0 3 A.a_compare_steps A.d_compare_steps ["base", "one", "other"] spCmpS := ok_cmps T
  have G_measure : FnOk P w K mg base CX0 2 A.a_measure A.d_measure ["base", "step", "digits"] (spMeasure K) := ok_measure T
  have G_Rule_step : FnOk P w K mg base CX0 4 A.a_Rule_step A.d_Rule_step ["self", "span"] (spStep A) := ok_step T
  have G_Rule_count : FnOk P w K mg base CX0 6 A.a_Rule_count A.d_Rule_count ["self", "span"] (spCount A) := ok_count T
  refine T.F_states.ok sc_states (fun vs H Q E h => ?_) (fun cdv A0 outer s H vs Q E hr h => ?_)
  · obtain ⟨fa, sp, b, l, h, d, f, rfl, _⟩ := h
    rfl
  · obtain ⟨fa, sp, b, l, h, d, f, rfl, F, R, at_, hsp, rng, q⟩ := h
    refine ⟨_, (pss_cons (ps_set (i := 3) sc_states.nd rfl (Or.inl rfl) (pe_ix ix_tup (pv 1) pe_int (fun _ _ => rfl)))
  (pss_cons (ps_set (i := 4) sc_states.nd rfl (Or.inl rfl) (pe_call G_rule_of (hr.mono (by decide)) (by rfl) T.m_rule_of T.F_rule_of.kp T.B_rule_of .nil pass0 (pa_cons (pv 0) (pa_cons (pe_ix ix_tup (pv 1) pe_int (fun _ _ => rfl)) pa_nil))))
  (pss_cons (ps_if (pt_cmpR op_eq (pv 3) pe_str (nomark _)) (pss_cons (ps_set (i := 5) sc_states.nd rfl (Or.inl rfl) (pe_meth (pv 4) T.cl T.t_Rule_count G_Rule_count (hr.mono (by decide)) T.B_Rule_count .nil pass0 (pa_cons (pv 2) pa_nil)))
  (pss_one (ps_ret (pe_and (pe_cmpR op_ge (pv 5) (pe_ix ix_tup (pv 1) pe_int (fun _ _ => rfl)) (nomark _)) (pe_one (pe_or (pe_cmpR op_isN (pe_ix ix_tup (pv 1) pe_int (fun _ _ => rfl)) pe_non (nomark _)) (pe_one (pe_cmpR op_le (pv 5) (pe_ix ix_tup (pv 1) pe_int (fun _ _ => rfl)) (nomark _))))))))) pss_nil)
  (pss_cons (ps_set (i := 6) sc_states.nd rfl (Or.inl rfl) (pe_meth (pv 4) T.cl T.t_Rule_step G_Rule_step (hr.mono (by decide)) T.B_Rule_step .nil pass0 (pa_cons (pv 2) pa_nil)))
  (pss_cons (ps_if (pt_cmpR op_eq (pv 3) pe_str (nomark _)) (pss_one (ps_ret (pe_cmpR op_eq (pe_ix ix_tup (pv 6) pe_int (fun _ _ => rfl)) (pe_ix ix_tup (pv 1) pe_int (fun _ _ => rfl)) (nomark _)))) pss_nil)
  (pss_cons (ps_if (pt_cmpR op_eq (pv 3) pe_str (nomark _)) (pss_cons (ps_asg (pe_call G_measure (hr.mono (by decide)) (by rfl) T.m_measure T.F_measure.kp T.B_measure .nil pass0 (pa_cons (pv 0) (pa_cons (pv 6) (pa_cons (pe_ix ix_tup (pv 2) pe_int (fun _ _ => rfl)) pa_nil)))) (pg_tup (by rfl) (pgs_cons (pg_name (i := 7) sc_states.nd rfl (Or.inl rfl)) (pgs_cons (pg_name (i := 8) sc_states.nd rfl (Or.inl rfl)) pgs_nil))))
  (pss_cons (ps_set (i := 9) sc_states.nd rfl (Or.inl rfl) (pe_ifExp (pt_cmpR op_eq (pe_ix ix_tup (pv 1) pe_int (fun _ _ => rfl)) pe_str (nomark _)) (pe_ix ix_tup (pv 2) pe_int (fun _ _ => rfl)) (pe_ix ix_tup (pv 2) pe_int (fun _ _ => rfl))))
  (pss_one (ps_ret (pe_cmpR op_eq (pe_op op_mod (pe_op op_mulW (pv 9) (pv 7)) (pv 8)) pe_int (nomark _)))))) pss_nil)
  (pss_cons (ps_set (i := 10) sc_states.nd rfl (Or.inl rfl) (pe_meth (pe_call G_rule_of (hr.mono (by decide)) (by rfl) T.m_rule_of T.F_rule_of.kp T.B_rule_of .nil pass0 (pa_cons (pv 0) (pa_cons (pe_ix ix_tup (pv 1) pe_int (fun _ _ => rfl)) pa_nil))) T.cl T.t_Rule_step G_Rule_step (hr.mono (by decide)) T.B_Rule_step .nil pass0 (pa_cons (pv 2) pa_nil)))
  (pss_cons (ps_asg (pe_call G_compare_steps (hr.mono (by decide)) (by rfl) T.m_compare_steps T.F_compare_steps.kp T.B_compare_steps .nil pass0 (pa_cons (pv 0) (pa_cons (pv 6) (pa_cons (pv 10) pa_nil)))) (pg_tup (by rfl) (pgs_cons (pg_name (i := 8) sc_states.nd rfl (Or.inl rfl)) (pgs_cons (pg_name (i := 11) sc_states.nd rfl (Or.inl rfl)) pgs_nil))))
  (pss_one (ps_ret (pe_cmpR op_gt (pe_op op_mulW (pv 8) (pe_ix ix_tup (pv 1) pe_int (fun _ _ => rfl))) (pe_op op_mulW (pe_ix ix_tup (pv 1) pe_int (fun _ _ => rfl)) (pv 11)) (nomark _)))))))))))), ?_⟩
    have b2R : ∀ k : Ky, KyR b k → 2 ≤ b := fun k h => h.b2
    cases f with
    | all => exact at_.elim
    | not f => exact at_.elim
    | and f g => exact at_.elim
    | or f g => exact at_.elim
    | xor f g => exact at_.elim
    | counted k lst mst =>
      obtain ⟨kc, h1, hk⟩ := F
      obtain ⟨RK, l60, m60⟩ := R
      refine ⟨_, rfl, fa, _, _, _, rfl, rfl, SqT.of h1, atL (j := 0) rfl, ?_⟩
      refine ⟨_, rfl, _, rfl, fa, _, _, _, rfl, rfl, SqT.of h1, atL (j := 1) rfl, kc, b, k, rfl, hk, RK, fun H1 r D s1 _ X => ?_⟩
      refine gN (σ' := [some (.int b), some (.ref fa), some (.ref sp), some (.str "counted"), some (.ref r), none, none, none, none, none, none, none]) rfl ?_
      have noC : (rf b k.1 D.lm k.2.2 D.dv D.lr).lookup ("count" : Str) = none := rf_no (by decide +kernel) (by decide +kernel) (by decide +kernel) (by decide +kernel) (by decide +kernel) (by decide +kernel)
      refine ⟨_, rfl, rfl, _, rfl, ?_⟩
      rw [decide_eq_true rfl]
      refine iteT ?_
      refine ⟨_, rfl, r, D.dx, _, rfl, X.at_, noC, _, rfl, r, sp, l, h, d, b, k.1, k.2.1, k.2.2, D, rfl, X, RK, s1 _ _ hsp, rng, fun H2 m p s2 LF => ?_⟩
      refine gN (σ' := [some (.int b), some (.ref fa), some (.ref sp), some (.str "counted"), some (.ref r), some (.int (cntZ b k.1 l h m (p + d))), none, none, none, none, none, none]) rfl ?_
      have s12 := s1.trans s2
      have h12 := s12 _ _ h1
      refine ⟨_, rfl, _, rfl, fa, _, _, _, rfl, rfl, SqT.of h12, atL (j := 2) rfl, _, _, rfl, rfl, ?_⟩
      generalize hc : cntZ b k.1 l h m (p + d) = cnt at *
      refine ⟨_, rfl, ite2 (fun c1 => ?_) (fun c1 => ?_)⟩
      · refine ⟨_, rfl, fa, _, _, _, rfl, rfl, SqT.of h12, atL (j := 3) rfl, ?_⟩
        cases mst with
        | none =>
          refine ⟨rfl, _, rfl, ?_⟩
          refine iteT (q H2 true s12 ⟨m, p + d, LF.at0, ?_⟩)
          rw [hc, c1]
          rfl
        | some z =>
          refine ⟨rfl, _, rfl, ?_⟩
          refine iteF ?_
          refine ⟨_, rfl, _, rfl, fa, _, _, _, rfl, rfl, SqT.of h12, atL (j := 3) rfl, _, _, rfl, rfl, ?_⟩
          refine q H2 (decide (cnt ≤ z)) s12 ⟨m, p + d, LF.at0, ?_⟩
          rw [hc, c1]
          rfl
      · have e : decide (lst ≤ cnt) = false := by
          cases hq : decide (lst ≤ cnt) with
          | true => exact absurd hq c1
          | false => rfl
        refine q H2 false s12 ⟨m, p + d, LF.at0, ?_⟩
        rw [hc, e]
        rfl
    | taken k m0 =>
      obtain ⟨kc, h1, hk⟩ := F
      have RK : KyR b k := R
      refine ⟨_, rfl, fa, _, _, _, rfl, rfl, SqT.of h1, atL (j := 0) rfl, ?_⟩
      refine ⟨_, rfl, _, rfl, fa, _, _, _, rfl, rfl, SqT.of h1, atL (j := 1) rfl, kc, b, k, rfl, hk, RK, fun H1 r D s1 _ X => ?_⟩
      refine gN (σ' := [some (.int b), some (.ref fa), some (.ref sp), some (.str "taken"), some (.ref r), none, none, none, none, none, none, none]) rfl ?_
      have noS : (rf b k.1 D.lm k.2.2 D.dv D.lr).lookup ("step" : Str) = none := rf_no (by decide +kernel) (by decide +kernel) (by decide +kernel) (by decide +kernel) (by decide +kernel) (by decide +kernel)
      refine ⟨_, rfl, rfl, _, rfl, ?_⟩
      refine iteF ?_
      refine ⟨_, rfl, r, D.dx, _, rfl, X.at_, noS, _, rfl, r, sp, l, h, d, b, k.1, k.2.1, k.2.2, D, rfl, X, RK, s1 _ _ hsp, rng, fun H2 st m p s2 _ hst LF _ _ => ?_⟩
      refine gN (σ' := [some (.int b), some (.ref fa), some (.ref sp), some (.str "taken"), some (.ref r), none, some (.ref st), none, none, none, none, none]) rfl ?_
      have s12 := s1.trans s2
      have h12 := s12 _ _ h1
      refine ⟨_, rfl, rfl, _, rfl, ?_⟩
      rw [decide_eq_true rfl]
      refine iteT ?_
      refine ⟨_, rfl, st, _, _, _, rfl, rfl, SqT.of hst, atL (j := 0) rfl, _, rfl, fa, _, _, _, rfl, rfl, SqT.of h12, atL (j := 2) rfl, rfl, ?_⟩
      have e : decide (V.int m = V.int m0) = decide (m = m0) := decide_eq_decide.mpr ⟨V.int.inj, congrArg V.int⟩
      show Q (.bl (decide (V.int m = V.int m0))) H2
      rw [e]
      exact q H2 _ s12 ⟨m, p + d, LF.at0, rfl⟩
    | touched k low =>
      obtain ⟨kc, h1, hk⟩ := F
      have RK : KyR b k := R
      refine ⟨_, rfl, fa, _, _, _, rfl, rfl, SqT.of h1, atL (j := 0) rfl, ?_⟩
      refine ⟨_, rfl, _, rfl, fa, _, _, _, rfl, rfl, SqT.of h1, atL (j := 1) rfl, kc, b, k, rfl, hk, RK, fun H1 r D s1 _ X => ?_⟩
      refine gN (σ' := [some (.int b), some (.ref fa), some (.ref sp), some (.str "touched"), some (.ref r), none, none, none, none, none, none, none]) rfl ?_
      have noS : (rf b k.1 D.lm k.2.2 D.dv D.lr).lookup ("step" : Str) = none := rf_no (by decide +kernel) (by decide +kernel) (by decide +kernel) (by decide +kernel) (by decide +kernel) (by decide +kernel)
      refine ⟨_, rfl, rfl, _, rfl, ?_⟩
      refine iteF ?_
      refine ⟨_, rfl, r, D.dx, _, rfl, X.at_, noS, _, rfl, r, sp, l, h, d, b, k.1, k.2.1, k.2.2, D, rfl, X, RK, s1 _ _ hsp, rng, fun H2 st m p s2 _ hst LF eB _ => ?_⟩
      refine gN (σ' := [some (.int b), some (.ref fa), some (.ref sp), some (.str "touched"), some (.ref r), none, some (.ref st), none, none, none, none, none]) rfl ?_
      have s12 := s1.trans s2
      have h12 := s12 _ _ h1
      refine ⟨_, rfl, rfl, _, rfl, ?_⟩
      refine iteF ?_
      refine ⟨_, rfl, rfl, _, rfl, ?_⟩
      rw [decide_eq_true rfl]
      refine iteT ?_
      have b1 : 1 ≤ b := by have := RK.b2; omega
      obtain ⟨m1, mB, _⟩ := RK.all m LF.mem
      have hsp2 := s12 _ _ hsp
      refine ⟨_, rfl, _, rfl, _, rfl, sp, _, _, _, rfl, rfl, SqT.of hsp2, atL (j := 2) rfl, b, m, p, d, st, rfl, SqT.of hst, b1, lt_big RK.bB (by decide), lt_big (n := 2000) eB (by decide), by omega, lt_big mB (by decide), fun H3 q3 s3 q30 e3 => ?_⟩
      have hq3 : H3 q3 = some (.tup [.int (facZ b (p + d)), .int (sizZ b m (p + d))]) := by rw [e3]; exact upd_same
      refine ⟨q3, _, rfl, SqT.of hq3, rfl, _, _, rfl, _, _, rfl, rfl, ?_⟩
      obtain ⟨f1, f2⟩ := fac_bound b1 eB
      obtain ⟨z1, z2⟩ := siz_bound b1 m1 mB eB
      have fN : (facZ b (p + d)).natAbs < 2 ^ 2000 := abs_lt_pow (by omega) f2
      have s13 := s12.trans s3
      have h13 := s13 _ _ h1
      have hsp3 := s13 _ _ hsp
      refine norm2 (σ' := [some (.int b), some (.ref fa), some (.ref sp), some (.str "touched"), some (.ref r), none, some (.ref st), some (.int (facZ b (p + d))), some (.int (sizZ b m (p + d))), none, none, none]) rfl ?_
      refine ⟨_, rfl, fa, _, _, _, rfl, rfl, SqT.of h13, atL (j := 2) rfl, rfl, _, rfl, ?_⟩
      have fin : ∀ x : Int, (if low then l else h) = x → Val b (.touched k low) l h (decide (x * facZ b (p + d) % sizZ b m (p + d) = 0)) := fun x e => ⟨m, p + d, LF.at0, by rw [e]⟩
      cases low with
      | true =>
        refine iteT ?_
        refine ⟨_, rfl, sp, _, _, _, rfl, rfl, SqT.of hsp3, atL (j := 0) rfl, ?_⟩
        refine gN (σ' := [some (.int b), some (.ref fa), some (.ref sp), some (.str "touched"), some (.ref r), none, some (.ref st), some (.int (facZ b (p + d))), some (.int (sizZ b m (p + d))), some (.int l), none, none]) rfl ?_
        refine ⟨_, rfl, _, rfl, _, _, rfl, rfl, wide_mul rng.lo fN (by decide) (by decide) (by decide), _, rfl, _, _, rfl, rfl, (by show 0 < sizZ b m (p + d); omega), rfl, ?_⟩
        have e : decide (V.int (l * facZ b (p + d) % sizZ b m (p + d)) = V.int 0) = decide (l * facZ b (p + d) % sizZ b m (p + d) = 0) := decide_eq_decide.mpr ⟨V.int.inj, congrArg V.int⟩
        show Q (.bl (decide (V.int (l * facZ b (p + d) % sizZ b m (p + d)) = V.int 0))) _
        rw [e]
        exact q _ _ s13 (fin l rfl)
      | false =>
        refine iteF ?_
        refine ⟨_, rfl, sp, _, _, _, rfl, rfl, SqT.of hsp3, atL (j := 1) rfl, ?_⟩
        refine gN (σ' := [some (.int b), some (.ref fa), some (.ref sp), some (.str "touched"), some (.ref r), none, some (.ref st), some (.int (facZ b (p + d))), some (.int (sizZ b m (p + d))), some (.int h), none, none]) rfl ?_
        refine ⟨_, rfl, _, rfl, _, _, rfl, rfl, wide_mul rng.hi fN (by decide) (by decide) (by decide), _, rfl, _, _, rfl, rfl, (by show 0 < sizZ b m (p + d); omega), rfl, ?_⟩
        have e : decide (V.int (h * facZ b (p + d) % sizZ b m (p + d)) = V.int 0) = decide (h * facZ b (p + d) % sizZ b m (p + d) = 0) := decide_eq_decide.mpr ⟨V.int.inj, congrArg V.int⟩
        show Q (.bl (decide (V.int (h * facZ b (p + d) % sizZ b m (p + d)) = V.int 0))) _
        rw [e]
        exact q _ _ s13 (fin h rfl)
    | coarser k k2 n o =>
      obtain ⟨kc, kc2, h1, hk, hk2⟩ := F
      obtain ⟨RK, RK2, n1, nB, o1, oB⟩ := R
      have b1 : 1 ≤ b := by have := RK.b2; omega
      refine ⟨_, rfl, fa, _, _, _, rfl, rfl, SqT.of h1, atL (j := 0) rfl, ?_⟩
      refine ⟨_, rfl, _, rfl, fa, _, _, _, rfl, rfl, SqT.of h1, atL (j := 1) rfl, kc, b, k, rfl, hk, RK, fun H1 r D s1 _ X => ?_⟩
      refine gN (σ' := [some (.int b), some (.ref fa), some (.ref sp), some (.str "coarser"), some (.ref r), none, none, none, none, none, none, none]) rfl ?_
      have noS : ∀ (k : Ky) (D : RD), (rf b k.1 D.lm k.2.2 D.dv D.lr).lookup ("step" : Str) = none := fun k D => rf_no (by decide +kernel) (by decide +kernel) (by decide +kernel) (by decide +kernel) (by decide +kernel) (by decide +kernel)
      refine ⟨_, rfl, rfl, _, rfl, ?_⟩
      refine iteF ?_
      refine ⟨_, rfl, r, D.dx, _, rfl, X.at_, noS _ _, _, rfl, r, sp, l, h, d, b, k.1, k.2.1, k.2.2, D, rfl, X, RK, s1 _ _ hsp, rng, fun H2 st m p s2 _ hst LF eB _ => ?_⟩
      refine gN (σ' := [some (.int b), some (.ref fa), some (.ref sp), some (.str "coarser"), some (.ref r), none, some (.ref st), none, none, none, none, none]) rfl ?_
      have s12 := s1.trans s2
      have h12 := s12 _ _ h1
      refine ⟨_, rfl, rfl, _, rfl, ?_⟩
      refine iteF ?_
      refine ⟨_, rfl, rfl, _, rfl, ?_⟩
      refine iteF ?_
      refine ⟨_, rfl, _, rfl, fa, _, _, _, rfl, rfl, SqT.of h12, atL (j := 2) rfl, kc2, b, k2, rfl, hk2.same s12, RK2, fun H3 r2 D2 s3 _ X2 => ?_⟩
      have s13 := s12.trans s3
      refine ⟨r2, D2.dx, _, rfl, X2.at_, noS _ _, _, rfl, r2, sp, l, h, d, b, k2.1, k2.2.1, k2.2.2, D2, rfl, X2, RK2, s13 _ _ hsp, rng, fun H4 st2 m2 p2 s4 _ hst2 LF2 eB2 _ => ?_⟩
      refine gN (σ' := [some (.int b), some (.ref fa), some (.ref sp), some (.str "coarser"), some (.ref r), none, some (.ref st), none, none, none, some (.ref st2), none]) rfl ?_
      obtain ⟨m1', mB, _⟩ := RK.all m LF.mem
      obtain ⟨m21, m2B, _⟩ := RK2.all m2 LF2.mem
      obtain ⟨B1, B2⟩ := cmp_bound b1 rng.d0 eB eB2
      have s14 := s13.trans s4
      refine ⟨_, rfl, _, rfl, _, rfl, st, st2, b, m, p, m2, p2, rfl, (s3.trans s4) _ _ hst, hst2, b1, lt_big RK.bB (by decide), by omega, lt_big mB (by decide), by omega, lt_big m2B (by decide), lt_big (n := 4000) B1 (by decide), lt_big (n := 4000) B2 (by decide), fun H5 q5 s5 _ hq5 => ?_⟩
      refine ⟨q5, _, rfl, SqT.of hq5, rfl, _, _, rfl, _, _, rfl, rfl, ?_⟩
      have s15 := s14.trans s5
      have h15 := s15 _ _ h1
      obtain ⟨z1, z2⟩ := siz_bound b1 m1' mB B1
      obtain ⟨z3, z4⟩ := siz_bound b1 m21 m2B B2
      have zN1 : (sizZ b m (p + dgZ p p2)).natAbs < 2 ^ (64 + 4000) := abs_lt_pow (by omega) z2
      have zN2 : (sizZ b m2 (p2 + dgZ p p2)).natAbs < 2 ^ (64 + 4000) := abs_lt_pow (by omega) z4
      have oN : o.natAbs < 2 ^ 60 := abs_lt_pow (by omega) oB
      have nN : n.natAbs < 2 ^ 60 := abs_lt_pow (by omega) nB
      have cm := cmp_more (n := n) (o := o) (m1 := m) (m2 := m2) (p1 := p) (p2 := p2) (d := d) b1
      refine norm2 (σ' := [some (.int b), some (.ref fa), some (.ref sp), some (.str "coarser"), some (.ref r), none, some (.ref st), none, some (.int (sizZ b m (p + dgZ p p2))), none, some (.ref st2), some (.int (sizZ b m2 (p2 + dgZ p p2)))]) rfl ?_
      refine ⟨_, rfl, _, rfl, fa, _, _, _, rfl, rfl, SqT.of h15, atL (j := 4) rfl, _, _, rfl, rfl, wide_mul zN1 oN (by decide) (by decide) (by decide), ?_⟩
      refine ⟨_, rfl, fa, _, _, _, rfl, rfl, SqT.of h15, atL (j := 3) rfl, _, rfl, _, _, rfl, rfl, wide_mul nN zN2 (by decide) (by decide) (by decide), _, _, rfl, rfl, ?_⟩
      show Q (.bl (decide (sizZ b m (p + dgZ p p2) * o > n * sizZ b m2 (p2 + dgZ p p2)))) _
      rw [cm]
      exact q _ _ s15 ⟨m, p + d, m2, p2 + d, LF.at0, LF2.at0, rfl⟩
/-! ### holds -/
def Fm.deep : Fm → Nat
  | .not f => f.deep + 1
  | .and f g => max f.deep g.deep + 1
  | .or f g => max f.deep g.deep + 1
  | .xor f g => max f.deep g.deep + 1
  | _ => 0
def spHolds (A : Adr) : Nat → Sp
  | 0 => fun _ _ _ _ => False
  | n + 1 => fun vs H Q _ => ∃ (fa sp : Addr) (b l h d : Int) (f : Fm), vs = [.int b, .ref fa, .ref sp] ∧ FmAt H f fa ∧ FmR b f ∧ f.deep ≤ n ∧ H sp = some (.tup [.int l, .int h, .int d]) ∧ Rng l h d ∧
    ∀ (H' : Hp) (r : Bool), Same H H' → Val b f l h r → Q (.bl r) H'
abbrev nm_holds : List Str := ["base", "formula", "span", "word", "one", "other"]
theorem sc_holds : FnScope ["base", "formula", "span", "word", "one", "other"] ["base", "formula", "span"] (defScope s_holds) := ⟨rfl, rfl, rfl, by decide +kernel, rfl, by decide +kernel, by decide +kernel⟩
theorem ok_holds (T : Txt K mg A w) : ∀ n, FnOk P w K mg base CX0 (9 + n) A.a_holds A.d_holds ["base", "formula", "span"] (spHolds A n)
  | 0 => T.F_holds.ok sc_holds (fun vs H Q E h => h.elim) (fun cdv A0 outer s H vs Q E hr h => h.elim)
  | n + 1 => by
    have G_holds := ok_holds T n
    have G_states : FnOk P w K mg base CX0 8 A.a_states A.d_states ["base", "formula", "span"] (spStates A) := ok_states T
    refine T.F_holds.ok (k := 9 + n) sc_holds (fun vs H Q E h => ?_) (fun cdv A0 outer s H vs Q E hr h => ?_)
    · obtain ⟨fa, sp, b, l, h, d, f, rfl, _⟩ := h
      rfl
    · obtain ⟨fa, sp, b, l, h, d, f, rfl, F, R, dp, hsp, rng, q⟩ := h
      obtain ⟨esP, nP, D⟩ := T.kdP
      refine ⟨_, (pss_cons (ps_set (i := 3) sc_holds.nd rfl (Or.inl rfl) (pe_ix ix_tup (pv 1) pe_int (fun _ _ => rfl)))
  (pss_cons (ps_if (pt_cmpR op_eq (pv 3) pe_str (nomark _)) (pss_one (ps_ret pe_bl)) pss_nil)
  (pss_cons (ps_if (pt_cmpR op_eq (pv 3) pe_str (nomark _)) (pss_one (ps_ret (pe_not (pe_call G_holds (hr.mono (by omega)) (by rfl) T.m_holds T.F_holds.kp T.B_holds .nil pass0 (pa_cons (pv 0) (pa_cons (pe_ix ix_tup (pv 1) pe_int (fun _ _ => rfl)) (pa_cons (pv 2) pa_nil))))))) pss_nil)
  (pss_cons (ps_if (pt_cmpR (op_in_kd D) (pv 3) (pe_glob (v := .ref A.a_PARTS) rfl T.m_PARTS rfl) (by rfl)) (pss_cons (ps_set (i := 4) sc_holds.nd rfl (Or.inl rfl) (pe_call G_holds (hr.mono (by omega)) (by rfl) T.m_holds T.F_holds.kp T.B_holds .nil pass0 (pa_cons (pv 0) (pa_cons (pe_ix ix_tup (pv 1) pe_int (fun _ _ => rfl)) (pa_cons (pv 2) pa_nil)))))
  (pss_cons (ps_set (i := 5) sc_holds.nd rfl (Or.inl rfl) (pe_call G_holds (hr.mono (by omega)) (by rfl) T.m_holds T.F_holds.kp T.B_holds .nil pass0 (pa_cons (pv 0) (pa_cons (pe_ix ix_tup (pv 1) pe_int (fun _ _ => rfl)) (pa_cons (pv 2) pa_nil)))))
  (pss_cons (ps_if (pt_cmpR op_eq (pv 3) pe_str (nomark _)) (pss_one (ps_ret (pe_and (pv 4) (pe_one (pv 5))))) pss_nil)
  (pss_cons (ps_if (pt_cmpR op_eq (pv 3) pe_str (nomark _)) (pss_one (ps_ret (pe_or (pv 4) (pe_one (pv 5))))) pss_nil)
  (pss_one (ps_ret (pe_cmpR op_ne (pv 4) (pv 5) (nomark _)))))))) pss_nil)
  (pss_one (ps_ret (pe_call G_states (hr.mono (by omega)) (by rfl) T.m_states T.F_states.kp T.B_states .nil pass0 (pa_cons (pv 0) (pa_cons (pv 1) (pa_cons (pv 2) pa_nil)))))))))), ?_⟩
      cases f with
      | all =>
        have h1 : H fa = some (.tup [.str "all"]) := F
        refine ⟨_, rfl, fa, _, _, _, rfl, rfl, SqT.of h1, atL (j := 0) rfl, ?_⟩
        refine gN (σ' := [some (.int b), some (.ref fa), some (.ref sp), some (.str "all"), none, none]) rfl ?_
        refine ⟨_, rfl, rfl, _, rfl, ?_⟩
        rw [decide_eq_true rfl]
        refine iteT ?_
        exact q H true (Same.refl _) rfl
      | not f =>
        obtain ⟨c, h1, Fc⟩ := F
        have dp : f.deep + 1 ≤ n := dp
        obtain ⟨m, rfl⟩ : ∃ m, n = m + 1 := ⟨n - 1, by omega⟩
        refine ⟨_, rfl, fa, _, _, _, rfl, rfl, SqT.of h1, atL (j := 0) rfl, ?_⟩
        refine gN (σ' := [some (.int b), some (.ref fa), some (.ref sp), some (.str "not"), none, none]) rfl ?_
        refine ⟨_, rfl, rfl, _, rfl, ?_⟩
        refine iteF ?_
        refine ⟨_, rfl, rfl, _, rfl, ?_⟩
        rw [decide_eq_true rfl]
        refine iteT ?_
        refine ⟨_, rfl, _, rfl, fa, _, _, _, rfl, rfl, SqT.of h1, atL (j := 1) rfl, _, rfl, c, sp, b, l, h, d, f, rfl, Fc, R, by omega, hsp, rng, fun H1 r s1 v => ⟨r, rfl, ?_⟩⟩
        exact q H1 (!r) s1 ⟨r, v, rfl⟩
      | and f g =>
        obtain ⟨c, e, h1, Fc, Fe⟩ := F
        have dp : max f.deep g.deep + 1 ≤ n := dp
        obtain ⟨m, rfl⟩ : ∃ m, n = m + 1 := ⟨n - 1, by omega⟩
        refine ⟨_, rfl, fa, _, _, _, rfl, rfl, SqT.of h1, atL (j := 0) rfl, ?_⟩
        refine gN (σ' := [some (.int b), some (.ref fa), some (.ref sp), some (.str "and"), none, none]) rfl ?_
        refine ⟨_, rfl, rfl, _, rfl, ?_⟩
        refine iteF ?_
        refine ⟨_, rfl, rfl, _, rfl, ?_⟩
        refine iteF ?_
        obtain ⟨vp, hp⟩ := T.pa_and
        refine ⟨_, rfl, _, _, rfl, rfl, hp, _, rfl, ?_⟩
        refine iteT ?_
        refine ⟨_, rfl, _, rfl, fa, _, _, _, rfl, rfl, SqT.of h1, atL (j := 1) rfl, _, rfl, c, sp, b, l, h, d, f, rfl, Fc, R.1, by omega, hsp, rng, fun H1 r1 s1 v1 => ?_⟩
        refine gN (σ' := [some (.int b), some (.ref fa), some (.ref sp), some (.str "and"), some (.bl r1), none]) rfl ?_
        refine ⟨_, rfl, _, rfl, fa, _, _, _, rfl, rfl, SqT.of (s1 _ _ h1), atL (j := 2) rfl, _, rfl, e, sp, b, l, h, d, g, rfl, FmAt.same s1 Fe, R.2, by omega, s1 _ _ hsp, rng, fun H2 r2 s2 v2 => ?_⟩
        refine gN (σ' := [some (.int b), some (.ref fa), some (.ref sp), some (.str "and"), some (.bl r1), some (.bl r2)]) rfl ?_
        have s12 := s1.trans s2
        refine ⟨_, rfl, rfl, _, rfl, ?_⟩
        rw [decide_eq_true rfl]
        refine iteT ?_
        refine ⟨_, rfl, r1, rfl, ?_⟩
        cases r1 with
        | true =>
          refine iteT ⟨_, rfl, ?_⟩
          exact q H2 r2 s12 ⟨true, r2, v1, v2, rfl⟩
        | false =>
          refine iteF ?_
          exact q H2 false s12 ⟨false, r2, v1, v2, rfl⟩
      | or f g =>
        obtain ⟨c, e, h1, Fc, Fe⟩ := F
        have dp : max f.deep g.deep + 1 ≤ n := dp
        obtain ⟨m, rfl⟩ : ∃ m, n = m + 1 := ⟨n - 1, by omega⟩
        refine ⟨_, rfl, fa, _, _, _, rfl, rfl, SqT.of h1, atL (j := 0) rfl, ?_⟩
        refine gN (σ' := [some (.int b), some (.ref fa), some (.ref sp), some (.str "or"), none, none]) rfl ?_
        refine ⟨_, rfl, rfl, _, rfl, ?_⟩
        refine iteF ?_
        refine ⟨_, rfl, rfl, _, rfl, ?_⟩
        refine iteF ?_
        obtain ⟨vp, hp⟩ := T.pa_or
        refine ⟨_, rfl, _, _, rfl, rfl, hp, _, rfl, ?_⟩
        refine iteT ?_
        refine ⟨_, rfl, _, rfl, fa, _, _, _, rfl, rfl, SqT.of h1, atL (j := 1) rfl, _, rfl, c, sp, b, l, h, d, f, rfl, Fc, R.1, by omega, hsp, rng, fun H1 r1 s1 v1 => ?_⟩
        refine gN (σ' := [some (.int b), some (.ref fa), some (.ref sp), some (.str "or"), some (.bl r1), none]) rfl ?_
        refine ⟨_, rfl, _, rfl, fa, _, _, _, rfl, rfl, SqT.of (s1 _ _ h1), atL (j := 2) rfl, _, rfl, e, sp, b, l, h, d, g, rfl, FmAt.same s1 Fe, R.2, by omega, s1 _ _ hsp, rng, fun H2 r2 s2 v2 => ?_⟩
        refine gN (σ' := [some (.int b), some (.ref fa), some (.ref sp), some (.str "or"), some (.bl r1), some (.bl r2)]) rfl ?_
        have s12 := s1.trans s2
        refine ⟨_, rfl, rfl, _, rfl, ?_⟩
        refine iteF ?_
        refine ⟨_, rfl, rfl, _, rfl, ?_⟩
        rw [decide_eq_true rfl]
        refine iteT ?_
        refine ⟨_, rfl, r1, rfl, ?_⟩
        cases r1 with
        | true =>
          refine iteT ?_
          exact q H2 true s12 ⟨true, r2, v1, v2, rfl⟩
        | false =>
          refine iteF ⟨_, rfl, ?_⟩
          exact q H2 r2 s12 ⟨false, r2, v1, v2, rfl⟩
      | xor f g =>
        obtain ⟨c, e, h1, Fc, Fe⟩ := F
        have dp : max f.deep g.deep + 1 ≤ n := dp
        obtain ⟨m, rfl⟩ : ∃ m, n = m + 1 := ⟨n - 1, by omega⟩
        refine ⟨_, rfl, fa, _, _, _, rfl, rfl, SqT.of h1, atL (j := 0) rfl, ?_⟩
        refine gN (σ' := [some (.int b), some (.ref fa), some (.ref sp), some (.str "xor"), none, none]) rfl ?_
        refine ⟨_, rfl, rfl, _, rfl, ?_⟩
        refine iteF ?_
        refine ⟨_, rfl, rfl, _, rfl, ?_⟩
        refine iteF ?_
        obtain ⟨vp, hp⟩ := T.pa_xor
        refine ⟨_, rfl, _, _, rfl, rfl, hp, _, rfl, ?_⟩
        refine iteT ?_
        refine ⟨_, rfl, _, rfl, fa, _, _, _, rfl, rfl, SqT.of h1, atL (j := 1) rfl, _, rfl, c, sp, b, l, h, d, f, rfl, Fc, R.1, by omega, hsp, rng, fun H1 r1 s1 v1 => ?_⟩
        refine gN (σ' := [some (.int b), some (.ref fa), some (.ref sp), some (.str "xor"), some (.bl r1), none]) rfl ?_
        refine ⟨_, rfl, _, rfl, fa, _, _, _, rfl, rfl, SqT.of (s1 _ _ h1), atL (j := 2) rfl, _, rfl, e, sp, b, l, h, d, g, rfl, FmAt.same s1 Fe, R.2, by omega, s1 _ _ hsp, rng, fun H2 r2 s2 v2 => ?_⟩
        refine gN (σ' := [some (.int b), some (.ref fa), some (.ref sp), some (.str "xor"), some (.bl r1), some (.bl r2)]) rfl ?_
        have s12 := s1.trans s2
        refine ⟨_, rfl, rfl, _, rfl, ?_⟩
        refine iteF ?_
        refine ⟨_, rfl, rfl, _, rfl, ?_⟩
        refine iteF ?_
        refine ⟨_, rfl, _, rfl, rfl, ?_⟩
        have e : (!decide (V.bl r1 = V.bl r2)) = (r1 != r2) := by cases r1 <;> cases r2 <;> decide
        show Q (.bl (!decide (V.bl r1 = V.bl r2))) H2
        rw [e]
        exact q H2 (r1 != r2) s12 ⟨r1, r2, v1, v2, rfl⟩
      | counted k lst mst =>
        obtain ⟨c, h1, hk⟩ := F
        refine ⟨_, rfl, fa, _, _, _, rfl, rfl, SqT.of h1, atL (j := 0) rfl, ?_⟩
        refine gN (σ' := [some (.int b), some (.ref fa), some (.ref sp), some (.str "counted"), none, none]) rfl ?_
        refine ⟨_, rfl, rfl, _, rfl, ?_⟩
        refine iteF ?_
        refine ⟨_, rfl, rfl, _, rfl, ?_⟩
        refine iteF ?_
        refine ⟨_, rfl, _, _, rfl, rfl, T.pa_counted, _, rfl, ?_⟩
        refine iteF ?_
        exact ⟨_, rfl, _, rfl, _, rfl, fa, sp, b, l, h, d, (.counted k lst mst), rfl, ⟨c, h1, hk⟩, R, trivial, hsp, rng, fun H1 r s1 v => q H1 r s1 v⟩
      | taken k m0 =>
        obtain ⟨c, h1, hk⟩ := F
        refine ⟨_, rfl, fa, _, _, _, rfl, rfl, SqT.of h1, atL (j := 0) rfl, ?_⟩
        refine gN (σ' := [some (.int b), some (.ref fa), some (.ref sp), some (.str "taken"), none, none]) rfl ?_
        refine ⟨_, rfl, rfl, _, rfl, ?_⟩
        refine iteF ?_
        refine ⟨_, rfl, rfl, _, rfl, ?_⟩
        refine iteF ?_
        refine ⟨_, rfl, _, _, rfl, rfl, T.pa_taken, _, rfl, ?_⟩
        refine iteF ?_
        exact ⟨_, rfl, _, rfl, _, rfl, fa, sp, b, l, h, d, (.taken k m0), rfl, ⟨c, h1, hk⟩, R, trivial, hsp, rng, fun H1 r s1 v => q H1 r s1 v⟩
      | coarser k k2 n0 o =>
        obtain ⟨c, e, h1, hk, hk2⟩ := F
        refine ⟨_, rfl, fa, _, _, _, rfl, rfl, SqT.of h1, atL (j := 0) rfl, ?_⟩
        refine gN (σ' := [some (.int b), some (.ref fa), some (.ref sp), some (.str "coarser"), none, none]) rfl ?_
        refine ⟨_, rfl, rfl, _, rfl, ?_⟩
        refine iteF ?_
        refine ⟨_, rfl, rfl, _, rfl, ?_⟩
        refine iteF ?_
        refine ⟨_, rfl, _, _, rfl, rfl, T.pa_coarser, _, rfl, ?_⟩
        refine iteF ?_
        exact ⟨_, rfl, _, rfl, _, rfl, fa, sp, b, l, h, d, (.coarser k k2 n0 o), rfl, ⟨c, e, h1, hk, hk2⟩, R, trivial, hsp, rng, fun H1 r s1 v => q H1 r s1 v⟩
      | touched k low =>
        obtain ⟨c, h1, hk⟩ := F
        refine ⟨_, rfl, fa, _, _, _, rfl, rfl, SqT.of h1, atL (j := 0) rfl, ?_⟩
        refine gN (σ' := [some (.int b), some (.ref fa), some (.ref sp), some (.str "touched"), none, none]) rfl ?_
        refine ⟨_, rfl, rfl, _, rfl, ?_⟩
        refine iteF ?_
        refine ⟨_, rfl, rfl, _, rfl, ?_⟩
        refine iteF ?_
        refine ⟨_, rfl, _, _, rfl, rfl, T.pa_touched, _, rfl, ?_⟩
        refine iteF ?_
        exact ⟨_, rfl, _, rfl, _, rfl, fa, sp, b, l, h, d, (.touched k low), rfl, ⟨c, h1, hk⟩, R, trivial, hsp, rng, fun H1 r s1 v => q H1 r s1 v⟩
end
end Ax

namespace Ax
open PySem L2
section
variable {P : Program} {w : World} {K : PySem.W.Frag} {mg : Str → Option Value} {base : Heap} {A : Adr}
/-! ### span in set -/
def spCont (A : Adr) : Sp := fun vs H Q _ => ∃ (x sp : Addr) (b : Int) (f : Fm) (dx fa : Addr) (l h d : Int), vs = [.ref x, .ref sp] ∧ SetAt A.c_RangeSet H x b f dx fa ∧ FmR b f ∧ f.deep ≤ 8 ∧ H sp = some (.tup [.int l, .int h, .int d]) ∧ Rng l h d ∧
  ∀ (H' : Hp) (r : Bool), Same H H' → Val b f l h r → Q (.bl r) H'
abbrev nm_RangeSet___contains__ : List Str := ["self", "span"]
theorem sc_RangeSet___contains__ : FnScope ["self", "span"] ["self", "span"] (defScope s_RangeSet___contains__) := ⟨rfl, rfl, rfl, by decide +kernel, rfl, by decide +kernel, by decide +kernel⟩
theorem ok_cont (T : Txt K mg A w) : FnOk P w K mg base CX0 19 A.a_RangeSet___contains__ A.d_RangeSet___contains__ ["self", "span"] (spCont A) := by
  have G_holds : FnOk P w K mg base CX0 18 A.a_holds A.d_holds ["base", "formula", "span"] (spHolds A 9) := ok_holds T 9
  have G_is_span : FnOk P w K mg base CX0 2 A.a_is_span A.d_is_span ["value"] spSpan := ok_is_span T
  refine T.F_RangeSet___contains__.ok sc_RangeSet___contains__ (fun vs H Q E h => ?_) (fun cdv A0 outer s H vs Q E hr h => ?_)
  · obtain ⟨x, sp, b, f, dx, fa, l, h, d, rfl, _⟩ := h
    rfl
  · obtain ⟨x, sp, b, f, dx, fa, l, h, d, rfl, X, R, dp, hsp, rng, q⟩ := h
    refine ⟨_, (pss_cons (ps_if (pt_not (pt_val (pe_call G_is_span (hr.mono (by decide)) (by rfl) T.m_is_span T.F_is_span.kp T.B_is_span .nil pass0 (pa_cons (pv 1) pa_nil)))) (pss_one ps_never) pss_nil)
  (pss_one (ps_ret (pe_call G_holds (hr.mono (by decide)) (by rfl) T.m_holds T.F_holds.kp T.B_holds .nil pass0 (pa_cons (pe_fld (pv 0) rfl) (pa_cons (pe_fld (pv 0) rfl) (pa_cons (pv 1) pa_nil))))))), ?_⟩
    refine ⟨_, rfl, sp, l, h, d, rfl, hsp, rng.lt, rng.d0, fun H1 s1 => ⟨true, rfl, iteF ?_⟩⟩
    have X1 := X.same s1
    refine ⟨_, rfl, x, A.c_RangeSet, dx, _, _, rfl, X1.at_, T.cl2, T.nb_base, sf_base _ _, ?_⟩
    refine ⟨_, rfl, x, A.c_RangeSet, dx, _, _, rfl, X1.at_, T.cl2, T.nb_formula, sf_formula _ _, ?_⟩
    exact ⟨_, rfl, fa, sp, b, l, h, d, f, rfl, X1.fm, R, dp, s1 _ _ hsp, rng, fun H2 r s2 v => q H2 r (s1.trans s2) v⟩
end
end Ax

namespace Ax
open PySem L2
/-! ### the law's trees -/
inductive Tre where
  | every
  | counted (k : Ky) (l : Int) (m : Option Int)
  | taken (k : Ky) (m : Int)
  | coarser (k k2 : Ky) (n o : Int)
  | touched (k : Ky) (low : Bool)
  | not (f : Tre)
  | and (f g : Tre)
  | or (f g : Tre)
  | less (f g : Tre)
  | either (f g : Tre)
/-- a drawn rule's tuple, whose heads aren't the purse -/
def RlAt (H : Hp) (p : Addr) (b : Int) (k : Ky) (a : Addr) : Prop := ∃ lh, RuleT H a lh b k.1 k.2.1 k.2.2 ∧ lh ≠ p
def KyD (b : Int) (k : Ky) : Prop := Drawn b k.1 k.2.1 k.2.2 ∧ ∀ m ∈ k.2.1, (300300 : Int) % m = 0
def TreAt (H : Hp) (p : Addr) (b : Int) : Tre → Addr → Prop
  | .every, a => H a = some (.tup [.str "every", .int b])
  | .counted k l m, a => ∃ c, H a = some (.tup [.str "counted", .ref c, .int l, optV m]) ∧ RlAt H p b k c
  | .taken k m, a => ∃ c, H a = some (.tup [.str "taken", .ref c, .int m]) ∧ RlAt H p b k c
  | .coarser k k2 n o, a => ∃ c e t, H a = some (.tup [.str "coarser", .ref c, .ref e, .ref t]) ∧ RlAt H p b k c ∧ RlAt H p b k2 e ∧ H t = some (.tup [.int n, .int o])
  | .touched k low, a => ∃ c, H a = some (.tup [.str "touched", .ref c, .str (if low then "low" else "high")]) ∧ RlAt H p b k c
  | .not f, a => ∃ c, H a = some (.tup [.str "not", .ref c]) ∧ TreAt H p b f c
  | .and f g, a => ∃ c e, H a = some (.tup [.str "and", .ref c, .ref e]) ∧ TreAt H p b f c ∧ TreAt H p b g e
  | .or f g, a => ∃ c e, H a = some (.tup [.str "or", .ref c, .ref e]) ∧ TreAt H p b f c ∧ TreAt H p b g e
  | .less f g, a => ∃ c e, H a = some (.tup [.str "less", .ref c, .ref e]) ∧ TreAt H p b f c ∧ TreAt H p b g e
  | .either f g, a => ∃ c e, H a = some (.tup [.str "either", .ref c, .ref e]) ∧ TreAt H p b f c ∧ TreAt H p b g e
/-- what a drawn tree has -/
def TreD (b : Int) : Tre → Prop
  | .every => True
  | .counted k l m => KyD b k ∧ 0 ≤ l ∧ l ≤ 7 ∧ ∀ z, m = some z → 0 ≤ z ∧ z ≤ 8
  | .taken k m => KyD b k ∧ m ∈ k.2.1
  | .coarser k k2 n o => KyD b k ∧ KyD b k2 ∧ 1 ≤ n ∧ n ≤ 10 ∧ 1 ≤ o ∧ o ≤ 10
  | .touched k _ => KyD b k
  | .not f => TreD b f
  | .and f g => TreD b f ∧ TreD b g
  | .or f g => TreD b f ∧ TreD b g
  | .less f g => TreD b f ∧ TreD b g
  | .either f g => TreD b f ∧ TreD b g
def Tre.deep : Tre → Nat
  | .not f => f.deep + 1
  | .and f g => max f.deep g.deep + 1
  | .or f g => max f.deep g.deep + 1
  | .less f g => max f.deep g.deep + 1
  | .either f g => max f.deep g.deep + 1
  | _ => 0
theorem RlAt.same {H H' : Hp} {p : Addr} {b : Int} {k : Ky} {a : Addr} (x : RlAt H p b k a) (s : Same H H') : RlAt H' p b k a := let ⟨lh, r, n⟩ := x; ⟨lh, r.same s, n⟩
theorem RlAt.kp {H H' : Hp} {p : Addr} {b : Int} {k : Ky} {a : Addr} {t : Nat} (x : RlAt H p b k a) (y : Purse H p t) (s : Kp p H H') : RlAt H' p b k a := let ⟨lh, r, n⟩ := x; ⟨lh, r.kp y n s, n⟩
/-- tuples stay behind an all-but-the-purse step -/
theorem kp_tup {H H' : Hp} {p a : Addr} {xs : List V} {t : Nat} (y : Purse H p t) (s : Kp p H H') (h : H a = some (.tup xs)) : H' a = some (.tup xs) := by
  obtain ⟨ys, e⟩ := y.some
  exact s _ _ (ne_of h e (by intro z; cases z)) h
theorem TreAt.same {H H' : Hp} {p : Addr} {b : Int} (s : Same H H') : ∀ {f : Tre} {a : Addr}, TreAt H p b f a → TreAt H' p b f a
  | .every, _, h => s _ _ h
  | .counted _ _ _, _, ⟨c, h, h1⟩ => ⟨c, s _ _ h, h1.same s⟩
  | .taken _ _, _, ⟨c, h, h1⟩ => ⟨c, s _ _ h, h1.same s⟩
  | .coarser _ _ _ _, _, ⟨c, e, t, h, h1, h2, h3⟩ => ⟨c, e, t, s _ _ h, h1.same s, h2.same s, s _ _ h3⟩
  | .touched _ _, _, ⟨c, h, h1⟩ => ⟨c, s _ _ h, h1.same s⟩
  | .not f, _, ⟨c, h, h1⟩ => ⟨c, s _ _ h, TreAt.same s (f := f) h1⟩
  | .and f g, _, ⟨c, e, h, h1, h2⟩ => ⟨c, e, s _ _ h, TreAt.same s (f := f) h1, TreAt.same s (f := g) h2⟩
  | .or f g, _, ⟨c, e, h, h1, h2⟩ => ⟨c, e, s _ _ h, TreAt.same s (f := f) h1, TreAt.same s (f := g) h2⟩
  | .less f g, _, ⟨c, e, h, h1, h2⟩ => ⟨c, e, s _ _ h, TreAt.same s (f := f) h1, TreAt.same s (f := g) h2⟩
  | .either f g, _, ⟨c, e, h, h1, h2⟩ => ⟨c, e, s _ _ h, TreAt.same s (f := f) h1, TreAt.same s (f := g) h2⟩
theorem TreAt.kp {H H' : Hp} {p : Addr} {b : Int} {t : Nat} (y : Purse H p t) (s : Kp p H H') : ∀ {f : Tre} {a : Addr}, TreAt H p b f a → TreAt H' p b f a
  | .every, _, h => kp_tup y s h
  | .counted _ _ _, _, ⟨c, h, h1⟩ => ⟨c, kp_tup y s h, h1.kp y s⟩
  | .taken _ _, _, ⟨c, h, h1⟩ => ⟨c, kp_tup y s h, h1.kp y s⟩
  | .coarser _ _ _ _, _, ⟨c, e, t, h, h1, h2, h3⟩ => ⟨c, e, t, kp_tup y s h, h1.kp y s, h2.kp y s, kp_tup y s h3⟩
  | .touched _ _, _, ⟨c, h, h1⟩ => ⟨c, kp_tup y s h, h1.kp y s⟩
  | .not f, _, ⟨c, h, h1⟩ => ⟨c, kp_tup y s h, TreAt.kp y s (f := f) h1⟩
  | .and f g, _, ⟨c, e, h, h1, h2⟩ => ⟨c, e, kp_tup y s h, TreAt.kp y s (f := f) h1, TreAt.kp y s (f := g) h2⟩
  | .or f g, _, ⟨c, e, h, h1, h2⟩ => ⟨c, e, kp_tup y s h, TreAt.kp y s (f := f) h1, TreAt.kp y s (f := g) h2⟩
  | .less f g, _, ⟨c, e, h, h1, h2⟩ => ⟨c, e, kp_tup y s h, TreAt.kp y s (f := f) h1, TreAt.kp y s (f := g) h2⟩
  | .either f g, _, ⟨c, e, h, h1, h2⟩ => ⟨c, e, kp_tup y s h, TreAt.kp y s (f := f) h1, TreAt.kp y s (f := g) h2⟩
/-- the same, with a second address the heads don't lie at -/
def RlQ (H : Hp) (p D : Addr) (b : Int) (k : Ky) (a : Addr) : Prop := ∃ lh, RuleT H a lh b k.1 k.2.1 k.2.2 ∧ lh ≠ p ∧ lh ≠ D
abbrev RlsAt (H : Hp) (p : Addr) (b : Int) : List Ky → List Addr → Prop := Paired (RlAt H p b)
abbrev RlsQ (H : Hp) (p D : Addr) (b : Int) : List Ky → List Addr → Prop := Paired (RlQ H p D b)
theorem RuleT.but {H : Hp} {D ru lh : Addr} {b : Int} {k : Kd} {hs : List Int} {most : Int} {xs ys : List V} (x : RuleT H ru lh b k hs most) (hD : H D = some (.lst xs)) (n : lh ≠ D) : RuleT (upd H D (.lst ys)) ru lh b k hs most := by
  have n2 : ru ≠ D := ne_of x.1 hD (by intro z; cases z)
  exact ⟨by rw [upd_ne n2]; exact x.1, by rw [upd_ne n]; exact x.2⟩
theorem RlsQ.p {p D : Addr} {b : Int} {H : Hp} : ∀ {ks : List Ky} {as : List Addr}, RlsQ H p D b ks as → RlsAt H p b ks as
  | _, _, .nil => .nil
  | _, _, .cons ⟨lh, h, n, _⟩ r => .cons ⟨lh, h, n⟩ (RlsQ.p r)
theorem RlsQ.kp {p D : Addr} {b : Int} {H H' : Hp} {t : Nat} (y : Purse H p t) (s : Kp p H H') : ∀ {ks : List Ky} {as : List Addr}, RlsQ H p D b ks as → RlsQ H' p D b ks as
  | _, _, .nil => .nil
  | _, _, .cons ⟨lh, h, n⟩ r => .cons ⟨lh, h.kp y n.1 s, n⟩ (RlsQ.kp y s r)
theorem RlsAt.kp {p : Addr} {b : Int} {H H' : Hp} {t : Nat} (y : Purse H p t) (s : Kp p H H') : ∀ {ks : List Ky} {as : List Addr}, RlsAt H p b ks as → RlsAt H' p b ks as
  | _, _, .nil => .nil
  | _, _, .cons h r => .cons (h.kp y s) (RlsAt.kp y s r)
theorem RlsAt.get {p : Addr} {b : Int} {H : Hp} : ∀ {ks : List Ky} {as : List Addr} {i : Nat} {a : Addr}, RlsAt H p b ks as → as[i]? = some a → ∃ k, k ∈ ks ∧ RlAt H p b k a
  | _, _, _, _, .nil, h => nomatch h
  | _, _, 0, _, .cons h _, e => by
    obtain rfl := Option.some.inj e
    exact ⟨_, List.mem_cons_self, h⟩
  | _, _, i + 1, _, .cons _ r, e => let ⟨k, hk, h⟩ := RlsAt.get (i := i) r e
    ⟨k, List.mem_cons_of_mem _ hk, h⟩
theorem RlsQ.get {p D : Addr} {b : Int} {H : Hp} : ∀ {ks : List Ky} {as : List Addr} {i : Nat} {a : Addr}, RlsQ H p D b ks as → as[i]? = some a → ∃ k, k ∈ ks ∧ RlQ H p D b k a
  | _, _, _, _, .nil, h => nomatch h
  | _, _, 0, _, .cons h _, e => by
    obtain rfl := Option.some.inj e
    exact ⟨_, List.mem_cons_self, h⟩
  | _, _, i + 1, _, .cons _ r, e => let ⟨k, hk, h⟩ := RlsQ.get (i := i) r e
    ⟨k, List.mem_cons_of_mem _ hk, h⟩
theorem RlsQ.same {p D : Addr} {b : Int} {H H' : Hp} (s : Same H H') : ∀ {ks : List Ky} {as : List Addr}, RlsQ H p D b ks as → RlsQ H' p D b ks as
  | _, _, .nil => .nil
  | _, _, .cons ⟨lh, h, n⟩ r => .cons ⟨lh, h.same s, n⟩ (RlsQ.same s r)
theorem RlsQ.but {p D : Addr} {b : Int} {H : Hp} {xs ys : List V} (hD : H D = some (.lst xs)) : ∀ {ks : List Ky} {as : List Addr}, RlsQ H p D b ks as → RlsQ (upd H D (.lst ys)) p D b ks as
  | _, _, .nil => .nil
  | _, _, .cons ⟨lh, h, n⟩ r => .cons ⟨lh, h.but hD n.2, n⟩ (RlsQ.but hD r)
theorem RlsQ.snoc {p D : Addr} {b : Int} {H : Hp} {k : Ky} {a : Addr} : ∀ {ks : List Ky} {as : List Addr}, RlsQ H p D b ks as → RlQ H p D b k a → RlsQ H p D b (ks ++ [k]) (as ++ [a])
  | _, _, .nil, h => .cons h .nil
  | _, _, .cons h r, q => .cons h (RlsQ.snoc r q)
theorem fam_div' : ∀ b ∈ BASES, ∀ is ∈ FAM1 ++ FAM2, ∀ m ∈ famOf b is, (300300 : Int) % m = 0 := by decide +kernel
/-- a rule of a third: one head, at most three -/
theorem KyD.cut {b : Int} {k : Ky} (h : KyD b k) : KyD b (k.1, k.2.1.take 1, if (3 : Int) < k.2.2 then 3 else k.2.2) := by
  obtain ⟨⟨h1, h2, h3, h4, h5, h6, h7, h8, h9⟩, hd⟩ := h
  have hm : ∀ m, m ∈ k.2.1.take 1 → m ∈ k.2.1 := fun m hm => List.mem_of_mem_take hm
  refine ⟨⟨h1, h2, ?_, ?_, fun e => ?_, ?_, ?_, ?_, fun m e => h9 m (hm m e)⟩, fun m e => hd m (hm m e)⟩
  · show 1 ≤ (if (3 : Int) < k.2.2 then 3 else k.2.2)
    split <;> omega
  · show (if (3 : Int) < k.2.2 then 3 else k.2.2) ≤ 6
    split <;> omega
  · have := h5 e
    show 2 ≤ (if (3 : Int) < k.2.2 then 3 else k.2.2)
    split <;> omega
  · show k.2.1.take 1 ≠ []
    cases e : k.2.1 with
    | nil => exact absurd e h6
    | cons x r => exact fun z => nomatch z
  · show (k.2.1.take 1).length ≤ 4
    rw [List.length_take]
    omega
  · exact (List.take_sublist 1 k.2.1).nodup h8
section
variable {P : Program} {w : World} {K : PySem.W.Frag} {mg : Str → Option Value} {base : Heap} {A : Adr}
theorem slK (K : PySem.W.Frag) {X : Cx} (h : X.K = K := by rfl) : SlR X (rSlL K) := h ▸ sl_list
/-! ### _law_rules -/
abbrev nm_law_rules : List Str := ["_law_purse_here", "_law_family_here", "_law_rules_here", "_law_turn", "_law_base", "_law_kind", "_law_heads", "_law_most"]
theorem sc_law_rules : FnScope ["_law_purse_here", "_law_family_here", "_law_rules_here", "_law_turn", "_law_base", "_law_kind", "_law_heads", "_law_most"] ["_law_purse_here"] (defScope s_law_rules) := ⟨rfl, rfl, rfl, by decide +kernel, rfl, by decide +kernel, by decide +kernel⟩
def spRules : Sp := fun vs H Q _ => ∃ (p : Addr) (t : Nat), vs = [.ref p] ∧ Purse H p t ∧ t ≤ 2 ^ 10 ∧
  ∀ (H' : Hp) (l : Addr) (b : Int) (ks : List Ky) (as : List Addr), Kp p H H' → Purse H' p (t + 40) → H' l = some (.lst (as.map V.ref)) → l ≠ p → RlsAt H' p b ks as → ks ≠ [] → ks.length ≤ 3 → (∀ k ∈ ks, KyD b k) → Q (.ref l) H'
theorem ok_rules (T : Txt K mg A w) : FnOk P w K mg base CX0 4 A.a_law_rules A.d_law_rules ["_law_purse_here"] spRules := by
  have G_law_family : FnOk P w K mg base CX0 3 A.a_law_family A.d_law_family ["_law_purse_here"] spFamily := ok_family T
  have G_law_rule : FnOk P w K mg base CX0 3 A.a_law_rule A.d_law_rule ["_law_purse_here", "_law_family_here"] spRule := ok_rule T
  have G_law_pick : FnOk P w K mg base CX0 2 A.a_law_pick A.d_law_pick ["_law_purse_here", "_law_items"] spPick := ok_pick T
  refine T.F_law_rules.ok sc_law_rules (fun vs H Q E h => ?_) (fun cdv A0 outer s H vs Q E hr h => ?_)
  · obtain ⟨p, t, rfl, _⟩ := h
    rfl
  · obtain ⟨p, t, rfl, P0, ht, q⟩ := h
    refine ⟨_, (pss_cons (ps_set (i := 1) sc_law_rules.nd rfl (Or.inr rfl) (pe_call G_law_family (hr.mono (by decide)) (by rfl) T.m_law_family T.F_law_family.kp T.B_law_family .nil pass0 (pa_cons (pv 0) pa_nil)))
  (pss_cons (ps_setLc (i := 2) (own := [("_law_turn", 3)]) (g := gName 3) (tt := tYes) rfl sc_law_rules.nd rfl rfl (sw_true rfl rfl rfl (by decide +kernel)) (pi_range1 rfl T.n_range (pa_cons (pe_call G_law_pick (hr.mono (by decide)) (by rfl) T.m_law_pick T.F_law_pick.kp T.B_law_pick .nil pass0 (pa_cons (pv 0) (pa_cons (pe_lst (pa_cons pe_int (pa_cons pe_int (pa_cons pe_int (pa_cons pe_int (pa_cons pe_int pa_nil)))))) pa_nil))) pa_nil)) (blkOk_by (own := [("_law_turn", 3)]) (N := nm_law_rules) (sc := defScope s_law_rules) (by decide +kernel)) (fun _ _ _ _ _ => (pg_name (i := 3) sc_law_rules.nd rfl (Or.inl rfl))) (fun _ _ _ _ _ => pts_nil) (fun _ _ _ _ _ => (pe_call G_law_rule (hr.mono (by decide)) (by rfl) T.m_law_rule T.F_law_rule.kp T.B_law_rule .nil pass0 (pa_cons (pv 0) (pa_cons (pv 1) pa_nil)))))
  (pss_cons (ps_if (pt_cmpR op_eq (pe_callB call_len_seq (by rfl) T.n_len (by decide +kernel) (pa_cons (pv 2) pa_nil)) pe_int (nomark _)) (pss_one (ps_ret (pe_lc (own := [("_law_base", 4), ("_law_kind", 5), ("_law_heads", 6), ("_law_most", 7)]) (g := gTup K 4 (gCons (gName 4) (gCons (gName 5) (gCons (gName 6) (gCons (gName 7) gNil))))) (tt := tYes) rfl sc_law_rules.nd (pi_list (pv 2)) (blkOk_by (own := [("_law_base", 4), ("_law_kind", 5), ("_law_heads", 6), ("_law_most", 7)]) (N := nm_law_rules) (sc := defScope s_law_rules) (by decide +kernel)) (fun _ _ _ _ _ => (pg_tup (by rfl) (pgs_cons (pg_name (i := 4) sc_law_rules.nd rfl (Or.inl rfl)) (pgs_cons (pg_name (i := 5) sc_law_rules.nd rfl (Or.inl rfl)) (pgs_cons (pg_name (i := 6) sc_law_rules.nd rfl (Or.inl rfl)) (pgs_cons (pg_name (i := 7) sc_law_rules.nd rfl (Or.inl rfl)) pgs_nil)))))) (fun _ _ _ _ _ => pts_nil) (fun _ _ _ _ _ => (pe_tup (pa_cons (pv 4) (pa_cons (pv 5) (pa_cons (pe_slice (slK K) (pv 6) po_none (po_some pe_int)) (pa_cons (pe_callB (call_min2 rfl) (by rfl) T.n_min (by decide +kernel) (pa_cons (pe_callTy call_int1 (by rfl) T.n_int (by decide +kernel) (pa_cons (pv 7) pa_nil)) (pa_cons pe_int pa_nil))) pa_nil))))))))) pss_nil)
  (pss_one (ps_ret (pv 2)))))), ?_⟩
    have e18 : (2 : Nat) ^ 18 = 262144 := by decide
    have e20 : (2 : Nat) ^ 20 = 1048576 := by decide
    have e10 : (2 : Nat) ^ 10 = 1024 := by decide
    refine ⟨_, rfl, p, t, rfl, P0, by omega, fun H1 f lf b ms k1 P1 hf hlf f0 F => ?_⟩
    have nlf : lf ≠ p := P0.ne f0
    have hdivm : ∀ m ∈ ms, (300300 : Int) % m = 0 := by
      obtain ⟨hb, is, his, rfl⟩ := F
      exact fam_div' b hb is his
    refine gN (σ' := [some (.ref p), some (.ref f), none, none, none, none, none, none]) rfl ?_
    refine ⟨_, rfl, (by show 5 ≤ sizeLine; decide), fun l2 hl2 => ?_⟩
    have P2 := P1.same (same_new (o := .lst [.int 1, .int 1, .int 2, .int 2, .int 3]) hl2)
    refine ⟨p, l2, _, t + 2, rfl, P2, by omega, upd_same, P1.ne hl2, (by show 0 < 5; decide), (by show 5 ≤ 1000; decide), fun H3 i3 x3 k3 P3 g3 => ?_⟩
    obtain ⟨n, rfl, n1, n3⟩ := pick_int (ms := [1, 1, 2, 2, 3]) (P := fun m => 1 ≤ m ∧ m ≤ 3) g3 (by decide)
    have k13 := (kpNew (p := p) (o := .lst [.int 1, .int 1, .int 2, .int 2, .int 3]) hl2).trans k3
    have k03 := k1.trans k13
    have hf3 := kp_tup P1 k13 hf
    have hlf3 := k13 _ _ nlf hlf
    refine ⟨n, rfl, by omega, by omega, fun D hD => ?_⟩
    have nDp : D ≠ p := P3.ne hD
    refine lc_range (lo := 0) (n := n.toNat) (fun i H' => Kp p H3 H' ∧ Purse H' p (t + 3 + 8 * i) ∧ ∃ (as : List Addr) (ks : List Ky), H' D = some (.lst (as.map V.ref)) ∧ ks.length = i ∧ RlsQ H' p D b ks as ∧ ∀ k ∈ ks, KyD b k) ⟨kpNew hD, P3.same (same_new hD), [], [], upd_same, rfl, .nil, fun _ h => nomatch h⟩ ?_ ?_
    · rintro i H' hi ⟨k4, P4, as, ks, h4, len, RQ, KD⟩
      refine ⟨rfl, yes_of ?_⟩
      refine ⟨_, rfl, _, rfl, p, f, lf, t + 3 + 8 * i, b, ms, rfl, P4, by omega, kp_tup P3 k4 hf3, k4 _ _ nlf hlf3, nlf, F, fun H5 q5 lh k hs most k5 P5 RT f5 G sub => ?_⟩
      have h5 := k5 _ _ nDp h4
      have nlD : lh ≠ D := fun y => by
        rw [y, h4] at f5
        cases f5
      have asl : ks.length = as.length := Paired.length RQ
      refine ⟨_, h5, ?_, fun c o n e => ?_, ?_, as ++ [q5], ks ++ [(k, hs, most)], ?_, ?_, ?_, ?_⟩
      · rw [List.length_map]
        exact small1000 (by omega)
      · have ncE : c ≠ D := ne_of_none e hD
        rw [upd_ne ncE]
        exact k5 c o n (k4 c o n e)
      · obtain ⟨a, c, u, h1, r⟩ := P5
        exact Purse.le ⟨a, c, u, by rw [upd_ne nDp.symm]; exact h1, r⟩ (by omega)
      · rw [upd_same, List.map_append]
        rfl
      · rw [List.length_append, len]
        rfl
      · exact ((RQ.kp P4 k5).but h5).snoc ⟨lh, RT.but h5 nlD, P4.ne f5, nlD⟩
      · intro r hr
        rcases List.mem_append.mp hr with y | y
        · exact KD r y
        · rw [List.mem_singleton.mp y]
          exact ⟨G, fun m hm => hdivm m (sub m hm)⟩
    · rintro H' ⟨k4, P4, as, ks, h4, len, RQ, KD⟩
      have asl : ks.length = as.length := Paired.length RQ
      have k04 := k03.trans k4
      have ne4 : ks ≠ [] := fun y => by
        rw [y] at len
        simp at len
        omega
      refine gN (σ' := [some (.ref p), some (.ref f), some (.ref D), none, none, none, none, none]) rfl ?_
      refine ⟨_, rfl, D, _, rfl, .inl (SqL.of h4), rfl, _, rfl, ?_⟩
      refine ite2 (fun hc => ?_) (fun hc => ?_)
      · refine ⟨_, rfl, D, rfl, ⟨_, SqL.of h4⟩, fun E5 hE => ?_⟩
        have nEp : E5 ≠ p := P4.ne hE
        have nED : E5 ≠ D := (ne_of_none h4 hE).symm
        refine lc_list (K := K) (a := D) (xs := as.map V.ref) (fun i H5 => Kp E5 H' H5 ∧ ∃ (bs : List Addr) (js : List Ky), H5 E5 = some (.lst (bs.map V.ref)) ∧ js.length = i ∧ RlsQ H5 p E5 b js bs ∧ ∀ k ∈ js, KyD b k) ⟨kpNew hE, [], [], upd_same, rfl, .nil, fun _ h => nomatch h⟩ ?_ ?_ ?_
        · rintro i H5 _ ⟨k5, _⟩
          exact SqL.of (k5 _ _ nED.symm h4)
        · rintro i x H5 hi ⟨k5, bs, js, h5, len5, RQ5, KD5⟩
          rw [List.getElem?_map] at hi
          cases ha : as[i]? with
          | none =>
            rw [ha] at hi
            cases hi
          | some a =>
            rw [ha] at hi
            obtain rfl := Option.some.inj hi
            have hi3 : i < as.length := (List.getElem?_eq_some_iff.mp ha).1
            obtain ⟨k, hk, lh, RT, nlp, nlD⟩ := RlsQ.get RQ ha
            have nlE : lh ≠ E5 := ne_of_none RT.2 hE
            have naE : a ≠ E5 := ne_of_none RT.1 hE
            have RT5 : RuleT H5 a lh b k.1 k.2.1 k.2.2 := ⟨k5 _ _ naE RT.1, k5 _ _ nlE RT.2⟩
            have G := KD k hk
            refine ⟨a, _, rfl, SqT.of RT5.1, rfl, _, _, rfl, _, _, rfl, _, _, rfl, _, _, rfl, ?_⟩
            refine ⟨rfl, rfl, yes_of ?_⟩
            have hlh5 := RT5.2
            refine ⟨_, rfl, _, rfl, _, rfl, _, rfl, lh, _, rfl, SqL.of hlh5, fun p6 hp6 => ?_⟩
            have e6 : cutV (k.2.1.map V.int) none (some 1) = (k.2.1.take 1).map V.int := by
              rw [show cutV (k.2.1.map V.int) none (some 1) = (k.2.1.map V.int).take 1 from cut_to _ 1, List.map_take]
            refine ⟨_, rfl, .inl ⟨_, rfl, _, _, rfl, (by show 4 ≤ sizeLine; decide), fun q7 hq7 => ?_⟩⟩
            have hs6 := same_new (o := .lst (cutV (k.2.1.map V.int) none (some 1))) hp6
            have hs7 := same_new (o := .tup [.int b, .str k.1.s, .ref p6, .int (if (3 : Int) < k.2.2 then 3 else k.2.2)]) hq7
            have s57 := hs6.trans hs7
            have h57 := s57 _ _ h5
            have n6E : p6 ≠ E5 := (ne_of_none h5 hp6).symm
            have n6p : p6 ≠ p := fun y => by
              obtain ⟨c1, c2, c3, c4, _⟩ := P4
              have := k5 _ _ nEp.symm c4
              rw [← y, hp6] at this
              cases this
            have RT7 : RuleT _ q7 p6 b k.1 (k.2.1.take 1) (if (3 : Int) < k.2.2 then 3 else k.2.2) := ⟨upd_same, by
              rw [← e6]
              exact hs7 _ _ upd_same⟩
            have asl5 : js.length = bs.length := Paired.length RQ5
            refine ⟨_, h57, ?_, fun c o n e => ?_, bs ++ [q7], js ++ [(k.1, k.2.1.take 1, if (3 : Int) < k.2.2 then 3 else k.2.2)], ?_, ?_, ?_, ?_⟩
            · rw [List.length_map]
              exact small1000 (by omega)
            · rw [upd_ne n]
              exact s57 _ _ (k5 c o n e)
            · rw [upd_same, List.map_append]
              rfl
            · rw [List.length_append, len5]
              rfl
            · exact (RlsQ.but h57 (RlsQ.same s57 RQ5)).snoc ⟨p6, RT7.but h57 n6E, n6p, n6E⟩
            · intro r hr
              rcases List.mem_append.mp hr with y | y
              · exact KD5 r y
              · rw [List.mem_singleton.mp y]
                exact G.cut
        · rintro H5 ⟨k5, bs, js, h5, len5, RQ5, KD5⟩
          rw [List.length_map] at len5
          obtain ⟨c1, c2, c3, c4, c5⟩ := P4
          exact q H5 E5 b js bs (fun c o n e => k5 c o (ne_of_none (k04 c o n e) hE) (k04 c o n e)) (Purse.le (t := t + 3 + 8 * n.toNat) ⟨c1, c2, c3, k5 _ _ nEp.symm c4, c5⟩ (by omega)) h5 nEp RQ5.p (fun y => by
            rw [y] at len5
            simp at len5
            omega) (by omega) KD5
      · exact ⟨_, rfl, q H' D b ks as k04 (P4.le (by omega)) h4 nDp RQ.p ne4 (by omega) KD⟩
end
end Ax

namespace Ax
open PySem L2
section
variable {P : Program} {w : World} {K : PySem.W.Frag} {mg : Str → Option Value} {base : Heap} {A : Adr}
/-! ### _law_atom -/
/-- the drawn rules, their list at l -/
structure RlsL (H : Hp) (p l : Addr) (b : Int) (ks : List Ky) (as : List Addr) : Prop where
  at_ : H l = some (.lst (as.map V.ref))
  nl : l ≠ p
  all : RlsAt H p b ks as
  ne : ks ≠ []
  le : ks.length ≤ 3
  ok : ∀ k ∈ ks, KyD b k
theorem RlsL.kp {H H' : Hp} {p l : Addr} {b : Int} {ks : List Ky} {as : List Addr} {t : Nat} (x : RlsL H p l b ks as) (y : Purse H p t) (s : Kp p H H') : RlsL H' p l b ks as := ⟨s _ _ x.nl x.at_, x.nl, x.all.kp y s, x.ne, x.le, x.ok⟩
theorem RlsL.same {H H' : Hp} {p l : Addr} {b : Int} {ks : List Ky} {as : List Addr} {t : Nat} (x : RlsL H p l b ks as) (y : Purse H p t) (s : Same H H') : RlsL H' p l b ks as := x.kp y (Same.kp s p)
theorem RlsL.len {H : Hp} {p l : Addr} {b : Int} {ks : List Ky} {as : List Addr} (x : RlsL H p l b ks as) : 0 < (as.map V.ref).length ∧ (as.map V.ref).length ≤ 3 := by
  have := Paired.length x.all
  rw [List.length_map, ← this]
  exact ⟨List.length_pos_iff.mpr x.ne, x.le⟩
theorem RlsL.get {H : Hp} {p l : Addr} {b : Int} {ks : List Ky} {as : List Addr} {i : Nat} {x : V} (R : RlsL H p l b ks as) (h : (as.map V.ref)[i]? = some x) : ∃ a k, x = .ref a ∧ RlAt H p b k a ∧ KyD b k := by
  rw [List.getElem?_map] at h
  cases ha : as[i]? with
  | none =>
    rw [ha] at h
    cases h
  | some a =>
    rw [ha] at h
    obtain ⟨k, hk, x⟩ := RlsAt.get R.all ha
    exact ⟨a, k, (Option.some.inj h).symm, x, R.ok k hk⟩
abbrev TPs (H : Hp) : List (Int × Int) → List Addr → Prop := Paired fun x a => H a = some (.tup [.int x.1, .int x.2])
theorem TPs.same {H H' : Hp} (s : Same H H') : ∀ {ns : List (Int × Int)} {as : List Addr}, TPs H ns as → TPs H' ns as
  | _, _, .nil => .nil
  | _, _, .cons h r => .cons (s _ _ h) (TPs.same s r)
theorem TPs.snoc {H : Hp} {x : Int × Int} {a : Addr} (h : H a = some (.tup [.int x.1, .int x.2])) : ∀ {ns : List (Int × Int)} {as : List Addr}, TPs H ns as → TPs H (ns ++ [x]) (as ++ [a])
  | _, _, .nil => .cons h .nil
  | _, _, .cons g r => .cons g (TPs.snoc h r)
theorem TPs.get {H : Hp} : ∀ {ns : List (Int × Int)} {as : List Addr} {i : Nat} {a : Addr}, TPs H ns as → as[i]? = some a → ∃ x, x ∈ ns ∧ H a = some (.tup [.int x.1, .int x.2])
  | _, _, _, _, .nil, h => nomatch h
  | _, _, 0, _, .cons h _, e => by
    obtain rfl := Option.some.inj e
    exact ⟨_, List.mem_cons_self, h⟩
  | _, _, i + 1, _, .cons _ r, e => let ⟨k, hk, h⟩ := TPs.get (i := i) r e
    ⟨k, List.mem_cons_of_mem _ hk, h⟩
/-- pairs that are new -/
structure TPn (H0 H : Hp) (ns : List (Int × Int)) (as : List Addr) : Prop where
  s : Same H0 H
  at_ : TPs H ns as
theorem TPn.nil (H : Hp) : TPn H H [] [] := ⟨Same.refl _, .nil⟩
theorem TPn.new {H0 H : Hp} {ns : List (Int × Int)} {as : List Addr} {l : Addr} (n o : Int) (x : TPn H0 H ns as) (h : H l = none) : TPn H0 (upd H l (.tup [.int n, .int o])) (ns ++ [(n, o)]) (as ++ [l]) :=
  ⟨x.s.trans (same_new h), TPs.snoc (x := (n, o)) upd_same (TPs.same (same_new h) x.at_)⟩
def spAtom : Sp := fun vs H Q _ => ∃ (p l : Addr) (t : Nat) (b : Int) (ks : List Ky) (as : List Addr), vs = [.ref p, .ref l] ∧ Purse H p t ∧ t ≤ 2 ^ 10 ∧ RlsL H p l b ks as ∧
  ∀ (H' : Hp) (q : Addr) (f : Tre), Kp p H H' → Purse H' p (t + 5) → TreAt H' p b f q → TreD b f → f.deep = 0 → Q (.ref q) H'
abbrev nm_law_atom : List Str := ["_law_purse_here", "_law_rules_here", "_law_rule_here", "_law_other", "_law_kind", "_law_least", "_law_times_here"]
theorem sc_law_atom : FnScope ["_law_purse_here", "_law_rules_here", "_law_rule_here", "_law_other", "_law_kind", "_law_least", "_law_times_here"] ["_law_purse_here", "_law_rules_here"] (defScope s_law_atom) := ⟨rfl, rfl, rfl, by decide +kernel, rfl, by decide +kernel, by decide +kernel⟩
theorem ok_atom (T : Txt K mg A w) : FnOk P w K mg base CX0 3 A.a_law_atom A.d_law_atom ["_law_purse_here", "_law_rules_here"] spAtom := by
  have G_law_draw : FnOk P w K mg base CX0 1 A.a_law_draw A.d_law_draw ["_law_purse_here", "_law_many"] spDraw := ok_draw T
  have G_law_pick : FnOk P w K mg base CX0 2 A.a_law_pick A.d_law_pick ["_law_purse_here", "_law_items"] spPick := ok_pick T
  refine T.F_law_atom.ok sc_law_atom (fun vs H Q E h => ?_) (fun cdv A0 outer s H vs Q E hr h => ?_)
  · obtain ⟨p, l, t, b, ks, as, rfl, _⟩ := h
    rfl
  · obtain ⟨p, l, t, b, ks, as, rfl, P0, ht, R, q⟩ := h
    have e20 : (2 : Nat) ^ 20 = 1048576 := by decide
    have e10 : (2 : Nat) ^ 10 = 1024 := by decide
    refine ⟨_, (pss_cons (ps_par (i := 2) (j := 3) (by rfl) sc_law_atom.nd rfl rfl (by decide) rfl rfl (pa_cons (pe_call G_law_pick (hr.mono (by decide)) (by rfl) T.m_law_pick T.F_law_pick.kp T.B_law_pick .nil pass0 (pa_cons (pv 0) (pa_cons (pv 1) pa_nil))) (pa_cons (pe_call G_law_pick (hr.mono (by decide)) (by rfl) T.m_law_pick T.F_law_pick.kp T.B_law_pick .nil pass0 (pa_cons (pv 0) (pa_cons (pv 1) pa_nil))) pa_nil)) (by rfl))
  (pss_cons (ps_set (i := 4) sc_law_atom.nd rfl (Or.inl rfl) (pe_call G_law_draw (hr.mono (by decide)) (by rfl) T.m_law_draw T.F_law_draw.kp T.B_law_draw .nil pass0 (pa_cons (pv 0) (pa_cons pe_int pa_nil))))
  (pss_cons (ps_if (pt_cmpR op_eq (pv 4) pe_int (nomark _)) (pss_one (ps_ret (pe_tup (pa_cons pe_str (pa_cons (pe_ix ix_tup (pv 2) pe_int (fun _ _ => rfl)) pa_nil))))) pss_nil)
  (pss_cons (ps_if (pt_cmpR op_lt (pv 4) pe_int (nomark _)) (pss_cons (ps_set (i := 5) sc_law_atom.nd rfl (Or.inl rfl) (pe_call G_law_draw (hr.mono (by decide)) (by rfl) T.m_law_draw T.F_law_draw.kp T.B_law_draw .nil pass0 (pa_cons (pv 0) (pa_cons (pe_op op_add (pe_ix ix_tup (pv 2) pe_int (fun _ _ => rfl)) pe_int) pa_nil))))
  (pss_one (ps_ret (pe_tup (pa_cons pe_str (pa_cons (pv 2) (pa_cons (pv 5) (pa_cons (pe_call G_law_pick (hr.mono (by decide)) (by rfl) T.m_law_pick T.F_law_pick.kp T.B_law_pick .nil pass0 (pa_cons (pv 0) (pa_cons (pe_lst (pa_cons pe_non (pa_cons (pv 5) (pa_cons (pv 5) (pa_cons (pe_op op_add (pv 5) pe_int) (pa_cons (pe_ix ix_tup (pv 2) pe_int (fun _ _ => rfl)) pa_nil)))))) pa_nil))) pa_nil)))))))) pss_nil)
  (pss_cons (ps_if (pt_cmpR op_eq (pv 4) pe_int (nomark _)) (pss_one (ps_ret (pe_tup (pa_cons pe_str (pa_cons (pv 2) (pa_cons (pe_call G_law_pick (hr.mono (by decide)) (by rfl) T.m_law_pick T.F_law_pick.kp T.B_law_pick .nil pass0 (pa_cons (pv 0) (pa_cons (pe_ix ix_tup (pv 2) pe_int (fun _ _ => rfl)) pa_nil))) pa_nil)))))) pss_nil)
  (pss_cons (ps_if (pt_cmpR op_lt (pv 4) pe_int (nomark _)) (pss_cons (ps_set (i := 6) sc_law_atom.nd rfl (Or.inl rfl) (pe_call G_law_pick (hr.mono (by decide)) (by rfl) T.m_law_pick T.F_law_pick.kp T.B_law_pick .nil pass0 (pa_cons (pv 0) (pa_cons (pe_lst (pa_cons (pe_tup (pa_cons pe_int (pa_cons pe_int pa_nil))) (pa_cons (pe_tup (pa_cons pe_int (pa_cons pe_int pa_nil))) (pa_cons (pe_tup (pa_cons pe_int (pa_cons pe_int pa_nil))) (pa_cons (pe_tup (pa_cons pe_int (pa_cons pe_int pa_nil))) (pa_cons (pe_tup (pa_cons pe_int (pa_cons pe_int pa_nil))) (pa_cons (pe_tup (pa_cons pe_int (pa_cons (pe_ix ix_tup (pv 2) pe_int (fun _ _ => rfl)) pa_nil))) (pa_cons (pe_tup (pa_cons pe_int (pa_cons pe_int pa_nil))) pa_nil)))))))) pa_nil))))
  (pss_one (ps_ret (pe_tup (pa_cons pe_str (pa_cons (pv 2) (pa_cons (pv 3) (pa_cons (pv 6) pa_nil)))))))) pss_nil)
  (pss_one (ps_ret (pe_tup (pa_cons pe_str (pa_cons (pv 2) (pa_cons (pe_call G_law_pick (hr.mono (by decide)) (by rfl) T.m_law_pick T.F_law_pick.kp T.B_law_pick .nil pass0 (pa_cons (pv 0) (pa_cons (pe_lst (pa_cons pe_str (pa_cons pe_str pa_nil))) pa_nil))) pa_nil)))))))))))), ?_⟩
    obtain ⟨l0, l3⟩ := R.len
    refine ⟨_, rfl, _, rfl, p, l, _, t, rfl, P0, by omega, R.at_, R.nl, l0, by omega, fun H1 i1 x1 k1 P1 g1 => ?_⟩
    have R1 := R.kp P0 k1
    obtain ⟨a, k, rfl, X, G⟩ := R.get g1
    have X1 := X.kp P0 k1
    refine ⟨_, rfl, _, rfl, p, l, _, t + 1, rfl, P1, by omega, R1.at_, R.nl, l0, by omega, fun H2 i2 x2 k2 P2 g2 => ?_⟩
    obtain ⟨a2, kk, rfl, Y, G2⟩ := R1.get g2
    have X2 := X1.kp P1 k2
    have Y2 := Y.kp P1 k2
    refine ⟨_, _, rfl, ?_⟩
    refine norm2 (σ' := [some (.ref p), some (.ref l), some (.ref a), some (.ref a2), none, none, none]) rfl ?_
    have hb := G.1.m1
    have hb6 := G.1.m6
    have b2 := G.1.b2
    have b10 := G.1.b10
    refine ⟨_, rfl, p, 9, t + 2, rfl, P2, by omega, by decide, small2000 (by decide), fun H3 n k3 P3 n0 n9 => ?_⟩
    refine gN (σ' := [some (.ref p), some (.ref l), some (.ref a), some (.ref a2), some (.int n), none, none]) rfl ?_
    have X3 := X2.kp P2 k3
    have Y3 := Y2.kp P2 k3
    have k03 := (k1.trans k2).trans k3
    obtain ⟨lh, RT, nlh⟩ := X3
    refine ⟨_, rfl, rfl, _, rfl, ?_⟩
    refine ite2 (fun hc => ?_) (fun hc => ?_)
    · refine ⟨_, rfl, a, _, _, _, rfl, rfl, SqT.of RT.1, atL (j := 0) rfl, (by show 2 ≤ sizeLine; decide), fun q4 hq4 => ?_⟩
      exact q _ q4 .every (k03.trans (kpNew hq4)) ((P3.same (same_new hq4)).le (by omega)) upd_same trivial rfl
    refine ⟨_, rfl, _, _, rfl, rfl, _, rfl, ?_⟩
    refine ite2 (fun hc1 => ?_) (fun hc1 => ?_)
    · -- counted
      refine ⟨_, rfl, _, rfl, a, _, _, _, rfl, rfl, SqT.of RT.1, atL (j := 3) rfl, _, _, rfl, rfl, p, k.2.2 + 2, t + 3, rfl, P3, by omega, by omega, small2000 (by omega), fun H4 z k4 P4 z0 z1 => ?_⟩
      refine gN (σ' := [some (.ref p), some (.ref l), some (.ref a), some (.ref a2), some (.int n), some (.int z), none]) rfl ?_
      have RT4 := RT.kp P3 nlh k4
      refine ⟨_, rfl, _, rfl, _, rfl, _, rfl, _, rfl, _, rfl, _, _, rfl, rfl, _, rfl, a, _, _, _, rfl, rfl, SqT.of RT4.1, atL (j := 3) rfl, (by show 5 ≤ sizeLine; decide), fun l5 hl5 => ?_⟩
      have P5 := P4.same (same_new (o := .lst [.non, .int z, .int z, .int (z + 1), .int k.2.2]) hl5)
      refine ⟨p, l5, _, t + 4, rfl, P5, by omega, upd_same, P4.ne hl5, (by show 0 < 5; decide), (by show 5 ≤ 1000; decide), fun H6 i6 x6 k6 P6 g6 => ?_⟩
      obtain ⟨mst, rfl, hm⟩ : ∃ mst : Option Int, x6 = optV mst ∧ ∀ y, mst = some y → 0 ≤ y ∧ y ≤ 8 := by
        have g6' : ([none, some z, some z, some (z + 1), some k.2.2].map optV)[i6]? = some x6 := g6
        rw [List.getElem?_map] at g6'
        cases e : ([none, some z, some z, some (z + 1), some k.2.2] : List (Option Int))[i6]? with
        | none =>
          rw [e] at g6'
          cases g6'
        | some y =>
          rw [e] at g6'
          refine ⟨y, (Option.some.inj g6').symm, ?_⟩
          have := List.mem_of_getElem? e
          simp only [List.mem_cons, List.not_mem_nil, or_false] at this
          rintro u rfl
          rcases this with h | h | h | h | h
          · cases h
          all_goals (obtain rfl := Option.some.inj h; omega)
      refine ⟨(by show 4 ≤ sizeLine; decide), fun q7 hq7 => ?_⟩
      have k46 := k4.trans ((kpNew (o := .lst [.non, .int z, .int z, .int (z + 1), .int k.2.2]) hl5).trans k6)
      have s7 := same_new (o := .tup [.str "counted", .ref a, .int z, optV mst]) hq7
      exact q _ q7 (.counted k z mst) ((k03.trans k46).trans (kpNew hq7)) (P6.same s7) ⟨a, upd_same, lh, (RT.kp P3 nlh k46).same s7, nlh⟩ ⟨G, z0, by omega, hm⟩ rfl
    refine ⟨_, rfl, rfl, _, rfl, ?_⟩
    refine ite2 (fun hc2 => ?_) (fun hc2 => ?_)
    · -- taken
      refine ⟨_, rfl, _, rfl, _, rfl, a, _, _, _, rfl, rfl, SqT.of RT.1, atL (j := 2) rfl, ?_⟩
      have hne := List.length_pos_iff.mpr G.1.ne
      have hle := G.1.le
      refine ⟨p, lh, _, t + 3, rfl, P3, by omega, RT.2, nlh, by rw [List.length_map]; exact hne, by rw [List.length_map]; omega, fun H4 i4 x4 k4 P4 g4 => ?_⟩
      obtain ⟨m, hm, rfl⟩ := map_get g4
      refine ⟨(by show 3 ≤ sizeLine; decide), fun q7 hq7 => ?_⟩
      have s7 := same_new (o := .tup [.str "taken", .ref a, .int m]) hq7
      exact q _ q7 (.taken k m) ((k03.trans k4).trans (kpNew hq7)) ((P4.same s7).le (by omega)) ⟨a, upd_same, lh, (RT.kp P3 nlh k4).same s7, nlh⟩ ⟨G, List.mem_of_getElem? hm⟩ rfl
    refine ⟨_, rfl, _, _, rfl, rfl, _, rfl, ?_⟩
    refine ite2 (fun hc3 => ?_) (fun hc3 => ?_)
    · -- coarser
      refine ⟨_, rfl, (by show 2 ≤ sizeLine; decide), fun t1 ht1 => ?_⟩
      have Z1 := (TPn.nil H3).new 1 1 ht1
      refine ⟨(by show 2 ≤ sizeLine; decide), fun t2 ht2 => ?_⟩
      have Z2 := Z1.new 1 1 ht2
      refine ⟨(by show 2 ≤ sizeLine; decide), fun t3 ht3 => ?_⟩
      have Z3 := Z2.new 2 1 ht3
      refine ⟨(by show 2 ≤ sizeLine; decide), fun t4 ht4 => ?_⟩
      have Z4 := Z3.new 1 2 ht4
      refine ⟨(by show 2 ≤ sizeLine; decide), fun t5 ht5 => ?_⟩
      have Z5 := Z4.new 5 2 ht5
      refine ⟨_, rfl, a, _, _, _, rfl, rfl, SqT.of (Z5.s _ _ RT.1), atL (j := 0) rfl, (by show 2 ≤ sizeLine; decide), fun t6 ht6 => ?_⟩
      have Z6 := Z5.new 1 b ht6
      refine ⟨(by show 2 ≤ sizeLine; decide), fun t7 ht7 => ?_⟩
      have Z7 := Z6.new 2 4 ht7
      refine ⟨(by show 7 ≤ sizeLine; decide), fun l8 hl8 => ?_⟩
      have s8 := Z7.s.trans (same_new (o := .lst [.ref t1, .ref t2, .ref t3, .ref t4, .ref t5, .ref t6, .ref t7]) hl8)
      have P8 := P3.same s8
      have T8 := TPs.same (same_new (o := .lst [.ref t1, .ref t2, .ref t3, .ref t4, .ref t5, .ref t6, .ref t7]) hl8) Z7.at_
      refine ⟨p, l8, _, t + 3, rfl, P8, by omega, upd_same, P3.ne (Z7.s.free hl8), (by show 0 < 7; decide), (by show 7 ≤ 1000; decide), fun H9 i9 x9 k9 P9 g9 => ?_⟩
      obtain ⟨t9, n9, o9, rfl, h9, m9⟩ : ∃ (t9 : Addr) (n9 o9 : Int), x9 = .ref t9 ∧ H9 t9 = some (.tup [.int n9, .int o9]) ∧ (n9, o9) ∈ ([(1, 1), (1, 1), (2, 1), (1, 2), (5, 2), (1, b), (2, 4)] : List (Int × Int)) := by
        have g9' : ([t1, t2, t3, t4, t5, t6, t7].map V.ref)[i9]? = some x9 := g9
        rw [List.getElem?_map] at g9'
        cases e : ([t1, t2, t3, t4, t5, t6, t7] : List Addr)[i9]? with
        | none =>
          rw [e] at g9'
          cases g9'
        | some y =>
          rw [e] at g9'
          obtain ⟨z, hz, hy⟩ := TPs.get T8 e
          exact ⟨y, z.1, z.2, (Option.some.inj g9').symm, kp_tup P8 k9 hy, hz⟩
      have k39 := (Same.kp s8 p).trans k9
      refine gN (σ' := [some (.ref p), some (.ref l), some (.ref a), some (.ref a2), some (.int n), none, some (.ref t9)]) rfl ?_
      refine ⟨_, rfl, _, rfl, _, rfl, (by show 4 ≤ sizeLine; decide), fun q7 hq7 => ?_⟩
      have s7 := same_new (o := .tup [.str "coarser", .ref a, .ref a2, .ref t9]) hq7
      have no : 1 ≤ n9 ∧ n9 ≤ 10 ∧ 1 ≤ o9 ∧ o9 ≤ 10 := by
        simp only [List.mem_cons, List.not_mem_nil, or_false, Prod.mk.injEq] at m9
        omega
      exact q _ q7 (.coarser k kk n9 o9) ((k03.trans k39).trans (kpNew hq7)) ((P9.same s7).le (by omega)) ⟨a, a2, t9, upd_same, ⟨lh, (RT.kp P3 nlh k39).same s7, nlh⟩, (Y3.kp P3 k39).same s7, s7 _ _ h9⟩ ⟨G, G2, no⟩ rfl
    · refine ⟨_, rfl, _, rfl, (by show 2 ≤ sizeLine; decide), fun l5 hl5 => ?_⟩
      have P5 := P3.same (same_new (o := .lst [.str "low", .str "high"]) hl5)
      refine ⟨p, l5, _, t + 3, rfl, P5, by omega, upd_same, P3.ne hl5, (by show 0 < 2; decide), (by show 2 ≤ 1000; decide), fun H6 i6 x6 k6 P6 g6 => ?_⟩
      obtain ⟨low, rfl⟩ : ∃ low : Bool, x6 = .str (if low then "low" else "high") := by
        match i6, g6 with
        | 0, g => exact ⟨true, (Option.some.inj g).symm⟩
        | 1, g => exact ⟨false, (Option.some.inj g).symm⟩
      have k46 := (kpNew (p := p) (o := .lst [.str "low", .str "high"]) hl5).trans k6
      refine ⟨(by show 3 ≤ sizeLine; decide), fun q7 hq7 => ?_⟩
      have s7 := same_new (o := .tup [.str "touched", .ref a, .str (if low then "low" else "high")]) hq7
      exact q _ q7 (.touched k low) ((k03.trans k46).trans (kpNew hq7)) ((P6.same s7).le (by omega)) ⟨a, upd_same, lh, (RT.kp P3 nlh k46).same s7, nlh⟩ G rfl
end
end Ax

namespace Ax
open PySem L2
section
variable {P : Program} {w : World} {K : PySem.W.Frag} {mg : Str → Option Value} {base : Heap} {A : Adr}
/-! ### _law_tree -/
def spTree : Nat → Sp
  | 0 => fun _ _ _ _ => False
  | m + 1 => fun vs H Q _ => ∃ (p l : Addr) (t n : Nat) (b : Int) (ks : List Ky) (as : List Addr), vs = [.ref p, .ref l, .int (n : Int)] ∧ Purse H p t ∧ t + 6 * n ≤ 2 ^ 10 ∧ 1 ≤ n ∧ n ≤ m + 1 ∧ m ≤ 10 ∧ RlsL H p l b ks as ∧
    ∀ (H' : Hp) (q : Addr) (f : Tre), Kp p H H' → Purse H' p (t + (6 * n - 1)) → TreAt H' p b f q → TreD b f → f.deep + 1 ≤ n → Q (.ref q) H'
abbrev nm_law_tree : List Str := ["_law_purse_here", "_law_rules_here", "_law_many", "_law_word"]
theorem sc_law_tree : FnScope ["_law_purse_here", "_law_rules_here", "_law_many", "_law_word"] ["_law_purse_here", "_law_rules_here", "_law_many"] (defScope s_law_tree) := ⟨rfl, rfl, rfl, by decide +kernel, rfl, by decide +kernel, by decide +kernel⟩
theorem ok_tree (T : Txt K mg A w) : ∀ m, FnOk P w K mg base CX0 (4 + m) A.a_law_tree A.d_law_tree ["_law_purse_here", "_law_rules_here", "_law_many"] (spTree m)
  | 0 => T.F_law_tree.ok sc_law_tree (fun vs H Q E h => h.elim) (fun cdv A0 outer s H vs Q E hr h => h.elim)
  | m + 1 => by
    have G_law_tree := ok_tree T m
    have G_law_atom : FnOk P w K mg base CX0 3 A.a_law_atom A.d_law_atom ["_law_purse_here", "_law_rules_here"] spAtom := ok_atom T
    have G_law_pick : FnOk P w K mg base CX0 2 A.a_law_pick A.d_law_pick ["_law_purse_here", "_law_items"] spPick := ok_pick T
    refine T.F_law_tree.ok (k := 4 + m) sc_law_tree (fun vs H Q E h => ?_) (fun cdv A0 outer s H vs Q E hr h => ?_)
    · obtain ⟨p, l, t, n, b, ks, as, rfl, _⟩ := h
      rfl
    · obtain ⟨p, l, t, n, b, ks, as, rfl, P0, ht, n1, nm, m10, R, q⟩ := h
      have e20 : (2 : Nat) ^ 20 = 1048576 := by decide
      have e10 : (2 : Nat) ^ 10 = 1024 := by decide
      refine ⟨_, (pss_cons (ps_if (pt_cmpR op_lt (pv 2) pe_int (nomark _)) (pss_one (ps_ret (pe_call G_law_atom (hr.mono (by omega)) (by rfl) T.m_law_atom T.F_law_atom.kp T.B_law_atom .nil pass0 (pa_cons (pv 0) (pa_cons (pv 1) pa_nil))))) pss_nil)
  (pss_cons (ps_set (i := 3) sc_law_tree.nd rfl (Or.inl rfl) (pe_call G_law_pick (hr.mono (by omega)) (by rfl) T.m_law_pick T.F_law_pick.kp T.B_law_pick .nil pass0 (pa_cons (pv 0) (pa_cons (pe_lst (pa_cons pe_str (pa_cons pe_str (pa_cons pe_str (pa_cons pe_str (pa_cons pe_str (pa_cons pe_str pa_nil))))))) pa_nil))))
  (pss_cons (ps_if (pt_cmpR op_eq (pv 3) pe_str (nomark _)) (pss_one (ps_ret (pe_tup (pa_cons pe_str (pa_cons (pe_call G_law_tree (hr.mono (by omega)) (by rfl) T.m_law_tree T.F_law_tree.kp T.B_law_tree .nil pass0 (pa_cons (pv 0) (pa_cons (pv 1) (pa_cons (pe_op op_sub (pv 2) pe_int) pa_nil)))) pa_nil))))) pss_nil)
  (pss_one (ps_ret (pe_tup (pa_cons (pv 3) (pa_cons (pe_call G_law_tree (hr.mono (by omega)) (by rfl) T.m_law_tree T.F_law_tree.kp T.B_law_tree .nil pass0 (pa_cons (pv 0) (pa_cons (pv 1) (pa_cons (pe_op op_fdivW (pv 2) pe_int) pa_nil)))) (pa_cons (pe_call G_law_tree (hr.mono (by omega)) (by rfl) T.m_law_tree T.F_law_tree.kp T.B_law_tree .nil pass0 (pa_cons (pv 0) (pa_cons (pv 1) (pa_cons (pe_op op_sub (pv 2) (pe_op op_fdivW (pv 2) pe_int)) pa_nil)))) pa_nil))))))))), ?_⟩
      refine ⟨_, rfl, _, _, rfl, rfl, _, rfl, ?_⟩
      refine ite2 (fun hc => ?_) (fun hc => ?_)
      · refine ⟨_, rfl, _, rfl, p, l, t, b, ks, as, rfl, P0, by omega, R, fun H1 q1 f k1 P1 F D d => q H1 q1 f k1 (P1.le (by omega)) F D (by omega)⟩
      have hn : ¬ ((n : Int) < 2) := fun z => hc (decide_eq_true z)
      obtain ⟨m', rfl⟩ : ∃ m', m = m' + 1 := ⟨m - 1, by omega⟩
      refine ⟨_, rfl, (by show 6 ≤ sizeLine; decide), fun l1 hl1 => ?_⟩
      have P1 := P0.same (same_new (o := .lst [.str "and", .str "or", .str "less", .str "either", .str "not", .str "and"]) hl1)
      have R1 := R.same P0 (same_new (o := .lst [.str "and", .str "or", .str "less", .str "either", .str "not", .str "and"]) hl1)
      refine ⟨p, l1, _, t, rfl, P1, by omega, upd_same, P0.ne hl1, (by show 0 < 6; decide), (by show 6 ≤ 1000; decide), fun H2 i2 x2 k2 P2 g2 => ?_⟩
      have k02 := (kpNew (p := p) (o := .lst [.str "and", .str "or", .str "less", .str "either", .str "not", .str "and"]) hl1).trans k2
      have R2 := R1.kp P1 k2
      have cases : (x2 = .str "not") ∨ ∃ (wd : Str) (op : Tre → Tre → Tre), x2 = .str wd ∧ (wd == "not") = false ∧ (∀ f g, TreD b f → TreD b g → TreD b (op f g)) ∧ (∀ f g, (op f g).deep = max f.deep g.deep + 1) ∧ ∀ H' f g a c e, H' a = some (.tup [.str wd, .ref c, .ref e]) → TreAt H' p b f c → TreAt H' p b g e → TreAt H' p b (op f g) a := by
        match i2, g2 with
        | 0, g => exact .inr ⟨"and", .and, (Option.some.inj g).symm, by decide +kernel, fun f g a b => ⟨a, b⟩, fun _ _ => rfl, fun H' f g a c e h x y => ⟨c, e, h, x, y⟩⟩
        | 1, g => exact .inr ⟨"or", .or, (Option.some.inj g).symm, by decide +kernel, fun f g a b => ⟨a, b⟩, fun _ _ => rfl, fun H' f g a c e h x y => ⟨c, e, h, x, y⟩⟩
        | 2, g => exact .inr ⟨"less", .less, (Option.some.inj g).symm, by decide +kernel, fun f g a b => ⟨a, b⟩, fun _ _ => rfl, fun H' f g a c e h x y => ⟨c, e, h, x, y⟩⟩
        | 3, g => exact .inr ⟨"either", .either, (Option.some.inj g).symm, by decide +kernel, fun f g a b => ⟨a, b⟩, fun _ _ => rfl, fun H' f g a c e h x y => ⟨c, e, h, x, y⟩⟩
        | 4, g => exact .inl (Option.some.inj g).symm
        | 5, g => exact .inr ⟨"and", .and, (Option.some.inj g).symm, by decide +kernel, fun f g a b => ⟨a, b⟩, fun _ _ => rfl, fun H' f g a c e h x y => ⟨c, e, h, x, y⟩⟩
      rcases cases with rfl | ⟨wd, op, rfl, ewd, opD, opd, opA⟩
      · refine ⟨_, rfl, rfl, _, rfl, ?_⟩
        rw [decide_eq_true rfl]
        refine iteT ?_
        refine ⟨_, rfl, _, rfl, _, rfl, _, _, rfl, rfl, ?_⟩
        refine ⟨p, l, t + 1, n - 1, b, ks, as, congrArg (fun x => [V.ref p, V.ref l, V.int x]) (show (n : Int) - 1 = ((n - 1 : Nat) : Int) by omega), P2, by omega, by omega, by omega, by omega, R2, fun H3 q3 f k3 P3 F D d => ?_⟩
        refine ⟨(by show 2 ≤ sizeLine; decide), fun q4 hq4 => ?_⟩
        have s4 := same_new (o := .tup [.str "not", .ref q3]) hq4
        refine q _ q4 (.not f) ((k02.trans k3).trans (kpNew hq4)) ((P3.same s4).le (by omega)) ⟨q3, upd_same, F.same s4⟩ D ?_
        show f.deep + 1 + 1 ≤ n
        omega
      · refine ⟨_, rfl, rfl, _, rfl, ?_⟩
        have e : decide (V.str wd = V.str "not") = false := decide_eq_false fun z => by
          rw [V.str.inj z] at ewd
          exact absurd ewd (by decide +kernel)
        rw [e]
        refine iteF ?_
        obtain ⟨u, v, huv, hu, hu1, hv1⟩ : ∃ u v : Nat, u + v = n ∧ u = n / 2 ∧ 1 ≤ u ∧ 1 ≤ v := ⟨n / 2, n - n / 2, by omega, rfl, by omega, by omega⟩
        refine ⟨_, rfl, _, rfl, _, rfl, _, rfl, _, _, rfl, rfl, two_div, ?_⟩
        refine ⟨p, l, t + 1, u, b, ks, as, congrArg (fun x => [V.ref p, V.ref l, V.int x]) (show (n : Int) / 2 = (u : Int) by omega), P2, by omega, by omega, by omega, by omega, R2, fun H3 q3 f k3 P3 F D d => ?_⟩
        have R3 := R2.kp P2 k3
        refine ⟨_, rfl, _, rfl, _, rfl, _, rfl, _, _, rfl, rfl, two_div, _, _, rfl, rfl, ?_⟩
        refine ⟨p, l, t + 1 + (6 * u - 1), v, b, ks, as, congrArg (fun x => [V.ref p, V.ref l, V.int x]) (show (n : Int) - (n : Int) / 2 = (v : Int) by omega), P3, by omega, by omega, by omega, by omega, R3, fun H4 q4 g k4 P4 G D2 d2 => ?_⟩
        refine ⟨(by show 3 ≤ sizeLine; decide), fun q5 hq5 => ?_⟩
        have s5 := same_new (o := .tup [.str wd, .ref q3, .ref q4]) hq5
        refine q _ q5 (op f g) (((k02.trans k3).trans k4).trans (kpNew hq5)) ((P4.same s5).le (by omega)) (opA _ f g q5 q3 q4 upd_same ((F.kp P3 k4).same s5) (G.same s5)) (opD f g D D2) ?_
        rw [opd]
        omega
end
end Ax

namespace Ax
open PySem L2
def Ky.srt (k : Ky) : Ky := (k.1, isort k.2.1, k.2.2)
def Tre.fm : Tre → Fm
  | .every => .all
  | .counted k l m => .counted (Ky.srt k) l m
  | .taken k m => .taken (Ky.srt k) m
  | .coarser k k2 n o => .coarser (Ky.srt k) (Ky.srt k2) n o
  | .touched k low => .touched (Ky.srt k) low
  | .not f => .not f.fm
  | .and f g => .and f.fm g.fm
  | .or f g => .or f.fm g.fm
  | .less f g => .and f.fm (.not g.fm)
  | .either f g => .xor f.fm g.fm
theorem RX.srt {C : Addr} {H : Hp} {r : Addr} {b : Int} {k : Kd} {ms : List Int} {most : Int} {D : RD} (x : RX C H r b k ms most D) : D.ms' = isort ms := eq_isort x.pm x.ps
section
variable {P : Program} {w : World} {K : PySem.W.Frag} {mg : Str → Option Value} {base : Heap} {A : Adr}
/-! ### _law_set -/
def spSet (A : Adr) : Nat → Sp
  | 0 => fun _ _ _ _ => False
  | m + 1 => fun vs H Q _ => ∃ (a p : Addr) (b : Int) (f : Tre), vs = [.ref a] ∧ TreAt H p b f a ∧ TreD b f ∧ 2 ≤ b ∧ f.deep ≤ m ∧
    ∀ (H' : Hp) (q dx fa : Addr), Same H H' → H q = none → SetAt A.c_RangeSet H' q b f.fm dx fa → Q (.ref q) H'
abbrev nm_law_set : List Str := ["_law_tree_here", "_law_one", "_law_other"]
theorem sc_law_set : FnScope ["_law_tree_here", "_law_one", "_law_other"] ["_law_tree_here"] (defScope s_law_set) := ⟨rfl, rfl, rfl, by decide +kernel, rfl, by decide +kernel, by decide +kernel⟩
theorem ok_set (T : Txt K mg A w) : ∀ m, FnOk P w K mg base CX0 (7 + m) A.a_law_set A.d_law_set ["_law_tree_here"] (spSet A m)
  | 0 => T.F_law_set.ok sc_law_set (fun vs H Q E h => h.elim) (fun cdv A0 outer s H vs Q E hr h => h.elim)
  | m + 1 => by
    have G_law_set := ok_set T m
    have G_law_made : FnOk P w K mg base CX0 6 A.a_law_made A.d_law_made ["_law_rule_here"] (spMade A) := ok_made T
    have G_counted : FnOk P w K mg base CX0 5 A.a_counted A.d_counted ["rule", "least", "most"] (spCtd A) := ok_ctd T
    have G_taken : FnOk P w K mg base CX0 5 A.a_taken A.d_taken ["rule", "mantissa"] (spTkn A) := ok_tkn T
    have G_coarser : FnOk P w K mg base CX0 5 A.a_coarser A.d_coarser ["one", "other", "times"] (spCrs A) := ok_crs T
    have G_touched : FnOk P w K mg base CX0 5 A.a_touched A.d_touched ["rule", "end"] (spTch A) := ok_tch T
    refine T.F_law_set.ok (k := 7 + m) sc_law_set (fun vs H Q E h => ?_) (fun cdv A0 outer s H vs Q E hr h => ?_)
    · obtain ⟨a, p, b, f, rfl, _⟩ := h
      rfl
    · obtain ⟨a, p, b, f, rfl, F, D, b2, dp, q⟩ := h
      refine ⟨_, (pss_cons (ps_if (pt_cmpR op_eq (pe_ix ix_tup (pv 0) pe_int (fun _ _ => rfl)) pe_str (nomark _)) (pss_one (ps_ret (ClX.pe_cmeth (pe_glob (v := .ref A.c_RangeSet) rfl T.c_RangeSet rfl) T.cr_every T.cm_every ((ok_every T).raw T.B_every .nil) (hr.mono (by omega)) pass0 (pa_cons (pe_ix ix_tup (pv 0) pe_int (fun _ _ => rfl)) pa_nil)))) pss_nil)
  (pss_cons (ps_if (pt_cmpR op_eq (pe_ix ix_tup (pv 0) pe_int (fun _ _ => rfl)) pe_str (nomark _)) (pss_one (ps_ret (pe_call G_counted (hr.mono (by omega)) (by rfl) T.m_counted T.F_counted.kp T.B_counted .nil pass0 (pa_cons (pe_call G_law_made (hr.mono (by omega)) (by rfl) T.m_law_made T.F_law_made.kp T.B_law_made .nil pass0 (pa_cons (pe_ix ix_tup (pv 0) pe_int (fun _ _ => rfl)) pa_nil)) (pa_cons (pe_ix ix_tup (pv 0) pe_int (fun _ _ => rfl)) (pa_cons (pe_ix ix_tup (pv 0) pe_int (fun _ _ => rfl)) pa_nil)))))) pss_nil)
  (pss_cons (ps_if (pt_cmpR op_eq (pe_ix ix_tup (pv 0) pe_int (fun _ _ => rfl)) pe_str (nomark _)) (pss_one (ps_ret (pe_call G_taken (hr.mono (by omega)) (by rfl) T.m_taken T.F_taken.kp T.B_taken .nil pass0 (pa_cons (pe_call G_law_made (hr.mono (by omega)) (by rfl) T.m_law_made T.F_law_made.kp T.B_law_made .nil pass0 (pa_cons (pe_ix ix_tup (pv 0) pe_int (fun _ _ => rfl)) pa_nil)) (pa_cons (pe_ix ix_tup (pv 0) pe_int (fun _ _ => rfl)) pa_nil))))) pss_nil)
  (pss_cons (ps_if (pt_cmpR op_eq (pe_ix ix_tup (pv 0) pe_int (fun _ _ => rfl)) pe_str (nomark _)) (pss_one (ps_ret (pe_call G_coarser (hr.mono (by omega)) (by rfl) T.m_coarser T.F_coarser.kp T.B_coarser .nil pass0 (pa_cons (pe_call G_law_made (hr.mono (by omega)) (by rfl) T.m_law_made T.F_law_made.kp T.B_law_made .nil pass0 (pa_cons (pe_ix ix_tup (pv 0) pe_int (fun _ _ => rfl)) pa_nil)) (pa_cons (pe_call G_law_made (hr.mono (by omega)) (by rfl) T.m_law_made T.F_law_made.kp T.B_law_made .nil pass0 (pa_cons (pe_ix ix_tup (pv 0) pe_int (fun _ _ => rfl)) pa_nil)) (pa_cons (pe_ix ix_tup (pv 0) pe_int (fun _ _ => rfl)) pa_nil)))))) pss_nil)
  (pss_cons (ps_if (pt_cmpR op_eq (pe_ix ix_tup (pv 0) pe_int (fun _ _ => rfl)) pe_str (nomark _)) (pss_one (ps_ret (pe_call G_touched (hr.mono (by omega)) (by rfl) T.m_touched T.F_touched.kp T.B_touched .nil pass0 (pa_cons (pe_call G_law_made (hr.mono (by omega)) (by rfl) T.m_law_made T.F_law_made.kp T.B_law_made .nil pass0 (pa_cons (pe_ix ix_tup (pv 0) pe_int (fun _ _ => rfl)) pa_nil)) (pa_cons (pe_ix ix_tup (pv 0) pe_int (fun _ _ => rfl)) pa_nil))))) pss_nil)
  (pss_cons (ps_if (pt_cmpR op_eq (pe_ix ix_tup (pv 0) pe_int (fun _ _ => rfl)) pe_str (nomark _)) (pss_one (ps_ret (pe_un (un_invO (ok_inv T) (hr.mono (by omega)) T.t_RangeSet___invert__.at_ T.t_RangeSet___invert__.fn T.B_RangeSet___invert__ pass0) (pe_call G_law_set (hr.mono (by omega)) (by rfl) T.m_law_set T.F_law_set.kp T.B_law_set .nil pass0 (pa_cons (pe_ix ix_tup (pv 0) pe_int (fun _ _ => rfl)) pa_nil))))) pss_nil)
  (pss_cons (ps_par (i := 1) (j := 2) (by rfl) sc_law_set.nd rfl rfl (by decide) rfl rfl (pa_cons (pe_call G_law_set (hr.mono (by omega)) (by rfl) T.m_law_set T.F_law_set.kp T.B_law_set .nil pass0 (pa_cons (pe_ix ix_tup (pv 0) pe_int (fun _ _ => rfl)) pa_nil)) (pa_cons (pe_call G_law_set (hr.mono (by omega)) (by rfl) T.m_law_set T.F_law_set.kp T.B_law_set .nil pass0 (pa_cons (pe_ix ix_tup (pv 0) pe_int (fun _ _ => rfl)) pa_nil)) pa_nil)) (by rfl))
  (pss_cons (ps_if (pt_cmpR op_eq (pe_ix ix_tup (pv 0) pe_int (fun _ _ => rfl)) pe_str (nomark _)) (pss_one (ps_ret (pe_op (op_binO (ok_and T) (hr.mono (by omega)) T.sf2 T.t_RangeSet___and__.at_ T.t_RangeSet___and__.fn T.B_RangeSet___and__ pass0) (pv 1) (pv 2)))) pss_nil)
  (pss_cons (ps_if (pt_cmpR op_eq (pe_ix ix_tup (pv 0) pe_int (fun _ _ => rfl)) pe_str (nomark _)) (pss_one (ps_ret (pe_op (op_binO (ok_or T) (hr.mono (by omega)) T.sf2 T.t_RangeSet___or__.at_ T.t_RangeSet___or__.fn T.B_RangeSet___or__ pass0) (pv 1) (pv 2)))) pss_nil)
  (pss_cons (ps_if (pt_cmpR op_eq (pe_ix ix_tup (pv 0) pe_int (fun _ _ => rfl)) pe_str (nomark _)) (pss_one (ps_ret (pe_op (op_binO (ok_sub T) (hr.mono (by omega)) T.sf2 T.t_RangeSet___sub__.at_ T.t_RangeSet___sub__.fn T.B_RangeSet___sub__ pass0) (pv 1) (pv 2)))) pss_nil)
  (pss_one (ps_ret (pe_op (op_binO (ok_xor T) (hr.mono (by omega)) T.sf2 T.t_RangeSet___xor__.at_ T.t_RangeSet___xor__.fn T.B_RangeSet___xor__ pass0) (pv 1) (pv 2)))))))))))))), ?_⟩
      cases f with
      | every =>
        have h1 : H a = some (.tup [.str "every", .int b]) := F
        refine ⟨_, rfl, a, _, _, _, rfl, rfl, SqT.of h1, atL (j := 0) rfl, rfl, _, rfl, ?_⟩
        rw [decide_eq_true rfl]
        refine iteT ?_
        refine ⟨rfl, _, rfl, a, _, _, _, rfl, rfl, SqT.of h1, atL (j := 1) rfl, b, rfl, b2, fun H1 q1 dx fa s1 n1 S => ?_⟩
        exact q H1 q1 dx fa s1 n1 S
      | counted k l mst =>
        obtain ⟨c, h1, lh, RT, nl⟩ := F
        obtain ⟨G, l0, l7, mz⟩ := D
        refine ⟨_, rfl, a, _, _, _, rfl, rfl, SqT.of h1, atL (j := 0) rfl, rfl, _, rfl, ?_⟩
        refine iteF ?_
        refine ⟨_, rfl, a, _, _, _, rfl, rfl, SqT.of h1, atL (j := 0) rfl, rfl, _, rfl, ?_⟩
        rw [decide_eq_true rfl]
        refine iteT ?_
        refine ⟨_, rfl, a, _, _, _, rfl, rfl, SqT.of h1, atL (j := 1) rfl, c, lh, b, k.1, k.2.1, k.2.2, rfl, RT, G.1.args, fun  H1 r D s1 n1 X _ _ => ?_⟩
        refine ⟨_, rfl, a, _, _, _, rfl, rfl, SqT.of (s1 _ _ h1), atL (j := 2) rfl, _, rfl, a, _, _, _, rfl, rfl, SqT.of (s1 _ _ h1), atL (j := 3) rfl, r, b, k.1, k.2.1, k.2.2, D, l, mst, rfl, X, l0, fun z e => (mz z e).1, fun H2 q2 dx fa s2 n2 S => ?_⟩
        rw [X.srt] at S
        exact q H2 q2 dx fa (s1.trans s2) (s1.free n2) S
      | taken k m0 =>
        obtain ⟨c, h1, lh, RT, nl⟩ := F
        obtain ⟨G, hm⟩ := D
        refine ⟨_, rfl, a, _, _, _, rfl, rfl, SqT.of h1, atL (j := 0) rfl, rfl, _, rfl, ?_⟩
        refine iteF ?_
        refine ⟨_, rfl, a, _, _, _, rfl, rfl, SqT.of h1, atL (j := 0) rfl, rfl, _, rfl, ?_⟩
        refine iteF ?_
        refine ⟨_, rfl, a, _, _, _, rfl, rfl, SqT.of h1, atL (j := 0) rfl, rfl, _, rfl, ?_⟩
        rw [decide_eq_true rfl]
        refine iteT ?_
        refine ⟨_, rfl, a, _, _, _, rfl, rfl, SqT.of h1, atL (j := 1) rfl, c, lh, b, k.1, k.2.1, k.2.2, rfl, RT, G.1.args, fun  H1 r D s1 n1 X _ _ => ?_⟩
        refine ⟨_, rfl, a, _, _, _, rfl, rfl, SqT.of (s1 _ _ h1), atL (j := 2) rfl, r, b, k.1, k.2.1, k.2.2, D, m0, rfl, X, hm, fun H2 q2 dx fa s2 n2 S => ?_⟩
        rw [X.srt] at S
        exact q H2 q2 dx fa (s1.trans s2) (s1.free n2) S
      | coarser k k2 n o =>
        obtain ⟨c, e, t, h1, ⟨lh, RT, nl⟩, ⟨lh2, RT2, nl2⟩, ht⟩ := F
        obtain ⟨G, G2, n1, n10, o1, o10⟩ := D
        refine ⟨_, rfl, a, _, _, _, rfl, rfl, SqT.of h1, atL (j := 0) rfl, rfl, _, rfl, ?_⟩
        refine iteF ?_
        refine ⟨_, rfl, a, _, _, _, rfl, rfl, SqT.of h1, atL (j := 0) rfl, rfl, _, rfl, ?_⟩
        refine iteF ?_
        refine ⟨_, rfl, a, _, _, _, rfl, rfl, SqT.of h1, atL (j := 0) rfl, rfl, _, rfl, ?_⟩
        refine iteF ?_
        refine ⟨_, rfl, a, _, _, _, rfl, rfl, SqT.of h1, atL (j := 0) rfl, rfl, _, rfl, ?_⟩
        rw [decide_eq_true rfl]
        refine iteT ?_
        refine ⟨_, rfl, a, _, _, _, rfl, rfl, SqT.of h1, atL (j := 1) rfl, c, lh, b, k.1, k.2.1, k.2.2, rfl, RT, G.1.args, fun  H1 r D s1 n1 X _ _ => ?_⟩
        refine ⟨_, rfl, a, _, _, _, rfl, rfl, SqT.of (s1 _ _ h1), atL (j := 2) rfl, e, lh2, b, k2.1, k2.2.1, k2.2.2, rfl, (RT2.same s1), G2.1.args, fun  H2 r2 D2 s2 n2 X2 _ _ => ?_⟩
        refine ⟨_, rfl, a, _, _, _, rfl, rfl, SqT.of ((s1.trans s2) _ _ h1), atL (j := 3) rfl, r, r2, t, b, k.1, k2.1, k.2.1, k2.2.1, k.2.2, k2.2.2, D, D2, n, o, rfl, X.same s2, X2, (s1.trans s2) _ _ ht, by assumption, by assumption, fun H3 q2 dx fa s3 n3 S => ?_⟩
        rw [X.srt, X2.srt] at S
        exact q H3 q2 dx fa ((s1.trans s2).trans s3) ((s1.trans s2).free n3) S
      | touched k low =>
        obtain ⟨c, h1, lh, RT, nl⟩ := F
        have G : KyD b k := D
        refine ⟨_, rfl, a, _, _, _, rfl, rfl, SqT.of h1, atL (j := 0) rfl, rfl, _, rfl, ?_⟩
        refine iteF ?_
        refine ⟨_, rfl, a, _, _, _, rfl, rfl, SqT.of h1, atL (j := 0) rfl, rfl, _, rfl, ?_⟩
        refine iteF ?_
        refine ⟨_, rfl, a, _, _, _, rfl, rfl, SqT.of h1, atL (j := 0) rfl, rfl, _, rfl, ?_⟩
        refine iteF ?_
        refine ⟨_, rfl, a, _, _, _, rfl, rfl, SqT.of h1, atL (j := 0) rfl, rfl, _, rfl, ?_⟩
        refine iteF ?_
        refine ⟨_, rfl, a, _, _, _, rfl, rfl, SqT.of h1, atL (j := 0) rfl, rfl, _, rfl, ?_⟩
        rw [decide_eq_true rfl]
        refine iteT ?_
        refine ⟨_, rfl, a, _, _, _, rfl, rfl, SqT.of h1, atL (j := 1) rfl, c, lh, b, k.1, k.2.1, k.2.2, rfl, RT, G.1.args, fun  H1 r D s1 n1 X _ _ => ?_⟩
        refine ⟨_, rfl, a, _, _, _, rfl, rfl, SqT.of (s1 _ _ h1), atL (j := 2) rfl, r, b, k.1, k.2.1, k.2.2, D, low, rfl, X, fun H2 q2 dx fa s2 n2 S => ?_⟩
        rw [X.srt] at S
        exact q H2 q2 dx fa (s1.trans s2) (s1.free n2) S
      | not f =>
        obtain ⟨c, h1, Fc⟩ := F
        have dp : f.deep + 1 ≤ m := dp
        obtain ⟨m', rfl⟩ : ∃ m', m = m' + 1 := ⟨m - 1, by omega⟩
        refine ⟨_, rfl, a, _, _, _, rfl, rfl, SqT.of h1, atL (j := 0) rfl, rfl, _, rfl, ?_⟩
        refine iteF ?_
        refine ⟨_, rfl, a, _, _, _, rfl, rfl, SqT.of h1, atL (j := 0) rfl, rfl, _, rfl, ?_⟩
        refine iteF ?_
        refine ⟨_, rfl, a, _, _, _, rfl, rfl, SqT.of h1, atL (j := 0) rfl, rfl, _, rfl, ?_⟩
        refine iteF ?_
        refine ⟨_, rfl, a, _, _, _, rfl, rfl, SqT.of h1, atL (j := 0) rfl, rfl, _, rfl, ?_⟩
        refine iteF ?_
        refine ⟨_, rfl, a, _, _, _, rfl, rfl, SqT.of h1, atL (j := 0) rfl, rfl, _, rfl, ?_⟩
        refine iteF ?_
        refine ⟨_, rfl, a, _, _, _, rfl, rfl, SqT.of h1, atL (j := 0) rfl, rfl, _, rfl, ?_⟩
        rw [decide_eq_true rfl]
        refine iteT ?_
        refine ⟨_, rfl, a, _, _, _, rfl, rfl, SqT.of h1, atL (j := 1) rfl, c, p, b, f, rfl, Fc, D, b2, by omega, fun H1 q1 dx fa s1 n1 S => ?_⟩
        exact ⟨q1, dx, _, rfl, S.at_, q1, b, f.fm, dx, fa, rfl, S, fun H2 q2 dx2 fa2 s2 n2 S2 => q H2 q2 dx2 fa2 (s1.trans s2) (s1.free n2) S2⟩
      | and f g =>
        obtain ⟨c, e, h1, Fc, Fe⟩ := F
        have dp : max f.deep g.deep + 1 ≤ m := dp
        obtain ⟨m', rfl⟩ : ∃ m', m = m' + 1 := ⟨m - 1, by omega⟩
        refine ⟨_, rfl, a, _, _, _, rfl, rfl, SqT.of h1, atL (j := 0) rfl, rfl, _, rfl, ?_⟩
        refine iteF ?_
        refine ⟨_, rfl, a, _, _, _, rfl, rfl, SqT.of h1, atL (j := 0) rfl, rfl, _, rfl, ?_⟩
        refine iteF ?_
        refine ⟨_, rfl, a, _, _, _, rfl, rfl, SqT.of h1, atL (j := 0) rfl, rfl, _, rfl, ?_⟩
        refine iteF ?_
        refine ⟨_, rfl, a, _, _, _, rfl, rfl, SqT.of h1, atL (j := 0) rfl, rfl, _, rfl, ?_⟩
        refine iteF ?_
        refine ⟨_, rfl, a, _, _, _, rfl, rfl, SqT.of h1, atL (j := 0) rfl, rfl, _, rfl, ?_⟩
        refine iteF ?_
        refine ⟨_, rfl, a, _, _, _, rfl, rfl, SqT.of h1, atL (j := 0) rfl, rfl, _, rfl, ?_⟩
        refine iteF ?_
        refine ⟨_, rfl, a, _, _, _, rfl, rfl, SqT.of h1, atL (j := 1) rfl, c, p, b, f, rfl, Fc, D.1, b2, by omega, fun H1 q1 dx fa s1 n1 S => ?_⟩
        refine ⟨_, rfl, a, _, _, _, rfl, rfl, SqT.of (s1 _ _ h1), atL (j := 2) rfl, e, p, b, g, rfl, Fe.same s1, D.2, b2, by omega, fun H2 q2 dy ga s2 n2 S2 => ⟨_, _, rfl, ?_⟩⟩
        refine norm2 (σ' := [some (.ref a), some (.ref q1), some (.ref q2)]) rfl ?_
        have h2 := (s1.trans s2) _ _ h1
        have S' := S.same s2
        refine ⟨_, rfl, a, _, _, _, rfl, rfl, SqT.of h2, atL (j := 0) rfl, rfl, _, rfl, ?_⟩
        rw [decide_eq_true rfl]
        refine iteT ?_
        exact ⟨_, rfl, _, rfl, q1, dx, _, q2, dy, _, rfl, rfl, S'.at_, S2.at_, q1, q2, b, f.fm, g.fm, dx, fa, dy, ga, rfl, S', S2, fun H3 q3 d3 f3 s3 n3 S3 => ⟨q3, rfl, q H3 q3 d3 f3 ((s1.trans s2).trans s3) ((s1.trans s2).free n3) S3⟩⟩
      | or f g =>
        obtain ⟨c, e, h1, Fc, Fe⟩ := F
        have dp : max f.deep g.deep + 1 ≤ m := dp
        obtain ⟨m', rfl⟩ : ∃ m', m = m' + 1 := ⟨m - 1, by omega⟩
        refine ⟨_, rfl, a, _, _, _, rfl, rfl, SqT.of h1, atL (j := 0) rfl, rfl, _, rfl, ?_⟩
        refine iteF ?_
        refine ⟨_, rfl, a, _, _, _, rfl, rfl, SqT.of h1, atL (j := 0) rfl, rfl, _, rfl, ?_⟩
        refine iteF ?_
        refine ⟨_, rfl, a, _, _, _, rfl, rfl, SqT.of h1, atL (j := 0) rfl, rfl, _, rfl, ?_⟩
        refine iteF ?_
        refine ⟨_, rfl, a, _, _, _, rfl, rfl, SqT.of h1, atL (j := 0) rfl, rfl, _, rfl, ?_⟩
        refine iteF ?_
        refine ⟨_, rfl, a, _, _, _, rfl, rfl, SqT.of h1, atL (j := 0) rfl, rfl, _, rfl, ?_⟩
        refine iteF ?_
        refine ⟨_, rfl, a, _, _, _, rfl, rfl, SqT.of h1, atL (j := 0) rfl, rfl, _, rfl, ?_⟩
        refine iteF ?_
        refine ⟨_, rfl, a, _, _, _, rfl, rfl, SqT.of h1, atL (j := 1) rfl, c, p, b, f, rfl, Fc, D.1, b2, by omega, fun H1 q1 dx fa s1 n1 S => ?_⟩
        refine ⟨_, rfl, a, _, _, _, rfl, rfl, SqT.of (s1 _ _ h1), atL (j := 2) rfl, e, p, b, g, rfl, Fe.same s1, D.2, b2, by omega, fun H2 q2 dy ga s2 n2 S2 => ⟨_, _, rfl, ?_⟩⟩
        refine norm2 (σ' := [some (.ref a), some (.ref q1), some (.ref q2)]) rfl ?_
        have h2 := (s1.trans s2) _ _ h1
        have S' := S.same s2
        refine ⟨_, rfl, a, _, _, _, rfl, rfl, SqT.of h2, atL (j := 0) rfl, rfl, _, rfl, ?_⟩
        refine iteF ?_
        refine ⟨_, rfl, a, _, _, _, rfl, rfl, SqT.of h2, atL (j := 0) rfl, rfl, _, rfl, ?_⟩
        rw [decide_eq_true rfl]
        refine iteT ?_
        exact ⟨_, rfl, _, rfl, q1, dx, _, q2, dy, _, rfl, rfl, S'.at_, S2.at_, q1, q2, b, f.fm, g.fm, dx, fa, dy, ga, rfl, S', S2, fun H3 q3 d3 f3 s3 n3 S3 => ⟨q3, rfl, q H3 q3 d3 f3 ((s1.trans s2).trans s3) ((s1.trans s2).free n3) S3⟩⟩
      | less f g =>
        obtain ⟨c, e, h1, Fc, Fe⟩ := F
        have dp : max f.deep g.deep + 1 ≤ m := dp
        obtain ⟨m', rfl⟩ : ∃ m', m = m' + 1 := ⟨m - 1, by omega⟩
        refine ⟨_, rfl, a, _, _, _, rfl, rfl, SqT.of h1, atL (j := 0) rfl, rfl, _, rfl, ?_⟩
        refine iteF ?_
        refine ⟨_, rfl, a, _, _, _, rfl, rfl, SqT.of h1, atL (j := 0) rfl, rfl, _, rfl, ?_⟩
        refine iteF ?_
        refine ⟨_, rfl, a, _, _, _, rfl, rfl, SqT.of h1, atL (j := 0) rfl, rfl, _, rfl, ?_⟩
        refine iteF ?_
        refine ⟨_, rfl, a, _, _, _, rfl, rfl, SqT.of h1, atL (j := 0) rfl, rfl, _, rfl, ?_⟩
        refine iteF ?_
        refine ⟨_, rfl, a, _, _, _, rfl, rfl, SqT.of h1, atL (j := 0) rfl, rfl, _, rfl, ?_⟩
        refine iteF ?_
        refine ⟨_, rfl, a, _, _, _, rfl, rfl, SqT.of h1, atL (j := 0) rfl, rfl, _, rfl, ?_⟩
        refine iteF ?_
        refine ⟨_, rfl, a, _, _, _, rfl, rfl, SqT.of h1, atL (j := 1) rfl, c, p, b, f, rfl, Fc, D.1, b2, by omega, fun H1 q1 dx fa s1 n1 S => ?_⟩
        refine ⟨_, rfl, a, _, _, _, rfl, rfl, SqT.of (s1 _ _ h1), atL (j := 2) rfl, e, p, b, g, rfl, Fe.same s1, D.2, b2, by omega, fun H2 q2 dy ga s2 n2 S2 => ⟨_, _, rfl, ?_⟩⟩
        refine norm2 (σ' := [some (.ref a), some (.ref q1), some (.ref q2)]) rfl ?_
        have h2 := (s1.trans s2) _ _ h1
        have S' := S.same s2
        refine ⟨_, rfl, a, _, _, _, rfl, rfl, SqT.of h2, atL (j := 0) rfl, rfl, _, rfl, ?_⟩
        refine iteF ?_
        refine ⟨_, rfl, a, _, _, _, rfl, rfl, SqT.of h2, atL (j := 0) rfl, rfl, _, rfl, ?_⟩
        refine iteF ?_
        refine ⟨_, rfl, a, _, _, _, rfl, rfl, SqT.of h2, atL (j := 0) rfl, rfl, _, rfl, ?_⟩
        rw [decide_eq_true rfl]
        refine iteT ?_
        exact ⟨_, rfl, _, rfl, q1, dx, _, q2, dy, _, rfl, rfl, S'.at_, S2.at_, q1, q2, b, f.fm, g.fm, dx, fa, dy, ga, rfl, S', S2, fun H3 q3 d3 f3 s3 n3 S3 => ⟨q3, rfl, q H3 q3 d3 f3 ((s1.trans s2).trans s3) ((s1.trans s2).free n3) S3⟩⟩
      | either f g =>
        obtain ⟨c, e, h1, Fc, Fe⟩ := F
        have dp : max f.deep g.deep + 1 ≤ m := dp
        obtain ⟨m', rfl⟩ : ∃ m', m = m' + 1 := ⟨m - 1, by omega⟩
        refine ⟨_, rfl, a, _, _, _, rfl, rfl, SqT.of h1, atL (j := 0) rfl, rfl, _, rfl, ?_⟩
        refine iteF ?_
        refine ⟨_, rfl, a, _, _, _, rfl, rfl, SqT.of h1, atL (j := 0) rfl, rfl, _, rfl, ?_⟩
        refine iteF ?_
        refine ⟨_, rfl, a, _, _, _, rfl, rfl, SqT.of h1, atL (j := 0) rfl, rfl, _, rfl, ?_⟩
        refine iteF ?_
        refine ⟨_, rfl, a, _, _, _, rfl, rfl, SqT.of h1, atL (j := 0) rfl, rfl, _, rfl, ?_⟩
        refine iteF ?_
        refine ⟨_, rfl, a, _, _, _, rfl, rfl, SqT.of h1, atL (j := 0) rfl, rfl, _, rfl, ?_⟩
        refine iteF ?_
        refine ⟨_, rfl, a, _, _, _, rfl, rfl, SqT.of h1, atL (j := 0) rfl, rfl, _, rfl, ?_⟩
        refine iteF ?_
        refine ⟨_, rfl, a, _, _, _, rfl, rfl, SqT.of h1, atL (j := 1) rfl, c, p, b, f, rfl, Fc, D.1, b2, by omega, fun H1 q1 dx fa s1 n1 S => ?_⟩
        refine ⟨_, rfl, a, _, _, _, rfl, rfl, SqT.of (s1 _ _ h1), atL (j := 2) rfl, e, p, b, g, rfl, Fe.same s1, D.2, b2, by omega, fun H2 q2 dy ga s2 n2 S2 => ⟨_, _, rfl, ?_⟩⟩
        refine norm2 (σ' := [some (.ref a), some (.ref q1), some (.ref q2)]) rfl ?_
        have h2 := (s1.trans s2) _ _ h1
        have S' := S.same s2
        refine ⟨_, rfl, a, _, _, _, rfl, rfl, SqT.of h2, atL (j := 0) rfl, rfl, _, rfl, ?_⟩
        refine iteF ?_
        refine ⟨_, rfl, a, _, _, _, rfl, rfl, SqT.of h2, atL (j := 0) rfl, rfl, _, rfl, ?_⟩
        refine iteF ?_
        refine ⟨_, rfl, a, _, _, _, rfl, rfl, SqT.of h2, atL (j := 0) rfl, rfl, _, rfl, ?_⟩
        refine iteF ?_
        exact ⟨_, rfl, _, rfl, q1, dx, _, q2, dy, _, rfl, rfl, S'.at_, S2.at_, q1, q2, b, f.fm, g.fm, dx, fa, dy, ga, rfl, S', S2, fun H3 q3 d3 f3 s3 n3 S3 => ⟨q3, rfl, q H3 q3 d3 f3 ((s1.trans s2).trans s3) ((s1.trans s2).free n3) S3⟩⟩
end
end Ax

namespace Ax
open PySem L2
theorem LeastFit.perm {b : Int} {ms ns : List Int} {k : Kd} {most l h d m p : Int} (x : LeastFit b ms k most l h d m p) (e : ns.Perm ms) : LeastFit b ns k most l h d m p :=
  ⟨e.mem_iff.mpr x.mem, x.fit, fun m' hm => x.least m' (e.mem_iff.mp hm)⟩
theorem LeastFit.srt {b : Int} {k : Ky} {l h d m p : Int} (x : LeastFit b k.2.1 k.1 k.2.2 l h d m p) : LeastFit b (Ky.srt k).2.1 (Ky.srt k).1 (Ky.srt k).2.2 l h d m p := x.perm (isort_perm _)
section
variable {P : Program} {w : World} {K : PySem.W.Frag} {mg : Str → Option Value} {base : Heap} {A : Adr}
/-! ### _law_atom_holds -/
def spAtomH : Sp := fun vs H Q _ => ∃ (a p : Addr) (b : Int) (f : Tre) (l h : Int), vs = [.ref a, .int l, .int h] ∧ TreAt H p b f a ∧ TreD b f ∧ f.deep = 0 ∧ l < h ∧ h - l < 2 ^ 102 ∧ l.natAbs < 2 ^ 130 ∧ h.natAbs < 2 ^ 130 ∧
  ∀ (H' : Hp) (r : Bool), Same H H' → Val b f.fm l h r → Q (.bl r) H'
abbrev nm_law_atom_holds : List Str := ["_law_tree_here", "_law_low", "_law_high", "_law_rule_here", "_law_first", "_law_last", "_law_step_here", "_law_its", "_law_down", "_law_mine", "_law_other", "_law_size", "_law_end"]
theorem sc_law_atom_holds : FnScope ["_law_tree_here", "_law_low", "_law_high", "_law_rule_here", "_law_first", "_law_last", "_law_step_here", "_law_its", "_law_down", "_law_mine", "_law_other", "_law_size", "_law_end"] ["_law_tree_here", "_law_low", "_law_high"] (defScope s_law_atom_holds) := ⟨rfl, rfl, rfl, by decide +kernel, rfl, by decide +kernel, by decide +kernel⟩
theorem ok_atomH (T : Txt K mg A w) : FnOk P w K mg base CX0 5 A.a_law_atom_holds A.d_law_atom_holds ["_law_tree_here", "_law_low", "_law_high"] spAtomH := by
  have G_law_times : FnOk P w K mg base CX0 1 A.a_law_times A.d_law_times ["_law_base", "_law_many"] spTimes := ok_times T
  have G_law_step : FnOk P w K mg base CX0 3 A.a_law_step A.d_law_step ["_law_rule_here", "_law_low", "_law_high"] spStepL := ok_stepL T
  have G_law_marks : FnOk P w K mg base CX0 4 A.a_law_marks A.d_law_marks ["_law_rule_here", "_law_low", "_law_high"] spMarksL := ok_marksL T
  have G_law_scaled : FnOk P w K mg base CX0 2 A.a_law_scaled A.d_law_scaled ["_law_rule_here", "_law_step_here", "_law_low", "_law_high"] spScaled := ok_scaled T
  refine T.F_law_atom_holds.ok sc_law_atom_holds (fun vs H Q E h => ?_) (fun cdv A0 outer s H vs Q E hr h => ?_)
  · obtain ⟨a, p, b, f, l, h, rfl, _⟩ := h
    rfl
  · obtain ⟨a, p, b, f, l, h, rfl, F, D, dp, lt, ln, lo, hi, q⟩ := h
    refine ⟨_, (pss_cons (ps_if (pt_cmpR op_eq (pe_ix ix_tup (pv 0) pe_int (fun _ _ => rfl)) pe_str (nomark _)) (pss_one (ps_ret pe_bl)) pss_nil)
  (pss_cons (ps_set (i := 3) sc_law_atom_holds.nd rfl (Or.inl rfl) (pe_ix ix_tup (pv 0) pe_int (fun _ _ => rfl)))
  (pss_cons (ps_if (pt_cmpR op_eq (pe_ix ix_tup (pv 0) pe_int (fun _ _ => rfl)) pe_str (nomark _)) (pss_cons (ps_asg (pe_call G_law_marks (hr.mono (by decide)) (by rfl) T.m_law_marks T.F_law_marks.kp T.B_law_marks .nil pass0 (pa_cons (pv 3) (pa_cons (pv 1) (pa_cons (pv 2) pa_nil)))) (pg_tup (by rfl) (pgs_cons (pg_name (i := 4) sc_law_atom_holds.nd rfl (Or.inl rfl)) (pgs_cons (pg_name (i := 5) sc_law_atom_holds.nd rfl (Or.inl rfl)) pgs_nil))))
  (pss_one (ps_ret (pe_and (pe_cmpR op_ge (pe_op op_add (pe_op op_sub (pv 5) (pv 4)) pe_int) (pe_ix ix_tup (pv 0) pe_int (fun _ _ => rfl)) (nomark _)) (pe_one (pe_or (pe_cmpR op_isN (pe_ix ix_tup (pv 0) pe_int (fun _ _ => rfl)) pe_non (nomark _)) (pe_one (pe_cmpR op_le (pe_op op_add (pe_op op_sub (pv 5) (pv 4)) pe_int) (pe_ix ix_tup (pv 0) pe_int (fun _ _ => rfl)) (nomark _))))))))) pss_nil)
  (pss_cons (ps_set (i := 6) sc_law_atom_holds.nd rfl (Or.inl rfl) (pe_call G_law_step (hr.mono (by decide)) (by rfl) T.m_law_step T.F_law_step.kp T.B_law_step .nil pass0 (pa_cons (pv 3) (pa_cons (pv 1) (pa_cons (pv 2) pa_nil)))))
  (pss_cons (ps_if (pt_cmpR op_eq (pe_ix ix_tup (pv 0) pe_int (fun _ _ => rfl)) pe_str (nomark _)) (pss_one (ps_ret (pe_cmpR op_eq (pe_ix ix_tup (pv 6) pe_int (fun _ _ => rfl)) (pe_ix ix_tup (pv 0) pe_int (fun _ _ => rfl)) (nomark _)))) pss_nil)
  (pss_cons (ps_if (pt_cmpR op_eq (pe_ix ix_tup (pv 0) pe_int (fun _ _ => rfl)) pe_str (nomark _)) (pss_cons (ps_set (i := 7) sc_law_atom_holds.nd rfl (Or.inl rfl) (pe_call G_law_step (hr.mono (by decide)) (by rfl) T.m_law_step T.F_law_step.kp T.B_law_step .nil pass0 (pa_cons (pe_ix ix_tup (pv 0) pe_int (fun _ _ => rfl)) (pa_cons (pv 1) (pa_cons (pv 2) pa_nil)))))
  (pss_cons (ps_set (i := 8) sc_law_atom_holds.nd rfl (Or.inl rfl) (pe_callB (call_min2 rfl) (by rfl) T.n_min (by decide +kernel) (pa_cons (pe_callTy call_int1 (by rfl) T.n_int (by decide +kernel) (pa_cons (pe_ix ix_tup (pv 6) pe_int (fun _ _ => rfl)) pa_nil)) (pa_cons (pe_callTy call_int1 (by rfl) T.n_int (by decide +kernel) (pa_cons (pe_ix ix_tup (pv 7) pe_int (fun _ _ => rfl)) pa_nil)) pa_nil))))
  (pss_cons (ps_par (i := 9) (j := 10) (by rfl) sc_law_atom_holds.nd rfl rfl (by decide) rfl rfl (pa_cons (pe_op op_mulW (pe_ix ix_tup (pv 6) pe_int (fun _ _ => rfl)) (pe_call G_law_times (hr.mono (by decide)) (by rfl) T.m_law_times T.F_law_times.kp T.B_law_times .nil pass0 (pa_cons (pe_ix ix_tup (pv 3) pe_int (fun _ _ => rfl)) (pa_cons (pe_op op_sub (pe_ix ix_tup (pv 6) pe_int (fun _ _ => rfl)) (pv 8)) pa_nil)))) (pa_cons (pe_op op_mulW (pe_ix ix_tup (pv 7) pe_int (fun _ _ => rfl)) (pe_call G_law_times (hr.mono (by decide)) (by rfl) T.m_law_times T.F_law_times.kp T.B_law_times .nil pass0 (pa_cons (pe_ix ix_tup (pv 3) pe_int (fun _ _ => rfl)) (pa_cons (pe_op op_sub (pe_ix ix_tup (pv 7) pe_int (fun _ _ => rfl)) (pv 8)) pa_nil)))) pa_nil)) (by rfl))
  (pss_one (ps_ret (pe_cmpR op_gt (pe_op op_mulW (pv 9) (pe_ix ix_tup (pe_ix ix_tup (pv 0) pe_int (fun _ _ => rfl)) pe_int (fun _ _ => rfl))) (pe_op op_mulW (pv 10) (pe_ix ix_tup (pe_ix ix_tup (pv 0) pe_int (fun _ _ => rfl)) pe_int (fun _ _ => rfl))) (nomark _))))))) pss_nil)
  (pss_cons (ps_asg (pe_call G_law_scaled (hr.mono (by decide)) (by rfl) T.m_law_scaled T.F_law_scaled.kp T.B_law_scaled .nil pass0 (pa_cons (pv 3) (pa_cons (pv 6) (pa_cons (pv 1) (pa_cons (pv 2) pa_nil))))) (pg_tup (by rfl) (pgs_cons (pg_name (i := 1) sc_law_atom_holds.nd rfl (Or.inl rfl)) (pgs_cons (pg_name (i := 2) sc_law_atom_holds.nd rfl (Or.inl rfl)) (pgs_cons (pg_name (i := 11) sc_law_atom_holds.nd rfl (Or.inl rfl)) pgs_nil)))))
  (pss_cons (ps_set (i := 12) sc_law_atom_holds.nd rfl (Or.inl rfl) (pe_ix ix_list (pe_lst (pa_cons (pv 1) (pa_cons (pv 2) pa_nil))) (pe_callTy call_int1 (by rfl) T.n_int (by decide +kernel) (pa_cons (pe_cmpR op_eq (pe_ix ix_tup (pv 0) pe_int (fun _ _ => rfl)) pe_str (nomark _)) pa_nil)) (fun _ _ => rfl)))
  (pss_one (ps_ret (pe_cmpR op_eq (pe_op op_mulW (pe_op op_fdivW (pv 12) (pv 11)) (pv 11)) (pv 12) (nomark _)))))))))))), ?_⟩
    have bN : ∀ k : Ky, KyD b k → 2 ≤ b ∧ b ≤ 10 := fun k G => ⟨G.1.b2, G.1.b10⟩
    cases f with
    | every =>
      have h1 : H a = some (.tup [.str "every", .int b]) := F
      refine ⟨_, rfl, a, _, _, _, rfl, rfl, SqT.of h1, atL (j := 0) rfl, rfl, _, rfl, ?_⟩
      rw [decide_eq_true rfl]
      refine iteT ?_
      exact q H true (Same.refl _) rfl
    | counted k lst mst =>
      obtain ⟨c, h1, lh, RT, nl⟩ := F
      obtain ⟨G, l0, l7, mz⟩ := D
      refine ⟨_, rfl, a, _, _, _, rfl, rfl, SqT.of h1, atL (j := 0) rfl, rfl, _, rfl, ?_⟩
      refine iteF ?_
      refine ⟨_, rfl, a, _, _, _, rfl, rfl, SqT.of h1, atL (j := 1) rfl, ?_⟩
      refine gN (σ' := [some (.ref a), some (.int l), some (.int h), some (.ref c), none, none, none, none, none, none, none, none, none]) rfl ?_
      refine ⟨_, rfl, a, _, _, _, rfl, rfl, SqT.of h1, atL (j := 0) rfl, rfl, _, rfl, ?_⟩
      rw [decide_eq_true rfl]
      refine iteT ?_
      refine ⟨_, rfl, _, rfl, _, rfl, c, lh, b, k.1, k.2.1, k.2.2, l, h, rfl, RT, G.1, lt, ln, lo, hi, fun H1 q1 m e s1 LF hq1 e9 e150 => ?_⟩
      have h2 := s1 _ _ h1
      refine ⟨q1, _, rfl, SqT.of hq1, rfl, _, _, rfl, _, _, rfl, rfl, ?_⟩
      generalize hfi : fstZ k.1 (l * facZ b e) (sizZ b m e) = fi
      generalize hla : lstZ k.1 (h * facZ b e) (sizZ b m e) = la
      refine norm2 (σ' := [some (.ref a), some (.int l), some (.int h), some (.ref c), some (.int fi), some (.int la), none, none, none, none, none, none, none]) rfl ?_
      have ec : cntZ b k.1 l h m e = la - fi + 1 := by rw [← hfi, ← hla]; rfl
      have fin : ∀ r, r = (decide (lst ≤ la - fi + 1) && mst.all fun z => decide (la - fi + 1 ≤ z)) → Q (.bl r) H1 := fun r er => q H1 r s1 ⟨m, e, LF.srt, by rw [show cntZ b (Ky.srt k).1 l h m e = la - fi + 1 from ec]; exact er⟩
      refine ⟨_, rfl, _, rfl, _, _, rfl, rfl, _, _, rfl, rfl, _, rfl, a, _, _, _, rfl, rfl, SqT.of h2, atL (j := 2) rfl, _, _, rfl, rfl, ?_⟩
      refine ⟨_, rfl, ite2 (fun c1 => ?_) (fun c1 => ?_)⟩
      · refine ⟨_, rfl, a, _, _, _, rfl, rfl, SqT.of h2, atL (j := 3) rfl, ?_⟩
        cases mst with
        | none =>
          refine ⟨rfl, _, rfl, ?_⟩
          refine iteT (fin true ?_)
          rw [c1]
          rfl
        | some z =>
          refine ⟨rfl, _, rfl, ?_⟩
          refine iteF ?_
          refine ⟨_, rfl, _, rfl, _, _, rfl, rfl, _, _, rfl, rfl, _, rfl, a, _, _, _, rfl, rfl, SqT.of h2, atL (j := 3) rfl, _, _, rfl, rfl, ?_⟩
          refine fin (decide (la - fi + 1 ≤ z)) ?_
          rw [c1]
          rfl
      · have er : decide (lst ≤ la - fi + 1) = false := by
          cases hq : decide (lst ≤ la - fi + 1) with
          | true => exact absurd hq c1
          | false => rfl
        refine fin false ?_
        rw [er]
        rfl
    | taken k m0 =>
      obtain ⟨c, h1, lh, RT, nl⟩ := F
      obtain ⟨G, hm⟩ := D
      refine ⟨_, rfl, a, _, _, _, rfl, rfl, SqT.of h1, atL (j := 0) rfl, rfl, _, rfl, ?_⟩
      refine iteF ?_
      refine ⟨_, rfl, a, _, _, _, rfl, rfl, SqT.of h1, atL (j := 1) rfl, ?_⟩
      refine gN (σ' := [some (.ref a), some (.int l), some (.int h), some (.ref c), none, none, none, none, none, none, none, none, none]) rfl ?_
      refine ⟨_, rfl, a, _, _, _, rfl, rfl, SqT.of h1, atL (j := 0) rfl, rfl, _, rfl, ?_⟩
      refine iteF ?_
      refine ⟨_, rfl, _, rfl, _, rfl, c, lh, b, k.1, k.2.1, k.2.2, l, h, rfl, RT, G.1, lt, ln, lo, hi, fun H1 st m e s1 hst LF e9 e150 => ?_⟩
      have h2 := s1 _ _ h1
      refine gN (σ' := [some (.ref a), some (.int l), some (.int h), some (.ref c), none, none, some (.ref st), none, none, none, none, none, none]) rfl ?_
      refine ⟨_, rfl, a, _, _, _, rfl, rfl, SqT.of h2, atL (j := 0) rfl, rfl, _, rfl, ?_⟩
      rw [decide_eq_true rfl]
      refine iteT ?_
      refine ⟨_, rfl, st, _, _, _, rfl, rfl, SqT.of hst, atL (j := 0) rfl, _, rfl, a, _, _, _, rfl, rfl, SqT.of h2, atL (j := 2) rfl, rfl, ?_⟩
      have ed : decide (V.int m = V.int m0) = decide (m = m0) := decide_eq_decide.mpr ⟨V.int.inj, congrArg V.int⟩
      show Q (.bl (decide (V.int m = V.int m0))) H1
      rw [ed]
      exact q H1 _ s1 ⟨m, e, LF.srt, rfl⟩
    | coarser k k2 n o =>
      obtain ⟨c, e2, t, h1, ⟨lh, RT, nl⟩, ⟨lh2, RT2, nl2⟩, ht⟩ := F
      obtain ⟨G, G2, n1, n10, o1, o10⟩ := D
      refine ⟨_, rfl, a, _, _, _, rfl, rfl, SqT.of h1, atL (j := 0) rfl, rfl, _, rfl, ?_⟩
      refine iteF ?_
      refine ⟨_, rfl, a, _, _, _, rfl, rfl, SqT.of h1, atL (j := 1) rfl, ?_⟩
      refine gN (σ' := [some (.ref a), some (.int l), some (.int h), some (.ref c), none, none, none, none, none, none, none, none, none]) rfl ?_
      refine ⟨_, rfl, a, _, _, _, rfl, rfl, SqT.of h1, atL (j := 0) rfl, rfl, _, rfl, ?_⟩
      refine iteF ?_
      refine ⟨_, rfl, _, rfl, _, rfl, c, lh, b, k.1, k.2.1, k.2.2, l, h, rfl, RT, G.1, lt, ln, lo, hi, fun H1 st m e s1 hst LF e9 e150 => ?_⟩
      have h2 := s1 _ _ h1
      refine gN (σ' := [some (.ref a), some (.int l), some (.int h), some (.ref c), none, none, some (.ref st), none, none, none, none, none, none]) rfl ?_
      refine ⟨_, rfl, a, _, _, _, rfl, rfl, SqT.of h2, atL (j := 0) rfl, rfl, _, rfl, ?_⟩
      refine iteF ?_
      refine ⟨_, rfl, a, _, _, _, rfl, rfl, SqT.of h2, atL (j := 0) rfl, rfl, _, rfl, ?_⟩
      rw [decide_eq_true rfl]
      refine iteT ?_
      refine ⟨_, rfl, a, _, _, _, rfl, rfl, SqT.of h2, atL (j := 2) rfl, _, rfl, _, rfl, e2, lh2, b, k2.1, k2.2.1, k2.2.2, l, h, rfl, RT2.same s1, G2.1, lt, ln, lo, hi, fun H2 it m2 p2 s2 hit LF2 f9 f150 => ?_⟩
      have s12 := s1.trans s2
      have h3 := s12 _ _ h1
      have hst2 := s2 _ _ hst
      have ht2 := s12 _ _ ht
      refine gN (σ' := [some (.ref a), some (.int l), some (.int h), some (.ref c), none, none, some (.ref st), some (.ref it), none, none, none, none, none]) rfl ?_
      refine ⟨_, rfl, st, _, _, _, rfl, rfl, SqT.of hst2, atL (j := 1) rfl, .inl ⟨_, rfl, _, rfl, it, _, _, _, rfl, rfl, SqT.of hit, atL (j := 1) rfl, .inl ⟨_, rfl, _, _, rfl, ?_⟩⟩⟩
      generalize hw : (if p2 < e then p2 else e) = wd
      have hwm : wd = min e p2 := by rw [← hw]; split <;> omega
      refine gN (σ' := [some (.ref a), some (.int l), some (.int h), some (.ref c), none, none, some (.ref st), some (.ref it), some (.int wd), none, none, none, none]) rfl ?_
      obtain ⟨b2, b10⟩ := bN k G
      have b1 : 1 ≤ b := by omega
      have bB : b < BIG := lt_big G.1.args.bB (by decide)
      have pe : ∀ e : Nat, e ≤ 160 → b ^ e < 2 ^ 600 := fun e he => by
        have h1 := pow_le' (b := b) (by omega) he
        have h2 := pow_base_le (a := b) (b := 10) (by omega) b10 160
        have h3 : (10 : Int) ^ 160 < 2 ^ 600 := by decide
        omega
      obtain ⟨m1, m25, _⟩ := G.1.all m LF.mem
      obtain ⟨m21, m225, _⟩ := G2.1.all m2 LF2.mem
      have RT3 := RT.same s12
      have pB : ∀ e : Nat, e ≤ 160 → b ^ e < BIG := fun e he => lt_big (n := 600) (pe e he) (by decide)
      have q1 := pow_pos' (b := b) (by omega) (e - wd).toNat
      have q2 := pow_pos' (b := b) (by omega) (p2 - wd).toNat
      have e62 : (2 : Int) ^ 62 = 4611686018427387904 := by decide
      have v1 := pe (e - wd).toNat (by omega)
      have v2 := pe (p2 - wd).toNat (by omega)
      have w1 := pB (e - wd).toNat (by omega)
      have w2 := pB (p2 - wd).toNat (by omega)
      have sm : ∀ {x : Int}, x < 2 ^ 64 → x < 2 ^ 400000 := fun z => big_le (lt_big (n := 64) z (by decide))
      have e64 : (2 : Int) ^ 64 = 18446744073709551616 := by decide
      have mm : ∀ {x y : Int}, 1 ≤ x → x ≤ 25 → 1 ≤ y → y < 2 ^ 600 → 0 ≤ x * y ∧ x * y < 2 ^ 700 := fun {x y} x1 x25 y1 yB => by
        have h2 := Int.mul_le_mul x25 (Int.le_of_lt yB) (by omega) (by decide)
        have h3 : (25 : Int) * 2 ^ 600 < 2 ^ 700 := by decide
        have h4 := Int.mul_nonneg (show 0 ≤ x by omega) (show 0 ≤ y by omega)
        omega
      refine ⟨_, rfl, st, _, _, _, rfl, rfl, SqT.of hst2, atL (j := 0) rfl, _, rfl, c, _, _, _, rfl, rfl, SqT.of RT3.1, atL (j := 0) rfl, _, rfl, st, _, _, _, rfl, rfl, SqT.of hst2, atL (j := 1) rfl, _, rfl, _, _, rfl, rfl, b, e - wd, rfl, b1, bB, by omega, by omega, w1, _, _, rfl, rfl, mulBig (by omega) (sm (by omega)) (by omega) (big_le w1), ?_⟩
      refine ⟨_, rfl, it, _, _, _, rfl, rfl, SqT.of hit, atL (j := 0) rfl, _, rfl, c, _, _, _, rfl, rfl, SqT.of RT3.1, atL (j := 0) rfl, _, rfl, it, _, _, _, rfl, rfl, SqT.of hit, atL (j := 1) rfl, _, rfl, _, _, rfl, rfl, b, p2 - wd, rfl, b1, bB, by omega, by omega, w2, _, _, rfl, rfl, mulBig (by omega) (sm (by omega)) (by omega) (big_le w2), ?_⟩
      refine ⟨_, _, rfl, ?_⟩
      obtain ⟨x0, xB⟩ := mm m1 m25 q1 v1
      obtain ⟨y0, yB⟩ := mm m21 m225 q2 v2
      refine ⟨_, rfl, _, rfl, a, _, _, _, rfl, rfl, SqT.of h3, atL (j := 3) rfl, t, _, _, _, rfl, rfl, SqT.of ht2, atL (j := 1) rfl, _, _, rfl, rfl, mulBig x0 (big_le (lt_big (n := 700) xB (by decide))) (by omega) (sm (by omega)), _, rfl, _, rfl, a, _, _, _, rfl, rfl, SqT.of h3, atL (j := 3) rfl, t, _, _, _, rfl, rfl, SqT.of ht2, atL (j := 0) rfl, _, _, rfl, rfl, mulBig y0 (big_le (lt_big (n := 700) yB (by decide))) (by omega) (sm (by omega)), _, _, rfl, rfl, ?_⟩
      refine q H2 _ s12 ⟨m, e, m2, p2, LF.srt, LF2.srt, ?_⟩
      unfold moreZ
      rw [← hwm]
      refine decide_eq_decide.mpr ?_
      rw [Int.mul_comm n]
    | touched k low =>
      obtain ⟨c, h1, lh, RT, nl⟩ := F
      have G : KyD b k := D
      refine ⟨_, rfl, a, _, _, _, rfl, rfl, SqT.of h1, atL (j := 0) rfl, rfl, _, rfl, ?_⟩
      refine iteF ?_
      refine ⟨_, rfl, a, _, _, _, rfl, rfl, SqT.of h1, atL (j := 1) rfl, ?_⟩
      refine gN (σ' := [some (.ref a), some (.int l), some (.int h), some (.ref c), none, none, none, none, none, none, none, none, none]) rfl ?_
      refine ⟨_, rfl, a, _, _, _, rfl, rfl, SqT.of h1, atL (j := 0) rfl, rfl, _, rfl, ?_⟩
      refine iteF ?_
      refine ⟨_, rfl, _, rfl, _, rfl, c, lh, b, k.1, k.2.1, k.2.2, l, h, rfl, RT, G.1, lt, ln, lo, hi, fun H1 st m e s1 hst LF e9 e150 => ?_⟩
      have h2 := s1 _ _ h1
      refine gN (σ' := [some (.ref a), some (.int l), some (.int h), some (.ref c), none, none, some (.ref st), none, none, none, none, none, none]) rfl ?_
      refine ⟨_, rfl, a, _, _, _, rfl, rfl, SqT.of h2, atL (j := 0) rfl, rfl, _, rfl, ?_⟩
      refine iteF ?_
      refine ⟨_, rfl, a, _, _, _, rfl, rfl, SqT.of h2, atL (j := 0) rfl, rfl, _, rfl, ?_⟩
      refine iteF ?_
      obtain ⟨b2, b10⟩ := bN k G
      have b1 : 1 ≤ b := by omega
      have bB : b < BIG := lt_big G.1.args.bB (by decide)
      have pe : ∀ e : Nat, e ≤ 160 → b ^ e < 2 ^ 600 := fun e he => by
        have h1 := pow_le' (b := b) (by omega) he
        have h2 := pow_base_le (a := b) (b := 10) (by omega) b10 160
        have h3 : (10 : Int) ^ 160 < 2 ^ 600 := by decide
        omega
      obtain ⟨m1, m25, _⟩ := G.1.all m LF.mem
      have e64 : (2 : Int) ^ 64 = 18446744073709551616 := by decide
      have e60 : (2 : Nat) ^ 60 = 1152921504606846976 := by decide
      have c600 : (2 : Int) ^ 600 < 2 ^ 2100 := pow_lt' (b := 2) (by decide) (by decide)
      have c130 : (2 : Nat) ^ 130 < 2 ^ 1500 := Nat.pow_lt_pow_right (by decide) (by decide)
      refine ⟨_, rfl, _, rfl, _, rfl, _, rfl, c, lh, st, b, k.1, k.2.1, k.2.2, l, h, m, e, rfl, RT.same s1, hst, by omega, bB, m1, by omega, Int.lt_trans (pe _ (by omega)) c600, by omega, by omega, by omega, fun H2 q2 s2 _ hq2 => ?_⟩
      refine ⟨q2, _, rfl, SqT.of hq2, rfl, _, _, rfl, _, _, rfl, _, _, rfl, rfl, ?_⟩
      have zp := siz_pos (b := b) (m := m) (e := e) (by omega) m1
      have zB7 : sizZ b m e < 2 ^ 700 := by
        unfold sizZ
        have h7 : (25 : Int) * 2 ^ 600 < 2 ^ 700 := by decide
        split
        · have h1 := pe e.toNat (by omega)
          have h0 := pow_pos' (b := b) (by omega) e.toNat
          have h2 := Int.mul_le_mul m25 (Int.le_of_lt h1) (by omega) (by decide)
          omega
        · have : (25 : Int) < 2 ^ 700 := by decide
          omega
      have zB : sizZ b m e < BIG := lt_big (n := 700) zB7 (by decide)
      have fB : 1 ≤ facZ b e ∧ facZ b e < 2 ^ 600 := by
        unfold facZ
        split
        · exact ⟨Int.le_refl _, by decide⟩
        · have h0 := pow_pos' (b := b) (by omega) (-e).toNat
          exact ⟨by omega, pe _ (by omega)⟩
      have s12 := s1.trans s2
      have h3 := s12 _ _ h1
      have fin : ∀ r : Bool, r = decide ((if low = true then l else h) * facZ b e % sizZ b m e = 0) → ∀ H', Same H H' → Q (.bl r) H' := fun r er H' sm => q H' r sm ⟨m, e, LF.srt, er⟩
      have xN : ∀ y : Int, y.natAbs < 2 ^ 130 → (y * facZ b e).natAbs < 2 ^ 730 := fun y hy => by
        rw [Int.natAbs_mul]
        exact Nat.lt_of_lt_of_le (Nat.mul_lt_mul'' hy (abs_lt_pow (k := 600) (by omega) fB.2)) (by rw [← Nat.pow_add]; exact Nat.le_refl _)
      generalize facZ b e = F at xN fin hq2 fB
      generalize sizZ b m e = Z at zp zB7 zB hq2 fin
      refine norm2 (σ' := [some (.ref a), some (.int (l * F)), some (.int (h * F)), some (.ref c), none, none, some (.ref st), none, none, none, none, some (.int Z), none]) rfl ?_
      have last : ∀ x : Int, x.natAbs < 2 ^ 730 → CMulW (x / Z) Z ∧ decide (V.int (x / Z * Z) = V.int x) = decide (x % Z = 0) := fun x hx => by
        refine ⟨wide_mul (a := 730) (b := 700) (Nat.lt_of_le_of_lt (Int.natAbs_ediv_le_natAbs x Z) hx) (abs_lt_pow (by omega) zB7) (by decide) (by decide) (by decide), decide_eq_decide.mpr ?_⟩
        have hd := Int.emod_add_mul_ediv x Z
        rw [Int.mul_comm] at hd
        generalize x / Z * Z = y at hd ⊢
        exact ⟨fun z => by have := V.int.inj z; omega, fun z => congrArg V.int (by omega)⟩
      refine ⟨_, rfl, _, rfl, (by show 2 ≤ sizeLine; decide), fun l3 hl3 => ?_⟩
      have h4 := (same_new (o := .lst [.int (l * F), .int (h * F)]) hl3) _ _ h3
      have s4 := s12.trans (same_new (o := .lst [.int (l * F), .int (h * F)]) hl3)
      cases low with
      | true =>
        refine ⟨_, rfl, a, _, _, _, rfl, rfl, SqT.of h4, atL (j := 2) rfl, rfl, .inr ⟨_, rfl, l3, _, _, _, rfl, rfl, SqL.of upd_same, atL (j := 0) rfl, ?_⟩⟩
        refine gN (σ' := [some (.ref a), some (.int (l * F)), some (.int (h * F)), some (.ref c), none, none, some (.ref st), none, none, none, none, some (.int Z), some (.int (l * F))]) rfl ?_
        obtain ⟨z1, z2⟩ := last (l * F) (xN l lo)
        refine ⟨_, rfl, _, rfl, _, _, rfl, rfl, size_div zp zB _, _, rfl, _, _, rfl, rfl, z1, _, rfl, rfl, ?_⟩
        exact fin _ z2 _ s4
      | false =>
        refine ⟨_, rfl, a, _, _, _, rfl, rfl, SqT.of h4, atL (j := 2) rfl, rfl, .inr ⟨_, rfl, l3, _, _, _, rfl, rfl, SqL.of upd_same, atL (j := 1) rfl, ?_⟩⟩
        refine gN (σ' := [some (.ref a), some (.int (l * F)), some (.int (h * F)), some (.ref c), none, none, some (.ref st), none, none, none, none, some (.int Z), some (.int (h * F))]) rfl ?_
        obtain ⟨z1, z2⟩ := last (h * F) (xN h hi)
        refine ⟨_, rfl, _, rfl, _, _, rfl, rfl, size_div zp zB _, _, rfl, _, _, rfl, rfl, z1, _, rfl, rfl, ?_⟩
        exact fin _ z2 _ s4
    | not f => exact absurd dp (Nat.succ_ne_zero _)
    | and f g => exact absurd dp (Nat.succ_ne_zero _)
    | or f g => exact absurd dp (Nat.succ_ne_zero _)
    | less f g => exact absurd dp (Nat.succ_ne_zero _)
    | either f g => exact absurd dp (Nat.succ_ne_zero _)
end
end Ax

namespace Ax
open PySem L2
section
variable {P : Program} {w : World} {K : PySem.W.Frag} {mg : Str → Option Value} {base : Heap} {A : Adr}
/-! ### _law_holds -/
def spHoldsL : Nat → Sp
  | 0 => fun _ _ _ _ => False
  | n + 1 => fun vs H Q _ => ∃ (a p : Addr) (b : Int) (f : Tre) (l h : Int), vs = [.ref a, .int l, .int h] ∧ TreAt H p b f a ∧ TreD b f ∧ f.deep ≤ n ∧ l < h ∧ h - l < 2 ^ 102 ∧ l.natAbs < 2 ^ 130 ∧ h.natAbs < 2 ^ 130 ∧
    ∀ (H' : Hp) (r : Bool), Same H H' → Val b f.fm l h r → Q (.bl r) H'
abbrev nm_law_holds : List Str := ["_law_tree_here", "_law_low", "_law_high", "_law_one", "_law_other"]
theorem sc_law_holds : FnScope ["_law_tree_here", "_law_low", "_law_high", "_law_one", "_law_other"] ["_law_tree_here", "_law_low", "_law_high"] (defScope s_law_holds) := ⟨rfl, rfl, rfl, by decide +kernel, rfl, by decide +kernel, by decide +kernel⟩
theorem ok_holdsL (T : Txt K mg A w) : ∀ n, FnOk P w K mg base CX0 (6 + n) A.a_law_holds A.d_law_holds ["_law_tree_here", "_law_low", "_law_high"] (spHoldsL n)
  | 0 => T.F_law_holds.ok sc_law_holds (fun vs H Q E h => h.elim) (fun cdv A0 outer s H vs Q E hr h => h.elim)
  | n + 1 => by
    have G_law_holds := ok_holdsL T n
    have G_law_atom_holds : FnOk P w K mg base CX0 5 A.a_law_atom_holds A.d_law_atom_holds ["_law_tree_here", "_law_low", "_law_high"] spAtomH := ok_atomH T
    refine T.F_law_holds.ok (k := 6 + n) sc_law_holds (fun vs H Q E h => ?_) (fun cdv A0 outer s H vs Q E hr h => ?_)
    · obtain ⟨a, p, b, f, l, h, rfl, _⟩ := h
      rfl
    · obtain ⟨a, p, b, f, l, h, rfl, F, D, dp, lt, ln, lo, hi, q⟩ := h
      refine ⟨_, (pss_cons (ps_if (pt_cmpR op_eq (pe_ix ix_tup (pv 0) pe_int (fun _ _ => rfl)) pe_str (nomark _)) (pss_one (ps_ret (pe_not (pe_call G_law_holds (hr.mono (by omega)) (by rfl) T.m_law_holds T.F_law_holds.kp T.B_law_holds .nil pass0 (pa_cons (pe_ix ix_tup (pv 0) pe_int (fun _ _ => rfl)) (pa_cons (pv 1) (pa_cons (pv 2) pa_nil))))))) pss_nil)
  (pss_cons (ps_if (pt_cmpR op_notIn_seq (pe_ix ix_tup (pv 0) pe_int (fun _ _ => rfl)) (pe_lst (pa_cons pe_str (pa_cons pe_str (pa_cons pe_str (pa_cons pe_str pa_nil))))) (by rfl)) (pss_one (ps_ret (pe_call G_law_atom_holds (hr.mono (by omega)) (by rfl) T.m_law_atom_holds T.F_law_atom_holds.kp T.B_law_atom_holds .nil pass0 (pa_cons (pv 0) (pa_cons (pv 1) (pa_cons (pv 2) pa_nil)))))) pss_nil)
  (pss_cons (ps_par (i := 3) (j := 4) (by rfl) sc_law_holds.nd rfl rfl (by decide) rfl rfl (pa_cons (pe_call G_law_holds (hr.mono (by omega)) (by rfl) T.m_law_holds T.F_law_holds.kp T.B_law_holds .nil pass0 (pa_cons (pe_ix ix_tup (pv 0) pe_int (fun _ _ => rfl)) (pa_cons (pv 1) (pa_cons (pv 2) pa_nil)))) (pa_cons (pe_call G_law_holds (hr.mono (by omega)) (by rfl) T.m_law_holds T.F_law_holds.kp T.B_law_holds .nil pass0 (pa_cons (pe_ix ix_tup (pv 0) pe_int (fun _ _ => rfl)) (pa_cons (pv 1) (pa_cons (pv 2) pa_nil)))) pa_nil)) (by rfl))
  (pss_cons (ps_if (pt_cmpR op_eq (pe_ix ix_tup (pv 0) pe_int (fun _ _ => rfl)) pe_str (nomark _)) (pss_one (ps_ret (pe_and (pv 3) (pe_one (pv 4))))) pss_nil)
  (pss_cons (ps_if (pt_cmpR op_eq (pe_ix ix_tup (pv 0) pe_int (fun _ _ => rfl)) pe_str (nomark _)) (pss_one (ps_ret (pe_or (pv 3) (pe_one (pv 4))))) pss_nil)
  (pss_cons (ps_if (pt_cmpR op_eq (pe_ix ix_tup (pv 0) pe_int (fun _ _ => rfl)) pe_str (nomark _)) (pss_one (ps_ret (pe_and (pv 3) (pe_one (pe_not (pv 4)))))) pss_nil)
  (pss_one (ps_ret (pe_cmpR op_ne (pv 3) (pv 4) (nomark _)))))))))), ?_⟩
      cases f with
      | every =>
        have F0 := F
        have h1 : H a = some (.tup [.str "every", .int b]) := F
        refine ⟨_, rfl, a, _, _, _, rfl, rfl, SqT.of h1, atL (j := 0) rfl, rfl, _, rfl, ?_⟩
        refine iteF ?_
        refine ⟨_, rfl, a, _, _, _, rfl, rfl, SqT.of h1, atL (j := 0) rfl, (by show 4 ≤ sizeLine; decide), fun l5 hl5 => ?_⟩
        have s5 := same_new (o := .lst [.str "and", .str "or", .str "less", .str "either"]) hl5
        refine ⟨l5, _, rfl, .inl (SqL.of upd_same), rfl, rfl, _, rfl, ?_⟩
        rw [if_pos rfl, show inV (.str "every") [.str "and", .str "or", .str "less", .str "either"] = false by decide +kernel]
        refine iteT ?_
        exact ⟨_, rfl, _, rfl, _, rfl, a, p, b, .every, l, h, rfl, TreAt.same s5 (f := .every) F0, D, rfl, lt, ln, lo, hi, fun H' r sm v => q H' r (s5.trans sm) v⟩
      | counted k lst mst =>
        have F0 := F
        obtain ⟨c, h1, hx⟩ := F
        refine ⟨_, rfl, a, _, _, _, rfl, rfl, SqT.of h1, atL (j := 0) rfl, rfl, _, rfl, ?_⟩
        refine iteF ?_
        refine ⟨_, rfl, a, _, _, _, rfl, rfl, SqT.of h1, atL (j := 0) rfl, (by show 4 ≤ sizeLine; decide), fun l5 hl5 => ?_⟩
        have s5 := same_new (o := .lst [.str "and", .str "or", .str "less", .str "either"]) hl5
        refine ⟨l5, _, rfl, .inl (SqL.of upd_same), rfl, rfl, _, rfl, ?_⟩
        rw [if_pos rfl, show inV (.str "counted") [.str "and", .str "or", .str "less", .str "either"] = false by decide +kernel]
        refine iteT ?_
        exact ⟨_, rfl, _, rfl, _, rfl, a, p, b, .counted k lst mst, l, h, rfl, TreAt.same s5 (f := .counted k lst mst) F0, D, rfl, lt, ln, lo, hi, fun H' r sm v => q H' r (s5.trans sm) v⟩
      | taken k m0 =>
        have F0 := F
        obtain ⟨c, h1, hx⟩ := F
        refine ⟨_, rfl, a, _, _, _, rfl, rfl, SqT.of h1, atL (j := 0) rfl, rfl, _, rfl, ?_⟩
        refine iteF ?_
        refine ⟨_, rfl, a, _, _, _, rfl, rfl, SqT.of h1, atL (j := 0) rfl, (by show 4 ≤ sizeLine; decide), fun l5 hl5 => ?_⟩
        have s5 := same_new (o := .lst [.str "and", .str "or", .str "less", .str "either"]) hl5
        refine ⟨l5, _, rfl, .inl (SqL.of upd_same), rfl, rfl, _, rfl, ?_⟩
        rw [if_pos rfl, show inV (.str "taken") [.str "and", .str "or", .str "less", .str "either"] = false by decide +kernel]
        refine iteT ?_
        exact ⟨_, rfl, _, rfl, _, rfl, a, p, b, .taken k m0, l, h, rfl, TreAt.same s5 (f := .taken k m0) F0, D, rfl, lt, ln, lo, hi, fun H' r sm v => q H' r (s5.trans sm) v⟩
      | coarser k k2 n0 o =>
        have F0 := F
        obtain ⟨c, e, t, h1, hx⟩ := F
        refine ⟨_, rfl, a, _, _, _, rfl, rfl, SqT.of h1, atL (j := 0) rfl, rfl, _, rfl, ?_⟩
        refine iteF ?_
        refine ⟨_, rfl, a, _, _, _, rfl, rfl, SqT.of h1, atL (j := 0) rfl, (by show 4 ≤ sizeLine; decide), fun l5 hl5 => ?_⟩
        have s5 := same_new (o := .lst [.str "and", .str "or", .str "less", .str "either"]) hl5
        refine ⟨l5, _, rfl, .inl (SqL.of upd_same), rfl, rfl, _, rfl, ?_⟩
        rw [if_pos rfl, show inV (.str "coarser") [.str "and", .str "or", .str "less", .str "either"] = false by decide +kernel]
        refine iteT ?_
        exact ⟨_, rfl, _, rfl, _, rfl, a, p, b, .coarser k k2 n0 o, l, h, rfl, TreAt.same s5 (f := .coarser k k2 n0 o) F0, D, rfl, lt, ln, lo, hi, fun H' r sm v => q H' r (s5.trans sm) v⟩
      | touched k low =>
        have F0 := F
        obtain ⟨c, h1, hx⟩ := F
        refine ⟨_, rfl, a, _, _, _, rfl, rfl, SqT.of h1, atL (j := 0) rfl, rfl, _, rfl, ?_⟩
        refine iteF ?_
        refine ⟨_, rfl, a, _, _, _, rfl, rfl, SqT.of h1, atL (j := 0) rfl, (by show 4 ≤ sizeLine; decide), fun l5 hl5 => ?_⟩
        have s5 := same_new (o := .lst [.str "and", .str "or", .str "less", .str "either"]) hl5
        refine ⟨l5, _, rfl, .inl (SqL.of upd_same), rfl, rfl, _, rfl, ?_⟩
        rw [if_pos rfl, show inV (.str "touched") [.str "and", .str "or", .str "less", .str "either"] = false by decide +kernel]
        refine iteT ?_
        exact ⟨_, rfl, _, rfl, _, rfl, a, p, b, .touched k low, l, h, rfl, TreAt.same s5 (f := .touched k low) F0, D, rfl, lt, ln, lo, hi, fun H' r sm v => q H' r (s5.trans sm) v⟩
      | not f =>
        obtain ⟨c, h1, Fc⟩ := F
        have dp : f.deep + 1 ≤ n := dp
        obtain ⟨m, rfl⟩ : ∃ m, n = m + 1 := ⟨n - 1, by omega⟩
        refine ⟨_, rfl, a, _, _, _, rfl, rfl, SqT.of h1, atL (j := 0) rfl, rfl, _, rfl, ?_⟩
        rw [decide_eq_true rfl]
        refine iteT ?_
        refine ⟨_, rfl, a, _, _, _, rfl, rfl, SqT.of h1, atL (j := 1) rfl, _, rfl, _, rfl, c, p, b, f, l, h, rfl, Fc, D, by omega, lt, ln, lo, hi, fun H1 r s1 v => ⟨r, rfl, ?_⟩⟩
        exact q H1 (!r) s1 ⟨r, v, rfl⟩
      | and f g =>
        obtain ⟨c, e, h1, Fc, Fe⟩ := F
        have dp : max f.deep g.deep + 1 ≤ n := dp
        obtain ⟨m, rfl⟩ : ∃ m, n = m + 1 := ⟨n - 1, by omega⟩
        refine ⟨_, rfl, a, _, _, _, rfl, rfl, SqT.of h1, atL (j := 0) rfl, rfl, _, rfl, ?_⟩
        refine iteF ?_
        refine ⟨_, rfl, a, _, _, _, rfl, rfl, SqT.of h1, atL (j := 0) rfl, (by show 4 ≤ sizeLine; decide), fun l5 hl5 => ?_⟩
        have s5 := same_new (o := .lst [.str "and", .str "or", .str "less", .str "either"]) hl5
        refine ⟨l5, _, rfl, .inl (SqL.of upd_same), rfl, rfl, _, rfl, ?_⟩
        rw [if_pos rfl, show inV (.str "and") [.str "and", .str "or", .str "less", .str "either"] = true by decide +kernel]
        refine iteF ?_
        have h2 := s5 _ _ h1
        refine ⟨_, rfl, a, _, _, _, rfl, rfl, SqT.of h2, atL (j := 1) rfl, _, rfl, _, rfl, c, p, b, f, l, h, rfl, Fc.same s5, D.1, by omega, lt, ln, lo, hi, fun H1 r1 s1 v1 => ?_⟩
        have h3 := s1 _ _ h2
        refine ⟨_, rfl, a, _, _, _, rfl, rfl, SqT.of h3, atL (j := 2) rfl, _, rfl, _, rfl, e, p, b, g, l, h, rfl, Fe.same (s5.trans s1), D.2, by omega, lt, ln, lo, hi, fun H2 r2 s2 v2 => ⟨_, _, rfl, ?_⟩⟩
        refine norm2 (σ' := [some (.ref a), some (.int l), some (.int h), some (.bl r1), some (.bl r2)]) rfl ?_
        have h4 := s2 _ _ h3
        have sA := (s5.trans s1).trans s2
        refine ⟨_, rfl, a, _, _, _, rfl, rfl, SqT.of h4, atL (j := 0) rfl, rfl, _, rfl, ?_⟩
        rw [decide_eq_true rfl]
        refine iteT ?_
        refine ⟨_, rfl, r1, rfl, ?_⟩
        cases r1 with
        | true => exact iteT ⟨_, rfl, q H2 r2 sA ⟨true, r2, v1, v2, rfl⟩⟩
        | false => exact iteF (q H2 false sA ⟨false, r2, v1, v2, rfl⟩)
      | or f g =>
        obtain ⟨c, e, h1, Fc, Fe⟩ := F
        have dp : max f.deep g.deep + 1 ≤ n := dp
        obtain ⟨m, rfl⟩ : ∃ m, n = m + 1 := ⟨n - 1, by omega⟩
        refine ⟨_, rfl, a, _, _, _, rfl, rfl, SqT.of h1, atL (j := 0) rfl, rfl, _, rfl, ?_⟩
        refine iteF ?_
        refine ⟨_, rfl, a, _, _, _, rfl, rfl, SqT.of h1, atL (j := 0) rfl, (by show 4 ≤ sizeLine; decide), fun l5 hl5 => ?_⟩
        have s5 := same_new (o := .lst [.str "and", .str "or", .str "less", .str "either"]) hl5
        refine ⟨l5, _, rfl, .inl (SqL.of upd_same), rfl, rfl, _, rfl, ?_⟩
        rw [if_pos rfl, show inV (.str "or") [.str "and", .str "or", .str "less", .str "either"] = true by decide +kernel]
        refine iteF ?_
        have h2 := s5 _ _ h1
        refine ⟨_, rfl, a, _, _, _, rfl, rfl, SqT.of h2, atL (j := 1) rfl, _, rfl, _, rfl, c, p, b, f, l, h, rfl, Fc.same s5, D.1, by omega, lt, ln, lo, hi, fun H1 r1 s1 v1 => ?_⟩
        have h3 := s1 _ _ h2
        refine ⟨_, rfl, a, _, _, _, rfl, rfl, SqT.of h3, atL (j := 2) rfl, _, rfl, _, rfl, e, p, b, g, l, h, rfl, Fe.same (s5.trans s1), D.2, by omega, lt, ln, lo, hi, fun H2 r2 s2 v2 => ⟨_, _, rfl, ?_⟩⟩
        refine norm2 (σ' := [some (.ref a), some (.int l), some (.int h), some (.bl r1), some (.bl r2)]) rfl ?_
        have h4 := s2 _ _ h3
        have sA := (s5.trans s1).trans s2
        refine ⟨_, rfl, a, _, _, _, rfl, rfl, SqT.of h4, atL (j := 0) rfl, rfl, _, rfl, ?_⟩
        refine iteF ?_
        refine ⟨_, rfl, a, _, _, _, rfl, rfl, SqT.of h4, atL (j := 0) rfl, rfl, _, rfl, ?_⟩
        rw [decide_eq_true rfl]
        refine iteT ?_
        refine ⟨_, rfl, r1, rfl, ?_⟩
        cases r1 with
        | true => exact iteT (q H2 true sA ⟨true, r2, v1, v2, rfl⟩)
        | false => exact iteF ⟨_, rfl, q H2 r2 sA ⟨false, r2, v1, v2, rfl⟩⟩
      | less f g =>
        obtain ⟨c, e, h1, Fc, Fe⟩ := F
        have dp : max f.deep g.deep + 1 ≤ n := dp
        obtain ⟨m, rfl⟩ : ∃ m, n = m + 1 := ⟨n - 1, by omega⟩
        refine ⟨_, rfl, a, _, _, _, rfl, rfl, SqT.of h1, atL (j := 0) rfl, rfl, _, rfl, ?_⟩
        refine iteF ?_
        refine ⟨_, rfl, a, _, _, _, rfl, rfl, SqT.of h1, atL (j := 0) rfl, (by show 4 ≤ sizeLine; decide), fun l5 hl5 => ?_⟩
        have s5 := same_new (o := .lst [.str "and", .str "or", .str "less", .str "either"]) hl5
        refine ⟨l5, _, rfl, .inl (SqL.of upd_same), rfl, rfl, _, rfl, ?_⟩
        rw [if_pos rfl, show inV (.str "less") [.str "and", .str "or", .str "less", .str "either"] = true by decide +kernel]
        refine iteF ?_
        have h2 := s5 _ _ h1
        refine ⟨_, rfl, a, _, _, _, rfl, rfl, SqT.of h2, atL (j := 1) rfl, _, rfl, _, rfl, c, p, b, f, l, h, rfl, Fc.same s5, D.1, by omega, lt, ln, lo, hi, fun H1 r1 s1 v1 => ?_⟩
        have h3 := s1 _ _ h2
        refine ⟨_, rfl, a, _, _, _, rfl, rfl, SqT.of h3, atL (j := 2) rfl, _, rfl, _, rfl, e, p, b, g, l, h, rfl, Fe.same (s5.trans s1), D.2, by omega, lt, ln, lo, hi, fun H2 r2 s2 v2 => ⟨_, _, rfl, ?_⟩⟩
        refine norm2 (σ' := [some (.ref a), some (.int l), some (.int h), some (.bl r1), some (.bl r2)]) rfl ?_
        have h4 := s2 _ _ h3
        have sA := (s5.trans s1).trans s2
        refine ⟨_, rfl, a, _, _, _, rfl, rfl, SqT.of h4, atL (j := 0) rfl, rfl, _, rfl, ?_⟩
        refine iteF ?_
        refine ⟨_, rfl, a, _, _, _, rfl, rfl, SqT.of h4, atL (j := 0) rfl, rfl, _, rfl, ?_⟩
        refine iteF ?_
        refine ⟨_, rfl, a, _, _, _, rfl, rfl, SqT.of h4, atL (j := 0) rfl, rfl, _, rfl, ?_⟩
        rw [decide_eq_true rfl]
        refine iteT ?_
        refine ⟨_, rfl, r1, rfl, ?_⟩
        cases r1 with
        | true => exact iteT ⟨_, rfl, r2, rfl, q H2 (!r2) sA ⟨true, !r2, v1, ⟨r2, v2, rfl⟩, rfl⟩⟩
        | false => exact iteF (q H2 false sA ⟨false, !r2, v1, ⟨r2, v2, rfl⟩, rfl⟩)
      | either f g =>
        obtain ⟨c, e, h1, Fc, Fe⟩ := F
        have dp : max f.deep g.deep + 1 ≤ n := dp
        obtain ⟨m, rfl⟩ : ∃ m, n = m + 1 := ⟨n - 1, by omega⟩
        refine ⟨_, rfl, a, _, _, _, rfl, rfl, SqT.of h1, atL (j := 0) rfl, rfl, _, rfl, ?_⟩
        refine iteF ?_
        refine ⟨_, rfl, a, _, _, _, rfl, rfl, SqT.of h1, atL (j := 0) rfl, (by show 4 ≤ sizeLine; decide), fun l5 hl5 => ?_⟩
        have s5 := same_new (o := .lst [.str "and", .str "or", .str "less", .str "either"]) hl5
        refine ⟨l5, _, rfl, .inl (SqL.of upd_same), rfl, rfl, _, rfl, ?_⟩
        rw [if_pos rfl, show inV (.str "either") [.str "and", .str "or", .str "less", .str "either"] = true by decide +kernel]
        refine iteF ?_
        have h2 := s5 _ _ h1
        refine ⟨_, rfl, a, _, _, _, rfl, rfl, SqT.of h2, atL (j := 1) rfl, _, rfl, _, rfl, c, p, b, f, l, h, rfl, Fc.same s5, D.1, by omega, lt, ln, lo, hi, fun H1 r1 s1 v1 => ?_⟩
        have h3 := s1 _ _ h2
        refine ⟨_, rfl, a, _, _, _, rfl, rfl, SqT.of h3, atL (j := 2) rfl, _, rfl, _, rfl, e, p, b, g, l, h, rfl, Fe.same (s5.trans s1), D.2, by omega, lt, ln, lo, hi, fun H2 r2 s2 v2 => ⟨_, _, rfl, ?_⟩⟩
        refine norm2 (σ' := [some (.ref a), some (.int l), some (.int h), some (.bl r1), some (.bl r2)]) rfl ?_
        have h4 := s2 _ _ h3
        have sA := (s5.trans s1).trans s2
        refine ⟨_, rfl, a, _, _, _, rfl, rfl, SqT.of h4, atL (j := 0) rfl, rfl, _, rfl, ?_⟩
        refine iteF ?_
        refine ⟨_, rfl, a, _, _, _, rfl, rfl, SqT.of h4, atL (j := 0) rfl, rfl, _, rfl, ?_⟩
        refine iteF ?_
        refine ⟨_, rfl, a, _, _, _, rfl, rfl, SqT.of h4, atL (j := 0) rfl, rfl, _, rfl, ?_⟩
        refine iteF ?_
        refine ⟨_, rfl, _, rfl, rfl, ?_⟩
        have e : (!decide (V.bl r1 = V.bl r2)) = (r1 != r2) := by cases r1 <;> cases r2 <;> decide
        show Q (.bl (!decide (V.bl r1 = V.bl r2))) H2
        rw [e]
        exact q H2 (r1 != r2) sA ⟨r1, r2, v1, v2, rfl⟩
end
end Ax

namespace Ax
open PySem L2
theorem KyD.srt {b : Int} {k : Ky} (h : KyD b k) : KyD b (Ky.srt k) := by
  obtain ⟨⟨h1, h2, h3, h4, h5, h6, h7, h8, h9⟩, hd⟩ := h
  have p := isort_perm k.2.1
  refine ⟨⟨h1, h2, h3, h4, h5, fun e => h6 ?_, ?_, ?_, fun m hm => h9 m (p.mem_iff.mp hm)⟩, fun m hm => hd m (p.mem_iff.mp hm)⟩
  · have e : isort k.2.1 = [] := e
    rw [e] at p
    exact p.symm.eq_nil
  · show (isort k.2.1).length ≤ 4
    rw [p.length_eq]
    exact h7
  · exact p.nodup_iff.mpr h8
theorem KyD.R {b : Int} {k : Ky} (h : KyD b k) : KyR b (Ky.srt k) := h.srt.1.args
theorem TreD.R {b : Int} : ∀ {f : Tre}, TreD b f → FmR b f.fm
  | .every, _ => trivial
  | .counted k l m, ⟨G, l0, l7, mz⟩ => by
    have e60 : (2 : Nat) ^ 60 = 1152921504606846976 := by decide
    refine ⟨G.R, by omega, ?_⟩
    cases m with
    | none => rfl
    | some z =>
      obtain ⟨z0, z8⟩ := mz z rfl
      exact decide_eq_true (by omega)
  | .taken k m, ⟨G, _⟩ => KyD.R G
  | .coarser k k2 n o, ⟨G, G2, n1, n10, o1, o10⟩ => by
    have e60 : (2 : Int) ^ 60 = 1152921504606846976 := by decide
    exact ⟨G.R, G2.R, n1, by omega, o1, by omega⟩
  | .touched k low, G => KyD.R G
  | .not f, D => TreD.R (f := f) D
  | .and f g, D => ⟨TreD.R (f := f) D.1, TreD.R (f := g) D.2⟩
  | .or f g, D => ⟨TreD.R (f := f) D.1, TreD.R (f := g) D.2⟩
  | .less f g, D => ⟨TreD.R (f := f) D.1, TreD.R (f := g) D.2⟩
  | .either f g, D => ⟨TreD.R (f := f) D.1, TreD.R (f := g) D.2⟩
theorem Tre.fm_deep : ∀ f : Tre, f.fm.deep ≤ 2 * f.deep
  | .every => Nat.le_refl _
  | .counted _ _ _ => Nat.le_refl _
  | .taken _ _ => Nat.le_refl _
  | .coarser _ _ _ _ => Nat.le_refl _
  | .touched _ _ => Nat.le_refl _
  | .not f => by
    have := Tre.fm_deep f
    show f.fm.deep + 1 ≤ 2 * (f.deep + 1)
    omega
  | .and f g => by
    have := Tre.fm_deep f
    have := Tre.fm_deep g
    show max f.fm.deep g.fm.deep + 1 ≤ 2 * (max f.deep g.deep + 1)
    omega
  | .or f g => by
    have := Tre.fm_deep f
    have := Tre.fm_deep g
    show max f.fm.deep g.fm.deep + 1 ≤ 2 * (max f.deep g.deep + 1)
    omega
  | .less f g => by
    have := Tre.fm_deep f
    have := Tre.fm_deep g
    show max f.fm.deep (g.fm.deep + 1) + 1 ≤ 2 * (max f.deep g.deep + 1)
    omega
  | .either f g => by
    have := Tre.fm_deep f
    have := Tre.fm_deep g
    show max f.fm.deep g.fm.deep + 1 ≤ 2 * (max f.deep g.deep + 1)
    omega
theorem KyD.com {b g : Int} {k : Ky} {W : Nat} (h : KyD b k) : Common b (Ky.srt k).2.1 (300300 * b ^ W * g) W := by
  have h' := h.srt
  refine ⟨h'.1.b2, fun m hm => (h'.1.all m hm).1, fun m hm => ⟨300300 / m * g, ?_⟩⟩
  have h1 := Int.emod_add_mul_ediv 300300 m
  rw [h'.2 m hm, Int.zero_add] at h1
  generalize (300300 : Int) / m = u at h1
  rw [← h1]
  generalize b ^ W = x
  ac_rfl
theorem TreD.com {b g : Int} {W : Nat} : ∀ {f : Tre}, TreD b f → ComF b (300300 * b ^ W * g) W f.fm
  | .every, _ => trivial
  | .counted k l m, ⟨G, _⟩ => KyD.com G
  | .taken k m, ⟨G, _⟩ => KyD.com G
  | .coarser k k2 n o, ⟨G, G2, _⟩ => ⟨KyD.com G, KyD.com G2⟩
  | .touched k low, G => KyD.com (k := k) G
  | .not f, D => TreD.com (f := f) D
  | .and f g, D => ⟨TreD.com (f := f) D.1, TreD.com (f := g) D.2⟩
  | .or f g, D => ⟨TreD.com (f := f) D.1, TreD.com (f := g) D.2⟩
  | .less f g, D => ⟨TreD.com (f := f) D.1, TreD.com (f := g) D.2⟩
  | .either f g, D => ⟨TreD.com (f := f) D.1, TreD.com (f := g) D.2⟩
theorem rls_base {p : Addr} {b : Int} {H : Hp} : ∀ {ks : List Ky} {as : List Addr}, RlsAt H p b ks as → ks ≠ [] → ∃ a k lh, k ∈ ks ∧ as[0]? = some a ∧ RuleT H a lh b k.1 k.2.1 k.2.2
  | _, _, .nil, n => absurd rfl n
  | _, _, .cons ⟨lh, h, _⟩ _, _ => ⟨_, _, lh, List.mem_cons_self, rfl, h⟩
section
variable {P : Program} {w : World} {K : PySem.W.Frag} {mg : Str → Option Value} {base : Heap} {A : Adr}
/-! ### _law_period -/
def spPeriod : Sp := fun vs H Q _ => ∃ (l p : Addr) (n b : Int) (ks : List Ky) (as : List Addr), vs = [.ref l, .int n] ∧ RlsL H p l b ks as ∧ 1 ≤ n ∧ n < 10 ^ 24 ∧
  ∀ (W : Nat), n < b ^ W → b ^ W < 2 ^ 100 → Q (.int (300300 * b ^ W)) H
abbrev nm_law_period : List Str := ["_law_rules_here", "_law_length", "_law_base", "_law_found"]
theorem sc_law_period : FnScope ["_law_rules_here", "_law_length", "_law_base", "_law_found"] ["_law_rules_here", "_law_length"] (defScope s_law_period) := ⟨rfl, rfl, rfl, by decide +kernel, rfl, by decide +kernel, by decide +kernel⟩
theorem ok_period (T : Txt K mg A w) : FnOk P w K mg base CX0 1 A.a_law_period A.d_law_period ["_law_rules_here", "_law_length"] spPeriod := by
  refine T.F_law_period.ok sc_law_period (fun vs H Q E h => ?_) (fun cdv A0 outer s H vs Q E hr h => ?_)
  · obtain ⟨l, p, n, b, ks, as, rfl, _⟩ := h
    rfl
  · obtain ⟨l, p, n, b, ks, as, rfl, R, n1, nB, q⟩ := h
    obtain ⟨a, k, lh, hk, ha, RT⟩ := rls_base R.all R.ne
    have b2 := (R.ok k hk).1.b2
    have b10 := (R.ok k hk).1.b10
    refine ⟨_, (pss_cons (ps_par (i := 2) (j := 3) (by rfl) sc_law_period.nd rfl rfl (by decide) rfl rfl (pa_cons (pe_ix ix_tup (pe_ix ix_list (pv 0) pe_int (fun _ _ => rfl)) pe_int (fun _ _ => rfl)) (pa_cons pe_int pa_nil)) (by rfl))
  (pss_cons (ps_while PassesOwn.never (pt_cmpR op_lt (pe_op op_fdivW (pv 3) pe_int) (pe_op op_mulW (pe_op op_mulW (pv 1) pe_int) (pv 2)) (nomark _))
  (pss_one (ps_set (i := 3) sc_law_period.nd rfl (Or.inl rfl) (pe_op op_mulW (pv 3) (pv 2)))))
  (pss_one (ps_ret (pv 3))))), ?_⟩
    have h0 : (as.map V.ref)[0]? = some (.ref a) := by rw [List.getElem?_map, ha]; rfl
    refine ⟨_, rfl, l, _, _, _, rfl, rfl, SqL.of R.at_, at_of (j := 0) rfl h0, a, _, _, _, rfl, rfl, SqT.of RT.1, atL (j := 0) rfl, ?_⟩
    refine ⟨_, _, rfl, ?_⟩
    refine norm2 (σ' := [some (.ref l), some (.int n), some (.int b), some (.int 300300)]) rfl ?_
    have c24 : (10 : Int) ^ 24 * 50 * 10 * 10 < 2 ^ 100 := by decide
    have n50 : n * 50 ≤ 10 ^ 24 * 50 := by omega
    have v2 : n * 50 * b ≤ 10 ^ 24 * 50 * 10 := Int.mul_le_mul n50 b10 (by omega) (by decide)
    have v1 : n * 50 * 2 ≤ n * 50 * b := Int.mul_le_mul_of_nonneg_left b2 (by omega)
    have big100 : ∀ {x : Int}, x < 2 ^ 100 → x < 2 ^ 400000 := fun z => big_le (lt_big (n := 100) z (by decide))
    have mA : CMulW n 50 := mulBig (by omega) (big100 (by omega)) (by omega) (big100 (by omega))
    have mB : CMulW (n * 50) b := mulBig (by omega) (big100 (by omega)) (by omega) (big100 (by omega))
    refine ⟨fun u σ H' => ∃ W : Nat, σ = [some (.ref l), some (.int n), some (.int b), some (.int (300300 * b ^ W))] ∧ H' = H ∧ b ^ W < 2 ^ 100 ∧ u = 100 - W, ⟨_, 0, by rw [Int.pow_zero]; rfl, rfl, by rw [Int.pow_zero]; decide, rfl⟩, ?_⟩
    rintro u σ H' ⟨W, rfl, rfl, pWB, rfl⟩
    have pW := pow_pos' (b := b) (by omega) W
    have wl := exp_lt (n := 100) b2 pWB
    have dv : 300300 * b ^ W / 300300 = b ^ W := Int.mul_ediv_cancel_left _ (by decide)
    refine ⟨_, rfl, _, _, rfl, rfl, size_div (by decide) (lt_big (n := 60) (by decide) (by decide)) _, _, rfl, _, _, rfl, rfl, mA, _, rfl, _, _, rfl, rfl, mB, _, _, rfl, rfl, _, rfl, ?_⟩
    rw [dv]
    have sh : 300300 * b ^ W < 2 ^ 120 := by
      have : (2 : Int) ^ 120 = 2 ^ 100 * 1048576 := by decide
      omega
    refine ite2 (fun hc => ?_) (fun hc => ?_)
    · have hc : b ^ W < n * 50 * b := of_decide_eq_true hc
      refine ⟨fun σ' H6 => σ' = [some (.ref l), some (.int n), some (.int b), some (.int (300300 * b ^ W * b))] ∧ H6 = H', ?_, ?_⟩
      · rintro σ' H6 ⟨rfl, rfl⟩
        refine ⟨100 - (W + 1), by omega, W + 1, by rw [Int.pow_succ, Int.mul_assoc], rfl, ?_, rfl⟩
        rw [Int.pow_succ]
        have h1 : b ^ W * b ≤ 10 ^ 24 * 50 * 10 * 10 := Int.mul_le_mul (by omega) b10 (by omega) (by decide)
        omega
      · exact ⟨_, rfl, _, rfl, _, _, rfl, rfl, mulBig (by omega) (big_le (lt_big (n := 120) sh (by decide))) (by omega) (big100 (by omega)), rfl, rfl⟩
    · have hc : ¬ b ^ W < n * 50 * b := fun z => hc (decide_eq_true z)
      exact ⟨_, rfl, q W (by omega) pWB⟩
end
end Ax

namespace L2
open PySem PySem.Spec PyProof.Rows
theorem call_repr_bl {X : Cx} : CallR X (.builtin "repr") (fun xs H Q => ∃ b, xs = [.bl b] ∧ Q (.str (if b then "True" else "False")) H) := by
  intro pins s σ H xs us Q I r h
  obtain ⟨b, rfl, q⟩ := h
  obtain ⟨u, rfl, ru⟩ : ∃ u, us = [u] ∧ RelV (.bl b) u := by
    cases r with
    | cons h t =>
      cases t
      exact ⟨_, rfl, h⟩
  cases ru
  exact PySem.P.repr_of_bool ⟨.str _, H, I.tok _, ⟨_, rfl⟩, q⟩
end L2
namespace Ax
open PySem L2
theorem absP {R : Hp → Prop} {H : Hp} (P : Hp → Prop) (h : P H) (q : ∀ H', P H' → R H') : R H := q H h
theorem KyAt.kp {H H' : Hp} {p : Addr} {t : Nat} {k : Ky} {a : Addr} (h : KyAt H k a) (y : Purse H p t) (s : Kp p H H') : KyAt H' k a :=
  let ⟨tm, h1, h2⟩ := h
  ⟨tm, kp_tup y s h1, kp_tup y s h2⟩
theorem FmAt.kp {H H' : Hp} {p : Addr} {t : Nat} (y : Purse H p t) (s : Kp p H H') : ∀ {f : Fm} {a : Addr}, FmAt H f a → FmAt H' f a
  | .all, _, h => kp_tup y s h
  | .not f, _, ⟨c, h, h1⟩ => ⟨c, kp_tup y s h, FmAt.kp y s (f := f) h1⟩
  | .and f g, _, ⟨c, d, h, h1, h2⟩ => ⟨c, d, kp_tup y s h, FmAt.kp y s (f := f) h1, FmAt.kp y s (f := g) h2⟩
  | .or f g, _, ⟨c, d, h, h1, h2⟩ => ⟨c, d, kp_tup y s h, FmAt.kp y s (f := f) h1, FmAt.kp y s (f := g) h2⟩
  | .xor f g, _, ⟨c, d, h, h1, h2⟩ => ⟨c, d, kp_tup y s h, FmAt.kp y s (f := f) h1, FmAt.kp y s (f := g) h2⟩
  | .counted _ _ _, _, ⟨c, h, h1⟩ => ⟨c, kp_tup y s h, h1.kp y s⟩
  | .taken _ _, _, ⟨c, h, h1⟩ => ⟨c, kp_tup y s h, h1.kp y s⟩
  | .coarser _ _ _ _, _, ⟨c, d, h, h1, h2⟩ => ⟨c, d, kp_tup y s h, h1.kp y s, h2.kp y s⟩
  | .touched _ _, _, ⟨c, h, h1⟩ => ⟨c, kp_tup y s h, h1.kp y s⟩
theorem SetAt.kp {C : Addr} {H H' : Hp} {p : Addr} {t : Nat} {a : Addr} {b : Int} {f : Fm} {dx fa : Addr} (x : SetAt C H a b f dx fa) (y : Purse H p t) (s : Kp p H H') : SetAt C H' a b f dx fa := by
  obtain ⟨xs, e⟩ := y.some
  exact ⟨s _ _ (ne_of x.at_ e (by intro z; cases z)) x.at_, FmAt.kp y s x.fm⟩
section
variable {P : Program} {w : World} {K : PySem.W.Frag} {mg : Str → Option Value} {base : Heap} {A : Adr}
/-! ### the law -/
def spLaw (K : PySem.W.Frag) : Sp := fun vs H Q _ => ∃ (a : Addr) (ns : List Int), vs = [.ref a] ∧ SqL K H a (ns.map V.int) ∧ ns.length ≤ 63 ∧ ∀ H', Q (.bl true) H'
abbrev nm_law : List Str := ["_law_script", "_law_turn", "_law_purse_here", "_law_rules_here", "_law_base", "_law_tree_here", "_law_made_here", "_law_at", "_law_low", "_law_high", "_law_digits", "_law_shift", "_law_due", "_law_more", "_law_span"]
theorem sc_law : FnScope ["_law_script", "_law_turn", "_law_purse_here", "_law_rules_here", "_law_base", "_law_tree_here", "_law_made_here", "_law_at", "_law_low", "_law_high", "_law_digits", "_law_shift", "_law_due", "_law_more", "_law_span"] ["_law_script"] (defScope s_law) := ⟨rfl, rfl, rfl, by decide +kernel, rfl, by decide +kernel, by decide +kernel⟩
theorem ok_law (T : Txt K mg A w) : FnOk P w K mg base CX0 20 A.a_law A.d_law ["_law_script"] (spLaw K) := by
  have G_law_purse : FnOk P w K mg base CX0 1 A.a_law_purse A.d_law_purse ["_law_script", "_law_at"] (spPurse K) := ok_purse T
  have G_law_draw : FnOk P w K mg base CX0 1 A.a_law_draw A.d_law_draw ["_law_purse_here", "_law_many"] spDraw := ok_draw T
  have G_law_pick : FnOk P w K mg base CX0 2 A.a_law_pick A.d_law_pick ["_law_purse_here", "_law_items"] spPick := ok_pick T
  have G_law_rules : FnOk P w K mg base CX0 4 A.a_law_rules A.d_law_rules ["_law_purse_here"] spRules := ok_rules T
  have G_law_tree : FnOk P w K mg base CX0 8 A.a_law_tree A.d_law_tree ["_law_purse_here", "_law_rules_here", "_law_many"] (spTree 4) := ok_tree T 4
  have G_law_set : FnOk P w K mg base CX0 11 A.a_law_set A.d_law_set ["_law_tree_here"] (spSet A 4) := ok_set T 4
  have G_law_holds : FnOk P w K mg base CX0 10 A.a_law_holds A.d_law_holds ["_law_tree_here", "_law_low", "_law_high"] (spHoldsL 4) := ok_holdsL T 4
  have G_law_range : FnOk P w K mg base CX0 4 A.a_law_range A.d_law_range ["_law_purse_here", "_law_rule_here"] spRange := ok_range T
  have G_law_period : FnOk P w K mg base CX0 1 A.a_law_period A.d_law_period ["_law_rules_here", "_law_length"] spPeriod := ok_period T
  refine T.F_law.ok sc_law (fun vs H Q E h => ?_) (fun cdv A0 outer s H vs Q E hr h => ?_)
  · obtain ⟨a, ns, rfl, _⟩ := h
    rfl
  · obtain ⟨a, ns, rfl, hS, hlen, q⟩ := h
    refine ⟨_, (pss_cons (ps_for PassesOwn.never rfl (pi_range1 rfl T.n_range (pa_cons pe_int pa_nil)) (pg_name (i := 1) sc_law.nd rfl (Or.inl rfl))
  (pss_cons (ps_set (i := 2) sc_law.nd rfl (Or.inl rfl) (pe_call G_law_purse (hr.mono (by decide)) (by rfl) T.m_law_purse T.F_law_purse.kp T.B_law_purse .nil pass0 (pa_cons (pv 0) (pa_cons (pv 1) pa_nil))))
  (pss_cons (ps_set (i := 3) sc_law.nd rfl (Or.inl rfl) (pe_call G_law_rules (hr.mono (by decide)) (by rfl) T.m_law_rules T.F_law_rules.kp T.B_law_rules .nil pass0 (pa_cons (pv 2) pa_nil)))
  (pss_cons (ps_set (i := 4) sc_law.nd rfl (Or.inl rfl) (pe_ix ix_tup (pe_ix ix_list (pv 3) pe_int (fun _ _ => rfl)) pe_int (fun _ _ => rfl)))
  (pss_cons (ps_set (i := 5) sc_law.nd rfl (Or.inl rfl) (pe_call G_law_tree (hr.mono (by decide)) (by rfl) T.m_law_tree T.F_law_tree.kp T.B_law_tree .nil pass0 (pa_cons (pv 2) (pa_cons (pv 3) (pa_cons (pe_op op_add pe_int (pe_call G_law_draw (hr.mono (by decide)) (by rfl) T.m_law_draw T.F_law_draw.kp T.B_law_draw .nil pass0 (pa_cons (pv 2) (pa_cons pe_int pa_nil)))) pa_nil)))))
  (pss_cons (ps_set (i := 6) sc_law.nd rfl (Or.inl rfl) (pe_call G_law_set (hr.mono (by decide)) (by rfl) T.m_law_set T.F_law_set.kp T.B_law_set .nil pass0 (pa_cons (pv 5) pa_nil)))
  (pss_cons (ps_if (pt_cmpR op_ne (pe_prop (pv 6) T.cl2 T.pr_RangeSet_base (ok_sb T) (hr.mono (by decide)) T.B_RangeSet_base .nil pass0 rfl) (pv 4) (nomark _)) (pss_one (ps_ret pe_bl)) pss_nil)
  (pss_one (ps_for PassesOwn.never rfl (pi_range1 rfl T.n_range (pa_cons pe_int pa_nil)) (pg_name (i := 7) sc_law.nd rfl (Or.inl rfl))
  (pss_cons (ps_asg (pe_call G_law_range (hr.mono (by decide)) (by rfl) T.m_law_range T.F_law_range.kp T.B_law_range .nil pass0 (pa_cons (pv 2) (pa_cons (pe_call G_law_pick (hr.mono (by decide)) (by rfl) T.m_law_pick T.F_law_pick.kp T.B_law_pick .nil pass0 (pa_cons (pv 2) (pa_cons (pv 3) pa_nil))) pa_nil))) (pg_tup (by rfl) (pgs_cons (pg_name (i := 8) sc_law.nd rfl (Or.inl rfl)) (pgs_cons (pg_name (i := 9) sc_law.nd rfl (Or.inl rfl)) (pgs_cons (pg_name (i := 10) sc_law.nd rfl (Or.inl rfl)) pgs_nil)))))
  (pss_cons (ps_set (i := 11) sc_law.nd rfl (Or.inl rfl) pe_int)
  (Evl.pss_cut (ps_if (pt_cmpR op_lt (pe_op op_sub (pv 9) (pv 8)) (pe_op op_pow pe_int pe_int) (nomark _)) (pss_one (ps_set (i := 11) sc_law.nd rfl (Or.inl rfl) (pe_op op_mulW (pe_call G_law_period (hr.mono (by decide)) (by rfl) T.m_law_period T.F_law_period.kp T.B_law_period .nil pass0 (pa_cons (pv 3) (pa_cons (pe_op op_sub (pv 9) (pv 8)) pa_nil))) (pe_call G_law_draw (hr.mono (by decide)) (by rfl) T.m_law_draw T.F_law_draw.kp T.B_law_draw .nil pass0 (pa_cons (pv 2) (pa_cons pe_int pa_nil)))))) pss_nil)
  (pss_cons (ps_set (i := 12) sc_law.nd rfl (Or.inl rfl) (pe_callB call_repr_bl (by rfl) T.n_repr (by decide +kernel) (pa_cons (pe_call G_law_holds (hr.mono (by decide)) (by rfl) T.m_law_holds T.F_law_holds.kp T.B_law_holds .nil pass0 (pa_cons (pv 5) (pa_cons (pv 8) (pa_cons (pv 9) pa_nil)))) pa_nil)))
  (pss_cons (ps_set (i := 13) sc_law.nd rfl (Or.inl rfl) (pe_tup (pa_cons (pe_op op_mulW (pv 8) (pv 4)) (pa_cons (pe_op op_mulW (pv 9) (pv 4)) pa_nil))))
  (pss_cons (ps_for PassesOwn.never rfl (pi_list (pe_lst (pa_cons (pe_tup (pa_cons (pv 8) (pa_cons (pv 9) (pa_cons (pv 10) pa_nil)))) (pa_cons (pe_op op_catT (pv 13) (pe_tup (pa_cons (pe_op op_add (pv 10) pe_int) pa_nil))) (pa_cons (pe_op op_catT (pv 13) (pe_tup (pa_cons (pv 10) pa_nil))) pa_nil))))) (pg_name (i := 14) sc_law.nd rfl (Or.inl rfl))
  (pss_one (ps_if (pt_cmpR op_ne (pe_callB call_repr_bl (by rfl) T.n_repr (by decide +kernel) (pa_cons (pe_cmpR (op_inO (ok_cont T) (hr.mono (by decide)) T.t_RangeSet___contains__.at_ T.t_RangeSet___contains__.fn T.B_RangeSet___contains__ pass0) (pv 14) (pv 6) (by rfl)) pa_nil)) (pv 12) (nomark _)) (pss_one (ps_ret pe_bl)) pss_nil)))
  (pss_one (ps_if (PW.pt (pw_or (pt_cmpR op_ne (pe_callB call_repr_bl (by rfl) T.n_repr (by decide +kernel) (pa_cons (pe_cmpR (op_inO (ok_cont T) (hr.mono (by decide)) T.t_RangeSet___contains__.at_ T.t_RangeSet___contains__.fn T.B_RangeSet___contains__ pass0) (pe_tup (pa_cons (pe_op op_add (pv 8) (pv 11)) (pa_cons (pe_op op_add (pv 9) (pv 11)) (pa_cons (pv 10) pa_nil)))) (pv 6) (by rfl)) pa_nil)) (pv 12) (nomark _)) (pw_or1 (pt_cmpR op_eq (pe_callB call_repr_bl (by rfl) T.n_repr (by decide +kernel) (pa_cons (pe_cmpR (op_inO (ok_cont T) (hr.mono (by decide)) T.t_RangeSet___contains__.at_ T.t_RangeSet___contains__.fn T.B_RangeSet___contains__ pass0) (pe_tup (pa_cons (pv 8) (pa_cons (pv 9) (pa_cons pe_int pa_nil)))) (pe_un (un_invO (ok_inv T) (hr.mono (by decide)) T.t_RangeSet___invert__.at_ T.t_RangeSet___invert__.fn T.B_RangeSet___invert__ pass0) (pv 6)) (by rfl)) pa_nil)) (pv 12) (nomark _))))) (pss_one (ps_ret pe_bl)) pss_nil)))))))))))))))))
  (pss_one (ps_ret pe_bl))), ?_⟩
    have e20 : (2 : Nat) ^ 20 = 1048576 := by decide
    have e10 : (2 : Nat) ^ 10 = 1024 := by decide
    have e18 : (2 : Nat) ^ 18 = 262144 := by decide
    refine ⟨3, rfl, by decide, by decide, for_range (lo := 0) (n := 3) (fun i σ H' => ∃ v1 v2 v3 v4 v5 v6 v7 v8 v9 v10 v11 v12 v13 v14 : Option V, σ = [some (.ref a), v1, v2, v3, v4, v5, v6, v7, v8, v9, v10, v11, v12, v13, v14] ∧ Same H H') ⟨_, _, _, _, _, _, _, _, _, _, _, _, _, _, rfl, Same.refl H⟩ ?_ ?_⟩
    · rintro i σ H0 hi ⟨v1, v2, v3, v4, v5, v6, v7, v8, v9, v10, v11, v12, v13, v14, rfl, s0⟩
      refine ⟨_, rfl, _, rfl, a, ns, i, by rw [Int.zero_add]; rfl, s0.seq hS, hlen, fun H1 p s1 p0 P1 => ?_⟩
      refine norm2 (σ' := [some (.ref a), some (.int (0 + (i : Int))), some (.ref p), v3, v4, v5, v6, v7, v8, v9, v10, v11, v12, v13, v14]) rfl ?_
      refine ⟨_, rfl, p, 0, rfl, P1, by decide, fun H2 l b ks as k2 P2 hl nl RA ne le KD => ?_⟩
      refine gN (σ' := [some (.ref a), some (.int (0 + (i : Int))), some (.ref p), some (.ref l), v4, v5, v6, v7, v8, v9, v10, v11, v12, v13, v14]) rfl ?_
      have R2 : RlsL H2 p l b ks as := ⟨hl, nl, RA, ne, le, KD⟩
      obtain ⟨ra, rk, rlh, hk, ha, RT⟩ := rls_base RA ne
      have b2 := (KD rk hk).1.b2
      have b10 := (KD rk hk).1.b10
      have h0 : (as.map V.ref)[0]? = some (.ref ra) := by rw [List.getElem?_map, ha]; rfl
      refine ⟨_, rfl, l, _, _, _, rfl, rfl, SqL.of hl, at_of (j := 0) rfl h0, ra, _, _, _, rfl, rfl, SqT.of RT.1, atL (j := 0) rfl, ?_⟩
      refine gN (σ' := [some (.ref a), some (.int (0 + (i : Int))), some (.ref p), some (.ref l), some (.int b), v5, v6, v7, v8, v9, v10, v11, v12, v13, v14]) rfl ?_
      refine ⟨_, rfl, _, rfl, _, rfl, p, 4, 40, rfl, P2, by decide, by decide, small2000 (by decide), fun H3 z k3 P3 z0 z4 => ?_⟩
      refine ⟨_, _, rfl, rfl, ?_⟩
      have R3 := R2.kp P2 k3
      refine ⟨p, l, 41, (1 + z).toNat, b, ks, as, congrArg (fun x => [V.ref p, V.ref l, V.int x]) (show 1 + z = ((1 + z).toNat : Int) by omega), P3, by omega, by omega, (by show (1 + z).toNat ≤ 4; omega), by decide, R3, fun H4 tq f k4 P4 F D d => ?_⟩
      refine gN (σ' := [some (.ref a), some (.int (0 + (i : Int))), some (.ref p), some (.ref l), some (.int b), some (.ref tq), v6, v7, v8, v9, v10, v11, v12, v13, v14]) rfl ?_
      have fd : f.deep ≤ 3 := by omega
      have fmd := Tre.fm_deep f
      have FR := D.R
      refine ⟨_, rfl, tq, p, b, f, rfl, F, D, b2, by omega, fun H5 mq dx fa s5 n5 S => ?_⟩
      refine gN (σ' := [some (.ref a), some (.int (0 + (i : Int))), some (.ref p), some (.ref l), some (.int b), some (.ref tq), some (.ref mq), v7, v8, v9, v10, v11, v12, v13, v14]) rfl ?_
      refine ⟨_, rfl, mq, dx, _, rfl, S.at_, mq, b, f.fm, dx, fa, rfl, S, _, rfl, rfl, _, rfl, ?_⟩
      rw [decide_eq_true rfl]
      refine iteF ?_
      have P5 : Purse H5 p 66 := (P4.same s5).le (by omega)
      have F5 := TreAt.same s5 F
      have R5 := (R3.kp P3 k4).same P4 s5
      have k15 : Kp p H1 H5 := ((k2.trans k3).trans k4).trans (Same.kp s5 p)
      refine ⟨8, rfl, by decide, by decide, for_range (lo := 0) (n := 8) (fun j σ H' => ∃ w7 w8 w9 w10 w11 w12 w13 w14 : Option V, σ = [some (.ref a), some (.int (0 + (i : Int))), some (.ref p), some (.ref l), some (.int b), some (.ref tq), some (.ref mq), w7, w8, w9, w10, w11, w12, w13, w14] ∧ Kp p H5 H' ∧ Purse H' p (66 + 110 * j)) ⟨_, _, _, _, _, _, _, _, rfl, Kp.refl _ _, P5⟩ ?_ ?_⟩
      · rintro j σ H6 hj ⟨w7, w8, w9, w10, w11, w12, w13, w14, rfl, k6, P6⟩
        have R6 := R5.kp P5 k6
        obtain ⟨l0, l3⟩ := R6.len
        refine ⟨_, rfl, _, rfl, _, rfl, p, l, _, 66 + 110 * j, rfl, P6, by omega, R6.at_, R6.nl, l0, by omega, fun H7 i7 x7 k7 P7 g7 => ?_⟩
        obtain ⟨ra2, rk2, rfl, ⟨lh2, RT2, nl2⟩, G2⟩ := R6.get g7
        refine ⟨p, ra2, lh2, 66 + 110 * j + 1, b, rk2.1, rk2.2.1, rk2.2.2, rfl, P7, by omega, RT2.kp P6 nl2 k7, nl2, G2.1, fun H8 q8 lo hi d k8 P8 hq8 lt ln loB hiB d0 d5 => ?_⟩
        refine ⟨q8, _, rfl, SqT.of hq8, rfl, _, _, rfl, _, _, rfl, _, _, rfl, rfl, ?_⟩
        refine norm2 (σ' := [some (.ref a), some (.int (0 + (i : Int))), some (.ref p), some (.ref l), some (.int b), some (.ref tq), some (.ref mq), some (.int (0 + (j : Int))), some (.int lo), some (.int hi), some (.int d), w11, w12, w13, w14]) rfl ?_
        have k58 := (k6.trans k7).trans k8
        have R8 := R5.kp P5 k58
        have F8 := TreAt.kp P5 k58 F5
        have S8 := S.kp P5 k58
        have c102 : (2 : Int) ^ 102 < 2 ^ 1000 := pow_lt' (b := 2) (by decide) (by decide)
        have n129 : (2 : Nat) ^ 129 < 2 ^ 130 := Nat.pow_lt_pow_right (by decide) (by decide)
        have n128 : (2 : Nat) ^ 128 < 2 ^ 130 := Nat.pow_lt_pow_right (by decide) (by decide)
        refine ⟨fun σ H9 => ∃ sh : Int, σ = [some (.ref a), some (.int (0 + (i : Int))), some (.ref p), some (.ref l), some (.int b), some (.ref tq), some (.ref mq), some (.int (0 + (j : Int))), some (.int lo), some (.int hi), some (.int d), some (.int sh), w12, w13, w14] ∧ Kp p H8 H9 ∧ Purse H9 p (66 + 110 * j + 102) ∧ sh.natAbs < 2 ^ 140 ∧ ∀ r, Val b f.fm lo hi r → Val b f.fm (lo + sh) (hi + sh) r, ?_, ?_⟩
        · refine ⟨_, rfl, _, rfl, _, _, rfl, rfl, _, _, rfl, rfl, ⟨by decide, by decide, by decide⟩, _, _, rfl, rfl, _, rfl, ?_⟩
          refine ite2 (fun hc => ?_) (fun hc => ?_)
          · have hc : hi - lo < 10 ^ 24 := of_decide_eq_true hc
            refine ⟨_, rfl, _, rfl, _, rfl, _, _, rfl, rfl, l, p, hi - lo, b, ks, as, rfl, R8, by omega, hc, fun W hW WB => ?_⟩
            have pW := pow_pos' (b := b) (by omega) W
            have sh1 : 300300 * b ^ W < 2 ^ 120 := by
              have : (2 : Int) ^ 120 = 2 ^ 100 * 1048576 := by decide
              omega
            refine ⟨_, rfl, p, 99, _, rfl, P8, by omega, by decide, small2000 (by decide), fun H9 g k9 P9 g0 g1 => ?_⟩
            have g2 : g < 99 := g1
            refine ⟨_, _, rfl, rfl, mulBig (by omega) (big_le (lt_big (n := 120) sh1 (by decide))) (by omega) (big_le (lt_big (n := 60) (by omega) (by decide))), ?_⟩
            have sh2 : 0 ≤ 300300 * b ^ W * g := Int.mul_nonneg (by omega) (by omega)
            have sh3 : 300300 * b ^ W * g < 2 ^ 140 := by
              have h1 : 300300 * b ^ W * g ≤ 300300 * b ^ W * 99 := Int.mul_le_mul_of_nonneg_left (by omega) (by omega)
              have : (2 : Int) ^ 140 = 2 ^ 120 * 1048576 := by decide
              omega
            exact ⟨300300 * b ^ W * g, rfl, k9, P9.le (by omega), abs_lt_pow sh2 sh3, fun r v => Val.shift b2 hW FR.ok D.com v⟩
          · refine ⟨0, rfl, Kp.refl _ _, P8.le (by omega), by decide, fun r v => ?_⟩
            rw [Int.add_zero, Int.add_zero]
            exact v
        · rintro σ H9 ⟨sh, rfl, k9, P9, shB, hsh⟩
          have k59 := k58.trans k9
          have F9 := TreAt.kp P5 k59 F5
          refine ⟨_, rfl, _, rfl, _, rfl, tq, p, b, f, lo, hi, rfl, F9, D, by omega, lt, ln, by omega, by omega, fun H10 r s10 v => ⟨r, rfl, ?_⟩⟩
          refine gN (σ' := [some (.ref a), some (.int (0 + (i : Int))), some (.ref p), some (.ref l), some (.int b), some (.ref tq), some (.ref mq), some (.int (0 + (j : Int))), some (.int lo), some (.int hi), some (.int d), some (.int sh), some (.str (if r then "True" else "False")), w13, w14]) rfl ?_
          have FO := FR.ok
          have hX : ∀ r', Val b f.fm lo hi r' → r' = r := fun r' v' => Val.det b2 FO v' v
          have bN : b.natAbs < 2 ^ 4 := by have : (2 : Nat) ^ 4 = 16 := by decide
                                           omega
          have S10 := (S8.kp P8 k9).same s10
          refine ⟨_, rfl, _, rfl, _, _, rfl, rfl, wide_mul loB bN (by decide) (by decide) (by decide), _, rfl, _, rfl, _, _, rfl, rfl, wide_mul hiB bN (by decide) (by decide) (by decide), (by show 2 ≤ sizeLine; decide), fun mo hmo => ?_⟩
          have a1 := same_new (o := .tup [.int (lo * b), .int (hi * b)]) hmo
          refine gN (σ' := [some (.ref a), some (.int (0 + (i : Int))), some (.ref p), some (.ref l), some (.int b), some (.ref tq), some (.ref mq), some (.int (0 + (j : Int))), some (.int lo), some (.int hi), some (.int d), some (.int sh), some (.str (if r then "True" else "False")), some (.ref mo), w14]) rfl ?_
          refine ⟨_, rfl, _, rfl, _, rfl, (by show 3 ≤ sizeLine; decide), fun t1 ht1 => ?_⟩
          have a2 := same_new (o := .tup [.int lo, .int hi, .int d]) ht1
          refine ⟨_, rfl, _, rfl, _, _, rfl, rfl, (by show 1 ≤ sizeLine; decide), fun t2 ht2 => ?_⟩
          have a3 := same_new (o := .tup [.int (d + 1)]) ht2
          refine ⟨mo, t2, _, _, rfl, rfl, SqT.of ((a2.trans a3) _ _ upd_same), SqT.of upd_same, (fun z => nomatch z), (by show 3 ≤ sizeLine; decide), (fun z => nomatch z), fun _ t3 ht3 => ?_⟩
          have a4 := same_new (o := .tup ([.int (lo * b), .int (hi * b)] ++ [.int (d + 1)])) ht3
          refine ⟨_, rfl, _, rfl, (by show 1 ≤ sizeLine; decide), fun t4 ht4 => ?_⟩
          have a5 := same_new (o := .tup [.int d]) ht4
          refine ⟨mo, t4, _, _, rfl, rfl, SqT.of ((a2.trans (a3.trans (a4.trans a5))) _ _ upd_same), SqT.of upd_same, (fun z => nomatch z), (by show 3 ≤ sizeLine; decide), (fun z => nomatch z), fun _ t5 ht5 => ?_⟩
          have a6 := same_new (o := .tup ([.int (lo * b), .int (hi * b)] ++ [.int d])) ht5
          refine ⟨(by show 3 ≤ sizeLine; decide), fun l6 hl6 => ?_⟩
          have a7 := same_new (o := .lst [.ref t1, .ref t3, .ref t5]) hl6
          refine absP (fun Hd => Same H10 Hd ∧ Hd t1 = some (.tup [.int lo, .int hi, .int d]) ∧ Hd t3 = some (.tup [.int (lo * b), .int (hi * b), .int (d + 1)]) ∧ Hd t5 = some (.tup [.int (lo * b), .int (hi * b), .int d]) ∧ Hd l6 = some (.lst [.ref t1, .ref t3, .ref t5])) ⟨a1.trans (a2.trans (a3.trans (a4.trans (a5.trans (a6.trans a7))))), (a3.trans (a4.trans (a5.trans (a6.trans a7)))) _ _ upd_same, (a5.trans (a6.trans a7)) _ _ upd_same, a7 _ _ upd_same, upd_same⟩ ?_
          clear a1 a2 a3 a4 a5 a6 a7 ht1 ht2 ht3 ht4 ht5 hl6 hmo
          rintro H11 ⟨s11, h1, h3, h5, h6⟩
          have S11 := S10.same s11
          have len3 : (hi - lo) * b < 2 ^ 106 := by
            have h1 := Int.mul_le_mul (show hi - lo ≤ 2 ^ 102 by omega) (show b ≤ 10 by omega) (by omega) (by decide)
            have h2 : (2 : Int) ^ 102 * 10 < 2 ^ 106 := by decide
            omega
          have c106 : (2 : Int) ^ 106 < 2 ^ 1000 := pow_lt' (b := 2) (by decide) (by decide)
          have n1500 : (2 : Nat) ^ 140 + 2 ^ 140 < 2 ^ 1500 := by decide
          have n129' : (2 : Nat) ^ 130 < 2 ^ 140 := by decide
          have mB : ∀ y : Int, y.natAbs < 2 ^ 129 → (y * b).natAbs < 2 ^ 140 := fun y hy => by
            rw [Int.natAbs_mul]
            exact Nat.lt_of_lt_of_le (Nat.mul_lt_mul'' hy bN) (by rw [← Nat.pow_add]; exact Nat.pow_le_pow_right (by decide) (by decide))
          have n128' : (2 : Nat) ^ 128 < 2 ^ 129 := Nat.pow_lt_pow_right (by decide) (by decide)
          have mlo := mB lo (by omega)
          have mhi := mB hi hiB
          have lt2 : lo * b < hi * b := Int.mul_lt_mul_of_pos_right lt (by omega)
          rw [Int.sub_mul] at len3
          have e20i : (2 : Int) ^ 20 = 1048576 := by decide
          have rngA : ∀ d' : Int, 0 ≤ d' → d' ≤ 6 → Rng lo hi d' := fun d' x y => ⟨lt, by omega, by omega, by omega, x, by omega⟩
          have rngB : ∀ d' : Int, 0 ≤ d' → d' ≤ 6 → Rng (lo * b) (hi * b) d' := fun d' x y => ⟨lt2, by omega, by omega, by omega, x, by omega⟩
          have hB : ∀ r', Val b f.fm (lo * b) (hi * b) r' → r' = r := fun r' v' => Val.det b2 FO v' (Val.base b2 FO v)
          refine ⟨l6, rfl, ⟨_, SqL.of h6⟩, for_list (K := K) (a := l6) (xs := [.ref t1, .ref t3, .ref t5]) (fun u σ H' => ∃ w14 : Option V, σ = [some (.ref a), some (.int (0 + (i : Int))), some (.ref p), some (.ref l), some (.int b), some (.ref tq), some (.ref mq), some (.int (0 + (j : Int))), some (.int lo), some (.int hi), some (.int d), some (.int sh), some (.str (if r then "True" else "False")), some (.ref mo), w14] ∧ Same H11 H') ⟨_, rfl, Same.refl _⟩ (fun u σ H' _ ⟨_, _, sq⟩ => SqL.of (sq _ _ h6)) ?_ ?_⟩
          · rintro u x σ H12 hu ⟨w14, rfl, s12⟩
            obtain ⟨sp, l', h', d', rfl, hsp, rng, vv⟩ : ∃ (sp : Addr) (l' h' d' : Int), x = .ref sp ∧ H11 sp = some (.tup [.int l', .int h', .int d']) ∧ Rng l' h' d' ∧ ∀ r', Val b f.fm l' h' r' → r' = r := by
              match u, hu with
              | 0, hu => exact ⟨t1, lo, hi, d, (Option.some.inj hu).symm, h1, rngA d d0 (by omega), hX⟩
              | 1, hu => exact ⟨t3, lo * b, hi * b, d + 1, (Option.some.inj hu).symm, h3, rngB (d + 1) (by omega) (by omega), hB⟩
              | 2, hu => exact ⟨t5, lo * b, hi * b, d, (Option.some.inj hu).symm, h5, rngB d d0 (by omega), hB⟩
            have S12 := S11.same s12
            refine ⟨_, rfl, _, rfl, mq, dx, _, rfl, S12.at_, mq, sp, b, f.fm, dx, fa, l', h', d', rfl, S12, FR, by omega, s12 _ _ hsp, rng, fun H13 r' s13 v' => ⟨r', rfl, r', rfl, _, rfl, rfl, _, rfl, ?_⟩⟩
            obtain rfl := vv r' v'
            rw [decide_eq_true rfl]
            exact iteF ⟨_, rfl, s12.trans s13⟩
          · rintro σ H12 ⟨w14, rfl, s12⟩
            have S12 := S11.same s12
            refine ⟨_, rfl, _, rfl, _, _, rfl, rfl, _, rfl, _, rfl, _, _, rfl, rfl, _, rfl, (by show 3 ≤ sizeLine; decide), fun g1 hg1 => ?_⟩
            have aA := same_new (o := .tup [.int (lo + sh), .int (hi + sh), .int d]) hg1
            have SA := S12.same aA
            have rngC : Rng (lo + sh) (hi + sh) d := ⟨by omega, by omega, by omega, by omega, d0, by omega⟩
            refine ⟨_, rfl, mq, dx, _, rfl, SA.at_, mq, g1, b, f.fm, dx, fa, lo + sh, hi + sh, d, rfl, SA, FR, by omega, upd_same, rngC, fun H13 r' s13 v' => ⟨r', rfl, r', rfl, _, rfl, rfl, _, rfl, ?_⟩⟩
            obtain rfl := Val.det b2 FO v' (hsh r v)
            rw [decide_eq_true rfl]
            refine iteF ?_
            have SB := SA.same s13
            refine ⟨_, rfl, _, rfl, (by show 3 ≤ sizeLine; decide), fun g2 hg2 => ?_⟩
            have aB := same_new (o := .tup [.int lo, .int hi, .int 0]) hg2
            have SC := SB.same aB
            refine ⟨_, rfl, mq, dx, _, rfl, SC.at_, mq, b, f.fm, dx, fa, rfl, SC, fun H15 q15 d15 f15 s15 n15 S15 => ?_⟩
            refine ⟨q15, d15, _, rfl, S15.at_, q15, g2, b, .not f.fm, d15, f15, lo, hi, 0, rfl, S15, FR, ?_, s15 _ _ upd_same, rngA 0 (by decide) (by decide), fun H16 r2 s16 v2 => ⟨r2, rfl, r2, rfl, _, rfl, rfl, _, rfl, ?_⟩⟩
            · show f.fm.deep + 1 ≤ 8
              omega
            · obtain ⟨x, vx, rfl⟩ := v2
              obtain rfl := hX x vx
              have en : decide (V.str (if (!x) = true then "True" else "False") = V.str (if x = true then "True" else "False")) = false := by cases x <;> decide +kernel
              show if decide (V.str (if (!x) = true then "True" else "False") = V.str (if x = true then "True" else "False")) = true then _ else _
              rw [en]
              refine iteF ⟨_, _, _, _, _, _, _, _, rfl, k59.trans (Same.kp (s10.trans (s11.trans (s12.trans (aA.trans (s13.trans (aB.trans (s15.trans s16))))))) p), (P9.same (s10.trans (s11.trans (s12.trans (aA.trans (s13.trans (aB.trans (s15.trans s16)))))))).le (by omega)⟩
      · rintro σ H6 ⟨w7, w8, w9, w10, w11, w12, w13, w14, rfl, k6, P6⟩
        refine ⟨_, _, _, _, _, _, _, _, _, _, _, _, _, _, rfl, fun c o e => ?_⟩
        have e1 := s1 _ _ (s0 _ _ e)
        have ncp : c ≠ p := fun z => by
          rw [z] at e
          rw [s0 _ _ e] at p0
          cases p0
        exact k6 c o ncp (k15 c o ncp e1)
    · rintro σ H' ⟨v1, v2, v3, v4, v5, v6, v7, v8, v9, v10, v11, v12, v13, v14, rfl, s0⟩
      exact q H'
end
end Ax

namespace Ax
open PySem PySem.Spec PyProof.Rows L2
theorem all_mk {l : PySem.W.OpenLaw} {w : World} {K : PySem.W.Frag} {h : Heap} {mg : Str → Option Value} {fa : Addr} (X : K.In h) (G : h.Ns mainGlobals mg) (hfa : mg "law" = some (.ref fa)) (c : seeK K = goodK w) :
    ∃ fd : FuncData, (∀ (s : Shared) (v : Value), BindsTo s fd ⟨[v], []⟩ [("_law_script", v)]) ∧ ∀ base : Heap, K.In base → base.Ns mainGlobals mg → FnOk l.prog w K mg base CX0 20 fa fd ["_law_script"] (spLaw K) := by
  have cA : He5.SaysA faK dfK K := congrArg (fun z : SeeT => z.1) c
  have cT : (tbK.map fun t => He.dicW K (He.ga K t.2)) = tbK.map fun t => some (He.keysIn w.params t.1) := congrArg (fun z : SeeT => z.2.1) c
  have cX : (exK.all fun z => z K) = true := congrArg (fun z : SeeT => z.2.2) c
  have tab : ∀ (n : Nat) (t : List PySem.Str × PySem.Str), tbK[n]? = some t → ∃ es m, KDict K w (He.ga K t.2) es m := fun n t h => by
    have e2 := congrArg (fun z => z[n]?) cT
    simp only [List.getElem?_map, h, Option.map_some] at e2
    exact He.dicW_ok (Option.some.inj e2)
  have e := hfa.symm.trans (He.glo_ok X G (cA.fact 60 (f := .glo "law") rfl))
  cases e
  obtain ⟨fd0, F0⟩ := cA.def_ 0 (d := ⟨fun K => He.fAd K ("is_whole", none), "is_whole", "is_whole", defArgs s_is_whole, defBody s_is_whole, defScope s_is_whole, [], []⟩) rfl
  have F0 : Fun K "is_whole" "is_whole" s_is_whole (He.fAd K ("is_whole", none)) fd0 := He5.fun_of F0
  have b0 := F0.binds (ps := ["value"]) fun _ _ _ _ _ _ us hl => match us, hl with | [_], _ => rfl
  obtain ⟨fd1, F1⟩ := cA.def_ 1 (d := ⟨fun K => He.fAd K ("is_base", none), "is_base", "is_base", defArgs s_is_base, defBody s_is_base, defScope s_is_base, [], []⟩) rfl
  have F1 : Fun K "is_base" "is_base" s_is_base (He.fAd K ("is_base", none)) fd1 := He5.fun_of F1
  have b1 := F1.binds (ps := ["value"]) fun _ _ _ _ _ _ us hl => match us, hl with | [_], _ => rfl
  obtain ⟨fd2, F2⟩ := cA.def_ 2 (d := ⟨fun K => He.fAd K ("is_span", none), "is_span", "is_span", defArgs s_is_span, defBody s_is_span, defScope s_is_span, [], []⟩) rfl
  have F2 : Fun K "is_span" "is_span" s_is_span (He.fAd K ("is_span", none)) fd2 := He5.fun_of F2
  have b2 := F2.binds (ps := ["value"]) fun _ _ _ _ _ _ us hl => match us, hl with | [_], _ => rfl
  obtain ⟨fd3, F3⟩ := cA.def_ 3 (d := ⟨fun K => He.fAd K ("power_of", none), "power_of", "power_of", defArgs s_power_of, defBody s_power_of, defScope s_power_of, [], []⟩) rfl
  have F3 : Fun K "power_of" "power_of" s_power_of (He.fAd K ("power_of", none)) fd3 := He5.fun_of F3
  have b3 := F3.binds (ps := ["base", "exponent"]) fun _ _ _ _ _ _ us hl => match us, hl with | [_, _], _ => rfl
  obtain ⟨fd4, F4⟩ := cA.def_ 4 (d := ⟨fun K => He.fAd K ("log_of", none), "log_of", "log_of", defArgs s_log_of, defBody s_log_of, defScope s_log_of, [], []⟩) rfl
  have F4 : Fun K "log_of" "log_of" s_log_of (He.fAd K ("log_of", none)) fd4 := He5.fun_of F4
  have b4 := F4.binds (ps := ["base", "number"]) fun _ _ _ _ _ _ us hl => match us, hl with | [_, _], _ => rfl
  obtain ⟨fd5, F5⟩ := cA.def_ 5 (d := ⟨fun K => He.fAd K ("measure", none), "measure", "measure", defArgs s_measure, defBody s_measure, defScope s_measure, [], []⟩) rfl
  have F5 : Fun K "measure" "measure" s_measure (He.fAd K ("measure", none)) fd5 := He5.fun_of F5
  have b5 := F5.binds (ps := ["base", "step", "digits"]) fun _ _ _ _ _ _ us hl => match us, hl with | [_, _, _], _ => rfl
  obtain ⟨fd6, F6⟩ := cA.def_ 6 (d := ⟨fun K => He.fAd K ("reach", none), "reach", "reach", defArgs s_reach, defBody s_reach, defScope s_reach, [], []⟩) rfl
  have F6 : Fun K "reach" "reach" s_reach (He.fAd K ("reach", none)) fd6 := He5.fun_of F6
  have b6 := F6.binds (ps := ["kind", "most", "low", "size"]) fun _ _ _ _ _ _ us hl => match us, hl with | [_, _, _, _], _ => rfl
  obtain ⟨fd7, F7⟩ := cA.def_ 7 (d := ⟨fun K => He.fAd K ("rungs_of", none), "rungs_of", "rungs_of", defArgs s_rungs_of, defBody s_rungs_of, defScope s_rungs_of, [], []⟩) rfl
  have F7 : Fun K "rungs_of" "rungs_of" s_rungs_of (He.fAd K ("rungs_of", none)) fd7 := He5.fun_of F7
  have b7 := F7.binds (ps := ["base", "mantissas"]) fun _ _ _ _ _ _ us hl => match us, hl with | [_, _], _ => rfl
  obtain ⟨fd8, F8⟩ := cA.def_ 8 (d := ⟨fun K => He.fAd K ("step_at", none), "step_at", "step_at", defArgs s_step_at, defBody s_step_at, defScope s_step_at, [], []⟩) rfl
  have F8 : Fun K "step_at" "step_at" s_step_at (He.fAd K ("step_at", none)) fd8 := He5.fun_of F8
  have b8 := F8.binds (ps := ["rungs", "number"]) fun _ _ _ _ _ _ us hl => match us, hl with | [_, _], _ => rfl
  obtain ⟨fd9, F9⟩ := cA.def_ 9 (d := ⟨fun K => He.fAd K ("low_rung", none), "low_rung", "low_rung", defArgs s_low_rung, defBody s_low_rung, defScope s_low_rung, [], []⟩) rfl
  have F9 : Fun K "low_rung" "low_rung" s_low_rung (He.fAd K ("low_rung", none)) fd9 := He5.fun_of F9
  have b9 := F9.binds (ps := ["base", "rungs", "most", "length", "digits"]) fun _ _ _ _ _ _ us hl => match us, hl with | [_, _, _, _, _], _ => rfl
  obtain ⟨fd10, F10⟩ := cA.def_ 10 (d := ⟨fun K => He.fAd K ("_kind_and_most_fit", none), "_kind_and_most_fit", "_kind_and_most_fit", defArgs s_kind_and_most_fit, defBody s_kind_and_most_fit, defScope s_kind_and_most_fit, [], []⟩) rfl
  have F10 : Fun K "_kind_and_most_fit" "_kind_and_most_fit" s_kind_and_most_fit (He.fAd K ("_kind_and_most_fit", none)) fd10 := He5.fun_of F10
  have b10 := F10.binds (ps := ["kind", "most"]) fun _ _ _ _ _ _ us hl => match us, hl with | [_, _], _ => rfl
  obtain ⟨fd11, F11⟩ := cA.def_ 11 (d := ⟨fun K => He.fAd K ("_mantissas_fit", none), "_mantissas_fit", "_mantissas_fit", defArgs s_mantissas_fit, defBody s_mantissas_fit, defScope s_mantissas_fit, [], []⟩) rfl
  have F11 : Fun K "_mantissas_fit" "_mantissas_fit" s_mantissas_fit (He.fAd K ("_mantissas_fit", none)) fd11 := He5.fun_of F11
  have b11 := F11.binds (ps := ["base", "mantissas"]) fun _ _ _ _ _ _ us hl => match us, hl with | [_, _], _ => rfl
  obtain ⟨fd12, F12⟩ := cA.def_ 12 (d := ⟨fun K => He.fAd K ("_arguments_fit", none), "_arguments_fit", "_arguments_fit", defArgs s_arguments_fit, defBody s_arguments_fit, defScope s_arguments_fit, [], []⟩) rfl
  have F12 : Fun K "_arguments_fit" "_arguments_fit" s_arguments_fit (He.fAd K ("_arguments_fit", none)) fd12 := He5.fun_of F12
  have b12 := F12.binds (ps := ["base", "kind", "mantissas", "most"]) fun _ _ _ _ _ _ us hl => match us, hl with | [_, _, _, _], _ => rfl
  obtain ⟨fd13, F13⟩ := cA.def_ 13 (d := ⟨fun K => He.fAd K ("_is_dividing", none), "_is_dividing", "_is_dividing", defArgs s_is_dividing, defBody s_is_dividing, defScope s_is_dividing, [], []⟩) rfl
  have F13 : Fun K "_is_dividing" "_is_dividing" s_is_dividing (He.fAd K ("_is_dividing", none)) fd13 := He5.fun_of F13
  have b13 := F13.binds (ps := ["base", "rungs"]) fun _ _ _ _ _ _ us hl => match us, hl with | [_, _], _ => rfl
  obtain ⟨fd14, F14⟩ := cA.def_ 14 (d := ⟨fun K => He.fAd K ("Rule", some "__init__"), "__init__", "Rule.__init__", defArgs s_Rule_init, defBody s_Rule_init, defScope s_Rule_init, [], []⟩) rfl
  have F14 : Fun K "__init__" "Rule.__init__" s_Rule_init (He.fAd K ("Rule", some "__init__")) fd14 := He5.fun_of F14
  have b14 := F14.binds (ps := ["self", "base", "kind", "mantissas", "most"]) fun _ _ _ _ _ _ us hl => match us, hl with | [_, _, _, _, _], _ => rfl
  obtain ⟨fd15, F15⟩ := cA.def_ 15 (d := ⟨fun K => He.fAd K ("Rule", some "step"), "step", "Rule.step", defArgs s_Rule_step, defBody s_Rule_step, defScope s_Rule_step, [], []⟩) rfl
  have F15 : Fun K "step" "Rule.step" s_Rule_step (He.fAd K ("Rule", some "step")) fd15 := He5.fun_of F15
  have b15 := F15.binds (ps := ["self", "span"]) fun _ _ _ _ _ _ us hl => match us, hl with | [_, _], _ => rfl
  obtain ⟨fd16, F16⟩ := cA.def_ 16 (d := ⟨fun K => He.fAd K ("Rule", some "marks"), "marks", "Rule.marks", defArgs s_Rule_marks, defBody s_Rule_marks, defScope s_Rule_marks, [], []⟩) rfl
  have F16 : Fun K "marks" "Rule.marks" s_Rule_marks (He.fAd K ("Rule", some "marks")) fd16 := He5.fun_of F16
  have b16 := F16.binds (ps := ["self", "span"]) fun _ _ _ _ _ _ us hl => match us, hl with | [_, _], _ => rfl
  obtain ⟨fd17, F17⟩ := cA.def_ 17 (d := ⟨fun K => He.fAd K ("Rule", some "count"), "count", "Rule.count", defArgs s_Rule_count, defBody s_Rule_count, defScope s_Rule_count, [], []⟩) rfl
  have F17 : Fun K "count" "Rule.count" s_Rule_count (He.fAd K ("Rule", some "count")) fd17 := He5.fun_of F17
  have b17 := F17.binds (ps := ["self", "span"]) fun _ _ _ _ _ _ us hl => match us, hl with | [_, _], _ => rfl
  obtain ⟨fd18, F18⟩ := cA.def_ 18 (d := ⟨fun K => He.fAd K ("Rule", some "_fits"), "_fits", "Rule._fits", defArgs s_Rule__fits, defBody s_Rule__fits, defScope s_Rule__fits, [], []⟩) rfl
  have F18 : Fun K "_fits" "Rule._fits" s_Rule__fits (He.fAd K ("Rule", some "_fits")) fd18 := He5.fun_of F18
  have b18 := F18.binds (ps := ["self", "step", "span"]) fun _ _ _ _ _ _ us hl => match us, hl with | [_, _, _], _ => rfl
  obtain ⟨fd19, F19⟩ := cA.def_ 19 (d := ⟨fun K => He.fAd K ("check_rule", none), "check_rule", "check_rule", defArgs s_check_rule, defBody s_check_rule, defScope s_check_rule, [], []⟩) rfl
  have F19 : Fun K "check_rule" "check_rule" s_check_rule (He.fAd K ("check_rule", none)) fd19 := He5.fun_of F19
  have b19 := F19.binds (ps := ["rule"]) fun _ _ _ _ _ _ us hl => match us, hl with | [_], _ => rfl
  obtain ⟨fd20, F20⟩ := cA.def_ 20 (d := ⟨fun K => He.fAd K ("check_rules_of_one_base", none), "check_rules_of_one_base", "check_rules_of_one_base", defArgs s_check_rules_of_one_base, defBody s_check_rules_of_one_base, defScope s_check_rules_of_one_base, [], []⟩) rfl
  have F20 : Fun K "check_rules_of_one_base" "check_rules_of_one_base" s_check_rules_of_one_base (He.fAd K ("check_rules_of_one_base", none)) fd20 := He5.fun_of F20
  have b20 := F20.binds (ps := ["one", "other"]) fun _ _ _ _ _ _ us hl => match us, hl with | [_, _], _ => rfl
  obtain ⟨fd21, F21⟩ := cA.def_ 21 (d := ⟨fun K => He.fAd K ("check_number", none), "check_number", "check_number", defArgs s_check_number, defBody s_check_number, defScope s_check_number, [], []⟩) rfl
  have F21 : Fun K "check_number" "check_number" s_check_number (He.fAd K ("check_number", none)) fd21 := He5.fun_of F21
  have b21 := F21.binds (ps := ["number", "least"]) fun _ _ _ _ _ _ us hl => match us, hl with | [_, _], _ => rfl
  obtain ⟨fd22, F22⟩ := cA.def_ 22 (d := ⟨fun K => He.fAd K ("key_of", none), "key_of", "key_of", defArgs s_key_of, defBody s_key_of, defScope s_key_of, [], []⟩) rfl
  have F22 : Fun K "key_of" "key_of" s_key_of (He.fAd K ("key_of", none)) fd22 := He5.fun_of F22
  have b22 := F22.binds (ps := ["rule"]) fun _ _ _ _ _ _ us hl => match us, hl with | [_], _ => rfl
  obtain ⟨fd23, F23⟩ := cA.def_ 23 (d := ⟨fun K => He.fAd K ("rule_of", none), "rule_of", "rule_of", defArgs s_rule_of, defBody s_rule_of, defScope s_rule_of, [], []⟩) rfl
  have F23 : Fun K "rule_of" "rule_of" s_rule_of (He.fAd K ("rule_of", none)) fd23 := He5.fun_of F23
  have b23 := F23.binds (ps := ["base", "key"]) fun _ _ _ _ _ _ us hl => match us, hl with | [_, _], _ => rfl
  obtain ⟨fd24, F24⟩ := cA.def_ 24 (d := ⟨fun K => He.fAd K ("compare_steps", none), "compare_steps", "compare_steps", defArgs s_compare_steps, defBody s_compare_steps, defScope s_compare_steps, [], []⟩) rfl
  have F24 : Fun K "compare_steps" "compare_steps" s_compare_steps (He.fAd K ("compare_steps", none)) fd24 := He5.fun_of F24
  have b24 := F24.binds (ps := ["base", "one", "other"]) fun _ _ _ _ _ _ us hl => match us, hl with | [_, _, _], _ => rfl
  obtain ⟨fd25, F25⟩ := cA.def_ 25 (d := ⟨fun K => He.fAd K ("holds", none), "holds", "holds", defArgs s_holds, defBody s_holds, defScope s_holds, [], []⟩) rfl
  have F25 : Fun K "holds" "holds" s_holds (He.fAd K ("holds", none)) fd25 := He5.fun_of F25
  have b25 := F25.binds (ps := ["base", "formula", "span"]) fun _ _ _ _ _ _ us hl => match us, hl with | [_, _, _], _ => rfl
  obtain ⟨fd26, F26⟩ := cA.def_ 26 (d := ⟨fun K => He.fAd K ("_states", none), "_states", "_states", defArgs s_states, defBody s_states, defScope s_states, [], []⟩) rfl
  have F26 : Fun K "_states" "_states" s_states (He.fAd K ("_states", none)) fd26 := He5.fun_of F26
  have b26 := F26.binds (ps := ["base", "formula", "span"]) fun _ _ _ _ _ _ us hl => match us, hl with | [_, _, _], _ => rfl
  obtain ⟨fd27, F27⟩ := cA.def_ 27 (d := ⟨fun K => He.fAd K ("_check_operand", none), "_check_operand", "_check_operand", defArgs s_check_operand, defBody s_check_operand, defScope s_check_operand, [], []⟩) rfl
  have F27 : Fun K "_check_operand" "_check_operand" s_check_operand (He.fAd K ("_check_operand", none)) fd27 := He5.fun_of F27
  have b27 := F27.binds (ps := ["left", "right"]) fun _ _ _ _ _ _ us hl => match us, hl with | [_, _], _ => rfl
  obtain ⟨fd28, F28⟩ := cA.def_ 28 (d := ⟨fun K => He.fAd K ("RangeSet", some "__init__"), "__init__", "RangeSet.__init__", defArgs s_RangeSet_init, defBody s_RangeSet_init, defScope s_RangeSet_init, [], []⟩) rfl
  have F28 : Fun K "__init__" "RangeSet.__init__" s_RangeSet_init (He.fAd K ("RangeSet", some "__init__")) fd28 := He5.fun_of F28
  have b28 := F28.binds (ps := ["self", "base", "formula"]) fun _ _ _ _ _ _ us hl => match us, hl with | [_, _, _], _ => rfl
  obtain ⟨fd29, F29⟩ := cA.def_ 29 (d := ⟨fun K => He.fAd K ("RangeSet", some "__and__"), "__and__", "RangeSet.__and__", defArgs s_RangeSet___and__, defBody s_RangeSet___and__, defScope s_RangeSet___and__, [], []⟩) rfl
  have F29 : Fun K "__and__" "RangeSet.__and__" s_RangeSet___and__ (He.fAd K ("RangeSet", some "__and__")) fd29 := He5.fun_of F29
  have b29 := F29.binds (ps := ["self", "other"]) fun _ _ _ _ _ _ us hl => match us, hl with | [_, _], _ => rfl
  obtain ⟨fd30, F30⟩ := cA.def_ 30 (d := ⟨fun K => He.fAd K ("RangeSet", some "__or__"), "__or__", "RangeSet.__or__", defArgs s_RangeSet___or__, defBody s_RangeSet___or__, defScope s_RangeSet___or__, [], []⟩) rfl
  have F30 : Fun K "__or__" "RangeSet.__or__" s_RangeSet___or__ (He.fAd K ("RangeSet", some "__or__")) fd30 := He5.fun_of F30
  have b30 := F30.binds (ps := ["self", "other"]) fun _ _ _ _ _ _ us hl => match us, hl with | [_, _], _ => rfl
  obtain ⟨fd31, F31⟩ := cA.def_ 31 (d := ⟨fun K => He.fAd K ("RangeSet", some "__sub__"), "__sub__", "RangeSet.__sub__", defArgs s_RangeSet___sub__, defBody s_RangeSet___sub__, defScope s_RangeSet___sub__, [], []⟩) rfl
  have F31 : Fun K "__sub__" "RangeSet.__sub__" s_RangeSet___sub__ (He.fAd K ("RangeSet", some "__sub__")) fd31 := He5.fun_of F31
  have b31 := F31.binds (ps := ["self", "other"]) fun _ _ _ _ _ _ us hl => match us, hl with | [_, _], _ => rfl
  obtain ⟨fd32, F32⟩ := cA.def_ 32 (d := ⟨fun K => He.fAd K ("RangeSet", some "__xor__"), "__xor__", "RangeSet.__xor__", defArgs s_RangeSet___xor__, defBody s_RangeSet___xor__, defScope s_RangeSet___xor__, [], []⟩) rfl
  have F32 : Fun K "__xor__" "RangeSet.__xor__" s_RangeSet___xor__ (He.fAd K ("RangeSet", some "__xor__")) fd32 := He5.fun_of F32
  have b32 := F32.binds (ps := ["self", "other"]) fun _ _ _ _ _ _ us hl => match us, hl with | [_, _], _ => rfl
  obtain ⟨fd33, F33⟩ := cA.def_ 33 (d := ⟨fun K => He.fAd K ("RangeSet", some "__invert__"), "__invert__", "RangeSet.__invert__", defArgs s_RangeSet___invert__, defBody s_RangeSet___invert__, defScope s_RangeSet___invert__, [], []⟩) rfl
  have F33 : Fun K "__invert__" "RangeSet.__invert__" s_RangeSet___invert__ (He.fAd K ("RangeSet", some "__invert__")) fd33 := He5.fun_of F33
  have b33 := F33.binds (ps := ["self"]) fun _ _ _ _ _ _ us hl => match us, hl with | [_], _ => rfl
  obtain ⟨fd34, F34⟩ := cA.def_ 34 (d := ⟨fun K => He.fAd K ("RangeSet", some "__contains__"), "__contains__", "RangeSet.__contains__", defArgs s_RangeSet___contains__, defBody s_RangeSet___contains__, defScope s_RangeSet___contains__, [], []⟩) rfl
  have F34 : Fun K "__contains__" "RangeSet.__contains__" s_RangeSet___contains__ (He.fAd K ("RangeSet", some "__contains__")) fd34 := He5.fun_of F34
  have b34 := F34.binds (ps := ["self", "span"]) fun _ _ _ _ _ _ us hl => match us, hl with | [_, _], _ => rfl
  obtain ⟨fd35, F35⟩ := cA.def_ 35 (d := ⟨fun K => He.fAd K ("counted", none), "counted", "counted", defArgs s_counted, defBody s_counted, defScope s_counted, [He.Dv.non], []⟩) rfl
  have F35 : FunD K "counted" "counted" (defArgs s_counted) (defBody s_counted) (defScope s_counted) [.non] [] (He.fAd K ("counted", none)) fd35 := F35
  have b35 : Binds K fd35 ["rule", "least", "most"] [] := by
    obtain ⟨ds, v, B⟩ := F35.binds1 (ps := ["rule", "least", "most"]) 3 1 (by simp) rfl fun _ _ _ _ _ _ _ us its hl hi => match us, hl, its, hi with | [_, _, _], _, [_], _ => ⟨_, rfl, rfl⟩
    have v : Vals [] ds := v
    cases v
    exact B
  obtain ⟨fd36, F36⟩ := cA.def_ 36 (d := ⟨fun K => He.fAd K ("taken", none), "taken", "taken", defArgs s_taken, defBody s_taken, defScope s_taken, [], []⟩) rfl
  have F36 : Fun K "taken" "taken" s_taken (He.fAd K ("taken", none)) fd36 := He5.fun_of F36
  have b36 := F36.binds (ps := ["rule", "mantissa"]) fun _ _ _ _ _ _ us hl => match us, hl with | [_, _], _ => rfl
  obtain ⟨fd37, F37⟩ := cA.def_ 37 (d := ⟨fun K => He.fAd K ("_is_factor", none), "_is_factor", "_is_factor", defArgs s_is_factor, defBody s_is_factor, defScope s_is_factor, [], []⟩) rfl
  have F37 : Fun K "_is_factor" "_is_factor" s_is_factor (He.fAd K ("_is_factor", none)) fd37 := He5.fun_of F37
  have b37 := F37.binds (ps := ["times"]) fun _ _ _ _ _ _ us hl => match us, hl with | [_], _ => rfl
  obtain ⟨fd38, F38⟩ := cA.def_ 38 (d := ⟨fun K => He.fAd K ("coarser", none), "coarser", "coarser", defArgs s_coarser, defBody s_coarser, defScope s_coarser, [He.Dv.adr (He.dflAt ("coarser", none) 0)], []⟩) rfl
  have F38 : FunD K "coarser" "coarser" (defArgs s_coarser) (defBody s_coarser) (defScope s_coarser) [.ref (He.dflAt ("coarser", none) 0 K)] [] (He.fAd K ("coarser", none)) fd38 := F38
  have b38 : Binds K fd38 ["one", "other", "times"] [] := by
    obtain ⟨ds, v, B⟩ := F38.binds1 (ps := ["one", "other", "times"]) 3 1 (by simp) rfl fun _ _ _ _ _ _ _ us its hl hi => match us, hl, its, hi with | [_, _, _], _, [_], _ => ⟨_, rfl, rfl⟩
    have v : Vals [] ds := v
    cases v
    exact B
  obtain ⟨fd39, F39⟩ := cA.def_ 39 (d := ⟨fun K => He.fAd K ("touched", none), "touched", "touched", defArgs s_touched, defBody s_touched, defScope s_touched, [], []⟩) rfl
  have F39 : Fun K "touched" "touched" s_touched (He.fAd K ("touched", none)) fd39 := He5.fun_of F39
  have b39 := F39.binds (ps := ["rule", "end"]) fun _ _ _ _ _ _ us hl => match us, hl with | [_, _], _ => rfl
  obtain ⟨fd40, F40⟩ := cA.def_ 40 (d := ⟨fun K => He.fAd K ("_law_purse", none), "_law_purse", "_law_purse", defArgs s_law_purse, defBody s_law_purse, defScope s_law_purse, [], []⟩) rfl
  have F40 : Fun K "_law_purse" "_law_purse" s_law_purse (He.fAd K ("_law_purse", none)) fd40 := He5.fun_of F40
  have b40 := F40.binds (ps := ["_law_script", "_law_at"]) fun _ _ _ _ _ _ us hl => match us, hl with | [_, _], _ => rfl
  obtain ⟨fd41, F41⟩ := cA.def_ 41 (d := ⟨fun K => He.fAd K ("_law_draw", none), "_law_draw", "_law_draw", defArgs s_law_draw, defBody s_law_draw, defScope s_law_draw, [], []⟩) rfl
  have F41 : Fun K "_law_draw" "_law_draw" s_law_draw (He.fAd K ("_law_draw", none)) fd41 := He5.fun_of F41
  have b41 := F41.binds (ps := ["_law_purse_here", "_law_many"]) fun _ _ _ _ _ _ us hl => match us, hl with | [_, _], _ => rfl
  obtain ⟨fd42, F42⟩ := cA.def_ 42 (d := ⟨fun K => He.fAd K ("_law_pick", none), "_law_pick", "_law_pick", defArgs s_law_pick, defBody s_law_pick, defScope s_law_pick, [], []⟩) rfl
  have F42 : Fun K "_law_pick" "_law_pick" s_law_pick (He.fAd K ("_law_pick", none)) fd42 := He5.fun_of F42
  have b42 := F42.binds (ps := ["_law_purse_here", "_law_items"]) fun _ _ _ _ _ _ us hl => match us, hl with | [_, _], _ => rfl
  obtain ⟨fd43, F43⟩ := cA.def_ 43 (d := ⟨fun K => He.fAd K ("_law_family", none), "_law_family", "_law_family", defArgs s_law_family, defBody s_law_family, defScope s_law_family, [], []⟩) rfl
  have F43 : Fun K "_law_family" "_law_family" s_law_family (He.fAd K ("_law_family", none)) fd43 := He5.fun_of F43
  have b43 := F43.binds (ps := ["_law_purse_here"]) fun _ _ _ _ _ _ us hl => match us, hl with | [_], _ => rfl
  obtain ⟨fd44, F44⟩ := cA.def_ 44 (d := ⟨fun K => He.fAd K ("_law_rule", none), "_law_rule", "_law_rule", defArgs s_law_rule, defBody s_law_rule, defScope s_law_rule, [], []⟩) rfl
  have F44 : Fun K "_law_rule" "_law_rule" s_law_rule (He.fAd K ("_law_rule", none)) fd44 := He5.fun_of F44
  have b44 := F44.binds (ps := ["_law_purse_here", "_law_family_here"]) fun _ _ _ _ _ _ us hl => match us, hl with | [_, _], _ => rfl
  obtain ⟨fd45, F45⟩ := cA.def_ 45 (d := ⟨fun K => He.fAd K ("_law_made", none), "_law_made", "_law_made", defArgs s_law_made, defBody s_law_made, defScope s_law_made, [], []⟩) rfl
  have F45 : Fun K "_law_made" "_law_made" s_law_made (He.fAd K ("_law_made", none)) fd45 := He5.fun_of F45
  have b45 := F45.binds (ps := ["_law_rule_here"]) fun _ _ _ _ _ _ us hl => match us, hl with | [_], _ => rfl
  obtain ⟨fd46, F46⟩ := cA.def_ 46 (d := ⟨fun K => He.fAd K ("_law_times", none), "_law_times", "_law_times", defArgs s_law_times, defBody s_law_times, defScope s_law_times, [], []⟩) rfl
  have F46 : Fun K "_law_times" "_law_times" s_law_times (He.fAd K ("_law_times", none)) fd46 := He5.fun_of F46
  have b46 := F46.binds (ps := ["_law_base", "_law_many"]) fun _ _ _ _ _ _ us hl => match us, hl with | [_, _], _ => rfl
  obtain ⟨fd47, F47⟩ := cA.def_ 47 (d := ⟨fun K => He.fAd K ("_law_places", none), "_law_places", "_law_places", defArgs s_law_places, defBody s_law_places, defScope s_law_places, [], []⟩) rfl
  have F47 : Fun K "_law_places" "_law_places" s_law_places (He.fAd K ("_law_places", none)) fd47 := He5.fun_of F47
  have b47 := F47.binds (ps := ["_law_low", "_law_high", "_law_size"]) fun _ _ _ _ _ _ us hl => match us, hl with | [_, _, _], _ => rfl
  obtain ⟨fd48, F48⟩ := cA.def_ 48 (d := ⟨fun K => He.fAd K ("_law_is_fit", none), "_law_is_fit", "_law_is_fit", defArgs s_law_is_fit, defBody s_law_is_fit, defScope s_law_is_fit, [], []⟩) rfl
  have F48 : Fun K "_law_is_fit" "_law_is_fit" s_law_is_fit (He.fAd K ("_law_is_fit", none)) fd48 := He5.fun_of F48
  have b48 := F48.binds (ps := ["_law_rule_here", "_law_low", "_law_high", "_law_size"]) fun _ _ _ _ _ _ us hl => match us, hl with | [_, _, _, _], _ => rfl
  obtain ⟨fd49, F49⟩ := cA.def_ 49 (d := ⟨fun K => He.fAd K ("_law_sizes", none), "_law_sizes", "_law_sizes", defArgs s_law_sizes, defBody s_law_sizes, defScope s_law_sizes, [], []⟩) rfl
  have F49 : Fun K "_law_sizes" "_law_sizes" s_law_sizes (He.fAd K ("_law_sizes", none)) fd49 := He5.fun_of F49
  have b49 := F49.binds (ps := ["_law_rule_here", "_law_length"]) fun _ _ _ _ _ _ us hl => match us, hl with | [_, _], _ => rfl
  obtain ⟨fd50, F50⟩ := cA.def_ 50 (d := ⟨fun K => He.fAd K ("_law_step", none), "_law_step", "_law_step", defArgs s_law_step, defBody s_law_step, defScope s_law_step, [], []⟩) rfl
  have F50 : Fun K "_law_step" "_law_step" s_law_step (He.fAd K ("_law_step", none)) fd50 := He5.fun_of F50
  have b50 := F50.binds (ps := ["_law_rule_here", "_law_low", "_law_high"]) fun _ _ _ _ _ _ us hl => match us, hl with | [_, _, _], _ => rfl
  obtain ⟨fd51, F51⟩ := cA.def_ 51 (d := ⟨fun K => He.fAd K ("_law_scaled", none), "_law_scaled", "_law_scaled", defArgs s_law_scaled, defBody s_law_scaled, defScope s_law_scaled, [], []⟩) rfl
  have F51 : Fun K "_law_scaled" "_law_scaled" s_law_scaled (He.fAd K ("_law_scaled", none)) fd51 := He5.fun_of F51
  have b51 := F51.binds (ps := ["_law_rule_here", "_law_step_here", "_law_low", "_law_high"]) fun _ _ _ _ _ _ us hl => match us, hl with | [_, _, _, _], _ => rfl
  obtain ⟨fd52, F52⟩ := cA.def_ 52 (d := ⟨fun K => He.fAd K ("_law_marks", none), "_law_marks", "_law_marks", defArgs s_law_marks, defBody s_law_marks, defScope s_law_marks, [], []⟩) rfl
  have F52 : Fun K "_law_marks" "_law_marks" s_law_marks (He.fAd K ("_law_marks", none)) fd52 := He5.fun_of F52
  have b52 := F52.binds (ps := ["_law_rule_here", "_law_low", "_law_high"]) fun _ _ _ _ _ _ us hl => match us, hl with | [_, _, _], _ => rfl
  obtain ⟨fd53, F53⟩ := cA.def_ 53 (d := ⟨fun K => He.fAd K ("_law_number", none), "_law_number", "_law_number", defArgs s_law_number, defBody s_law_number, defScope s_law_number, [], []⟩) rfl
  have F53 : Fun K "_law_number" "_law_number" s_law_number (He.fAd K ("_law_number", none)) fd53 := He5.fun_of F53
  have b53 := F53.binds (ps := ["_law_purse_here"]) fun _ _ _ _ _ _ us hl => match us, hl with | [_], _ => rfl
  obtain ⟨fd54, F54⟩ := cA.def_ 54 (d := ⟨fun K => He.fAd K ("_law_range", none), "_law_range", "_law_range", defArgs s_law_range, defBody s_law_range, defScope s_law_range, [], []⟩) rfl
  have F54 : Fun K "_law_range" "_law_range" s_law_range (He.fAd K ("_law_range", none)) fd54 := He5.fun_of F54
  have b54 := F54.binds (ps := ["_law_purse_here", "_law_rule_here"]) fun _ _ _ _ _ _ us hl => match us, hl with | [_, _], _ => rfl
  obtain ⟨fd55, F55⟩ := cA.def_ 55 (d := ⟨fun K => He.fAd K ("_law_atom", none), "_law_atom", "_law_atom", defArgs s_law_atom, defBody s_law_atom, defScope s_law_atom, [], []⟩) rfl
  have F55 : Fun K "_law_atom" "_law_atom" s_law_atom (He.fAd K ("_law_atom", none)) fd55 := He5.fun_of F55
  have b55 := F55.binds (ps := ["_law_purse_here", "_law_rules_here"]) fun _ _ _ _ _ _ us hl => match us, hl with | [_, _], _ => rfl
  obtain ⟨fd56, F56⟩ := cA.def_ 56 (d := ⟨fun K => He.fAd K ("_law_tree", none), "_law_tree", "_law_tree", defArgs s_law_tree, defBody s_law_tree, defScope s_law_tree, [], []⟩) rfl
  have F56 : Fun K "_law_tree" "_law_tree" s_law_tree (He.fAd K ("_law_tree", none)) fd56 := He5.fun_of F56
  have b56 := F56.binds (ps := ["_law_purse_here", "_law_rules_here", "_law_many"]) fun _ _ _ _ _ _ us hl => match us, hl with | [_, _, _], _ => rfl
  obtain ⟨fd57, F57⟩ := cA.def_ 57 (d := ⟨fun K => He.fAd K ("_law_set", none), "_law_set", "_law_set", defArgs s_law_set, defBody s_law_set, defScope s_law_set, [], []⟩) rfl
  have F57 : Fun K "_law_set" "_law_set" s_law_set (He.fAd K ("_law_set", none)) fd57 := He5.fun_of F57
  have b57 := F57.binds (ps := ["_law_tree_here"]) fun _ _ _ _ _ _ us hl => match us, hl with | [_], _ => rfl
  obtain ⟨fd58, F58⟩ := cA.def_ 58 (d := ⟨fun K => He.fAd K ("_law_atom_holds", none), "_law_atom_holds", "_law_atom_holds", defArgs s_law_atom_holds, defBody s_law_atom_holds, defScope s_law_atom_holds, [], []⟩) rfl
  have F58 : Fun K "_law_atom_holds" "_law_atom_holds" s_law_atom_holds (He.fAd K ("_law_atom_holds", none)) fd58 := He5.fun_of F58
  have b58 := F58.binds (ps := ["_law_tree_here", "_law_low", "_law_high"]) fun _ _ _ _ _ _ us hl => match us, hl with | [_, _, _], _ => rfl
  obtain ⟨fd59, F59⟩ := cA.def_ 59 (d := ⟨fun K => He.fAd K ("_law_holds", none), "_law_holds", "_law_holds", defArgs s_law_holds, defBody s_law_holds, defScope s_law_holds, [], []⟩) rfl
  have F59 : Fun K "_law_holds" "_law_holds" s_law_holds (He.fAd K ("_law_holds", none)) fd59 := He5.fun_of F59
  have b59 := F59.binds (ps := ["_law_tree_here", "_law_low", "_law_high"]) fun _ _ _ _ _ _ us hl => match us, hl with | [_, _, _], _ => rfl
  obtain ⟨fd60, F60⟩ := cA.def_ 60 (d := ⟨fun K => He.fAd K ("_law_rules", none), "_law_rules", "_law_rules", defArgs s_law_rules, defBody s_law_rules, defScope s_law_rules, [], []⟩) rfl
  have F60 : Fun K "_law_rules" "_law_rules" s_law_rules (He.fAd K ("_law_rules", none)) fd60 := He5.fun_of F60
  have b60 := F60.binds (ps := ["_law_purse_here"]) fun _ _ _ _ _ _ us hl => match us, hl with | [_], _ => rfl
  obtain ⟨fd61, F61⟩ := cA.def_ 61 (d := ⟨fun K => He.fAd K ("_law_period", none), "_law_period", "_law_period", defArgs s_law_period, defBody s_law_period, defScope s_law_period, [], []⟩) rfl
  have F61 : Fun K "_law_period" "_law_period" s_law_period (He.fAd K ("_law_period", none)) fd61 := He5.fun_of F61
  have b61 := F61.binds (ps := ["_law_rules_here", "_law_length"]) fun _ _ _ _ _ _ us hl => match us, hl with | [_, _], _ => rfl
  obtain ⟨fd62, F62⟩ := cA.def_ 62 (d := ⟨fun K => He.fAd K ("law", none), "law", "law", defArgs s_law, defBody s_law, defScope s_law, [], []⟩) rfl
  have F62 : Fun K "law" "law" s_law (He.fAd K ("law", none)) fd62 := He5.fun_of F62
  have b62 := F62.binds (ps := ["_law_script"]) fun _ _ _ _ _ _ us hl => match us, hl with | [_], _ => rfl
  obtain ⟨fd63, F63⟩ := cA.def_ 63 (d := ⟨fun K => He5.wf K (He.ga K "Rule") "property" "base", "base", "Rule.base", defArgs s_Rule_base, defBody s_Rule_base, defScope s_Rule_base, [], []⟩) rfl
  have F63 : Fun K "base" "Rule.base" s_Rule_base (He5.wf K (He.ga K "Rule") "property" "base") fd63 := He5.fun_of F63
  have b63 := F63.binds (ps := ["self"]) fun _ _ _ _ _ _ us hl => match us, hl with | [_], _ => rfl
  obtain ⟨fd64, F64⟩ := cA.def_ 64 (d := ⟨fun K => He5.wf K (He.ga K "Rule") "property" "kind", "kind", "Rule.kind", defArgs s_Rule_kind, defBody s_Rule_kind, defScope s_Rule_kind, [], []⟩) rfl
  have F64 : Fun K "kind" "Rule.kind" s_Rule_kind (He5.wf K (He.ga K "Rule") "property" "kind") fd64 := He5.fun_of F64
  have b64 := F64.binds (ps := ["self"]) fun _ _ _ _ _ _ us hl => match us, hl with | [_], _ => rfl
  obtain ⟨fd65, F65⟩ := cA.def_ 65 (d := ⟨fun K => He5.wf K (He.ga K "Rule") "property" "most", "most", "Rule.most", defArgs s_Rule_most, defBody s_Rule_most, defScope s_Rule_most, [], []⟩) rfl
  have F65 : Fun K "most" "Rule.most" s_Rule_most (He5.wf K (He.ga K "Rule") "property" "most") fd65 := He5.fun_of F65
  have b65 := F65.binds (ps := ["self"]) fun _ _ _ _ _ _ us hl => match us, hl with | [_], _ => rfl
  obtain ⟨fd66, F66⟩ := cA.def_ 66 (d := ⟨fun K => He5.wf K (He.ga K "Rule") "property" "mantissas", "mantissas", "Rule.mantissas", defArgs s_Rule_mantissas, defBody s_Rule_mantissas, defScope s_Rule_mantissas, [], []⟩) rfl
  have F66 : Fun K "mantissas" "Rule.mantissas" s_Rule_mantissas (He5.wf K (He.ga K "Rule") "property" "mantissas") fd66 := He5.fun_of F66
  have b66 := F66.binds (ps := ["self"]) fun _ _ _ _ _ _ us hl => match us, hl with | [_], _ => rfl
  obtain ⟨fd67, F67⟩ := cA.def_ 67 (d := ⟨fun K => He5.wf K (He.ga K "RangeSet") "property" "base", "base", "RangeSet.base", defArgs s_RangeSet_base, defBody s_RangeSet_base, defScope s_RangeSet_base, [], []⟩) rfl
  have F67 : Fun K "base" "RangeSet.base" s_RangeSet_base (He5.wf K (He.ga K "RangeSet") "property" "base") fd67 := He5.fun_of F67
  have b67 := F67.binds (ps := ["self"]) fun _ _ _ _ _ _ us hl => match us, hl with | [_], _ => rfl
  obtain ⟨fd68, F68⟩ := cA.def_ 68 (d := ⟨fun K => He5.wf K (He.ga K "RangeSet") "classmethod" "every", "every", "RangeSet.every", defArgs s_RangeSet_every, defBody s_RangeSet_every, defScope s_RangeSet_every, [], []⟩) rfl
  have F68 : Fun K "every" "RangeSet.every" s_RangeSet_every (He5.wf K (He.ga K "RangeSet") "classmethod" "every") fd68 := He5.fun_of F68
  have b68 := F68.binds (ps := ["cls", "base"]) fun _ _ _ _ _ _ us hl => match us, hl with | [_, _], _ => rfl
  let A : Adr := {
    a_is_whole := He.fAd K ("is_whole", none)
    d_is_whole := fd0
    a_is_base := He.fAd K ("is_base", none)
    d_is_base := fd1
    a_is_span := He.fAd K ("is_span", none)
    d_is_span := fd2
    a_power_of := He.fAd K ("power_of", none)
    d_power_of := fd3
    a_log_of := He.fAd K ("log_of", none)
    d_log_of := fd4
    a_measure := He.fAd K ("measure", none)
    d_measure := fd5
    a_reach := He.fAd K ("reach", none)
    d_reach := fd6
    a_rungs_of := He.fAd K ("rungs_of", none)
    d_rungs_of := fd7
    a_step_at := He.fAd K ("step_at", none)
    d_step_at := fd8
    a_low_rung := He.fAd K ("low_rung", none)
    d_low_rung := fd9
    a_kind_and_most_fit := He.fAd K ("_kind_and_most_fit", none)
    d_kind_and_most_fit := fd10
    a_mantissas_fit := He.fAd K ("_mantissas_fit", none)
    d_mantissas_fit := fd11
    a_arguments_fit := He.fAd K ("_arguments_fit", none)
    d_arguments_fit := fd12
    a_is_dividing := He.fAd K ("_is_dividing", none)
    d_is_dividing := fd13
    a_Rule_init := He.fAd K ("Rule", some "__init__")
    d_Rule_init := fd14
    a_Rule_step := He.fAd K ("Rule", some "step")
    d_Rule_step := fd15
    a_Rule_marks := He.fAd K ("Rule", some "marks")
    d_Rule_marks := fd16
    a_Rule_count := He.fAd K ("Rule", some "count")
    d_Rule_count := fd17
    a_Rule__fits := He.fAd K ("Rule", some "_fits")
    d_Rule__fits := fd18
    a_check_rule := He.fAd K ("check_rule", none)
    d_check_rule := fd19
    a_check_rules_of_one_base := He.fAd K ("check_rules_of_one_base", none)
    d_check_rules_of_one_base := fd20
    a_check_number := He.fAd K ("check_number", none)
    d_check_number := fd21
    a_key_of := He.fAd K ("key_of", none)
    d_key_of := fd22
    a_rule_of := He.fAd K ("rule_of", none)
    d_rule_of := fd23
    a_compare_steps := He.fAd K ("compare_steps", none)
    d_compare_steps := fd24
    a_holds := He.fAd K ("holds", none)
    d_holds := fd25
    a_states := He.fAd K ("_states", none)
    d_states := fd26
    a_check_operand := He.fAd K ("_check_operand", none)
    d_check_operand := fd27
    a_RangeSet_init := He.fAd K ("RangeSet", some "__init__")
    d_RangeSet_init := fd28
    a_RangeSet___and__ := He.fAd K ("RangeSet", some "__and__")
    d_RangeSet___and__ := fd29
    a_RangeSet___or__ := He.fAd K ("RangeSet", some "__or__")
    d_RangeSet___or__ := fd30
    a_RangeSet___sub__ := He.fAd K ("RangeSet", some "__sub__")
    d_RangeSet___sub__ := fd31
    a_RangeSet___xor__ := He.fAd K ("RangeSet", some "__xor__")
    d_RangeSet___xor__ := fd32
    a_RangeSet___invert__ := He.fAd K ("RangeSet", some "__invert__")
    d_RangeSet___invert__ := fd33
    a_RangeSet___contains__ := He.fAd K ("RangeSet", some "__contains__")
    d_RangeSet___contains__ := fd34
    a_counted := He.fAd K ("counted", none)
    d_counted := fd35
    dv_counted := .non
    a_taken := He.fAd K ("taken", none)
    d_taken := fd36
    a_is_factor := He.fAd K ("_is_factor", none)
    d_is_factor := fd37
    a_coarser := He.fAd K ("coarser", none)
    d_coarser := fd38
    dv_coarser := .ref (He.dflAt ("coarser", none) 0 K)
    a_touched := He.fAd K ("touched", none)
    d_touched := fd39
    a_law_purse := He.fAd K ("_law_purse", none)
    d_law_purse := fd40
    a_law_draw := He.fAd K ("_law_draw", none)
    d_law_draw := fd41
    a_law_pick := He.fAd K ("_law_pick", none)
    d_law_pick := fd42
    a_law_family := He.fAd K ("_law_family", none)
    d_law_family := fd43
    a_law_rule := He.fAd K ("_law_rule", none)
    d_law_rule := fd44
    a_law_made := He.fAd K ("_law_made", none)
    d_law_made := fd45
    a_law_times := He.fAd K ("_law_times", none)
    d_law_times := fd46
    a_law_places := He.fAd K ("_law_places", none)
    d_law_places := fd47
    a_law_is_fit := He.fAd K ("_law_is_fit", none)
    d_law_is_fit := fd48
    a_law_sizes := He.fAd K ("_law_sizes", none)
    d_law_sizes := fd49
    a_law_step := He.fAd K ("_law_step", none)
    d_law_step := fd50
    a_law_scaled := He.fAd K ("_law_scaled", none)
    d_law_scaled := fd51
    a_law_marks := He.fAd K ("_law_marks", none)
    d_law_marks := fd52
    a_law_number := He.fAd K ("_law_number", none)
    d_law_number := fd53
    a_law_range := He.fAd K ("_law_range", none)
    d_law_range := fd54
    a_law_atom := He.fAd K ("_law_atom", none)
    d_law_atom := fd55
    a_law_tree := He.fAd K ("_law_tree", none)
    d_law_tree := fd56
    a_law_set := He.fAd K ("_law_set", none)
    d_law_set := fd57
    a_law_atom_holds := He.fAd K ("_law_atom_holds", none)
    d_law_atom_holds := fd58
    a_law_holds := He.fAd K ("_law_holds", none)
    d_law_holds := fd59
    a_law_rules := He.fAd K ("_law_rules", none)
    d_law_rules := fd60
    a_law_period := He.fAd K ("_law_period", none)
    d_law_period := fd61
    a_law := He.fAd K ("law", none)
    d_law := fd62
    a_Rule_base := He5.wf K (He.ga K "Rule") "property" "base"
    d_Rule_base := fd63
    p_Rule_base := He.ma K (He.ga K "Rule") "base"
    a_Rule_kind := He5.wf K (He.ga K "Rule") "property" "kind"
    d_Rule_kind := fd64
    p_Rule_kind := He.ma K (He.ga K "Rule") "kind"
    a_Rule_most := He5.wf K (He.ga K "Rule") "property" "most"
    d_Rule_most := fd65
    p_Rule_most := He.ma K (He.ga K "Rule") "most"
    a_Rule_mantissas := He5.wf K (He.ga K "Rule") "property" "mantissas"
    d_Rule_mantissas := fd66
    p_Rule_mantissas := He.ma K (He.ga K "Rule") "mantissas"
    a_RangeSet_base := He5.wf K (He.ga K "RangeSet") "property" "base"
    d_RangeSet_base := fd67
    p_RangeSet_base := He.ma K (He.ga K "RangeSet") "base"
    a_every := He5.wf K (He.ga K "RangeSet") "classmethod" "every"
    d_every := fd68
    p_every := He.ma K (He.ga K "RangeSet") "every"
    c_RangeSet := He.ga K "RangeSet"
    a_PARTS := He.ga K "PARTS"
    c_Rule := He.ga K "Rule"
    a_LEAST := He.ga K "LEAST_MOST" }
  have T : Txt K mg A w := {
    F_Rule_base := F63
    B_Rule_base := b63
    pr_Rule_base := ⟨He.eqO_ok (allB_at cX 0), He.eqO_ok (allB_at cX 1), of_decide_eq_true (allB_at cX 2), recB_is (allB_at cX 3)⟩
    F_Rule_kind := F64
    B_Rule_kind := b64
    pr_Rule_kind := ⟨He.eqO_ok (allB_at cX 4), He.eqO_ok (allB_at cX 5), of_decide_eq_true (allB_at cX 6), recB_is (allB_at cX 7)⟩
    F_Rule_most := F65
    B_Rule_most := b65
    pr_Rule_most := ⟨He.eqO_ok (allB_at cX 8), He.eqO_ok (allB_at cX 9), of_decide_eq_true (allB_at cX 10), recB_is (allB_at cX 11)⟩
    F_Rule_mantissas := F66
    B_Rule_mantissas := b66
    pr_Rule_mantissas := ⟨He.eqO_ok (allB_at cX 12), He.eqO_ok (allB_at cX 13), of_decide_eq_true (allB_at cX 14), recB_is (allB_at cX 15)⟩
    F_RangeSet_base := F67
    B_RangeSet_base := b67
    pr_RangeSet_base := ⟨He.eqO_ok (allB_at cX 16), He.eqO_ok (allB_at cX 17), of_decide_eq_true (allB_at cX 18), recB_is (allB_at cX 19)⟩
    n_len := He.free_ok X G (cA.fact 61 (f := .free "len") rfl)
    n_isinstance := He.free_ok X G (cA.fact 62 (f := .free "isinstance") rfl)
    n_all := He.free_ok X G (cA.fact 63 (f := .free "all") rfl)
    n_int := He.free_ok X G (cA.fact 64 (f := .free "int") rfl)
    n_bool := He.free_ok X G (cA.fact 65 (f := .free "bool") rfl)
    n_str := He.free_ok X G (cA.fact 66 (f := .free "str") rfl)
    n_tuple := He.free_ok X G (cA.fact 67 (f := .free "tuple") rfl)
    n_list := He.free_ok X G (cA.fact 68 (f := .free "list") rfl)
    n_range := He.free_ok X G (cA.fact 69 (f := .free "range") rfl)
    n_reversed := He.free_ok X G (cA.fact 70 (f := .free "reversed") rfl)
    n_zip := He.free_ok X G (cA.fact 71 (f := .free "zip") rfl)
    n_max := He.free_ok X G (cA.fact 72 (f := .free "max") rfl)
    n_min := He.free_ok X G (cA.fact 73 (f := .free "min") rfl)
    n_abs := He.free_ok X G (cA.fact 74 (f := .free "abs") rfl)
    n_sorted := He.free_ok X G (cA.fact 75 (f := .free "sorted") rfl)
    n_set := He.free_ok X G (cA.fact 76 (f := .free "set") rfl)
    n_divmod := He.free_ok X G (cA.fact 77 (f := .free "divmod") rfl)
    n_repr := He.free_ok X G (cA.fact 78 (f := .free "repr") rfl)
    n_enumerate := He.free_ok X G (cA.fact 79 (f := .free "enumerate") rfl)
    F_is_whole := F0
    B_is_whole := b0
    m_is_whole := He.glo_ok X G (cA.fact 0 (f := .glo "is_whole") rfl)
    F_is_base := F1
    B_is_base := b1
    m_is_base := He.glo_ok X G (cA.fact 1 (f := .glo "is_base") rfl)
    F_is_span := F2
    B_is_span := b2
    m_is_span := He.glo_ok X G (cA.fact 2 (f := .glo "is_span") rfl)
    F_power_of := F3
    B_power_of := b3
    m_power_of := He.glo_ok X G (cA.fact 3 (f := .glo "power_of") rfl)
    F_log_of := F4
    B_log_of := b4
    m_log_of := He.glo_ok X G (cA.fact 4 (f := .glo "log_of") rfl)
    F_measure := F5
    B_measure := b5
    m_measure := He.glo_ok X G (cA.fact 5 (f := .glo "measure") rfl)
    F_reach := F6
    B_reach := b6
    m_reach := He.glo_ok X G (cA.fact 6 (f := .glo "reach") rfl)
    F_rungs_of := F7
    B_rungs_of := b7
    m_rungs_of := He.glo_ok X G (cA.fact 7 (f := .glo "rungs_of") rfl)
    F_step_at := F8
    B_step_at := b8
    m_step_at := He.glo_ok X G (cA.fact 8 (f := .glo "step_at") rfl)
    F_low_rung := F9
    B_low_rung := b9
    m_low_rung := He.glo_ok X G (cA.fact 9 (f := .glo "low_rung") rfl)
    F_kind_and_most_fit := F10
    B_kind_and_most_fit := b10
    m_kind_and_most_fit := He.glo_ok X G (cA.fact 10 (f := .glo "_kind_and_most_fit") rfl)
    F_mantissas_fit := F11
    B_mantissas_fit := b11
    m_mantissas_fit := He.glo_ok X G (cA.fact 11 (f := .glo "_mantissas_fit") rfl)
    F_arguments_fit := F12
    B_arguments_fit := b12
    m_arguments_fit := He.glo_ok X G (cA.fact 12 (f := .glo "_arguments_fit") rfl)
    F_is_dividing := F13
    B_is_dividing := b13
    m_is_dividing := He.glo_ok X G (cA.fact 13 (f := .glo "_is_dividing") rfl)
    F_Rule_init := F14
    B_Rule_init := b14
    F_Rule_step := F15
    B_Rule_step := b15
    t_Rule_step := He.meth_ok (cA.fact 14 (f := .meth "Rule" "step") rfl)
    F_Rule_marks := F16
    B_Rule_marks := b16
    t_Rule_marks := He.meth_ok (cA.fact 15 (f := .meth "Rule" "marks") rfl)
    F_Rule_count := F17
    B_Rule_count := b17
    t_Rule_count := He.meth_ok (cA.fact 16 (f := .meth "Rule" "count") rfl)
    F_Rule__fits := F18
    B_Rule__fits := b18
    t_Rule__fits := He.meth_ok (cA.fact 17 (f := .meth "Rule" "_fits") rfl)
    F_check_rule := F19
    B_check_rule := b19
    m_check_rule := He.glo_ok X G (cA.fact 18 (f := .glo "check_rule") rfl)
    F_check_rules_of_one_base := F20
    B_check_rules_of_one_base := b20
    m_check_rules_of_one_base := He.glo_ok X G (cA.fact 19 (f := .glo "check_rules_of_one_base") rfl)
    F_check_number := F21
    B_check_number := b21
    m_check_number := He.glo_ok X G (cA.fact 20 (f := .glo "check_number") rfl)
    F_key_of := F22
    B_key_of := b22
    m_key_of := He.glo_ok X G (cA.fact 21 (f := .glo "key_of") rfl)
    F_rule_of := F23
    B_rule_of := b23
    m_rule_of := He.glo_ok X G (cA.fact 22 (f := .glo "rule_of") rfl)
    F_compare_steps := F24
    B_compare_steps := b24
    m_compare_steps := He.glo_ok X G (cA.fact 23 (f := .glo "compare_steps") rfl)
    F_holds := F25
    B_holds := b25
    m_holds := He.glo_ok X G (cA.fact 24 (f := .glo "holds") rfl)
    F_states := F26
    B_states := b26
    m_states := He.glo_ok X G (cA.fact 25 (f := .glo "_states") rfl)
    F_check_operand := F27
    B_check_operand := b27
    m_check_operand := He.glo_ok X G (cA.fact 26 (f := .glo "_check_operand") rfl)
    F_RangeSet_init := F28
    B_RangeSet_init := b28
    F_RangeSet___and__ := F29
    B_RangeSet___and__ := b29
    t_RangeSet___and__ := He.meth_ok (cA.fact 27 (f := .meth "RangeSet" "__and__") rfl)
    F_RangeSet___or__ := F30
    B_RangeSet___or__ := b30
    t_RangeSet___or__ := He.meth_ok (cA.fact 28 (f := .meth "RangeSet" "__or__") rfl)
    F_RangeSet___sub__ := F31
    B_RangeSet___sub__ := b31
    t_RangeSet___sub__ := He.meth_ok (cA.fact 29 (f := .meth "RangeSet" "__sub__") rfl)
    F_RangeSet___xor__ := F32
    B_RangeSet___xor__ := b32
    t_RangeSet___xor__ := He.meth_ok (cA.fact 30 (f := .meth "RangeSet" "__xor__") rfl)
    F_RangeSet___invert__ := F33
    B_RangeSet___invert__ := b33
    t_RangeSet___invert__ := He.meth_ok (cA.fact 31 (f := .meth "RangeSet" "__invert__") rfl)
    F_RangeSet___contains__ := F34
    B_RangeSet___contains__ := b34
    t_RangeSet___contains__ := He.meth_ok (cA.fact 32 (f := .meth "RangeSet" "__contains__") rfl)
    F_counted := F35
    B_counted := b35
    m_counted := He.glo_ok X G (cA.fact 33 (f := .glo "counted") rfl)
    F_taken := F36
    B_taken := b36
    m_taken := He.glo_ok X G (cA.fact 34 (f := .glo "taken") rfl)
    F_is_factor := F37
    B_is_factor := b37
    m_is_factor := He.glo_ok X G (cA.fact 35 (f := .glo "_is_factor") rfl)
    F_coarser := F38
    B_coarser := b38
    m_coarser := He.glo_ok X G (cA.fact 36 (f := .glo "coarser") rfl)
    F_touched := F39
    B_touched := b39
    m_touched := He.glo_ok X G (cA.fact 37 (f := .glo "touched") rfl)
    F_law_purse := F40
    B_law_purse := b40
    m_law_purse := He.glo_ok X G (cA.fact 38 (f := .glo "_law_purse") rfl)
    F_law_draw := F41
    B_law_draw := b41
    m_law_draw := He.glo_ok X G (cA.fact 39 (f := .glo "_law_draw") rfl)
    F_law_pick := F42
    B_law_pick := b42
    m_law_pick := He.glo_ok X G (cA.fact 40 (f := .glo "_law_pick") rfl)
    F_law_family := F43
    B_law_family := b43
    m_law_family := He.glo_ok X G (cA.fact 41 (f := .glo "_law_family") rfl)
    F_law_rule := F44
    B_law_rule := b44
    m_law_rule := He.glo_ok X G (cA.fact 42 (f := .glo "_law_rule") rfl)
    F_law_made := F45
    B_law_made := b45
    m_law_made := He.glo_ok X G (cA.fact 43 (f := .glo "_law_made") rfl)
    F_law_times := F46
    B_law_times := b46
    m_law_times := He.glo_ok X G (cA.fact 44 (f := .glo "_law_times") rfl)
    F_law_places := F47
    B_law_places := b47
    m_law_places := He.glo_ok X G (cA.fact 45 (f := .glo "_law_places") rfl)
    F_law_is_fit := F48
    B_law_is_fit := b48
    m_law_is_fit := He.glo_ok X G (cA.fact 46 (f := .glo "_law_is_fit") rfl)
    F_law_sizes := F49
    B_law_sizes := b49
    m_law_sizes := He.glo_ok X G (cA.fact 47 (f := .glo "_law_sizes") rfl)
    F_law_step := F50
    B_law_step := b50
    m_law_step := He.glo_ok X G (cA.fact 48 (f := .glo "_law_step") rfl)
    F_law_scaled := F51
    B_law_scaled := b51
    m_law_scaled := He.glo_ok X G (cA.fact 49 (f := .glo "_law_scaled") rfl)
    F_law_marks := F52
    B_law_marks := b52
    m_law_marks := He.glo_ok X G (cA.fact 50 (f := .glo "_law_marks") rfl)
    F_law_number := F53
    B_law_number := b53
    m_law_number := He.glo_ok X G (cA.fact 51 (f := .glo "_law_number") rfl)
    F_law_range := F54
    B_law_range := b54
    m_law_range := He.glo_ok X G (cA.fact 52 (f := .glo "_law_range") rfl)
    F_law_atom := F55
    B_law_atom := b55
    m_law_atom := He.glo_ok X G (cA.fact 53 (f := .glo "_law_atom") rfl)
    F_law_tree := F56
    B_law_tree := b56
    m_law_tree := He.glo_ok X G (cA.fact 54 (f := .glo "_law_tree") rfl)
    F_law_set := F57
    B_law_set := b57
    m_law_set := He.glo_ok X G (cA.fact 55 (f := .glo "_law_set") rfl)
    F_law_atom_holds := F58
    B_law_atom_holds := b58
    m_law_atom_holds := He.glo_ok X G (cA.fact 56 (f := .glo "_law_atom_holds") rfl)
    F_law_holds := F59
    B_law_holds := b59
    m_law_holds := He.glo_ok X G (cA.fact 57 (f := .glo "_law_holds") rfl)
    F_law_rules := F60
    B_law_rules := b60
    m_law_rules := He.glo_ok X G (cA.fact 58 (f := .glo "_law_rules") rfl)
    F_law_period := F61
    B_law_period := b61
    m_law_period := He.glo_ok X G (cA.fact 59 (f := .glo "_law_period") rfl)
    F_law := F62
    B_law := b62
    m_law := He.glo_ok X G (cA.fact 60 (f := .glo "law") rfl)
    cl := He.cls_ok (cA.fact 81 (f := .cls "Rule") rfl)
    c_Rule := He.glo_ok X G (cA.fact 80 (f := .glo "Rule") rfl)
    mk_Rule := He.mkr_ok (cA.fact 82 (f := .mkr "Rule") rfl)
    na_base := He.noat_ok (cA.fact 83 (f := .noat "Rule" "_base") rfl)
    na_kind := He.noat_ok (cA.fact 84 (f := .noat "Rule" "_kind") rfl)
    na_mantissas := He.noat_ok (cA.fact 85 (f := .noat "Rule" "_mantissas") rfl)
    na_most := He.noat_ok (cA.fact 86 (f := .noat "Rule" "_most") rfl)
    na_dividing := He.noat_ok (cA.fact 87 (f := .noat "Rule" "_dividing") rfl)
    na_rungs := He.noat_ok (cA.fact 88 (f := .noat "Rule" "_rungs") rfl)
    ic := ⟨He.cls_ok (cA.fact 81 (f := .cls "Rule") rfl), He.eqO_ok (allB_at cX 20), He.eqO_ok (allB_at cX 24), of_decide_eq_true (allB_at cX 25), of_decide_eq_true (allB_at cX 21), by unfold PySem.W.kitOne; exact if_pos (beq_self_eq_true _)⟩
    cl2 := He.cls_ok (cA.fact 90 (f := .cls "RangeSet") rfl)
    c_RangeSet := He.glo_ok X G (cA.fact 89 (f := .glo "RangeSet") rfl)
    mk_RangeSet := He.mkr_ok (cA.fact 91 (f := .mkr "RangeSet") rfl)
    nb_base := He.noat_ok (cA.fact 92 (f := .noat "RangeSet" "_base") rfl)
    nb_formula := He.noat_ok (cA.fact 93 (f := .noat "RangeSet" "_formula") rfl)
    ic2 := ⟨He.cls_ok (cA.fact 90 (f := .cls "RangeSet") rfl), He.eqO_ok (allB_at cX 22), He.eqO_ok (allB_at cX 24), of_decide_eq_true (allB_at cX 25), of_decide_eq_true (allB_at cX 23), by unfold PySem.W.kitOne; exact if_pos (beq_self_eq_true _)⟩
    F_every := F68
    B_every := b68
    cr_every := ⟨(allB_at cX 27), He.eqO_ok (allB_at cX 28)⟩
    cm_every := He5.cmet_of (allB_at cX 29) (allB_at cX 30)
    sf2 := (allB_at cX 26)
    m_PARTS := He.glo_ok X G (cA.fact 95 (f := .glo "PARTS") rfl)
    kdP := tab 1 _ rfl
    pa_and := hasB_is (allB_at cX 31)
    pa_or := hasB_is (allB_at cX 32)
    pa_xor := hasB_is (allB_at cX 33)
    pa_counted := He.eqO_ok (allB_at cX 34)
    pa_taken := He.eqO_ok (allB_at cX 35)
    pa_coarser := He.eqO_ok (allB_at cX 36)
    pa_touched := He.eqO_ok (allB_at cX 37)
    m_LEAST_MOST := He.glo_ok X G (cA.fact 94 (f := .glo "LEAST_MOST") rfl)
    kd := tab 0 _ rfl
    kd_inside := intB_is (allB_at cX 38)
    kd_cover := intB_is (allB_at cX 39)
    kd_length := intB_is (allB_at cX 40) }
  obtain ⟨oc, od, kV, doc, pm, an, cdv, ct, osl, eF, _, _⟩ := F62.ex
  exact ⟨_, fun s v => .of_eq (by rw [show A.d_law = fd62 from rfl, eF]; rfl), fun base _ _ => ok_law (A := A) T⟩
end Ax

open PySem PySem.W PyProof.Rows in
set_option maxRecDepth 100000 in
set_option maxHeartbeats 0 in
theorem PySem.Challenge.cw_axisticks_k20_members_of_sets_holds : PySem.Challenge.rw_axisticks_k20_members_of_sets.Holds := by
  w_on; o_law
  refine HandSHeadRun.head_imp (r := Ax.rowK) (q := Ax.vwK) (H := Ax.hkK) (ob := Ax.obK) (M := 20000) (loose := Ax.nmK) (d := HandSHeadRun.topDef Ax.rowK.prog 104) (kwd := []) Ax.obK_is Ax.run_all
    (by kernel_rfl) (by kernel_rfl) (by kernel_rfl) (by rfl) (by first | assumption | decide +kernel) (by decide +kernel) ⟨rfl, rfl, rfl, rfl, rfl, by decide +kernel⟩ ?hw ?hc
  case hw => w_witness2
  case hc =>
    refine L2.walk_ofE (l := PySem.Challenge.rw_axisticks_k20_members_of_sets) (n := 63) (k := 20) (x := "_law_script") (CX := L2.CX0) rfl (by decide) (by kernel_rfl) ⟨rfl, by decide, by decide⟩ ?F (fun _ _ _ _ z => z)
    intro w mg fa h Y G hmg0
    obtain ⟨K, KX, c⟩ := Y
    have hmg : mg ("law" : PySem.Str) = some (.ref fa) := by
      have e : (HandSHeadRun.topDef Ax.rowK.prog 104).name = ("law" : PySem.Str) := by kernel_rfl
      rw [← e]
      exact hmg0
    obtain ⟨fd, hb, hF⟩ := Ax.all_mk (l := PySem.Challenge.rw_axisticks_k20_members_of_sets) KX G hmg c
    exact ⟨K, fd, Ax.spLaw K, KX, hb, fun H a ns hl _ hS => ⟨a, ns, rfl, hS, hl, fun _ => rfl⟩, hF⟩


