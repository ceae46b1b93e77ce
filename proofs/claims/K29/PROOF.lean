import PyProof.Rows.All
import Wide.All
import OpenK.AllK
import Wide.FinOn
import HandS.ClsMeth
import HandS.Defaults
import HandS.ForMost
import HandS.IsInst
import HandS.Wide
import HandS.WideBits
import HandS.More
import HandS.NoneIn
import HandS.SortKw
import HandS.Zip
import HandS.Property
import HandS.Codes
import HandS.Head0
import HandS.Head1
import HandS.Head2
import HandS.Head3
import HandS.HeadEnd
import HandS.HeadHook1
import HandS.HeadHook2
import HandS.HeadHook3
import HandS.HeadNt
import KE.KStateDown
import KE.KMinBuiltin
import HandS.Walk
import HandS.Evl
import HandS.DictComp
import HandS.Conv
import HandS.Iter
import KE.KDictKeyed
import KE.KDictCopyH
import HandS.Gcd
import KE.KMathGC
import HandS.OwnEq
import PyProof.InstNe
import OpenK.KMeth
import HandS.CallLocal
import PyProof.ReprRoads
import HandS.Text
import KE.KSortKeyAny
import PySem.Challenge.RW_axisticks_k29_whole_ranges_parted_by_rul
set_option Elab.async false
set_option linter.all false
set_option maxRecDepth 100000
set_option maxHeartbeats 4000000
/-! # The program's defs, one promise each. -/
namespace Ax
open PySem L2
def top (i : Nat) : Stmt := PySem.Challenge.pw_axisticks_k29_whole_ranges_parted_by_rul.main.body.getD i (.Pass ⟨0, 0, 0, 0⟩)
abbrev s_is_whole : Stmt := top 3
abbrev s_is_base : Stmt := top 4
abbrev s_is_span : Stmt := top 5
abbrev s_power_of : Stmt := top 15
abbrev s_log_of : Stmt := top 16
abbrev s_measure : Stmt := top 18
abbrev s_reach : Stmt := top 19
abbrev s_never_fits : Stmt := top 20
abbrev s_always_fits : Stmt := top 21
abbrev s_rungs_of : Stmt := top 23
abbrev s_step_at : Stmt := top 24
abbrev s_low_rung : Stmt := top 25
abbrev s_candidates : Stmt := top 26
abbrev s_kind_and_most_fit : Stmt := top 29
abbrev s_mantissas_fit : Stmt := top 30
abbrev s_arguments_fit : Stmt := top 31
abbrev s_is_dividing : Stmt := top 32
abbrev s_Rule_init : Stmt := inClass (top 33) 0
abbrev s_Rule___eq__ : Stmt := inClass (top 33) 6
abbrev s_Rule_step : Stmt := inClass (top 33) 7
abbrev s_Rule_marks : Stmt := inClass (top 33) 8
abbrev s_Rule_count : Stmt := inClass (top 33) 9
abbrev s_Rule__fits : Stmt := inClass (top 33) 10
abbrev s_check_rule : Stmt := top 35
abbrev s_check_rules_of_one_base : Stmt := top 36
abbrev s_check_number : Stmt := top 37
abbrev s_comb_of : Stmt := top 39
abbrev s_residues : Stmt := top 40
abbrev s_fitting_mask : Stmt := top 41
abbrev s_counts_by_residue : Stmt := top 42
abbrev s_counted_mask : Stmt := top 43
abbrev s_touching_mask : Stmt := top 44
abbrev s_key_of : Stmt := top 48
abbrev s_rule_of : Stmt := top 49
abbrev s_keys_of : Stmt := top 50
abbrev s_compare_steps : Stmt := top 51
abbrev s_holds : Stmt := top 52
abbrev s_states : Stmt := top 53
abbrev s_mask_of : Stmt := top 54
abbrev s_statement_mask : Stmt := top 55
abbrev s_coarser_mask : Stmt := top 56
abbrev s_digits_of : Stmt := top 59
abbrev s_sized : Stmt := top 60
abbrev s_quartered : Stmt := top 61
abbrev s_row_of : Stmt := top 62
abbrev s_shares : Stmt := top 63
abbrev s_bounds : Stmt := top 64
abbrev s_counting : Stmt := top 65
abbrev s_lengths_of_rows : Stmt := top 66
abbrev s_has_members : Stmt := top 67
abbrev s_check_operand : Stmt := top 73
abbrev s_RangeSet_init : Stmt := inClass (top 74) 0
abbrev s_RangeSet___and__ : Stmt := inClass (top 74) 3
abbrev s_RangeSet___or__ : Stmt := inClass (top 74) 4
abbrev s_RangeSet___invert__ : Stmt := inClass (top 74) 7
abbrev s_RangeSet___le__ : Stmt := inClass (top 74) 8
abbrev s_RangeSet___eq__ : Stmt := inClass (top 74) 12
abbrev s_RangeSet___bool__ : Stmt := inClass (top 74) 13
abbrev s_counted : Stmt := top 75
abbrev s_taken : Stmt := top 76
abbrev s_is_factor : Stmt := top 77
abbrev s_coarser : Stmt := top 78
abbrev s_law_purse : Stmt := top 80
abbrev s_law_draw : Stmt := top 81
abbrev s_law_pick : Stmt := top 82
abbrev s_law_family : Stmt := top 83
abbrev s_law_rule : Stmt := top 84
abbrev s_law_made : Stmt := top 85
abbrev s_law_are_parts : Stmt := top 86
abbrev s_law : Stmt := top 87
abbrev s_Rule_base : Stmt := inClass (top 33) 1
abbrev s_Rule_kind : Stmt := inClass (top 33) 2
abbrev s_Rule_most : Stmt := inClass (top 33) 4
abbrev s_Rule_mantissas : Stmt := inClass (top 33) 3
abbrev s_RangeSet_base : Stmt := inClass (top 74) 2
abbrev s_RangeSet_every : Stmt := inClass (top 74) 1
/-- what stands of a class with an own == and no own != -/
def NeC (K : PySem.W.Frag) (C f : Addr) : Prop := ∃ nm q N bs hd sn sub ab co dd k0 k1 k2 k3 k5, K.lookup C = some (PySem.excClassObj nm q C N bs [.type "object"] hd sn sub ab co dd k0 k1 k2 k3 k5 "object.__new__") ∧ PySem.W.nsOkIn K N = true ∧ PySem.W.nsIn K N "__eq__" = some (some (.ref f)) ∧ PySem.W.nsIn K N "__ne__" = some none
structure Adr where
  a_is_whole : Addr
  d_is_whole : FuncData
  a_is_base : Addr
  d_is_base : FuncData
  a_is_span : Addr
  d_is_span : FuncData
  a_power_of : Addr
  d_power_of : FuncData
  a_log_of : Addr
  d_log_of : FuncData
  a_measure : Addr
  d_measure : FuncData
  a_reach : Addr
  d_reach : FuncData
  a_never_fits : Addr
  d_never_fits : FuncData
  a_always_fits : Addr
  d_always_fits : FuncData
  a_rungs_of : Addr
  d_rungs_of : FuncData
  a_step_at : Addr
  d_step_at : FuncData
  a_low_rung : Addr
  d_low_rung : FuncData
  a_candidates : Addr
  d_candidates : FuncData
  a_kind_and_most_fit : Addr
  d_kind_and_most_fit : FuncData
  a_mantissas_fit : Addr
  d_mantissas_fit : FuncData
  a_arguments_fit : Addr
  d_arguments_fit : FuncData
  a_is_dividing : Addr
  d_is_dividing : FuncData
  a_Rule_init : Addr
  d_Rule_init : FuncData
  a_Rule___eq__ : Addr
  d_Rule___eq__ : FuncData
  a_Rule_step : Addr
  d_Rule_step : FuncData
  a_Rule_marks : Addr
  d_Rule_marks : FuncData
  a_Rule_count : Addr
  d_Rule_count : FuncData
  a_Rule__fits : Addr
  d_Rule__fits : FuncData
  a_check_rule : Addr
  d_check_rule : FuncData
  a_check_rules_of_one_base : Addr
  d_check_rules_of_one_base : FuncData
  a_check_number : Addr
  d_check_number : FuncData
  a_comb_of : Addr
  d_comb_of : FuncData
  a_residues : Addr
  d_residues : FuncData
  a_fitting_mask : Addr
  d_fitting_mask : FuncData
  a_counts_by_residue : Addr
  d_counts_by_residue : FuncData
  a_counted_mask : Addr
  d_counted_mask : FuncData
  a_touching_mask : Addr
  d_touching_mask : FuncData
  a_key_of : Addr
  d_key_of : FuncData
  a_rule_of : Addr
  d_rule_of : FuncData
  a_keys_of : Addr
  d_keys_of : FuncData
  a_compare_steps : Addr
  d_compare_steps : FuncData
  a_holds : Addr
  d_holds : FuncData
  a_states : Addr
  d_states : FuncData
  a_mask_of : Addr
  d_mask_of : FuncData
  a_statement_mask : Addr
  d_statement_mask : FuncData
  a_coarser_mask : Addr
  d_coarser_mask : FuncData
  a_digits_of : Addr
  d_digits_of : FuncData
  a_sized : Addr
  d_sized : FuncData
  a_quartered : Addr
  d_quartered : FuncData
  a_row_of : Addr
  d_row_of : FuncData
  a_shares : Addr
  d_shares : FuncData
  a_bounds : Addr
  d_bounds : FuncData
  a_counting : Addr
  d_counting : FuncData
  a_lengths_of_rows : Addr
  d_lengths_of_rows : FuncData
  a_has_members : Addr
  d_has_members : FuncData
  a_check_operand : Addr
  d_check_operand : FuncData
  a_RangeSet_init : Addr
  d_RangeSet_init : FuncData
  a_RangeSet___and__ : Addr
  d_RangeSet___and__ : FuncData
  a_RangeSet___or__ : Addr
  d_RangeSet___or__ : FuncData
  a_RangeSet___invert__ : Addr
  d_RangeSet___invert__ : FuncData
  a_RangeSet___le__ : Addr
  d_RangeSet___le__ : FuncData
  a_RangeSet___eq__ : Addr
  d_RangeSet___eq__ : FuncData
  a_RangeSet___bool__ : Addr
  d_RangeSet___bool__ : FuncData
  a_counted : Addr
  d_counted : FuncData
  dv_counted : V
  a_taken : Addr
  d_taken : FuncData
  a_is_factor : Addr
  d_is_factor : FuncData
  a_coarser : Addr
  d_coarser : FuncData
  dv_coarser : V
  a_law_purse : Addr
  d_law_purse : FuncData
  a_law_draw : Addr
  d_law_draw : FuncData
  a_law_pick : Addr
  d_law_pick : FuncData
  a_law_family : Addr
  d_law_family : FuncData
  a_law_rule : Addr
  d_law_rule : FuncData
  a_law_made : Addr
  d_law_made : FuncData
  a_law_are_parts : Addr
  d_law_are_parts : FuncData
  a_law : Addr
  d_law : FuncData
  a_Rule_base : Addr
  d_Rule_base : FuncData
  p_Rule_base : Addr
  a_Rule_kind : Addr
  d_Rule_kind : FuncData
  p_Rule_kind : Addr
  a_Rule_most : Addr
  d_Rule_most : FuncData
  p_Rule_most : Addr
  a_Rule_mantissas : Addr
  d_Rule_mantissas : FuncData
  p_Rule_mantissas : Addr
  a_RangeSet_base : Addr
  d_RangeSet_base : FuncData
  p_RangeSet_base : Addr
  a_every : Addr
  d_every : FuncData
  p_every : Addr
  c_Rule : Addr
  c_RangeSet : Addr
  a_LEAST : Addr
  a_PARTS : Addr
  a_KEYS : Addr

structure Txt (K : PySem.W.Frag) (mg : Str → Option Value) (A : Adr) (w : World) : Prop where
  n_len : mg "len" = none
  n_isinstance : mg "isinstance" = none
  n_all : mg "all" = none
  n_int : mg "int" = none
  n_bool : mg "bool" = none
  n_str : mg "str" = none
  n_tuple : mg "tuple" = none
  n_list : mg "list" = none
  n_range : mg "range" = none
  n_reversed : mg "reversed" = none
  n_zip : mg "zip" = none
  n_max : mg "max" = none
  n_min : mg "min" = none
  n_abs : mg "abs" = none
  n_sorted : mg "sorted" = none
  n_set : mg "set" = none
  n_divmod : mg "divmod" = none
  n_repr : mg "repr" = none
  n_enumerate : mg "enumerate" = none
  F_is_whole : Fun K "is_whole" "is_whole" s_is_whole A.a_is_whole A.d_is_whole
  B_is_whole : Binds K A.d_is_whole ["value"] []
  m_is_whole : mg "is_whole" = some (.ref A.a_is_whole)
  F_is_base : Fun K "is_base" "is_base" s_is_base A.a_is_base A.d_is_base
  B_is_base : Binds K A.d_is_base ["value"] []
  m_is_base : mg "is_base" = some (.ref A.a_is_base)
  F_is_span : Fun K "is_span" "is_span" s_is_span A.a_is_span A.d_is_span
  B_is_span : Binds K A.d_is_span ["value"] []
  m_is_span : mg "is_span" = some (.ref A.a_is_span)
  F_power_of : Fun K "power_of" "power_of" s_power_of A.a_power_of A.d_power_of
  B_power_of : Binds K A.d_power_of ["base", "exponent"] []
  m_power_of : mg "power_of" = some (.ref A.a_power_of)
  F_log_of : Fun K "log_of" "log_of" s_log_of A.a_log_of A.d_log_of
  B_log_of : Binds K A.d_log_of ["base", "number"] []
  m_log_of : mg "log_of" = some (.ref A.a_log_of)
  F_measure : Fun K "measure" "measure" s_measure A.a_measure A.d_measure
  B_measure : Binds K A.d_measure ["base", "step", "digits"] []
  m_measure : mg "measure" = some (.ref A.a_measure)
  F_reach : Fun K "reach" "reach" s_reach A.a_reach A.d_reach
  B_reach : Binds K A.d_reach ["kind", "most", "low", "size"] []
  m_reach : mg "reach" = some (.ref A.a_reach)
  F_never_fits : Fun K "never_fits" "never_fits" s_never_fits A.a_never_fits A.d_never_fits
  B_never_fits : Binds K A.d_never_fits ["kind", "most", "size", "length"] []
  m_never_fits : mg "never_fits" = some (.ref A.a_never_fits)
  F_always_fits : Fun K "always_fits" "always_fits" s_always_fits A.a_always_fits A.d_always_fits
  B_always_fits : Binds K A.d_always_fits ["kind", "most", "size", "length"] []
  m_always_fits : mg "always_fits" = some (.ref A.a_always_fits)
  F_rungs_of : Fun K "rungs_of" "rungs_of" s_rungs_of A.a_rungs_of A.d_rungs_of
  B_rungs_of : Binds K A.d_rungs_of ["base", "mantissas"] []
  m_rungs_of : mg "rungs_of" = some (.ref A.a_rungs_of)
  F_step_at : Fun K "step_at" "step_at" s_step_at A.a_step_at A.d_step_at
  B_step_at : Binds K A.d_step_at ["rungs", "number"] []
  m_step_at : mg "step_at" = some (.ref A.a_step_at)
  F_low_rung : Fun K "low_rung" "low_rung" s_low_rung A.a_low_rung A.d_low_rung
  B_low_rung : Binds K A.d_low_rung ["base", "rungs", "most", "length", "digits"] []
  m_low_rung : mg "low_rung" = some (.ref A.a_low_rung)
  F_candidates : Fun K "candidates" "candidates" s_candidates A.a_candidates A.d_candidates
  B_candidates : Binds K A.d_candidates ["base", "key", "least", "greatest"] []
  m_candidates : mg "candidates" = some (.ref A.a_candidates)
  F_kind_and_most_fit : Fun K "_kind_and_most_fit" "_kind_and_most_fit" s_kind_and_most_fit A.a_kind_and_most_fit A.d_kind_and_most_fit
  B_kind_and_most_fit : Binds K A.d_kind_and_most_fit ["kind", "most"] []
  m_kind_and_most_fit : mg "_kind_and_most_fit" = some (.ref A.a_kind_and_most_fit)
  F_mantissas_fit : Fun K "_mantissas_fit" "_mantissas_fit" s_mantissas_fit A.a_mantissas_fit A.d_mantissas_fit
  B_mantissas_fit : Binds K A.d_mantissas_fit ["base", "mantissas"] []
  m_mantissas_fit : mg "_mantissas_fit" = some (.ref A.a_mantissas_fit)
  F_arguments_fit : Fun K "_arguments_fit" "_arguments_fit" s_arguments_fit A.a_arguments_fit A.d_arguments_fit
  B_arguments_fit : Binds K A.d_arguments_fit ["base", "kind", "mantissas", "most"] []
  m_arguments_fit : mg "_arguments_fit" = some (.ref A.a_arguments_fit)
  F_is_dividing : Fun K "_is_dividing" "_is_dividing" s_is_dividing A.a_is_dividing A.d_is_dividing
  B_is_dividing : Binds K A.d_is_dividing ["base", "rungs"] []
  m_is_dividing : mg "_is_dividing" = some (.ref A.a_is_dividing)
  F_Rule_init : Fun K "__init__" "Rule.__init__" s_Rule_init A.a_Rule_init A.d_Rule_init
  B_Rule_init : Binds K A.d_Rule_init ["self", "base", "kind", "mantissas", "most"] []
  F_Rule___eq__ : Fun K "__eq__" "Rule.__eq__" s_Rule___eq__ A.a_Rule___eq__ A.d_Rule___eq__
  B_Rule___eq__ : Binds K A.d_Rule___eq__ ["self", "other"] []
  t_Rule___eq__ : Meth K A.c_Rule "__eq__" A.a_Rule___eq__
  F_Rule_step : Fun K "step" "Rule.step" s_Rule_step A.a_Rule_step A.d_Rule_step
  B_Rule_step : Binds K A.d_Rule_step ["self", "span"] []
  t_Rule_step : Meth K A.c_Rule "step" A.a_Rule_step
  F_Rule_marks : Fun K "marks" "Rule.marks" s_Rule_marks A.a_Rule_marks A.d_Rule_marks
  B_Rule_marks : Binds K A.d_Rule_marks ["self", "span"] []
  t_Rule_marks : Meth K A.c_Rule "marks" A.a_Rule_marks
  F_Rule_count : Fun K "count" "Rule.count" s_Rule_count A.a_Rule_count A.d_Rule_count
  B_Rule_count : Binds K A.d_Rule_count ["self", "span"] []
  t_Rule_count : Meth K A.c_Rule "count" A.a_Rule_count
  F_Rule__fits : Fun K "_fits" "Rule._fits" s_Rule__fits A.a_Rule__fits A.d_Rule__fits
  B_Rule__fits : Binds K A.d_Rule__fits ["self", "step", "span"] []
  t_Rule__fits : Meth K A.c_Rule "_fits" A.a_Rule__fits
  F_check_rule : Fun K "check_rule" "check_rule" s_check_rule A.a_check_rule A.d_check_rule
  B_check_rule : Binds K A.d_check_rule ["rule"] []
  m_check_rule : mg "check_rule" = some (.ref A.a_check_rule)
  F_check_rules_of_one_base : Fun K "check_rules_of_one_base" "check_rules_of_one_base" s_check_rules_of_one_base A.a_check_rules_of_one_base A.d_check_rules_of_one_base
  B_check_rules_of_one_base : Binds K A.d_check_rules_of_one_base ["one", "other"] []
  m_check_rules_of_one_base : mg "check_rules_of_one_base" = some (.ref A.a_check_rules_of_one_base)
  F_check_number : Fun K "check_number" "check_number" s_check_number A.a_check_number A.d_check_number
  B_check_number : Binds K A.d_check_number ["number", "least"] []
  m_check_number : mg "check_number" = some (.ref A.a_check_number)
  F_comb_of : Fun K "comb_of" "comb_of" s_comb_of A.a_comb_of A.d_comb_of
  B_comb_of : Binds K A.d_comb_of ["size", "width"] []
  m_comb_of : mg "comb_of" = some (.ref A.a_comb_of)
  F_residues : Fun K "residues" "residues" s_residues A.a_residues A.d_residues
  B_residues : Binds K A.d_residues ["comb", "first", "past"] []
  m_residues : mg "residues" = some (.ref A.a_residues)
  F_fitting_mask : Fun K "fitting_mask" "fitting_mask" s_fitting_mask A.a_fitting_mask A.d_fitting_mask
  B_fitting_mask : Binds K A.d_fitting_mask ["kind", "most", "size", "comb", "length"] []
  m_fitting_mask : mg "fitting_mask" = some (.ref A.a_fitting_mask)
  F_counts_by_residue : Fun K "counts_by_residue" "counts_by_residue" s_counts_by_residue A.a_counts_by_residue A.d_counts_by_residue
  B_counts_by_residue : Binds K A.d_counts_by_residue ["kind", "size", "length"] []
  m_counts_by_residue : mg "counts_by_residue" = some (.ref A.a_counts_by_residue)
  F_counted_mask : Fun K "counted_mask" "counted_mask" s_counted_mask A.a_counted_mask A.d_counted_mask
  B_counted_mask : Binds K A.d_counted_mask ["kind", "size", "comb", "length", "least", "most"] []
  m_counted_mask : mg "counted_mask" = some (.ref A.a_counted_mask)
  F_touching_mask : Fun K "touching_mask" "touching_mask" s_touching_mask A.a_touching_mask A.d_touching_mask
  B_touching_mask : Binds K A.d_touching_mask ["size", "comb", "length", "end"] []
  m_touching_mask : mg "touching_mask" = some (.ref A.a_touching_mask)
  F_key_of : Fun K "key_of" "key_of" s_key_of A.a_key_of A.d_key_of
  B_key_of : Binds K A.d_key_of ["rule"] []
  m_key_of : mg "key_of" = some (.ref A.a_key_of)
  F_rule_of : Fun K "rule_of" "rule_of" s_rule_of A.a_rule_of A.d_rule_of
  B_rule_of : Binds K A.d_rule_of ["base", "key"] []
  m_rule_of : mg "rule_of" = some (.ref A.a_rule_of)
  F_keys_of : Fun K "keys_of" "keys_of" s_keys_of A.a_keys_of A.d_keys_of
  B_keys_of : Binds K A.d_keys_of ["formula"] []
  m_keys_of : mg "keys_of" = some (.ref A.a_keys_of)
  F_compare_steps : Fun K "compare_steps" "compare_steps" s_compare_steps A.a_compare_steps A.d_compare_steps
  B_compare_steps : Binds K A.d_compare_steps ["base", "one", "other"] []
  m_compare_steps : mg "compare_steps" = some (.ref A.a_compare_steps)
  F_holds : Fun K "holds" "holds" s_holds A.a_holds A.d_holds
  B_holds : Binds K A.d_holds ["base", "formula", "span"] []
  m_holds : mg "holds" = some (.ref A.a_holds)
  F_states : Fun K "_states" "_states" s_states A.a_states A.d_states
  B_states : Binds K A.d_states ["base", "formula", "span"] []
  m_states : mg "_states" = some (.ref A.a_states)
  F_mask_of : Fun K "mask_of" "mask_of" s_mask_of A.a_mask_of A.d_mask_of
  B_mask_of : Binds K A.d_mask_of ["formula", "row"] []
  m_mask_of : mg "mask_of" = some (.ref A.a_mask_of)
  F_statement_mask : Fun K "_statement_mask" "_statement_mask" s_statement_mask A.a_statement_mask A.d_statement_mask
  B_statement_mask : Binds K A.d_statement_mask ["formula", "row"] []
  m_statement_mask : mg "_statement_mask" = some (.ref A.a_statement_mask)
  F_coarser_mask : Fun K "_coarser_mask" "_coarser_mask" s_coarser_mask A.a_coarser_mask A.d_coarser_mask
  B_coarser_mask : Binds K A.d_coarser_mask ["formula", "row"] []
  m_coarser_mask : mg "_coarser_mask" = some (.ref A.a_coarser_mask)
  F_digits_of : Fun K "digits_of" "digits_of" s_digits_of A.a_digits_of A.d_digits_of
  B_digits_of : Binds K A.d_digits_of ["ladders"] []
  m_digits_of : mg "digits_of" = some (.ref A.a_digits_of)
  F_sized : Fun K "sized" "sized" s_sized A.a_sized A.d_sized
  B_sized : Binds K A.d_sized ["base", "steps", "digits"] []
  m_sized : mg "sized" = some (.ref A.a_sized)
  F_quartered : Fun K "quartered" "quartered" s_quartered A.a_quartered A.d_quartered
  B_quartered : Binds K A.d_quartered ["ladders", "unit", "stride"] []
  m_quartered : mg "quartered" = some (.ref A.a_quartered)
  F_row_of : Fun K "row_of" "row_of" s_row_of A.a_row_of A.d_row_of
  B_row_of : Binds K A.d_row_of ["length", "width", "ladders"] []
  m_row_of : mg "row_of" = some (.ref A.a_row_of)
  F_shares : Fun K "_shares" "_shares" s_shares A.a_shares A.d_shares
  B_shares : Binds K A.d_shares ["key", "ladder", "length", "full"] []
  m_shares : mg "_shares" = some (.ref A.a_shares)
  F_bounds : Fun K "_bounds" "_bounds" s_bounds A.a_bounds A.d_bounds
  B_bounds : Binds K A.d_bounds ["base", "ladders", "digits"] []
  m_bounds : mg "_bounds" = some (.ref A.a_bounds)
  F_counting : Fun K "_counting" "_counting" s_counting A.a_counting A.d_counting
  B_counting : Binds K A.d_counting ["key", "steps", "first", "past"] []
  m_counting : mg "_counting" = some (.ref A.a_counting)
  F_lengths_of_rows : Fun K "lengths_of_rows" "lengths_of_rows" s_lengths_of_rows A.a_lengths_of_rows A.d_lengths_of_rows
  B_lengths_of_rows : Binds K A.d_lengths_of_rows ["base", "keys"] []
  m_lengths_of_rows : mg "lengths_of_rows" = some (.ref A.a_lengths_of_rows)
  F_has_members : Fun K "has_members" "has_members" s_has_members A.a_has_members A.d_has_members
  B_has_members : Binds K A.d_has_members ["base", "formula"] []
  m_has_members : mg "has_members" = some (.ref A.a_has_members)
  F_check_operand : Fun K "_check_operand" "_check_operand" s_check_operand A.a_check_operand A.d_check_operand
  B_check_operand : Binds K A.d_check_operand ["left", "right"] []
  m_check_operand : mg "_check_operand" = some (.ref A.a_check_operand)
  F_RangeSet_init : Fun K "__init__" "RangeSet.__init__" s_RangeSet_init A.a_RangeSet_init A.d_RangeSet_init
  B_RangeSet_init : Binds K A.d_RangeSet_init ["self", "base", "formula"] []
  F_RangeSet___and__ : Fun K "__and__" "RangeSet.__and__" s_RangeSet___and__ A.a_RangeSet___and__ A.d_RangeSet___and__
  B_RangeSet___and__ : Binds K A.d_RangeSet___and__ ["self", "other"] []
  t_RangeSet___and__ : Meth K A.c_RangeSet "__and__" A.a_RangeSet___and__
  F_RangeSet___or__ : Fun K "__or__" "RangeSet.__or__" s_RangeSet___or__ A.a_RangeSet___or__ A.d_RangeSet___or__
  B_RangeSet___or__ : Binds K A.d_RangeSet___or__ ["self", "other"] []
  t_RangeSet___or__ : Meth K A.c_RangeSet "__or__" A.a_RangeSet___or__
  F_RangeSet___invert__ : Fun K "__invert__" "RangeSet.__invert__" s_RangeSet___invert__ A.a_RangeSet___invert__ A.d_RangeSet___invert__
  B_RangeSet___invert__ : Binds K A.d_RangeSet___invert__ ["self"] []
  t_RangeSet___invert__ : Meth K A.c_RangeSet "__invert__" A.a_RangeSet___invert__
  F_RangeSet___le__ : Fun K "__le__" "RangeSet.__le__" s_RangeSet___le__ A.a_RangeSet___le__ A.d_RangeSet___le__
  B_RangeSet___le__ : Binds K A.d_RangeSet___le__ ["self", "other"] []
  t_RangeSet___le__ : Meth K A.c_RangeSet "__le__" A.a_RangeSet___le__
  F_RangeSet___eq__ : Fun K "__eq__" "RangeSet.__eq__" s_RangeSet___eq__ A.a_RangeSet___eq__ A.d_RangeSet___eq__
  B_RangeSet___eq__ : Binds K A.d_RangeSet___eq__ ["self", "other"] []
  t_RangeSet___eq__ : Meth K A.c_RangeSet "__eq__" A.a_RangeSet___eq__
  F_RangeSet___bool__ : Fun K "__bool__" "RangeSet.__bool__" s_RangeSet___bool__ A.a_RangeSet___bool__ A.d_RangeSet___bool__
  B_RangeSet___bool__ : Binds K A.d_RangeSet___bool__ ["self"] []
  t_RangeSet___bool__ : Meth K A.c_RangeSet "__bool__" A.a_RangeSet___bool__
  F_counted : FunD K "counted" "counted" (defArgs s_counted) (defBody s_counted) (defScope s_counted) [A.dv_counted] [] A.a_counted A.d_counted
  B_counted : Binds K A.d_counted ["rule", "least", "most"] []
  B1_counted : ∃ ds, Vals [A.dv_counted] ds ∧ Binds K A.d_counted ["rule", "least", "most"] ds
  df_counted : A.dv_counted = .non
  m_counted : mg "counted" = some (.ref A.a_counted)
  F_taken : Fun K "taken" "taken" s_taken A.a_taken A.d_taken
  B_taken : Binds K A.d_taken ["rule", "mantissa"] []
  m_taken : mg "taken" = some (.ref A.a_taken)
  F_is_factor : Fun K "_is_factor" "_is_factor" s_is_factor A.a_is_factor A.d_is_factor
  B_is_factor : Binds K A.d_is_factor ["times"] []
  m_is_factor : mg "_is_factor" = some (.ref A.a_is_factor)
  F_coarser : FunD K "coarser" "coarser" (defArgs s_coarser) (defBody s_coarser) (defScope s_coarser) [A.dv_coarser] [] A.a_coarser A.d_coarser
  B_coarser : Binds K A.d_coarser ["one", "other", "times"] []
  B1_coarser : ∃ ds, Vals [A.dv_coarser] ds ∧ Binds K A.d_coarser ["one", "other", "times"] ds
  df_coarser : ∃ t, A.dv_coarser = .ref t ∧ ∃ (o : Obj) (its : Array Value) (n : Nat), K.lookup t = some o ∧ o.cls = .type "tuple" ∧ o.data = .seq its n ∧ its.size ≤ sizeLine ∧ Vals [.int 1, .int 1] its.toList
  m_coarser : mg "coarser" = some (.ref A.a_coarser)
  F_law_purse : Fun K "_law_purse" "_law_purse" s_law_purse A.a_law_purse A.d_law_purse
  B_law_purse : Binds K A.d_law_purse ["_law_script", "_law_at"] []
  m_law_purse : mg "_law_purse" = some (.ref A.a_law_purse)
  F_law_draw : Fun K "_law_draw" "_law_draw" s_law_draw A.a_law_draw A.d_law_draw
  B_law_draw : Binds K A.d_law_draw ["_law_purse_here", "_law_many"] []
  m_law_draw : mg "_law_draw" = some (.ref A.a_law_draw)
  F_law_pick : Fun K "_law_pick" "_law_pick" s_law_pick A.a_law_pick A.d_law_pick
  B_law_pick : Binds K A.d_law_pick ["_law_purse_here", "_law_items"] []
  m_law_pick : mg "_law_pick" = some (.ref A.a_law_pick)
  F_law_family : Fun K "_law_family" "_law_family" s_law_family A.a_law_family A.d_law_family
  B_law_family : Binds K A.d_law_family ["_law_purse_here"] []
  m_law_family : mg "_law_family" = some (.ref A.a_law_family)
  F_law_rule : Fun K "_law_rule" "_law_rule" s_law_rule A.a_law_rule A.d_law_rule
  B_law_rule : Binds K A.d_law_rule ["_law_purse_here", "_law_family_here"] []
  m_law_rule : mg "_law_rule" = some (.ref A.a_law_rule)
  F_law_made : Fun K "_law_made" "_law_made" s_law_made A.a_law_made A.d_law_made
  B_law_made : Binds K A.d_law_made ["_law_rule_here"] []
  m_law_made : mg "_law_made" = some (.ref A.a_law_made)
  F_law_are_parts : Fun K "_law_are_parts" "_law_are_parts" s_law_are_parts A.a_law_are_parts A.d_law_are_parts
  B_law_are_parts : Binds K A.d_law_are_parts ["_law_parts", "_law_every"] []
  m_law_are_parts : mg "_law_are_parts" = some (.ref A.a_law_are_parts)
  F_law : Fun K "law" "law" s_law A.a_law A.d_law
  B_law : Binds K A.d_law ["_law_script"] []
  m_law : mg "law" = some (.ref A.a_law)
  F_Rule_base : Fun K "base" "Rule.base" s_Rule_base A.a_Rule_base A.d_Rule_base
  B_Rule_base : Binds K A.d_Rule_base ["self"] []
  pr_Rule_base : PropOf K A.c_Rule "base" A.p_Rule_base A.a_Rule_base
  F_Rule_kind : Fun K "kind" "Rule.kind" s_Rule_kind A.a_Rule_kind A.d_Rule_kind
  B_Rule_kind : Binds K A.d_Rule_kind ["self"] []
  pr_Rule_kind : PropOf K A.c_Rule "kind" A.p_Rule_kind A.a_Rule_kind
  F_Rule_most : Fun K "most" "Rule.most" s_Rule_most A.a_Rule_most A.d_Rule_most
  B_Rule_most : Binds K A.d_Rule_most ["self"] []
  pr_Rule_most : PropOf K A.c_Rule "most" A.p_Rule_most A.a_Rule_most
  F_Rule_mantissas : Fun K "mantissas" "Rule.mantissas" s_Rule_mantissas A.a_Rule_mantissas A.d_Rule_mantissas
  B_Rule_mantissas : Binds K A.d_Rule_mantissas ["self"] []
  pr_Rule_mantissas : PropOf K A.c_Rule "mantissas" A.p_Rule_mantissas A.a_Rule_mantissas
  F_RangeSet_base : Fun K "base" "RangeSet.base" s_RangeSet_base A.a_RangeSet_base A.d_RangeSet_base
  B_RangeSet_base : Binds K A.d_RangeSet_base ["self"] []
  pr_RangeSet_base : PropOf K A.c_RangeSet "base" A.p_RangeSet_base A.a_RangeSet_base
  F_every : Fun K "every" "RangeSet.every" s_RangeSet_every A.a_every A.d_every
  B_every : Binds K A.d_every ["cls", "base"] []
  cr_every : ClX.CRead K A.c_RangeSet (.type "type")
  cm_every : ClX.CMet K A.c_RangeSet (.type "type") "every" A.p_every A.a_every
  cl : Cls K A.c_Rule
  c_Rule : mg "Rule" = some (.ref A.c_Rule)
  mk_Rule : Mk K A.c_Rule A.a_Rule_init
  na_base : NoAttr K A.c_Rule "_base"
  na_kind : NoAttr K A.c_Rule "_kind"
  na_mantissas : NoAttr K A.c_Rule "_mantissas"
  na_most : NoAttr K A.c_Rule "_most"
  na_dividing : NoAttr K A.c_Rule "_dividing"
  na_rungs : NoAttr K A.c_Rule "_rungs"
  ic : C8.InsC K A.c_Rule
  cl2 : Cls K A.c_RangeSet
  c_RangeSet : mg "RangeSet" = some (.ref A.c_RangeSet)
  mk_RangeSet : Mk K A.c_RangeSet A.a_RangeSet_init
  nb_base : NoAttr K A.c_RangeSet "_base"
  nb_formula : NoAttr K A.c_RangeSet "_formula"
  sf2 : PySem.W.selfFirst K A.c_RangeSet = true
  ic2 : C8.InsC K A.c_RangeSet
  ne_RangeSet : NeC K A.c_RangeSet A.a_RangeSet___eq__
  g_gcd : mg "gcd" = some (.builtin "math.gcd")
  g_lcm : mg "lcm" = some (.builtin "math.lcm")
  m_UNIT : ∃ t, mg "UNIT" = some (.int 4 t)
  m_KEYS : mg "KEYS" = some (.ref A.a_KEYS)
  kdK : ∃ es n, KDict K w A.a_KEYS es n
  ky_counted : ∃ t, PySem.W.nsIn K A.a_KEYS "counted" = some (some (.int 1 t))
  ky_taken : ∃ t, PySem.W.nsIn K A.a_KEYS "taken" = some (some (.int 1 t))
  ky_coarser : ∃ t, PySem.W.nsIn K A.a_KEYS "coarser" = some (some (.int 2 t))
  ky_touched : ∃ t, PySem.W.nsIn K A.a_KEYS "touched" = some (some (.int 1 t))
  ky_all : PySem.W.nsIn K A.a_KEYS "all" = some none
  ky_not : PySem.W.nsIn K A.a_KEYS "not" = some none
  ky_and : PySem.W.nsIn K A.a_KEYS "and" = some none
  ky_or : PySem.W.nsIn K A.a_KEYS "or" = some none
  ky_xor : PySem.W.nsIn K A.a_KEYS "xor" = some none
  pt_all : ∃ t, PySem.W.nsIn K A.a_PARTS "all" = some (some (.int 0 t))
  pt_not : ∃ t, PySem.W.nsIn K A.a_PARTS "not" = some (some (.int 1 t))
  pt_and : ∃ t, PySem.W.nsIn K A.a_PARTS "and" = some (some (.int 2 t))
  pt_or : ∃ t, PySem.W.nsIn K A.a_PARTS "or" = some (some (.int 2 t))
  pt_xor : ∃ t, PySem.W.nsIn K A.a_PARTS "xor" = some (some (.int 2 t))
  m_LEAST_MOST : mg "LEAST_MOST" = some (.ref A.a_LEAST)
  kd : ∃ es n, KDict K w A.a_LEAST es n
  m_PARTS : mg "PARTS" = some (.ref A.a_PARTS)
  kdP : ∃ es n, KDict K w A.a_PARTS es n
  pa_and : ∃ v, PySem.W.nsIn K A.a_PARTS "and" = some (some v)
  pa_or : ∃ v, PySem.W.nsIn K A.a_PARTS "or" = some (some v)
  pa_xor : ∃ v, PySem.W.nsIn K A.a_PARTS "xor" = some (some v)
  pa_counted : PySem.W.nsIn K A.a_PARTS "counted" = some none
  pa_taken : PySem.W.nsIn K A.a_PARTS "taken" = some none
  pa_coarser : PySem.W.nsIn K A.a_PARTS "coarser" = some none
  pa_touched : PySem.W.nsIn K A.a_PARTS "touched" = some none
  kd_inside : ∃ t, PySem.W.nsIn K A.a_LEAST "inside" = some (some (.int 1 t))
  kd_cover : ∃ t, PySem.W.nsIn K A.a_LEAST "cover" = some (some (.int 2 t))
  kd_length : ∃ t, PySem.W.nsIn K A.a_LEAST "length" = some (some (.int 1 t))

section
variable {P : Program} {w : World} {K : PySem.W.Frag} {mg : Str → Option Value} {base : Heap} {A : Adr}
/-! ### is_whole -/
/-- any value of a known kind -/
def spWhole (K : PySem.W.Frag) : Sp := fun vs H Q _ => ∃ (v : V) (t : Value) (b1 b2 : Bool), vs = [v] ∧ TyX K H v t ∧ PySem.W.kitOne K t (.type "int") = some b1 ∧ (b1 = true → PySem.W.kitOne K t (.type "bool") = some b2) ∧ Q (.bl (b1 && !b2)) H
abbrev nm_is_whole : List Str := ["value"]
theorem sc_is_whole : FnScope ["value"] ["value"] (defScope s_is_whole) := ⟨rfl, rfl, rfl, by decide +kernel, rfl, by decide +kernel, by decide +kernel⟩
theorem ok_is_whole (T : Txt K mg A w) : FnOk P w K mg base CX0 1 A.a_is_whole A.d_is_whole ["value"] (spWhole K) := by
  refine T.F_is_whole.ok sc_is_whole (fun vs H Q E h => ?_) (fun cdv A0 outer s H vs Q E hr h => ?_)
  · obtain ⟨v, t, b1, b2, rfl, _⟩ := h
    rfl
  · obtain ⟨v, t, b1, b2, rfl, ty, h1, h2, q⟩ := h
    refine ⟨_, (pss_one (ps_ret (pe_and (pe_callB call_isi (by rfl) T.n_isinstance (by decide +kernel) (pa_cons (pv 0) (pa_cons (pe_bltn (v := .ty "int") (by rfl) T.n_int (by decide +kernel) rfl) pa_nil))) (pe_one (pe_not (pe_callB call_isi (by rfl) T.n_isinstance (by decide +kernel) (pa_cons (pv 0) (pa_cons (pe_bltn (v := .ty "bool") (by rfl) T.n_bool (by decide +kernel) rfl) pa_nil)))))))), ?_⟩
    refine ⟨v, rfl, v, .ty "int", t, .type "int", b1, rfl, .ty _, ty, h1, b1, rfl, ?_⟩
    cases b1 with
    | false => exact iteF q
    | true => exact iteT ⟨v, rfl, v, .ty "bool", t, .type "bool", b2, rfl, .ty _, ty, h2 rfl, b2, rfl, q⟩
theorem sp_whole_int {H : Hp} {n : Int} {Q : VK} {E : XK} (q : Q (.bl true) H) : spWhole K [.int n] H Q E :=
  ⟨.int n, .type "int", true, false, rfl, .base (.int n), kit_ty (by decide +kernel), fun _ => kit_ty (by decide +kernel), q⟩
end
end Ax

noncomputable section
namespace Ax
open PySem PySem.Spec PyProof.Rows L2
/-! ### the head by one run -/
def asK0 : List Addr := [3,
  2,
  6,
  48,
  49,
  55,
  56,
  62,
  63,
  67,
  68,
  77,
  78,
  79,
  95,
  96,
  98,
  99,
  115,
  116,
  118,
  119,
  135,
  136,
  138,
  139,
  155,
  156,
  158,
  159,
  175,
  176,
  178,
  179,
  195,
  196,
  198,
  199,
  207,
  208]
def asK1 : List Addr := [214,
  215,
  221,
  222,
  228,
  229,
  235,
  236,
  242,
  243,
  247,
  248,
  254,
  255,
  261,
  262,
  268,
  269,
  270,
  276,
  277,
  281,
  282,
  288,
  289,
  293,
  294,
  307,
  308,
  314,
  315,
  316,
  322,
  323,
  324,
  330,
  331,
  332,
  338,
  339]
def asK2 : List Addr := [340,
  346,
  347,
  348,
  354,
  355,
  361,
  362,
  368,
  369,
  375,
  376,
  382,
  383,
  385,
  386,
  387,
  388,
  396,
  397,
  403,
  404,
  410,
  411,
  417,
  418,
  424,
  425,
  431,
  432,
  438,
  439,
  445,
  446,
  452,
  453,
  454,
  455,
  461,
  462]
def asK3 : List Addr := [468,
  469,
  473,
  474,
  480,
  481,
  487,
  488,
  494,
  495,
  501,
  502,
  508,
  509,
  515,
  516,
  522,
  523,
  527,
  528,
  532,
  533,
  537,
  538,
  544,
  545,
  551,
  552,
  558,
  559,
  563,
  564,
  570,
  571,
  577,
  578,
  584,
  585,
  591,
  592]
def asK4 : List Addr := [598,
  599,
  612,
  613,
  619,
  620,
  621,
  622,
  623,
  629,
  630,
  631,
  637,
  638,
  644,
  645,
  651,
  652,
  658,
  659,
  665,
  666,
  672,
  673,
  679,
  680,
  686,
  687,
  693,
  694,
  700,
  701,
  707,
  708,
  714,
  715,
  721,
  722,
  728,
  729]
def asK5 : List Addr := [735,
  736,
  742,
  743,
  745,
  746,
  747,
  748,
  757,
  758,
  764,
  765,
  769,
  770,
  778,
  779,
  785,
  786,
  792,
  793,
  799,
  800,
  804,
  805,
  809,
  810,
  816,
  817,
  823,
  824,
  828,
  829,
  771,
  772,
  751,
  189,
  169,
  149,
  129,
  109]
def asK6 : List Addr := [89]
def asK : List Addr := asK0 ++ (asK1 ++ (asK2 ++ (asK3 ++ (asK4 ++ (asK5 ++ (asK6))))))
def dfK0 : List He5.DefA := [⟨fun K => He.fAd K ("is_whole", none), "is_whole", "is_whole", defArgs s_is_whole, defBody s_is_whole, defScope s_is_whole, [], []⟩,
  ⟨fun K => He.fAd K ("is_base", none), "is_base", "is_base", defArgs s_is_base, defBody s_is_base, defScope s_is_base, [], []⟩,
  ⟨fun K => He.fAd K ("is_span", none), "is_span", "is_span", defArgs s_is_span, defBody s_is_span, defScope s_is_span, [], []⟩,
  ⟨fun K => He.fAd K ("power_of", none), "power_of", "power_of", defArgs s_power_of, defBody s_power_of, defScope s_power_of, [], []⟩,
  ⟨fun K => He.fAd K ("log_of", none), "log_of", "log_of", defArgs s_log_of, defBody s_log_of, defScope s_log_of, [], []⟩,
  ⟨fun K => He.fAd K ("measure", none), "measure", "measure", defArgs s_measure, defBody s_measure, defScope s_measure, [], []⟩,
  ⟨fun K => He.fAd K ("reach", none), "reach", "reach", defArgs s_reach, defBody s_reach, defScope s_reach, [], []⟩,
  ⟨fun K => He.fAd K ("never_fits", none), "never_fits", "never_fits", defArgs s_never_fits, defBody s_never_fits, defScope s_never_fits, [], []⟩,
  ⟨fun K => He.fAd K ("always_fits", none), "always_fits", "always_fits", defArgs s_always_fits, defBody s_always_fits, defScope s_always_fits, [], []⟩,
  ⟨fun K => He.fAd K ("rungs_of", none), "rungs_of", "rungs_of", defArgs s_rungs_of, defBody s_rungs_of, defScope s_rungs_of, [], []⟩,
  ⟨fun K => He.fAd K ("step_at", none), "step_at", "step_at", defArgs s_step_at, defBody s_step_at, defScope s_step_at, [], []⟩,
  ⟨fun K => He.fAd K ("low_rung", none), "low_rung", "low_rung", defArgs s_low_rung, defBody s_low_rung, defScope s_low_rung, [], []⟩,
  ⟨fun K => He.fAd K ("candidates", none), "candidates", "candidates", defArgs s_candidates, defBody s_candidates, defScope s_candidates, [], []⟩,
  ⟨fun K => He.fAd K ("_kind_and_most_fit", none), "_kind_and_most_fit", "_kind_and_most_fit", defArgs s_kind_and_most_fit, defBody s_kind_and_most_fit, defScope s_kind_and_most_fit, [], []⟩,
  ⟨fun K => He.fAd K ("_mantissas_fit", none), "_mantissas_fit", "_mantissas_fit", defArgs s_mantissas_fit, defBody s_mantissas_fit, defScope s_mantissas_fit, [], []⟩,
  ⟨fun K => He.fAd K ("_arguments_fit", none), "_arguments_fit", "_arguments_fit", defArgs s_arguments_fit, defBody s_arguments_fit, defScope s_arguments_fit, [], []⟩,
  ⟨fun K => He.fAd K ("_is_dividing", none), "_is_dividing", "_is_dividing", defArgs s_is_dividing, defBody s_is_dividing, defScope s_is_dividing, [], []⟩,
  ⟨fun K => He.fAd K ("Rule", some "__init__"), "__init__", "Rule.__init__", defArgs s_Rule_init, defBody s_Rule_init, defScope s_Rule_init, [], []⟩,
  ⟨fun K => He.fAd K ("Rule", some "__eq__"), "__eq__", "Rule.__eq__", defArgs s_Rule___eq__, defBody s_Rule___eq__, defScope s_Rule___eq__, [], []⟩,
  ⟨fun K => He.fAd K ("Rule", some "step"), "step", "Rule.step", defArgs s_Rule_step, defBody s_Rule_step, defScope s_Rule_step, [], []⟩]
def dfK1 : List He5.DefA := [⟨fun K => He.fAd K ("Rule", some "marks"), "marks", "Rule.marks", defArgs s_Rule_marks, defBody s_Rule_marks, defScope s_Rule_marks, [], []⟩,
  ⟨fun K => He.fAd K ("Rule", some "count"), "count", "Rule.count", defArgs s_Rule_count, defBody s_Rule_count, defScope s_Rule_count, [], []⟩,
  ⟨fun K => He.fAd K ("Rule", some "_fits"), "_fits", "Rule._fits", defArgs s_Rule__fits, defBody s_Rule__fits, defScope s_Rule__fits, [], []⟩,
  ⟨fun K => He.fAd K ("check_rule", none), "check_rule", "check_rule", defArgs s_check_rule, defBody s_check_rule, defScope s_check_rule, [], []⟩,
  ⟨fun K => He.fAd K ("check_rules_of_one_base", none), "check_rules_of_one_base", "check_rules_of_one_base", defArgs s_check_rules_of_one_base, defBody s_check_rules_of_one_base, defScope s_check_rules_of_one_base, [], []⟩,
  ⟨fun K => He.fAd K ("check_number", none), "check_number", "check_number", defArgs s_check_number, defBody s_check_number, defScope s_check_number, [], []⟩,
  ⟨fun K => He.fAd K ("comb_of", none), "comb_of", "comb_of", defArgs s_comb_of, defBody s_comb_of, defScope s_comb_of, [], []⟩,
  ⟨fun K => He.fAd K ("residues", none), "residues", "residues", defArgs s_residues, defBody s_residues, defScope s_residues, [], []⟩,
  ⟨fun K => He.fAd K ("fitting_mask", none), "fitting_mask", "fitting_mask", defArgs s_fitting_mask, defBody s_fitting_mask, defScope s_fitting_mask, [], []⟩,
  ⟨fun K => He.fAd K ("counts_by_residue", none), "counts_by_residue", "counts_by_residue", defArgs s_counts_by_residue, defBody s_counts_by_residue, defScope s_counts_by_residue, [], []⟩,
  ⟨fun K => He.fAd K ("counted_mask", none), "counted_mask", "counted_mask", defArgs s_counted_mask, defBody s_counted_mask, defScope s_counted_mask, [], []⟩,
  ⟨fun K => He.fAd K ("touching_mask", none), "touching_mask", "touching_mask", defArgs s_touching_mask, defBody s_touching_mask, defScope s_touching_mask, [], []⟩,
  ⟨fun K => He.fAd K ("key_of", none), "key_of", "key_of", defArgs s_key_of, defBody s_key_of, defScope s_key_of, [], []⟩,
  ⟨fun K => He.fAd K ("rule_of", none), "rule_of", "rule_of", defArgs s_rule_of, defBody s_rule_of, defScope s_rule_of, [], []⟩,
  ⟨fun K => He.fAd K ("keys_of", none), "keys_of", "keys_of", defArgs s_keys_of, defBody s_keys_of, defScope s_keys_of, [], []⟩,
  ⟨fun K => He.fAd K ("compare_steps", none), "compare_steps", "compare_steps", defArgs s_compare_steps, defBody s_compare_steps, defScope s_compare_steps, [], []⟩,
  ⟨fun K => He.fAd K ("holds", none), "holds", "holds", defArgs s_holds, defBody s_holds, defScope s_holds, [], []⟩,
  ⟨fun K => He.fAd K ("_states", none), "_states", "_states", defArgs s_states, defBody s_states, defScope s_states, [], []⟩,
  ⟨fun K => He.fAd K ("mask_of", none), "mask_of", "mask_of", defArgs s_mask_of, defBody s_mask_of, defScope s_mask_of, [], []⟩,
  ⟨fun K => He.fAd K ("_statement_mask", none), "_statement_mask", "_statement_mask", defArgs s_statement_mask, defBody s_statement_mask, defScope s_statement_mask, [], []⟩]
def dfK2 : List He5.DefA := [⟨fun K => He.fAd K ("_coarser_mask", none), "_coarser_mask", "_coarser_mask", defArgs s_coarser_mask, defBody s_coarser_mask, defScope s_coarser_mask, [], []⟩,
  ⟨fun K => He.fAd K ("digits_of", none), "digits_of", "digits_of", defArgs s_digits_of, defBody s_digits_of, defScope s_digits_of, [], []⟩,
  ⟨fun K => He.fAd K ("sized", none), "sized", "sized", defArgs s_sized, defBody s_sized, defScope s_sized, [], []⟩,
  ⟨fun K => He.fAd K ("quartered", none), "quartered", "quartered", defArgs s_quartered, defBody s_quartered, defScope s_quartered, [], []⟩,
  ⟨fun K => He.fAd K ("row_of", none), "row_of", "row_of", defArgs s_row_of, defBody s_row_of, defScope s_row_of, [], []⟩,
  ⟨fun K => He.fAd K ("_shares", none), "_shares", "_shares", defArgs s_shares, defBody s_shares, defScope s_shares, [], []⟩,
  ⟨fun K => He.fAd K ("_bounds", none), "_bounds", "_bounds", defArgs s_bounds, defBody s_bounds, defScope s_bounds, [], []⟩,
  ⟨fun K => He.fAd K ("_counting", none), "_counting", "_counting", defArgs s_counting, defBody s_counting, defScope s_counting, [], []⟩,
  ⟨fun K => He.fAd K ("lengths_of_rows", none), "lengths_of_rows", "lengths_of_rows", defArgs s_lengths_of_rows, defBody s_lengths_of_rows, defScope s_lengths_of_rows, [], []⟩,
  ⟨fun K => He.fAd K ("has_members", none), "has_members", "has_members", defArgs s_has_members, defBody s_has_members, defScope s_has_members, [], []⟩,
  ⟨fun K => He.fAd K ("_check_operand", none), "_check_operand", "_check_operand", defArgs s_check_operand, defBody s_check_operand, defScope s_check_operand, [], []⟩,
  ⟨fun K => He.fAd K ("RangeSet", some "__init__"), "__init__", "RangeSet.__init__", defArgs s_RangeSet_init, defBody s_RangeSet_init, defScope s_RangeSet_init, [], []⟩,
  ⟨fun K => He.fAd K ("RangeSet", some "__and__"), "__and__", "RangeSet.__and__", defArgs s_RangeSet___and__, defBody s_RangeSet___and__, defScope s_RangeSet___and__, [], []⟩,
  ⟨fun K => He.fAd K ("RangeSet", some "__or__"), "__or__", "RangeSet.__or__", defArgs s_RangeSet___or__, defBody s_RangeSet___or__, defScope s_RangeSet___or__, [], []⟩,
  ⟨fun K => He.fAd K ("RangeSet", some "__invert__"), "__invert__", "RangeSet.__invert__", defArgs s_RangeSet___invert__, defBody s_RangeSet___invert__, defScope s_RangeSet___invert__, [], []⟩,
  ⟨fun K => He.fAd K ("RangeSet", some "__le__"), "__le__", "RangeSet.__le__", defArgs s_RangeSet___le__, defBody s_RangeSet___le__, defScope s_RangeSet___le__, [], []⟩,
  ⟨fun K => He.fAd K ("RangeSet", some "__eq__"), "__eq__", "RangeSet.__eq__", defArgs s_RangeSet___eq__, defBody s_RangeSet___eq__, defScope s_RangeSet___eq__, [], []⟩,
  ⟨fun K => He.fAd K ("RangeSet", some "__bool__"), "__bool__", "RangeSet.__bool__", defArgs s_RangeSet___bool__, defBody s_RangeSet___bool__, defScope s_RangeSet___bool__, [], []⟩,
  ⟨fun K => He.fAd K ("counted", none), "counted", "counted", defArgs s_counted, defBody s_counted, defScope s_counted, [He.Dv.non], []⟩,
  ⟨fun K => He.fAd K ("taken", none), "taken", "taken", defArgs s_taken, defBody s_taken, defScope s_taken, [], []⟩]
def dfK3 : List He5.DefA := [⟨fun K => He.fAd K ("_is_factor", none), "_is_factor", "_is_factor", defArgs s_is_factor, defBody s_is_factor, defScope s_is_factor, [], []⟩,
  ⟨fun K => He.fAd K ("coarser", none), "coarser", "coarser", defArgs s_coarser, defBody s_coarser, defScope s_coarser, [He.Dv.adr (He.dflAt ("coarser", none) 0)], []⟩,
  ⟨fun K => He.fAd K ("_law_purse", none), "_law_purse", "_law_purse", defArgs s_law_purse, defBody s_law_purse, defScope s_law_purse, [], []⟩,
  ⟨fun K => He.fAd K ("_law_draw", none), "_law_draw", "_law_draw", defArgs s_law_draw, defBody s_law_draw, defScope s_law_draw, [], []⟩,
  ⟨fun K => He.fAd K ("_law_pick", none), "_law_pick", "_law_pick", defArgs s_law_pick, defBody s_law_pick, defScope s_law_pick, [], []⟩,
  ⟨fun K => He.fAd K ("_law_family", none), "_law_family", "_law_family", defArgs s_law_family, defBody s_law_family, defScope s_law_family, [], []⟩,
  ⟨fun K => He.fAd K ("_law_rule", none), "_law_rule", "_law_rule", defArgs s_law_rule, defBody s_law_rule, defScope s_law_rule, [], []⟩,
  ⟨fun K => He.fAd K ("_law_made", none), "_law_made", "_law_made", defArgs s_law_made, defBody s_law_made, defScope s_law_made, [], []⟩,
  ⟨fun K => He.fAd K ("_law_are_parts", none), "_law_are_parts", "_law_are_parts", defArgs s_law_are_parts, defBody s_law_are_parts, defScope s_law_are_parts, [], []⟩,
  ⟨fun K => He.fAd K ("law", none), "law", "law", defArgs s_law, defBody s_law, defScope s_law, [], []⟩,
  ⟨fun K => He5.wf K (He.ga K "Rule") "property" "base", "base", "Rule.base", defArgs s_Rule_base, defBody s_Rule_base, defScope s_Rule_base, [], []⟩,
  ⟨fun K => He5.wf K (He.ga K "Rule") "property" "kind", "kind", "Rule.kind", defArgs s_Rule_kind, defBody s_Rule_kind, defScope s_Rule_kind, [], []⟩,
  ⟨fun K => He5.wf K (He.ga K "Rule") "property" "most", "most", "Rule.most", defArgs s_Rule_most, defBody s_Rule_most, defScope s_Rule_most, [], []⟩,
  ⟨fun K => He5.wf K (He.ga K "Rule") "property" "mantissas", "mantissas", "Rule.mantissas", defArgs s_Rule_mantissas, defBody s_Rule_mantissas, defScope s_Rule_mantissas, [], []⟩,
  ⟨fun K => He5.wf K (He.ga K "RangeSet") "property" "base", "base", "RangeSet.base", defArgs s_RangeSet_base, defBody s_RangeSet_base, defScope s_RangeSet_base, [], []⟩,
  ⟨fun K => He5.wf K (He.ga K "RangeSet") "classmethod" "every", "every", "RangeSet.every", defArgs s_RangeSet_every, defBody s_RangeSet_every, defScope s_RangeSet_every, [], []⟩]
def dfK : List He5.DefA := dfK0 ++ (dfK1 ++ (dfK2 ++ (dfK3)))
def faK0 : List He.Fa := [He.Fa.glo "is_whole",
  He.Fa.glo "is_base",
  He.Fa.glo "is_span",
  He.Fa.glo "power_of",
  He.Fa.glo "log_of",
  He.Fa.glo "measure",
  He.Fa.glo "reach",
  He.Fa.glo "never_fits",
  He.Fa.glo "always_fits",
  He.Fa.glo "rungs_of",
  He.Fa.glo "step_at",
  He.Fa.glo "low_rung",
  He.Fa.glo "candidates",
  He.Fa.glo "_kind_and_most_fit",
  He.Fa.glo "_mantissas_fit",
  He.Fa.glo "_arguments_fit",
  He.Fa.glo "_is_dividing",
  He.Fa.meth "Rule" "__eq__",
  He.Fa.meth "Rule" "step",
  He.Fa.meth "Rule" "marks",
  He.Fa.meth "Rule" "count",
  He.Fa.meth "Rule" "_fits",
  He.Fa.glo "check_rule",
  He.Fa.glo "check_rules_of_one_base",
  He.Fa.glo "check_number",
  He.Fa.glo "comb_of",
  He.Fa.glo "residues",
  He.Fa.glo "fitting_mask",
  He.Fa.glo "counts_by_residue",
  He.Fa.glo "counted_mask"]
def faK1 : List He.Fa := [He.Fa.glo "touching_mask",
  He.Fa.glo "key_of",
  He.Fa.glo "rule_of",
  He.Fa.glo "keys_of",
  He.Fa.glo "compare_steps",
  He.Fa.glo "holds",
  He.Fa.glo "_states",
  He.Fa.glo "mask_of",
  He.Fa.glo "_statement_mask",
  He.Fa.glo "_coarser_mask",
  He.Fa.glo "digits_of",
  He.Fa.glo "sized",
  He.Fa.glo "quartered",
  He.Fa.glo "row_of",
  He.Fa.glo "_shares",
  He.Fa.glo "_bounds",
  He.Fa.glo "_counting",
  He.Fa.glo "lengths_of_rows",
  He.Fa.glo "has_members",
  He.Fa.glo "_check_operand",
  He.Fa.meth "RangeSet" "__and__",
  He.Fa.meth "RangeSet" "__or__",
  He.Fa.meth "RangeSet" "__invert__",
  He.Fa.meth "RangeSet" "__le__",
  He.Fa.meth "RangeSet" "__eq__",
  He.Fa.meth "RangeSet" "__bool__",
  He.Fa.glo "counted",
  He.Fa.glo "taken",
  He.Fa.glo "_is_factor",
  He.Fa.glo "coarser"]
def faK2 : List He.Fa := [He.Fa.glo "_law_purse",
  He.Fa.glo "_law_draw",
  He.Fa.glo "_law_pick",
  He.Fa.glo "_law_family",
  He.Fa.glo "_law_rule",
  He.Fa.glo "_law_made",
  He.Fa.glo "_law_are_parts",
  He.Fa.glo "law",
  He.Fa.free "len",
  He.Fa.free "isinstance",
  He.Fa.free "all",
  He.Fa.free "int",
  He.Fa.free "bool",
  He.Fa.free "str",
  He.Fa.free "tuple",
  He.Fa.free "list",
  He.Fa.free "range",
  He.Fa.free "reversed",
  He.Fa.free "zip",
  He.Fa.free "max",
  He.Fa.free "min",
  He.Fa.free "abs",
  He.Fa.free "sorted",
  He.Fa.free "set",
  He.Fa.free "divmod",
  He.Fa.free "repr",
  He.Fa.free "enumerate",
  He.Fa.glo "Rule",
  He.Fa.cls "Rule",
  He.Fa.mkr "Rule"]
def faK3 : List He.Fa := [He.Fa.noat "Rule" "_base",
  He.Fa.noat "Rule" "_kind",
  He.Fa.noat "Rule" "_mantissas",
  He.Fa.noat "Rule" "_most",
  He.Fa.noat "Rule" "_dividing",
  He.Fa.noat "Rule" "_rungs",
  He.Fa.glo "RangeSet",
  He.Fa.cls "RangeSet",
  He.Fa.mkr "RangeSet",
  He.Fa.noat "RangeSet" "_base",
  He.Fa.noat "RangeSet" "_formula",
  He.Fa.int "UNIT" 4,
  He.Fa.glo "LEAST_MOST",
  He.Fa.glo "PARTS",
  He.Fa.glo "KEYS"]
def faK : List He.Fa := faK0 ++ (faK1 ++ (faK2 ++ (faK3)))
def tbK0 : List (List PySem.Str × PySem.Str) := [(["inside", "cover", "length"], "LEAST_MOST"),
  (["all", "not", "and", "or", "xor"], "PARTS"),
  (["counted", "taken", "coarser", "touched"], "KEYS")]
def tbK : List (List PySem.Str × PySem.Str) := tbK0
def neB (K : PySem.W.Frag) (C f : Addr) : Bool := match K.lookup C with
  | some ⟨.type t, _, .cls ⟨_, _, [.ref c, .type o], N, _, _, _, _, _, _, false⟩, ⟨[_, _, _, _, some (.builtin n), _]⟩⟩ => decide (t = "type") && (decide (c = C) && (decide (o = "object") && (decide (n = "object.__new__") && (PySem.W.nsOkIn K N && (He.eqO (PySem.W.nsIn K N "__eq__") (some (some (.ref f))) && He.eqO (PySem.W.nsIn K N "__ne__") (some none))))))
  | _ => false
theorem neB_is {K : PySem.W.Frag} {C f : Addr} (h : neB K C f = true) : NeC K C f := by
  unfold neB at h
  split at h
  · rename_i e
    simp only [Bool.and_eq_true, decide_eq_true_eq] at h
    obtain ⟨rfl, rfl, rfl, rfl, h5, h6, h7⟩ := h
    exact ⟨_, _, _, _, _, _, _, _, _, _, _, _, _, _, _, e, h5, He.eqO_ok h6, He.eqO_ok h7⟩
  · cases h
def recB (K : PySem.W.Frag) (p : Addr) (T : String) (z : Addr) : Bool := match PySem.W.recIn K p T with
  | some (.ref y :: _) => decide (y = z)
  | _ => false
theorem recB_is {K : PySem.W.Frag} {p z : Addr} {T : String} (h : recB K p T z = true) : ∃ rest, PySem.W.recIn K p T = some (.ref z :: rest) := by
  unfold recB at h
  split at h
  · rename_i y r e
    exact ⟨r, by rw [e, of_decide_eq_true h]⟩
  · cases h
def hasB (K : PySem.W.Frag) (a : Addr) (x : Str) : Bool := match PySem.W.nsIn K a x with
  | some (some _) => true
  | _ => false
theorem hasB_is {K : PySem.W.Frag} {a : Addr} {x : Str} (h : hasB K a x = true) : ∃ u, PySem.W.nsIn K a x = some (some u) := by
  unfold hasB at h
  split at h
  · rename_i u e
    exact ⟨u, e⟩
  · cases h
def intB (K : PySem.W.Frag) (a : Addr) (x : Str) (n : Int) : Bool := match PySem.W.nsIn K a x with
  | some (some (.int m _)) => decide (m = n)
  | _ => false
theorem intB_is {K : PySem.W.Frag} {a : Addr} {x : Str} {n : Int} (h : intB K a x n = true) : ∃ t, PySem.W.nsIn K a x = some (some (.int n t)) := by
  unfold intB at h
  split at h
  · rename_i m t e
    exact ⟨t, by rw [e, of_decide_eq_true h]⟩
  · cases h
def intsB : List Value → List Int → Bool
  | [], [] => true
  | .int i _ :: r, j :: s => decide (i = j) && intsB r s
  | _, _ => false
theorem intsB_is : ∀ {us : List Value} {ns : List Int}, intsB us ns = true → Vals (ns.map V.int) us
  | [], [], _ => .nil
  | .int i t :: r, j :: s, h => by
    have h : (decide (i = j) && intsB r s) = true := h
    rw [Bool.and_eq_true] at h
    obtain rfl : i = j := of_decide_eq_true h.1
    exact .cons ⟨t, rfl⟩ (intsB_is h.2)
def tupB (K : PySem.W.Frag) (a : Addr) (ns : List Int) : Bool := match K.lookup a with
  | some o => decide (o.cls = .type "tuple") && (match o.data with
    | .seq its _ => decide (its.size ≤ 100) && intsB its.toList ns
    | _ => false)
  | none => false
theorem tupB_is {K : PySem.W.Frag} {a : Addr} {ns : List Int} (h : tupB K a ns = true) : ∃ (o : Obj) (its : Array Value) (n : Nat), K.lookup a = some o ∧ o.cls = .type "tuple" ∧ o.data = .seq its n ∧ its.size ≤ sizeLine ∧ Vals (ns.map V.int) its.toList := by
  unfold tupB at h
  split at h
  · rename_i o e
    rw [Bool.and_eq_true] at h
    obtain ⟨h1, h2⟩ := h
    split at h2
    · rename_i its n e2
      rw [Bool.and_eq_true] at h2
      exact ⟨o, its, n, e, of_decide_eq_true h1, e2, Nat.le_trans (of_decide_eq_true h2.1) (by decide), intsB_is h2.2⟩
    · cases h2
  · cases h
theorem allB_at {K : PySem.W.Frag} {l : List (PySem.W.Frag → Bool)} (h : (l.all fun z => z K) = true) (n : Nat) {z : PySem.W.Frag → Bool} (hz : l[n]? = some z := by rfl) : z K = true :=
  List.all_eq_true.mp h z (List.mem_of_getElem? hz)
def exK0 : List (PySem.W.Frag → Bool) := [fun K => He.eqO (PySem.W.findIn K (.ref (He.ga K "Rule")) "base") (some (some (.ref (He.ma K (He.ga K "Rule") "base")))),
  fun K => He.eqO (PySem.W.specialIn K (.ref (He.ma K (He.ga K "Rule") "base")) "__get__") (some (some (.builtin "property.__get__"))),
  fun K => decide (PySem.W.takesIn K (.ref (He.ma K (He.ga K "Rule") "base")) = some true),
  fun K => recB K (He.ma K (He.ga K "Rule") "base") "property" (He5.wf K (He.ga K "Rule") "property" "base"),
  fun K => He.eqO (PySem.W.findIn K (.ref (He.ga K "Rule")) "kind") (some (some (.ref (He.ma K (He.ga K "Rule") "kind")))),
  fun K => He.eqO (PySem.W.specialIn K (.ref (He.ma K (He.ga K "Rule") "kind")) "__get__") (some (some (.builtin "property.__get__"))),
  fun K => decide (PySem.W.takesIn K (.ref (He.ma K (He.ga K "Rule") "kind")) = some true),
  fun K => recB K (He.ma K (He.ga K "Rule") "kind") "property" (He5.wf K (He.ga K "Rule") "property" "kind"),
  fun K => He.eqO (PySem.W.findIn K (.ref (He.ga K "Rule")) "most") (some (some (.ref (He.ma K (He.ga K "Rule") "most")))),
  fun K => He.eqO (PySem.W.specialIn K (.ref (He.ma K (He.ga K "Rule") "most")) "__get__") (some (some (.builtin "property.__get__"))),
  fun K => decide (PySem.W.takesIn K (.ref (He.ma K (He.ga K "Rule") "most")) = some true),
  fun K => recB K (He.ma K (He.ga K "Rule") "most") "property" (He5.wf K (He.ga K "Rule") "property" "most"),
  fun K => He.eqO (PySem.W.findIn K (.ref (He.ga K "Rule")) "mantissas") (some (some (.ref (He.ma K (He.ga K "Rule") "mantissas")))),
  fun K => He.eqO (PySem.W.specialIn K (.ref (He.ma K (He.ga K "Rule") "mantissas")) "__get__") (some (some (.builtin "property.__get__"))),
  fun K => decide (PySem.W.takesIn K (.ref (He.ma K (He.ga K "Rule") "mantissas")) = some true),
  fun K => recB K (He.ma K (He.ga K "Rule") "mantissas") "property" (He5.wf K (He.ga K "Rule") "property" "mantissas"),
  fun K => He.eqO (PySem.W.findIn K (.ref (He.ga K "RangeSet")) "base") (some (some (.ref (He.ma K (He.ga K "RangeSet") "base")))),
  fun K => He.eqO (PySem.W.specialIn K (.ref (He.ma K (He.ga K "RangeSet") "base")) "__get__") (some (some (.builtin "property.__get__"))),
  fun K => decide (PySem.W.takesIn K (.ref (He.ma K (He.ga K "RangeSet") "base")) = some true),
  fun K => recB K (He.ma K (He.ga K "RangeSet") "base") "property" (He5.wf K (He.ga K "RangeSet") "property" "base")]
def exK1 : List (PySem.W.Frag → Bool) := [fun K => He.eqO (PySem.W.findIn K (.ref (He.ga K "Rule")) "__class__") (some (some (.builtin "object.__class__"))),
  fun K => decide (PySem.W.mroIn K (He.ga K "Rule") (.type "object") = some true),
  fun K => He.eqO (PySem.W.findIn K (.ref (He.ga K "RangeSet")) "__class__") (some (some (.builtin "object.__class__"))),
  fun K => decide (PySem.W.mroIn K (He.ga K "RangeSet") (.type "object") = some true),
  fun K => He.eqO (PySem.W.specialIn K (.builtin "object.__class__") "__get__") (some (some (.builtin "getset_descriptor.__get__"))),
  fun K => decide (PySem.W.takesIn K (.builtin "object.__class__") = some true),
  fun K => PySem.W.selfFirst K (He.ga K "RangeSet"),
  fun K => PySem.W.readsIn K (He.ga K "RangeSet") (.type "type"),
  fun K => He.eqO (PySem.W.specialIn K (.ref (He.ga K "RangeSet")) "__getattribute__") (some (some (.builtin "type.__getattribute__"))),
  fun K => He5.wrapB K (He.ga K "RangeSet") "classmethod" "classmethod.__get__" "every",
  fun K => PySem.W.fnIn K (He5.wf K (He.ga K "RangeSet") "classmethod" "every"),
  fun K => hasB K (He.ga K "PARTS") "and",
  fun K => hasB K (He.ga K "PARTS") "or",
  fun K => hasB K (He.ga K "PARTS") "xor",
  fun K => He.eqO (PySem.W.nsIn K (He.ga K "PARTS") "counted") (some none),
  fun K => He.eqO (PySem.W.nsIn K (He.ga K "PARTS") "taken") (some none),
  fun K => He.eqO (PySem.W.nsIn K (He.ga K "PARTS") "coarser") (some none),
  fun K => He.eqO (PySem.W.nsIn K (He.ga K "PARTS") "touched") (some none),
  fun K => intB K (He.ga K "KEYS") "counted" 1,
  fun K => intB K (He.ga K "KEYS") "taken" 1]
def exK2 : List (PySem.W.Frag → Bool) := [fun K => intB K (He.ga K "KEYS") "coarser" 2,
  fun K => intB K (He.ga K "KEYS") "touched" 1,
  fun K => He.eqO (PySem.W.nsIn K (He.ga K "KEYS") "all") (some none),
  fun K => He.eqO (PySem.W.nsIn K (He.ga K "KEYS") "not") (some none),
  fun K => He.eqO (PySem.W.nsIn K (He.ga K "KEYS") "and") (some none),
  fun K => He.eqO (PySem.W.nsIn K (He.ga K "KEYS") "or") (some none),
  fun K => He.eqO (PySem.W.nsIn K (He.ga K "KEYS") "xor") (some none),
  fun K => intB K (He.ga K "PARTS") "all" 0,
  fun K => intB K (He.ga K "PARTS") "not" 1,
  fun K => intB K (He.ga K "PARTS") "and" 2,
  fun K => intB K (He.ga K "PARTS") "or" 2,
  fun K => intB K (He.ga K "PARTS") "xor" 2,
  fun K => He.eqO (PySem.W.nsIn K mainGlobals "gcd") (some (some (.builtin "math.gcd"))),
  fun K => He.eqO (PySem.W.nsIn K mainGlobals "lcm") (some (some (.builtin "math.lcm"))),
  fun K => tupB K (He.dflAt ("coarser", none) 0 K) [1, 1],
  fun K => intB K (He.ga K "LEAST_MOST") "inside" 1,
  fun K => intB K (He.ga K "LEAST_MOST") "cover" 2,
  fun K => intB K (He.ga K "LEAST_MOST") "length" 1,
  fun K => neB K (He.ga K "RangeSet") (He.fAd K ("RangeSet", some "__eq__"))]
def exK : List (PySem.W.Frag → Bool) := exK0 ++ (exK1 ++ (exK2))
abbrev SeeT : Type := He.AlD × List (Option (List (Option (Str × Int)))) × Bool
def seeK (K : PySem.W.Frag) : SeeT := (He5.obsA faK dfK K, tbK.map fun t => He.dicW K (He.ga K t.2), exK.all fun z => z K)
def goodK (w : World) : SeeT := (He5.valA dfK, tbK.map fun t => some (He.keysIn w.params t.1), true)
def seeG (see : Addr → Option Obj) : SeeT := seeK (He.frG see asK)
def hkK : PySem.W.Hook where
  α := SeeT
  obs := fun s => seeG s.heap.get?
  val := fun w => goodK w
  says := fun w h => ∃ K : PySem.W.Frag, K.In h ∧ seeK K = goodK w
  of := fun _ _ e => ⟨_, He.frG_in, e⟩
  keeps := fun _ _ _ ⟨K, hK, c⟩ k => ⟨K, PySem.W.Frag.In.keeps hK k, c⟩
def obK (s : PySem.W.SharedT) : SeeT := seeG (HandSHeadRun.getT s)
theorem obK_is (s : PySem.W.SharedT) : obK s = hkK.obs s.abs := by
  have e : HandSHeadRun.getT s = s.abs.heap.get? := funext (HandSHeadRun.getT_eq s)
  show seeG (HandSHeadRun.getT s) = seeG s.abs.heap.get?
  rw [e]
abbrev rowK : PySem.W.OpenRow := PySem.W.OpenLaw.row PySem.Challenge.rw_axisticks_k29_whole_ranges_parted_by_rul
abbrev vwK : Program := PySem.W.view rowK.prog [0, 87]
def nmK0 : List PySem.Str := ["_wall",
  "__name__",
  "is_whole",
  "is_base",
  "is_span",
  "AxisTicksError",
  "InvalidRule",
  "InvalidRange",
  "InvalidSet",
  "InvalidBase",
  "InvalidNumber",
  "InvalidFactor",
  "power_of",
  "log_of",
  "measure",
  "reach",
  "never_fits",
  "always_fits",
  "rungs_of",
  "step_at",
  "low_rung",
  "candidates",
  "LEAST_MOST",
  "_kind_and_most_fit",
  "_mantissas_fit",
  "_arguments_fit",
  "_is_dividing",
  "Rule",
  "check_rule",
  "check_rules_of_one_base"]
def nmK1 : List PySem.Str := ["check_number",
  "comb_of",
  "residues",
  "fitting_mask",
  "counts_by_residue",
  "counted_mask",
  "touching_mask",
  "PARTS",
  "KEYS",
  "key_of",
  "rule_of",
  "keys_of",
  "compare_steps",
  "holds",
  "_states",
  "mask_of",
  "_statement_mask",
  "_coarser_mask",
  "UNIT",
  "digits_of",
  "sized",
  "quartered",
  "row_of",
  "_shares",
  "_bounds",
  "_counting",
  "lengths_of_rows",
  "has_members",
  "reduced",
  "_rows_told"]
def nmK2 : List PySem.Str := ["stretches",
  "_check_operand",
  "RangeSet",
  "counted",
  "taken",
  "_is_factor",
  "coarser",
  "_law_purse",
  "_law_draw",
  "_law_pick",
  "_law_family",
  "_law_rule",
  "_law_made",
  "_law_are_parts"]
def nmK : List PySem.Str := nmK0 ++ (nmK1 ++ (nmK2))
abbrev endK (w : World) : Option (Shared × PySem.W.SharedT) := HandSHeadRun.wholeF (fun p => HandSHeadRun.stepQ (HandSHeadRun.denQ HandSHeadRun.tabQ) p w) HandSHeadRun.fenceQ 20000 rowK.prog
theorem three {α β γ δ : Type} {z : Option α} {f1 : α → β} {f2 : α → γ} {f3 : α → δ} {y1 : β} {y2 : γ} {y3 : δ} (h1 : z.map f1 = some y1) (h2 : z.map f2 = some y2) (h3 : z.map f3 = some y3) : z.map (fun x => (f1 x, f2 x, f3 x)) = some (y1, y2, y3) := by
  cases z with
  | none => cases h1
  | some x =>
    cases h1
    cases h2
    cases h3
    rfl
set_option maxHeartbeats 0 in
theorem lkF (w : World) : (endK (w.withFollow "special-get-raises" false)).map (fun x => HandSHeadRun.looksF rowK.prog x.1.heap x.2.abs) = some true := by
  kernel_rfl
set_option maxHeartbeats 0 in
theorem snF (w : World) : (endK (w.withFollow "special-get-raises" false)).map (fun x => HandSHeadRun.seenQ vwK nmK (importedModules rowK.prog.main.body) (fun s => PySem.W.xlAt vwK [] s && PySem.W.recOk rowK.toRowW.records s) x.2.abs) = some (PySem.W.openGood vwK nmK) := by
  kernel_rfl
set_option maxHeartbeats 0 in
theorem fcF (w : World) : (endK (w.withFollow "special-get-raises" false)).map (fun x => obK x.2) = some (goodK (w.withFollow "special-get-raises" false)) := by
  kernel_rfl
set_option maxHeartbeats 0 in
theorem lkT (w : World) : (endK (w.withFollow "special-get-raises" true)).map (fun x => HandSHeadRun.looksF rowK.prog x.1.heap x.2.abs) = some true := by
  kernel_rfl
set_option maxHeartbeats 0 in
theorem snT (w : World) : (endK (w.withFollow "special-get-raises" true)).map (fun x => HandSHeadRun.seenQ vwK nmK (importedModules rowK.prog.main.body) (fun s => PySem.W.xlAt vwK [] s && PySem.W.recOk rowK.toRowW.records s) x.2.abs) = some (PySem.W.openGood vwK nmK) := by
  kernel_rfl
set_option maxHeartbeats 0 in
theorem fcT (w : World) : (endK (w.withFollow "special-get-raises" true)).map (fun x => obK x.2) = some (goodK (w.withFollow "special-get-raises" true)) := by
  kernel_rfl
def RunK (w : World) : Prop := HandSHeadRun.RunEqI rowK vwK hkK obK 20000 nmK w
theorem runF (w : World) : RunK (w.withFollow "special-get-raises" false) := three (lkF w) (snF w) (fcF w)
theorem runT (w : World) : RunK (w.withFollow "special-get-raises" true) := three (lkT w) (snT w) (fcT w)
theorem run_all (w : World) : RunK w := PySem.W.byRow2 "special-get-raises" runF runT w
end Ax

end

namespace Ax
theorem pow_pos' {b : Int} (h : 1 ≤ b) (n : Nat) : 1 ≤ b ^ n := by
  induction n with
  | zero => simp
  | succ n ih =>
    rw [Int.pow_succ]
    have := Int.mul_le_mul ih h (by omega) (by omega)
    omega
theorem pow_add' (b : Int) (m n : Nat) : b ^ (m + n) = b ^ m * b ^ n := by
  induction n with
  | zero => simp
  | succ n ih => rw [← Nat.add_assoc, Int.pow_succ, ih, Int.pow_succ, Int.mul_assoc]
theorem pow_le' {b : Int} (h : 1 ≤ b) {m n : Nat} (hm : m ≤ n) : b ^ m ≤ b ^ n := by
  obtain ⟨k, rfl⟩ := Nat.le.dest hm
  rw [pow_add']
  have h1 := pow_pos' h m
  have h2 := pow_pos' h k
  have := Int.mul_le_mul_of_nonneg_left h2 (show (0:Int) ≤ b ^ m by omega)
  omega
theorem pow_lt' {b : Int} (h : 2 ≤ b) {m n : Nat} (hm : m < n) : b ^ m < b ^ n := by
  have h1 := pow_le' (b := b) (by omega) (show m + 1 ≤ n from hm)
  rw [Int.pow_succ] at h1
  have h2 := pow_pos' (b := b) (by omega) m
  have := Int.mul_le_mul_of_nonneg_left h (show (0:Int) ≤ b ^ m by omega)
  omega
theorem sq_pow (s : Int) (n : Nat) : (s * s) ^ n = s ^ (2 * n) := by
  induction n with
  | zero => simp
  | succ n ih =>
    rw [Int.pow_succ, ih, show 2 * (n + 1) = 2 * n + 1 + 1 by omega, Int.pow_succ, Int.pow_succ, Int.mul_assoc]
/-- a turn of power_of -/
theorem turn_odd {r s : Int} {n : Nat} (h : n % 2 = 1) : (r * s) * (s * s) ^ (n / 2) = r * s ^ n := by
  rw [sq_pow, Int.mul_assoc, Int.mul_comm s, ← Int.pow_succ]
  congr 2
  omega
theorem turn_even {r s : Int} {n : Nat} (h : n % 2 = 0) : r * (s * s) ^ (n / 2) = r * s ^ n := by
  rw [sq_pow]
  congr 2
  omega
theorem le_of_prod {r s B : Int} {n : Nat} (hr : 1 ≤ r) (hs : 1 ≤ s) (e : r * s ^ n = B) : r ≤ B ∧ (1 ≤ n → s ≤ B) := by
  have h1 := pow_pos' hs n
  have h2 := Int.mul_le_mul_of_nonneg_left h1 (show (0:Int) ≤ r by omega)
  refine ⟨by omega, fun hn => ?_⟩
  have h3 := pow_le' hs hn
  rw [Int.pow_succ, Int.pow_zero, Int.one_mul] at h3
  have h4 := Int.mul_le_mul_of_nonneg_right hr (show (0:Int) ≤ s ^ n by omega)
  omega
theorem abs_lt_pow {i : Int} {k : Nat} (h0 : 0 ≤ i) (h : i < 2 ^ k) : i.natAbs < 2 ^ k := by
  have e : ((i.natAbs : Nat) : Int) = i := by omega
  have : ((i.natAbs : Nat) : Int) < ((2 ^ k : Nat) : Int) := by rw [e, Int.natCast_pow]; exact h
  exact Int.ofNat_lt.mp this
end Ax
namespace Ax
/-! ### the exponent of the greatest power that is at most a number -/
/-- what log_of's second loop keeps: j squares are left -/
def LogInv (b n : Int) (j : Nat) (E : Nat) (p : Int) : Prop := p = b ^ (E * 2 ^ j) ∧ p ≤ n ∧ n < b ^ ((E + 1) * 2 ^ j)
theorem LogInv.start {b n : Int} {j : Nat} (hn : 1 ≤ n) (h : n < b ^ (2 ^ j)) : LogInv b n j 0 1 := by
  refine ⟨by simp, hn, ?_⟩
  simpa using h
theorem LogInv.yes {b n p : Int} {j E : Nat} (h : LogInv b n (j + 1) E p) (hle : p * b ^ (2 ^ j) ≤ n) : LogInv b n j (2 * E + 1) (p * b ^ (2 ^ j)) := by
  obtain ⟨h1, h2, h3⟩ := h
  refine ⟨?_, hle, ?_⟩
  · rw [h1, ← pow_add']
    congr 1
    rw [Nat.pow_succ, Nat.add_mul, Nat.mul_comm 2 E, Nat.mul_assoc, Nat.mul_comm 2 (2 ^ j), Nat.one_mul]
  · have e : (2 * E + 1 + 1) * 2 ^ j = (E + 1) * 2 ^ (j + 1) := by
      rw [Nat.pow_succ, show 2 * E + 1 + 1 = (E + 1) * 2 by omega, Nat.mul_assoc, Nat.mul_comm 2 (2 ^ j)]
    rw [e]
    exact h3
theorem LogInv.no {b n p : Int} {j E : Nat} (h : LogInv b n (j + 1) E p) (hgt : ¬ p * b ^ (2 ^ j) ≤ n) : LogInv b n j (2 * E) p := by
  obtain ⟨h1, h2, h3⟩ := h
  have e0 : 2 * E * 2 ^ j = E * 2 ^ (j + 1) := by rw [Nat.pow_succ, Nat.mul_comm 2 E, Nat.mul_assoc, Nat.mul_comm 2 (2 ^ j)]
  refine ⟨by rw [e0]; exact h1, h2, ?_⟩
  have e : (2 * E + 1) * 2 ^ j = E * 2 ^ (j + 1) + 2 ^ j := by rw [Nat.add_mul, e0, Nat.one_mul]
  rw [e, pow_add', ← h1]
  omega
theorem LogInv.fin {b n p : Int} {E : Nat} (h : LogInv b n 0 E p) : b ^ E ≤ n ∧ n < b ^ (E + 1) := by
  obtain ⟨h1, h2, h3⟩ := h
  simp only [Nat.pow_zero, Nat.mul_one] at h1 h3
  exact ⟨by omega, h3⟩
theorem sq_two (b : Int) (k : Nat) : b ^ (2 ^ k) * b ^ (2 ^ k) = b ^ (2 ^ (k + 1)) := by
  rw [← pow_add', Nat.pow_succ]
  congr 1
  omega
theorem log_unique {b n : Int} (hb : 2 ≤ b) {E F : Nat} (h1 : b ^ E ≤ n) (h2 : n < b ^ (E + 1)) (h3 : b ^ F ≤ n) (h4 : n < b ^ (F + 1)) : E = F := by
  rcases Nat.lt_trichotomy E F with h | h | h
  · have := pow_le' (b := b) (by omega) (show E + 1 ≤ F from h)
    omega
  · exact h
  · have := pow_le' (b := b) (by omega) (show F + 1 ≤ E from h)
    omega
end Ax
namespace Ax
theorem pow_base_le {a b : Int} (h0 : 1 ≤ a) (h : a ≤ b) (n : Nat) : a ^ n ≤ b ^ n := by
  induction n with
  | zero => simp
  | succ n ih =>
    rw [Int.pow_succ, Int.pow_succ]
    have := pow_pos' h0 n
    exact Int.mul_le_mul ih h (by omega) (by omega)
theorem exp_lt {b : Int} (hb : 2 ≤ b) {m n : Nat} (h : b ^ m < 2 ^ n) : m < n := by
  apply Nat.lt_of_not_le
  intro c
  have h1 := pow_base_le (a := 2) (by decide) hb m
  have h2 := pow_le' (b := 2) (by decide) c
  omega
theorem k_small {b : Int} (hb : 2 ≤ b) {k : Nat} (h : b ^ (2 ^ k) < 2 ^ 8000) : k < 13 := by
  have h1 := exp_lt hb h
  apply Nat.lt_of_not_le
  intro c
  have : 2 ^ 13 ≤ 2 ^ k := Nat.pow_le_pow_right (by decide) c
  have : (2 : Nat) ^ 13 = 8192 := by decide
  omega
end Ax
namespace Ax
/-! ### the exponent as a function; sizes of the least steps -/
noncomputable def lg (b m : Int) : Nat := Classical.epsilon fun E => b ^ E ≤ m ∧ m < b ^ (E + 1)
theorem lg_ex {b m : Int} (hm : 1 ≤ m) : ∀ N : Nat, m < b ^ N → ∃ E, b ^ E ≤ m ∧ m < b ^ (E + 1)
  | 0, h => by
    rw [Int.pow_zero] at h
    omega
  | N + 1, h => by
    by_cases c : m < b ^ N
    · exact lg_ex hm N c
    · exact ⟨N, by omega, h⟩
theorem lt_two_pow (n : Nat) : n < 2 ^ n := Nat.lt_two_pow_self
theorem lg_spec {b m : Int} (hb : 2 ≤ b) (hm : 1 ≤ m) : b ^ lg b m ≤ m ∧ m < b ^ (lg b m + 1) := by
  have h : ∃ E, b ^ E ≤ m ∧ m < b ^ (E + 1) := lg_ex hm m.toNat (by
    have h1 := pow_base_le (a := 2) (by decide) hb m.toNat
    have h2 := lt_two_pow m.toNat
    have h3 : ((m.toNat : Nat) : Int) < ((2 ^ m.toNat : Nat) : Int) := Int.ofNat_lt.mpr h2
    rw [Int.natCast_pow] at h3
    have h4 : ((m.toNat : Nat) : Int) = m := by omega
    rw [h4] at h3
    exact Int.lt_of_lt_of_le h3 h1)
  exact Classical.epsilon_spec h
theorem lg_eq {b m : Int} {E : Nat} (hb : 2 ≤ b) (hm : 1 ≤ m) (h1 : b ^ E ≤ m) (h2 : m < b ^ (E + 1)) : E = lg b m :=
  log_unique hb h1 h2 (lg_spec hb hm).1 (lg_spec hb hm).2
theorem lg_mono {b m M : Int} (hb : 2 ≤ b) (hm : 1 ≤ m) (h : m ≤ M) : lg b m ≤ lg b M := by
  have a := lg_spec hb hm
  have c := lg_spec hb (show 1 ≤ M by omega)
  apply Nat.le_of_not_lt
  intro q
  have := pow_le' (b := b) (by omega) (show lg b M + 1 ≤ lg b m from q)
  omega
/-- the size of the least step of a mantissa that is at least 1, in units of b ^ -top -/
noncomputable def keyOf (b : Int) (top : Nat) (m : Int) : Int := m * b ^ (top - lg b m)
theorem mul_cancel {a b c : Int} (hc : 1 ≤ c) (h : a * c = b * c) : a = b := Int.eq_of_mul_eq_mul_right (by omega) h
theorem dvd_of_mul {m n b : Int} {k : Nat} (h : m * b ^ (k + 1) = n) : n % b = 0 := by
  rw [← h, Int.pow_succ, ← Int.mul_assoc]
  exact Int.mul_emod_left _ _
theorem key_inj' {b m n : Int} {top : Nat} (hb : 2 ≤ b) (hn : n % b ≠ 0) (ln : lg b n ≤ top) (c : lg b m ≤ lg b n) (h : keyOf b top m = keyOf b top n) : m = n := by
  unfold keyOf at h
  have e : top - lg b m = (lg b n - lg b m) + (top - lg b n) := by omega
  rw [e, pow_add', ← Int.mul_assoc] at h
  have h2 := mul_cancel (pow_pos' (by omega) _) h
  cases q : lg b n - lg b m with
  | zero =>
    rw [q, Int.pow_zero, Int.mul_one] at h2
    exact h2
  | succ k =>
    rw [q] at h2
    exact absurd (dvd_of_mul h2) hn
theorem key_inj {b m n : Int} {top : Nat} (hb : 2 ≤ b) (hm : m % b ≠ 0) (hn : n % b ≠ 0) (lm : lg b m ≤ top) (ln : lg b n ≤ top) (h : keyOf b top m = keyOf b top n) : m = n := by
  rcases Nat.le_total (lg b m) (lg b n) with c | c
  · exact key_inj' hb hn ln c h
  · exact (key_inj' hb hm lm c h.symm).symm
theorem key_pos {b m : Int} {top : Nat} (hb : 2 ≤ b) (hm : 1 ≤ m) : 1 ≤ keyOf b top m := by
  have h1 := pow_pos' (b := b) (by omega) (top - lg b m)
  have := Int.mul_le_mul hm h1 (by omega) (by omega)
  unfold keyOf
  omega
theorem key_lt {b m : Int} {top : Nat} (hb : 2 ≤ b) (hm : 1 ≤ m) (h : lg b m ≤ top) : b ^ top ≤ keyOf b top m ∧ keyOf b top m < b ^ (top + 1) := by
  obtain ⟨h1, h2⟩ := lg_spec hb hm
  have h3 := pow_pos' (b := b) (by omega) (top - lg b m)
  have e1 : b ^ top = b ^ lg b m * b ^ (top - lg b m) := by rw [← pow_add']; congr 1; omega
  have e2 : b ^ (top + 1) = b ^ (lg b m + 1) * b ^ (top - lg b m) := by rw [← pow_add']; congr 1; omega
  rw [e1, e2]
  exact ⟨Int.mul_le_mul_of_nonneg_right h1 (by omega), Int.mul_lt_mul_of_pos_right h2 (by omega)⟩
end Ax
namespace Ax
theorem perm_lift {α β : Type} {f : α → β} : ∀ {zs : List β} {ms : List α}, zs.Perm (ms.map f) → ∃ rs : List α, rs.Perm ms ∧ zs = rs.map f
  | [], ms, h => by
    have e := h.length_eq
    rw [List.length_map] at e
    have : ms = [] := List.eq_nil_of_length_eq_zero e.symm
    subst this
    exact ⟨[], .nil, rfl⟩
  | z :: zs, ms, h => by
    have hz : z ∈ ms.map f := h.mem_iff.mp (List.mem_cons_self ..)
    obtain ⟨m, hm, rfl⟩ := List.mem_map.mp hz
    obtain ⟨l1, l2, rfl⟩ := List.append_of_mem hm
    have h2 : (f m :: zs).Perm (f m :: (l1 ++ l2).map f) := by
      refine h.trans ?_
      rw [List.map_append, List.map_cons, List.map_append]
      exact List.perm_middle
    obtain ⟨rs, p, e⟩ := perm_lift ((List.perm_cons _).mp h2)
    refine ⟨m :: rs, ((List.perm_cons m).mpr p).trans List.perm_middle.symm, by rw [e]; rfl⟩
theorem nodup_map {α β : Type} {f : α → β} {ms : List α} (nd : ms.Nodup) (inj : ∀ x ∈ ms, ∀ y ∈ ms, f x = f y → x = y) : (ms.map f).Nodup := by
  unfold List.Nodup
  rw [List.pairwise_map]
  exact List.Pairwise.imp_of_mem (fun {a b} ha hb h z => h (inj a ha b hb z)) nd
theorem strict {zs : List Int} (h : zs.Pairwise (· ≤ ·)) (nd : zs.Nodup) : zs.Pairwise (· < ·) := (h.and nd).imp fun ⟨a, b⟩ => by omega
end Ax

namespace Ax
open PySem L2
section
variable {P : Program} {w : World} {K : PySem.W.Frag} {mg : Str → Option Value} {base : Heap} {A : Adr}
/-- the size that numbers stay below -/
abbrev BIG : Int := 2 ^ 8000
theorem mulBig {i j : Int} (h0 : 0 ≤ i) (h1 : i < 2 ^ 400000) (h2 : 0 ≤ j) (h3 : j < 2 ^ 400000) : CMulW i j :=
  wide_mul (abs_lt_pow h0 h1) (abs_lt_pow h2 h3) (by decide) (by decide) (by decide)
theorem big_le {i : Int} (h : i < BIG) : i < 2 ^ 400000 := Int.lt_of_lt_of_le h (pow_le' (b := 2) (by decide) (by decide))
theorem two_div : CDivW i 2 := ⟨by decide, by decide⟩
/-! ### power_of -/
def spPow : Sp := fun vs H Q _ => ∃ (b : Int) (e : Int), vs = [.int b, .int e] ∧ 1 ≤ b ∧ 0 ≤ e ∧ b ^ e.toNat < BIG ∧ b < BIG ∧ Q (.int (b ^ e.toNat)) H
abbrev nm_power_of : List Str := ["base", "exponent", "result", "square", "rest"]
theorem sc_power_of : FnScope ["base", "exponent", "result", "square", "rest"] ["base", "exponent"] (defScope s_power_of) := ⟨rfl, rfl, rfl, by decide +kernel, rfl, by decide +kernel, by decide +kernel⟩
theorem ok_power_of (T : Txt K mg A w) : FnOk P w K mg base CX0 1 A.a_power_of A.d_power_of ["base", "exponent"] spPow := by
  refine T.F_power_of.ok sc_power_of (fun vs H Q E h => ?_) (fun cdv A0 outer s H vs Q E hr h => ?_)
  · obtain ⟨b, e, rfl, _⟩ := h
    rfl
  · obtain ⟨b, e, rfl, hb, he, hB, hbB, q⟩ := h
    refine ⟨_, (pss_cons (ps_set (i := 2) sc_power_of.nd rfl (Or.inl rfl) pe_int)
  (pss_cons (ps_set (i := 3) sc_power_of.nd rfl (Or.inl rfl) (pv 0))
  (pss_cons (ps_set (i := 4) sc_power_of.nd rfl (Or.inl rfl) (pv 1))
  (pss_cons (ps_while PassesOwn.never (pt_cmpR op_gt (pv 4) pe_int (nomark _))
  (pss_cons (ps_if (pt_cmpR op_eq (pe_op op_mod (pv 4) pe_int) pe_int (nomark _)) (pss_one (ps_set (i := 2) sc_power_of.nd rfl (Or.inl rfl) (pe_op op_mulW (pv 2) (pv 3)))) pss_nil)
  (pss_cons (ps_set (i := 3) sc_power_of.nd rfl (Or.inl rfl) (pe_op op_mulW (pv 3) (pv 3)))
  (pss_one (ps_set (i := 4) sc_power_of.nd rfl (Or.inl rfl) (pe_op op_fdivW (pv 4) pe_int))))))
  (pss_one (ps_ret (pv 2))))))), ?_⟩
    refine ⟨_, rfl, _, rfl, ?_⟩
    refine ⟨fun m σ H' => ∃ r sq rest : Int, σ = [some (.int b), some (.int e), some (.int r), some (.int sq), some (.int rest)] ∧ H' = H ∧ 0 ≤ rest ∧ rest.toNat = m ∧ 1 ≤ r ∧ 1 ≤ sq ∧ r * sq ^ m = b ^ e.toNat ∧ (m = 0 → r < BIG),
      ⟨e.toNat, 1, b, e, rfl, rfl, he, rfl, by decide, hb, by rw [Int.one_mul], fun _ => by show (1 : Int) < 2 ^ 8000; exact Int.lt_of_lt_of_le (by decide : (1 : Int) < 2 ^ 1) (pow_le' (b := 2) (by decide) (by decide))⟩, ?_⟩
    rintro m σ H' ⟨r, sq, rest, rfl, rfl, h0, hm, hr1, hs1, hp, hrB⟩
    refine ⟨_, rfl, _, _, rfl, rfl, _, rfl, ?_⟩
    refine ite2 (fun hc => ?_) (fun hc => ?_)
    · have hc : (0 : Int) < rest := of_decide_eq_true hc
      obtain ⟨rB, sB⟩ := le_of_prod hr1 hs1 hp
      have sB := sB (by omega)
      have hsq : CMulW sq sq := mulBig (by omega) (big_le (by omega)) (by omega) (big_le (by omega))
      have ss1 : 1 ≤ sq * sq := by have := Int.mul_le_mul hs1 hs1 (by omega) (by omega); omega
      refine ⟨fun σ' H2 => ∃ r' : Int, σ' = [some (.int b), some (.int e), some (.int r'), some (.int (sq * sq)), some (.int (rest / 2))] ∧ H2 = H' ∧ 1 ≤ r' ∧ r' * (sq * sq) ^ (m / 2) = b ^ e.toNat, ?_, ?_⟩
      · rintro σ' H2 ⟨r', rfl, rfl, h1, h2⟩
        refine ⟨m / 2, by omega, r', sq * sq, rest / 2, rfl, rfl, by omega, by omega, h1, ss1, h2, fun hz => ?_⟩
        have := (le_of_prod h1 ss1 h2).1
        omega
      · refine ⟨_, rfl, _, _, rfl, rfl, (by show (0 : Int) < 2; decide), rfl, _, rfl, ?_⟩
        refine ite2 (fun hd => ?_) (fun hd => ?_)
        · have hd : V.int (rest % 2) = V.int 1 := of_decide_eq_true hd
          have hd : rest % 2 = 1 := V.int.inj hd
          refine ⟨_, rfl, _, rfl, _, _, rfl, rfl, mulBig (by omega) (big_le (by omega)) (by omega) (big_le (by omega)), ?_⟩
          refine ⟨_, rfl, _, rfl, _, _, rfl, rfl, hsq, ?_⟩
          refine ⟨_, rfl, _, _, rfl, rfl, two_div, ?_⟩
          refine ⟨r * sq, rfl, rfl, ?_, ?_⟩
          · have := Int.mul_le_mul hr1 hs1 (by omega) (by omega)
            omega
          · rw [turn_odd (by omega)]
            exact hp
        · have hd : ¬ V.int (rest % 2) = V.int 1 := fun z => hd (decide_eq_true z)
          have hd : ¬ rest % 2 = 1 := fun z => hd (by rw [z])
          refine ⟨_, rfl, _, rfl, _, _, rfl, rfl, hsq, ?_⟩
          refine ⟨_, rfl, _, _, rfl, rfl, two_div, ?_⟩
          refine ⟨r, rfl, rfl, hr1, ?_⟩
          rw [turn_even (by omega)]
          exact hp
    · have hc : ¬ (0 : Int) < rest := fun z => hc (decide_eq_true z)
      refine ⟨_, rfl, ?_⟩
      have hm0 : m = 0 := by omega
      subst hm0
      rw [Int.pow_zero, Int.mul_one] at hp
      rw [hp]
      exact q
/-! ### log_of -/
def spLog : Sp := fun vs H Q _ => ∃ (b n : Int), vs = [.int b, .int n] ∧ 2 ≤ b ∧ b < BIG ∧ 1 ≤ n ∧ n < BIG ∧ ∀ (E : Nat) (H' : Hp), Same H H' → b ^ E ≤ n → n < b ^ (E + 1) → Q (.int E) H'
/-- the list of squares -/
def Sqs (b : Int) (k : Nat) (sqs : List Int) : Prop := sqs.length = k + 1 ∧ ∀ i, i < k + 1 → sqs[i]? = some (b ^ (2 ^ i))
theorem Sqs.one (b : Int) : Sqs b 0 [b] := ⟨rfl, fun i h => by
  have e : i = 0 := by omega
  subst e
  rw [Nat.pow_zero, Int.pow_succ, Int.pow_zero, Int.one_mul]
  rfl⟩
theorem Sqs.more {b : Int} {k : Nat} {sqs : List Int} (h : Sqs b k sqs) : Sqs b (k + 1) (sqs ++ [b ^ (2 ^ (k + 1))]) := by
  obtain ⟨h1, h2⟩ := h
  refine ⟨by simp [h1], fun i hi => ?_⟩
  by_cases c : i < k + 1
  · rw [List.getElem?_append_left (by omega)]
    exact h2 i c
  · have e : i = k + 1 := by omega
    subst e
    rw [List.getElem?_append_right (by omega), h1]
    simp
theorem at_neg {sqs : List Int} {b : Int} {k : Nat} (h : Sqs b k sqs) : atI (sqs.map V.int) (-1) = some (V.int (b ^ (2 ^ k))) := by
  obtain ⟨h1, h2⟩ := h
  have e : sqs = sqs.dropLast ++ [b ^ (2 ^ k)] := by
    have hne : sqs ≠ [] := by intro z; rw [z] at h1; simp at h1
    have hl := List.dropLast_concat_getLast hne
    have hg : sqs.getLast hne = b ^ (2 ^ k) := by
      have := h2 k (by omega)
      rw [List.getLast_eq_getElem]
      rw [List.getElem?_eq_some_iff] at this
      obtain ⟨hh, hv⟩ := this
      simp only [h1, Nat.add_sub_cancel]
      exact hv
    rw [hg] at hl
    exact hl.symm
  rw [e, List.map_append]
  exact atI_last _ _
abbrev nm_log_of : List Str := ["base", "number", "squares", "exponent", "power", "square"]
theorem sc_log_of : FnScope ["base", "number", "squares", "exponent", "power", "square"] ["base", "number"] (defScope s_log_of) := ⟨rfl, rfl, rfl, by decide +kernel, rfl, by decide +kernel, by decide +kernel⟩
theorem ok_log_of (T : Txt K mg A w) : FnOk P w K mg base CX0 1 A.a_log_of A.d_log_of ["base", "number"] spLog := by
  refine T.F_log_of.ok sc_log_of (fun vs H Q E h => ?_) (fun cdv A0 outer s H vs Q E hr h => ?_)
  · obtain ⟨b, e, rfl, _⟩ := h
    rfl
  · obtain ⟨b, n, rfl, hb, hbB, hn, hnB, q⟩ := h
    refine ⟨_, (pss_cons (ps_set (i := 2) sc_log_of.nd rfl (Or.inl rfl) (pe_lst (pa_cons (pv 0) pa_nil)))
  (pss_cons (ps_while PassesOwn.never (pt_cmpR op_le (pe_op op_mulW (pe_ix ix_list (pv 2) (pe_un un_neg pe_int) (fun _ _ => rfl)) (pe_ix ix_list (pv 2) (pe_un un_neg pe_int) (fun _ _ => rfl))) (pv 1) (nomark _))
  (pss_one (ps_expr (pe_bm PySem.F.plainAttrs_list PySem.F.slot_list_append PySem.F.type_list_append mt_append (pv 2) (pa_cons (pe_op op_mulW (pe_ix ix_list (pv 2) (pe_un un_neg pe_int) (fun _ _ => rfl)) (pe_ix ix_list (pv 2) (pe_un un_neg pe_int) (fun _ _ => rfl))) pa_nil)))))
  (pss_cons (ps_set (i := 3) sc_log_of.nd rfl (Or.inl rfl) pe_int)
  (pss_cons (ps_set (i := 4) sc_log_of.nd rfl (Or.inl rfl) pe_int)
  (pss_cons (ps_for PassesOwn.never rfl (pi_reversed (by rfl) T.n_reversed (pa_cons (pv 2) pa_nil)) (pg_name (i := 5) sc_log_of.nd rfl (Or.inl rfl))
  (pss_cons (ps_set (i := 3) sc_log_of.nd rfl (Or.inl rfl) (pe_op op_mulW pe_int (pv 3)))
  (pss_one (ps_if (pt_cmpR op_le (pe_op op_mulW (pv 4) (pv 5)) (pv 1) (nomark _)) (pss_cons (ps_set (i := 4) sc_log_of.nd rfl (Or.inl rfl) (pe_op op_mulW (pv 4) (pv 5)))
  (pss_one (ps_set (i := 3) sc_log_of.nd rfl (Or.inl rfl) (pe_op op_add (pv 3) pe_int)))) pss_nil))))
  (pss_one (ps_ret (pv 3)))))))), ?_⟩
    refine ⟨_, rfl, by show 1 ≤ sizeLine; decide, fun p hp => ?_⟩
    -- the squares
    refine ⟨fun m σ H' => ∃ (k : Nat) (sqs : List Int), σ = [some (.int b), some (.int n), some (.ref p), none, none, none] ∧ Same H H' ∧ H' p = some (.lst (sqs.map V.int)) ∧ Sqs b k sqs ∧ (b ^ (2 ^ k) ≤ n ∨ k = 0) ∧ m = (b + n - b ^ (2 ^ k)).toNat,
      ⟨_, 0, [b], rfl, fun c o e => by rw [upd_ne (ne_of_none e hp)]; exact e, upd_same, Sqs.one b, .inr rfl, rfl⟩, ?_⟩
    rintro m σ H' ⟨k, sqs, rfl, s1, hL, hS, hk, rfl⟩
    have hl1 : 2 ≤ b ^ (2 ^ k) := by
      have := pow_le' (b := b) (by omega) (show 1 ≤ 2 ^ k from Nat.one_le_two_pow)
      rw [Int.pow_succ, Int.pow_zero, Int.one_mul] at this
      omega
    have hlB : b ^ (2 ^ k) < BIG := by
      rcases hk with h | h
      · omega
      · subst h
        rw [Nat.pow_zero, Int.pow_succ, Int.pow_zero, Int.one_mul]
        exact hbB
    have hk13 := k_small hb hlB
    have hneg : atI (sqs.map V.int) (-1) = some (V.int (b ^ (2 ^ k))) := at_neg hS
    have hmul : CMulW (b ^ (2 ^ k)) (b ^ (2 ^ k)) := mulBig (by omega) (big_le hlB) (by omega) (big_le hlB)
    refine ⟨_, rfl, _, rfl, p, _, _, _, rfl, rfl, SqL.of hL, hneg, _, rfl, _, rfl, p, _, _, _, rfl, rfl, SqL.of hL, hneg, _, _, rfl, rfl, hmul, _, rfl, _, _, rfl, rfl, _, rfl, ?_⟩
    refine ite2 (fun hc => ?_) (fun hc => ?_)
    · have hc : b ^ (2 ^ k) * b ^ (2 ^ k) ≤ n := of_decide_eq_true hc
      refine ⟨fun σ' H2 => σ' = [some (.int b), some (.int n), some (.ref p), none, none, none] ∧ H2 = upd H' p (.lst ((sqs ++ [b ^ (2 ^ (k + 1))]).map V.int)), ?_, ?_⟩
      · rintro σ' H2 ⟨rfl, rfl⟩
        refine ⟨(b + n - b ^ (2 ^ (k + 1))).toNat, ?_, k + 1, _, rfl, fun c o e => ?_, upd_same, hS.more, .inl (by rw [← sq_two]; exact hc), rfl⟩
        · have h2 : b ^ (2 ^ k) < b ^ (2 ^ (k + 1)) := pow_lt' hb (Nat.pow_lt_pow_right (by decide) (Nat.lt_succ_self k))
          have h3 : b ^ (2 ^ (k + 1)) ≤ n := by rw [← sq_two]; exact hc
          omega
        · rw [upd_ne (ne_of_none e hp)]
          exact s1 c o e
      · refine ⟨_, rfl, .inl ⟨rfl, _, SqL.of hL⟩, _, rfl, _, rfl, p, _, _, _, rfl, rfl, SqL.of hL, hneg, _, rfl, _, rfl, p, _, _, _, rfl, rfl, SqL.of hL, hneg, _, _, rfl, rfl, hmul, ?_⟩
        refine ⟨p, _, _, rfl, rfl, hL, ?_, rfl, ?_⟩
        · rw [List.length_map, hS.1]
          exact small1000 (by omega)
        · show upd H' p (HO.lst (List.map V.int sqs ++ [V.int (b ^ 2 ^ k * b ^ 2 ^ k)])) = _
          rw [sq_two, List.map_append]
          rfl
    · have hc : ¬ b ^ (2 ^ k) * b ^ (2 ^ k) ≤ n := fun z => hc (decide_eq_true z)
      rw [sq_two] at hc
      refine ⟨_, rfl, p, _, rfl, SqL.of hL, ?_⟩
      have hlen : (sqs.map V.int).length = k + 1 := by rw [List.length_map]; exact hS.1
      -- the squares from behind
      refine ⟨fun i m σ H2 => i ≤ k + 1 ∧ m = k + 1 - i ∧ H2 = H' ∧ ∃ (E : Nat) (pw : Int) (v : Option V), σ = [some (.int b), some (.int n), some (.ref p), some (.int (E : Int)), some (.int pw), v] ∧ LogInv b n (k + 1 - i) E pw,
        ⟨k + 1, by omega, rfl, rfl, 0, 1, none, rfl, LogInv.start hn (by rw [Nat.sub_zero]; omega)⟩, ?_⟩
      rintro i m σ H2 ⟨hi, rfl, rfl, E, pw, v, rfl, hI⟩
      by_cases hlt : i < k + 1
      · have hget : (sqs.map V.int)[k - i]? = some (V.int (b ^ (2 ^ (k - i)))) := by
          rw [List.getElem?_map, hS.2 (k - i) (by omega)]
          rfl
        refine .inr ⟨⟨by rw [hlen]; exact hlt, _, _, SqL.of hL, by rw [hlen, show k + 1 - 1 - i = k - i by omega]; exact hget⟩, fun σ' H3 => H3 = H2 ∧ ∃ (E : Nat) (pw : Int) (v : Option V), σ' = [some (.int b), some (.int n), some (.ref p), some (.int (E : Int)), some (.int pw), v] ∧ LogInv b n (k - i) E pw, ?_, ?_⟩
        · rintro σ' H3 ⟨rfl, E', pw', v', rfl, hI'⟩
          exact ⟨k - i, by omega, by omega, by omega, rfl, E', pw', v', rfl, by rw [show k + 1 - (i + 1) = k - i by omega]; exact hI'⟩
        · rintro x H3 ⟨rfl, hx⟩
          have hx := hx _ (SqL.of hL)
          rw [hlen, show k + 1 - 1 - i = k - i by omega, hget] at hx
          obtain rfl := Option.some.inj hx
          rw [show k + 1 - i = (k - i) + 1 by omega] at hI
          have hp1 : 1 ≤ pw := by rw [hI.1]; exact pow_pos' (by omega) _
          have hpB : pw < BIG := by have := hI.2.1; omega
          have hs1 : 1 ≤ b ^ (2 ^ (k - i)) := pow_pos' (by omega) _
          have hsB : b ^ (2 ^ (k - i)) < BIG := by
            have := pow_le' (b := b) (by omega) (Nat.pow_le_pow_right (show 0 < 2 by decide) (show k - i ≤ k by omega))
            omega
          have hmul2 : CMulW pw (b ^ (2 ^ (k - i))) := mulBig (by omega) (big_le hpB) (by omega) (big_le hsB)
          have hE : E < 8000 := by
            have h1 : b ^ (E * 2 ^ (k - i + 1)) < 2 ^ 8000 := by rw [← hI.1]; exact hpB
            exact Nat.lt_of_le_of_lt (Nat.le_mul_of_pos_right E (Nat.two_pow_pos _)) (exp_lt hb h1)
          have hmul3 : CMulW 2 (E : Int) := wide_mul (a := 2) (b := 13) (by decide) (by rw [Int.natAbs_natCast]; omega) (by decide) (by decide) (by decide)
          refine ⟨_, rfl, _, _, rfl, rfl, hmul3, ?_⟩
          refine ⟨_, rfl, _, rfl, _, _, rfl, rfl, hmul2, _, rfl, _, _, rfl, rfl, _, rfl, ?_⟩
          refine ite2 (fun hc => ?_) (fun hc => ?_)
          · have hc : pw * b ^ (2 ^ (k - i)) ≤ n := of_decide_eq_true hc
            refine ⟨_, rfl, _, rfl, _, _, rfl, rfl, hmul2, ?_⟩
            refine ⟨_, rfl, _, _, rfl, rfl, ?_⟩
            exact ⟨rfl, 2 * E + 1, _, _, rfl, hI.yes hc⟩
          · have hc : ¬ pw * b ^ (2 ^ (k - i)) ≤ n := fun z => hc (decide_eq_true z)
            exact ⟨rfl, 2 * E, _, _, rfl, hI.no hc⟩
      · have e : i = k + 1 := by omega
        subst e
        rw [Nat.sub_self] at hI
        exact .inl ⟨by show (sqs.map V.int).length ≤ k + 1; rw [hlen]; exact Nat.le_refl _, _, rfl, q E H2 s1 hI.fin.1 hI.fin.2⟩
end
end Ax

namespace Ax
/-! ### kinds, sizes, reaches -/
inductive Kd where | ins | cov | len
  deriving DecidableEq
/-- how often the ends are scaled: the step is a whole number beside them -/
def facZ (b e : Int) : Int := if 0 ≤ e then 1 else b ^ (-e).toNat
def sizZ (b m e : Int) : Int := if 0 ≤ e then m * b ^ e.toNat else m
def reachZ (k : Kd) (most low size : Int) : Int := match k with
  | .len => low + most * size
  | .cov => (low / size + most) * size
  | .ins => (-(-low / size) + most) * size - 1
theorem mul_le_iff {a b c : Int} (h : 0 < c) : a * c ≤ b * c ↔ a ≤ b := ⟨fun q => Int.le_of_mul_le_mul_right q h, fun q => Int.mul_le_mul_of_nonneg_right q (by omega)⟩
theorem mul_lt_iff {a b c : Int} (h : 0 < c) : a * c < b * c ↔ a < b := ⟨fun q => Int.lt_of_mul_lt_mul_right q (by omega), fun q => Int.mul_lt_mul_of_pos_right q h⟩
theorem reach_scale {k : Kd} {most l h s c : Int} (hc : 0 < c) (hs : 0 < s) : h * c ≤ reachZ k most (l * c) (s * c) ↔ h ≤ reachZ k most l s := by
  have d : ∀ x : Int, x * c / (s * c) = x / s := fun x => Int.mul_ediv_mul_of_pos_left x s hc
  cases k with
  | len =>
    show h * c ≤ l * c + most * (s * c) ↔ h ≤ l + most * s
    rw [← Int.mul_assoc, ← Int.add_mul]
    exact mul_le_iff hc
  | cov =>
    show h * c ≤ (l * c / (s * c) + most) * (s * c) ↔ h ≤ (l / s + most) * s
    rw [d, ← Int.mul_assoc]
    exact mul_le_iff hc
  | ins =>
    show h * c ≤ (-(-(l * c) / (s * c)) + most) * (s * c) - 1 ↔ h ≤ (-(-l / s) + most) * s - 1
    rw [← Int.neg_mul, d, ← Int.mul_assoc]
    constructor
    · intro q
      have := (mul_lt_iff hc).mp (show h * c < (-(-l / s) + most) * s * c by omega)
      omega
    · intro q
      have := (mul_lt_iff (c := c) hc).mpr (show h < (-(-l / s) + most) * s by omega)
      omega
/-- a step's size in units of b ^ -N -/
def szN (b N m p : Int) : Int := m * b ^ (N + p).toNat
theorem szN_pos {b N m p : Int} (hb : 1 ≤ b) (hm : 1 ≤ m) : 1 ≤ szN b N m p := by
  have h1 := pow_pos' hb (N + p).toNat
  have := Int.mul_le_mul hm h1 (by omega) (by omega)
  unfold szN
  omega
theorem szN_shift {b N m p c : Int} (h : 0 ≤ N + p) (hc : 0 ≤ c) : szN b (N + c) m p = szN b N m p * b ^ c.toNat := by
  unfold szN
  rw [Int.mul_assoc, ← pow_add']
  congr 2
  omega
/-- whether a step fits: e is its power beside the ends' digits -/
def FitE (b : Int) (k : Kd) (most l h m e : Int) : Prop := h * facZ b e ≤ reachZ k most (l * facZ b e) (sizZ b m e)
theorem fitE_N {b : Int} {k : Kd} {most l h m e N : Int} (hb : 1 ≤ b) (hm : 1 ≤ m) (hN : 0 ≤ N) (he : 0 ≤ N + e) : FitE b k most l h m e ↔ h * b ^ N.toNat ≤ reachZ k most (l * b ^ N.toNat) (szN b N m e) := by
  unfold FitE facZ sizZ
  by_cases c : 0 ≤ e
  · rw [if_pos c, if_pos c, Int.mul_one, Int.mul_one]
    have e1 : szN b N m e = m * b ^ e.toNat * b ^ N.toNat := by
      unfold szN
      rw [Int.mul_assoc, ← pow_add']
      congr 2
      omega
    rw [e1]
    exact (reach_scale (by have := pow_pos' hb N.toNat; omega) (by
      have h1 := pow_pos' hb e.toNat
      have := Int.mul_le_mul hm h1 (by omega) (by omega)
      omega)).symm
  · rw [if_neg c, if_neg c]
    have e1 : N.toNat = (-e).toNat + (N + e).toNat := by omega
    have e2 : szN b N m e = m * b ^ (N + e).toNat := rfl
    rw [e2, e1, pow_add', ← Int.mul_assoc, ← Int.mul_assoc]
    exact (reach_scale (by have := pow_pos' hb (N + e).toNat; omega) (by omega)).symm
/-- a great step fits -/
theorem fit_big {k : Kd} {most l h s : Int} (h1 : 1 ≤ most) (h2 : k = .cov → 2 ≤ most) (hs : h - l < s) (hp : 0 < s) : h ≤ reachZ k most l s := by
  have e1 := Int.emod_add_mul_ediv l s
  have e2 := Int.emod_nonneg l (show s ≠ 0 by omega)
  have e3 := Int.emod_lt_of_pos l hp
  have f1 := Int.emod_add_mul_ediv (-l) s
  have f2 := Int.emod_nonneg (-l) (show s ≠ 0 by omega)
  have f3 := Int.emod_lt_of_pos (-l) hp
  cases k with
  | len =>
    show h ≤ l + most * s
    have := Int.mul_le_mul_of_nonneg_right h1 (show 0 ≤ s by omega)
    omega
  | cov =>
    show h ≤ (l / s + most) * s
    have := Int.mul_le_mul_of_nonneg_right (h2 rfl) (show 0 ≤ s by omega)
    rw [Int.add_mul, Int.mul_comm (l / s)]
    omega
  | ins =>
    show h ≤ (-(-l / s) + most) * s - 1
    have := Int.mul_le_mul_of_nonneg_right h1 (show 0 ≤ s by omega)
    rw [Int.add_mul, Int.neg_mul, Int.mul_comm (-l / s)]
    omega
/-- a small one does not -/
theorem fit_small {k : Kd} {most l h s : Int} (hs : (most + 1) * s ≤ h - l) (hp : 0 < s) : ¬ h ≤ reachZ k most l s := by
  have e1 := Int.emod_add_mul_ediv l s
  have e2 := Int.emod_nonneg l (show s ≠ 0 by omega)
  have f1 := Int.emod_add_mul_ediv (-l) s
  have f3 := Int.emod_lt_of_pos (-l) hp
  rw [Int.add_mul] at hs
  cases k with
  | len =>
    show ¬ h ≤ l + most * s
    omega
  | cov =>
    show ¬ h ≤ (l / s + most) * s
    rw [Int.add_mul, Int.mul_comm (l / s)]
    omega
  | ins =>
    show ¬ h ≤ (-(-l / s) + most) * s - 1
    rw [Int.add_mul, Int.neg_mul, Int.mul_comm (-l / s)]
    omega
/-- a step is less than another one -/
def SLt (b : Int) (x y : Int × Int) : Prop := ∃ N : Int, 0 ≤ N + x.2 ∧ 0 ≤ N + y.2 ∧ szN b N x.1 x.2 < szN b N y.1 y.2
theorem SLt.at {b : Int} (hb : 1 ≤ b) {x y : Int × Int} (h : SLt b x y) {M : Int} (h1 : 0 ≤ M + x.2) (h2 : 0 ≤ M + y.2) : szN b M x.1 x.2 < szN b M y.1 y.2 := by
  obtain ⟨N, a1, a2, a3⟩ := h
  rcases Int.le_total N M with c | c
  · have e : M = N + (M - N) := by omega
    rw [e, szN_shift a1 (by omega), szN_shift a2 (by omega)]
    exact (mul_lt_iff (by have := pow_pos' hb (M - N).toNat; omega)).mpr a3
  · have e : N = M + (N - M) := by omega
    rw [e, szN_shift h1 (by omega), szN_shift h2 (by omega)] at a3
    exact (mul_lt_iff (by have := pow_pos' hb (N - M).toNat; omega)).mp a3
/-! ### the steps in order -/
noncomputable def sAt (b : Int) (rs : List Int) (i : Int) : Int × Int := (rs.getD (i % rs.length).toNat 1, i / rs.length - lg b (rs.getD (i % rs.length).toNat 1))
/-- what is known of the mantissas in the order of their least steps -/
structure Rungs (b : Int) (rs : List Int) (top : Nat) : Prop where
  b2 : 2 ≤ b
  ne : 0 < rs.length
  pos : ∀ m ∈ rs, 1 ≤ m
  top_ : ∀ m ∈ rs, lg b m ≤ top
  st : rs.Pairwise (fun m n => keyOf b top m < keyOf b top n)
section
variable {b : Int} {rs : List Int} {top : Nat}
theorem Rungs.mem (R : Rungs b rs top) (i : Int) : (sAt b rs i).1 ∈ rs := by
  have h1 := Int.emod_nonneg i (show (rs.length : Int) ≠ 0 by have := R.ne; omega)
  have h2 := Int.emod_lt_of_pos i (show 0 < (rs.length : Int) by have := R.ne; omega)
  show rs.getD (i % rs.length).toNat 1 ∈ rs
  rw [List.getD_eq_getElem?_getD, List.getElem?_eq_getElem (show (i % rs.length).toNat < rs.length by omega)]
  exact List.getElem_mem _
/-- between which powers of the base a step's size lies -/
theorem Rungs.size (R : Rungs b rs top) {i N : Int} (hN : (lg b (sAt b rs i).1 : Int) ≤ N + i / rs.length) : szN b N (sAt b rs i).1 (sAt b rs i).2 = (sAt b rs i).1 * b ^ ((N + i / rs.length).toNat - lg b (sAt b rs i).1) := by
  unfold szN
  congr 2
  show (N + (i / rs.length - lg b (sAt b rs i).1)).toNat = _
  omega
theorem Rungs.bounds (R : Rungs b rs top) {i N : Int} (hN : (lg b (sAt b rs i).1 : Int) ≤ N + i / rs.length) : b ^ (N + i / rs.length).toNat ≤ szN b N (sAt b rs i).1 (sAt b rs i).2 ∧ szN b N (sAt b rs i).1 (sAt b rs i).2 < b ^ ((N + i / rs.length).toNat + 1) := by
  rw [R.size hN]
  exact key_lt (top := (N + i / rs.length).toNat) R.b2 (R.pos _ (R.mem i)) (by omega)
theorem keyOf_shift {top top' : Nat} {m : Int} (h : lg b m ≤ top) (h2 : top ≤ top') : keyOf b top' m = keyOf b top m * b ^ (top' - top) := by
  unfold keyOf
  rw [Int.mul_assoc, ← pow_add']
  congr 2
  omega
theorem Rungs.mono (R : Rungs b rs top) {i j N : Int} (hij : i < j) (hi : (top : Int) ≤ N + i / rs.length) : szN b N (sAt b rs i).1 (sAt b rs i).2 < szN b N (sAt b rs j).1 (sAt b rs j).2 := by
  have hn : 0 < (rs.length : Int) := by have := R.ne; omega
  have ti := R.top_ _ (R.mem i)
  have tj := R.top_ _ (R.mem j)
  have dij : i / rs.length ≤ j / rs.length := Int.ediv_le_ediv hn (by omega)
  obtain ⟨a1, a2⟩ := R.bounds (i := i) (N := N) (by omega)
  obtain ⟨c1, c2⟩ := R.bounds (i := j) (N := N) (by omega)
  by_cases q : i / rs.length = j / rs.length
  · have e1 := Int.emod_add_mul_ediv i rs.length
    have e2 := Int.emod_add_mul_ediv j rs.length
    have f1 := Int.emod_nonneg i (show (rs.length : Int) ≠ 0 by omega)
    have f2 := Int.emod_lt_of_pos i hn
    have g1 := Int.emod_nonneg j (show (rs.length : Int) ≠ 0 by omega)
    have g2 := Int.emod_lt_of_pos j hn
    rw [q] at e1
    have lt : (i % rs.length).toNat < (j % rs.length).toNat := by omega
    rw [R.size (by omega), R.size (by omega), q]
    have hp := (List.pairwise_iff_getElem.mp R.st) (i % rs.length).toNat (j % rs.length).toNat (by omega) (by omega) lt
    have ei : (sAt b rs i).1 = rs[(i % rs.length).toNat]'(by omega) := by
      show rs.getD (i % rs.length).toNat 1 = _
      rw [List.getD_eq_getElem?_getD, List.getElem?_eq_getElem (show (i % rs.length).toNat < rs.length by omega)]
      rfl
    have ej : (sAt b rs j).1 = rs[(j % rs.length).toNat]'(by omega) := by
      show rs.getD (j % rs.length).toNat 1 = _
      rw [List.getD_eq_getElem?_getD, List.getElem?_eq_getElem (show (j % rs.length).toNat < rs.length by omega)]
      rfl
    rw [← ei, ← ej] at hp
    have k1 := keyOf_shift (b := b) ti (show top ≤ (N + j / rs.length).toNat by omega)
    have k2 := keyOf_shift (b := b) tj (show top ≤ (N + j / rs.length).toNat by omega)
    show keyOf b (N + j / rs.length).toNat _ < keyOf b (N + j / rs.length).toNat _
    rw [k1, k2]
    exact (mul_lt_iff (by have := pow_pos' (b := b) (by have := R.b2; omega) ((N + j / rs.length).toNat - top); omega)).mpr hp
  · have := pow_le' (b := b) (by have := R.b2; omega) (show (N + i / rs.length).toNat + 1 ≤ (N + j / rs.length).toNat by omega)
    omega
/-- every step has its place -/
theorem Rungs.place (R : Rungs b rs top) {m p : Int} (hm : m ∈ rs) : ∃ i : Int, sAt b rs i = (m, p) := by
  obtain ⟨j, hj, e⟩ := List.getElem_of_mem hm
  refine ⟨(p + lg b m) * rs.length + j, ?_⟩
  have hn : 0 < (rs.length : Int) := by omega
  have e1 : ((p + lg b m) * rs.length + j) % rs.length = j := by
    rw [Int.add_comm, Int.add_mul_emod_self_right]
    exact Int.emod_eq_of_lt (by omega) (by omega)
  have e2 : ((p + lg b m) * rs.length + j) / rs.length = p + lg b m := by
    rw [Int.add_comm, Int.add_mul_ediv_right _ _ (by omega), Int.ediv_eq_zero_of_lt (by omega) (by omega)]
    omega
  unfold sAt
  rw [e1, e2]
  have e3 : rs.getD (j : Int).toNat 1 = m := by
    rw [Int.toNat_natCast, List.getD_eq_getElem?_getD, List.getElem?_eq_getElem hj, e]
    rfl
  rw [e3]
  exact Prod.ext rfl (by show p + (lg b m : Int) - (lg b m : Int) = p; omega)
end
end Ax

namespace Ax
/-- the i-th step fits -/
def FitI (b : Int) (rs : List Int) (k : Kd) (most l h d i : Int) : Prop := FitE b k most l h (sAt b rs i).1 ((sAt b rs i).2 + d)
noncomputable def lowQ (b most l h d : Int) : Int := lg b (h - l) - d - (lg b (most + 1) + 1)
theorem szN_digits {b N m p d : Int} : szN b N m (p + d) = szN b (N + d) m p := by
  unfold szN
  congr 2
  omega
section
variable {b : Int} {rs : List Int} {top : Nat} {k : Kd} {most l h d : Int}
theorem fit_low (R : Rungs b rs top) (hlt : l < h) (hm : 1 ≤ most) {i : Int} (hi : i < lowQ b most l h d * rs.length) : ¬ FitI b rs k most l h d i := by
  have hb := R.b2
  have hn : 0 < (rs.length : Int) := by have := R.ne; omega
  have q1 : i / rs.length < lowQ b most l h d := Int.ediv_lt_of_lt_mul hn hi
  have tm := R.top_ _ (R.mem i)
  have mp := R.pos _ (R.mem i)
  obtain ⟨g1, g2⟩ := lg_spec (b := b) (m := h - l) hb (by omega)
  obtain ⟨g3, g4⟩ := lg_spec (b := b) (m := most + 1) hb (by omega)
  -- units that are small enough
  obtain ⟨N, hN⟩ : ∃ N : Int, N = top + (i / rs.length).natAbs + d.natAbs := ⟨_, rfl⟩
  have b1 := R.bounds (i := i) (N := N + d) (by omega)
  unfold FitI
  rw [fitE_N (N := N) (by omega) mp (by omega) (by show 0 ≤ N + (i / rs.length - lg b (sAt b rs i).1 + d); omega), szN_digits]
  refine fit_small ?_ (by have := szN_pos (b := b) (N := N + d) (p := (sAt b rs i).2) (by omega) mp; omega)
  rw [← Int.sub_mul]
  unfold lowQ at q1
  have p1 := pow_pos' (b := b) (by omega) N.toNat
  have h1 : (most + 1) * szN b (N + d) (sAt b rs i).1 (sAt b rs i).2 ≤ b ^ (lg b (most + 1) + 1) * b ^ ((N + d + i / rs.length).toNat + 1) := by
    have s0 := szN_pos (b := b) (N := N + d) (p := (sAt b rs i).2) (by omega) mp
    exact Int.mul_le_mul (by omega) (by omega) (by omega) (by omega)
  have h2 : b ^ (lg b (most + 1) + 1) * b ^ ((N + d + i / rs.length).toNat + 1) ≤ b ^ lg b (h - l) * b ^ N.toNat := by
    rw [← pow_add', ← pow_add']
    exact pow_le' (by omega) (by omega)
  have h3 := Int.mul_le_mul_of_nonneg_right g1 (show 0 ≤ b ^ N.toNat by omega)
  omega
theorem fit_high (R : Rungs b rs top) (hlt : l < h) (hm : 1 ≤ most) (hc : k = .cov → 2 ≤ most) {i : Int} (hi : (lg b (h - l) - d + 1) * rs.length ≤ i) : FitI b rs k most l h d i := by
  have hb := R.b2
  have hn : 0 < (rs.length : Int) := by have := R.ne; omega
  have q1 : (lg b (h - l) - d + 1 : Int) ≤ i / rs.length := (Int.le_ediv_iff_mul_le hn).mpr hi
  have tm := R.top_ _ (R.mem i)
  have mp := R.pos _ (R.mem i)
  obtain ⟨g1, g2⟩ := lg_spec (b := b) (m := h - l) hb (by omega)
  obtain ⟨N, hN⟩ : ∃ N : Int, N = top + (i / rs.length).natAbs + d.natAbs := ⟨_, rfl⟩
  have b1 := R.bounds (i := i) (N := N + d) (by omega)
  unfold FitI
  rw [fitE_N (N := N) (by omega) mp (by omega) (by show 0 ≤ N + (i / rs.length - lg b (sAt b rs i).1 + d); omega), szN_digits]
  refine fit_big hm hc ?_ (by have := szN_pos (b := b) (N := N + d) (p := (sAt b rs i).2) (by omega) mp; omega)
  rw [← Int.sub_mul]
  have p1 := pow_pos' (b := b) (by omega) N.toNat
  have h2 : b ^ (lg b (h - l) + 1) * b ^ N.toNat ≤ b ^ (N + d + i / rs.length).toNat := by
    rw [← pow_add']
    exact pow_le' (by omega) (by omega)
  have h3 := (mul_lt_iff (c := b ^ N.toNat) (by omega)).mpr g2
  omega
/-- how far the power of a step that comes into question lies from the ends' digits -/
theorem exp_bound (R : Rungs b rs top) (hb : b < 2 ^ 64) (hlt : l < h) (hlen : h - l < 2 ^ 1000) (hm : 1 ≤ most) (hmB : most < 2 ^ 60) (hrB : ∀ m ∈ rs, m < 2 ^ 64) {i : Int} (h1 : lowQ b most l h d * rs.length ≤ i) (h2 : i ≤ (lg b (h - l) - d + 1) * rs.length) :
    b ^ ((sAt b rs i).2 + d).natAbs < 2 ^ 2000 := by
  have hn : 0 < (rs.length : Int) := by have := R.ne; omega
  have q1 : lowQ b most l h d ≤ i / rs.length := (Int.le_ediv_iff_mul_le hn).mpr h1
  have q2 : i / rs.length ≤ (lg b (h - l) - d + 1 : Int) := Int.ediv_le_of_le_mul hn h2
  unfold lowQ at q1
  have hb2 := R.b2
  have mp := R.pos _ (R.mem i)
  have mB := hrB _ (R.mem i)
  have g1 := (lg_spec (b := b) (m := h - l) hb2 (by omega)).1
  have g2 := (lg_spec (b := b) (m := most + 1) hb2 (by omega)).1
  have g3 := (lg_spec (b := b) (m := (sAt b rs i).1) hb2 mp).1
  have e1 : ((sAt b rs i).2 + d).natAbs ≤ lg b (h - l) + (lg b (most + 1) + (lg b (sAt b rs i).1 + (1 + 1))) := by
    show (i / rs.length - lg b (sAt b rs i).1 + d).natAbs ≤ _
    omega
  refine Int.lt_of_le_of_lt (pow_le' (by omega) e1) ?_
  rw [pow_add', pow_add', pow_add', pow_add', Int.pow_succ, Int.pow_zero, Int.one_mul]
  have p1 := pow_pos' (b := b) (by omega) (lg b (h - l))
  have p2 := pow_pos' (b := b) (by omega) (lg b (most + 1))
  have p3 := pow_pos' (b := b) (by omega) (lg b (sAt b rs i).1)
  have c0 : b * b ≤ 2 ^ 64 * 2 ^ 64 := Int.mul_le_mul (by omega) (by omega) (by omega) (by decide)
  have z0 : 0 ≤ b * b := Int.mul_nonneg (by omega) (by omega)
  have c1 : b ^ lg b (sAt b rs i).1 * (b * b) ≤ 2 ^ 64 * (2 ^ 64 * 2 ^ 64) := Int.mul_le_mul (by omega) c0 z0 (by decide)
  have z1 : 0 ≤ b ^ lg b (sAt b rs i).1 * (b * b) := Int.mul_nonneg (by omega) z0
  have c2 : b ^ lg b (most + 1) * (b ^ lg b (sAt b rs i).1 * (b * b)) ≤ 2 ^ 61 * (2 ^ 64 * (2 ^ 64 * 2 ^ 64)) := Int.mul_le_mul (by
    have : (2 : Int) ^ 60 + 1 ≤ 2 ^ 61 := by decide
    omega) c1 z1 (by decide)
  have z2 : 0 ≤ b ^ lg b (most + 1) * (b ^ lg b (sAt b rs i).1 * (b * b)) := Int.mul_nonneg (by omega) z1
  have c3 : b ^ lg b (h - l) * (b ^ lg b (most + 1) * (b ^ lg b (sAt b rs i).1 * (b * b))) ≤ 2 ^ 1000 * (2 ^ 61 * (2 ^ 64 * (2 ^ 64 * 2 ^ 64))) := Int.mul_le_mul (by omega) c2 z2 (by have := pow_pos' (b := 2) (by decide) 1000; omega)
  refine Int.lt_of_le_of_lt c3 ?_
  rw [← pow_add', ← pow_add', ← pow_add', ← pow_add']
  exact pow_lt' (b := 2) (by decide) (by decide)
/-- THE STEP: the least of a rule that fits -/
structure LeastFit (b : Int) (ms : List Int) (k : Kd) (most l h d m p : Int) : Prop where
  mem : m ∈ ms
  fit : FitE b k most l h m (p + d)
  least : ∀ m' ∈ ms, ∀ p' : Int, SLt b (m', p') (m, p) → ¬ FitE b k most l h m' (p' + d)
theorem least_of (R : Rungs b rs top) (hlt : l < h) (hm : 1 ≤ most) {ms : List Int} (pm : rs.Perm ms) {i : Int} (h1 : FitI b rs k most l h d i) (h2 : ∀ j, lowQ b most l h d * rs.length ≤ j → j < i → ¬ FitI b rs k most l h d j) : LeastFit b ms k most l h d (sAt b rs i).1 (sAt b rs i).2 := by
  refine ⟨pm.mem_iff.mp (R.mem i), h1, fun m' hm' p' hs => ?_⟩
  obtain ⟨j, hj⟩ := R.place (p := p') (pm.mem_iff.mpr hm')
  have hji : j < i := by
    apply Int.lt_of_not_ge
    intro c
    rcases Int.lt_or_eq_of_le c with c | c
    · have tm := R.top_ _ (R.mem i)
      have tj := R.top_ _ (R.mem j)
      obtain ⟨N, hN⟩ : ∃ N : Int, N = top + (i / rs.length).natAbs + (j / rs.length).natAbs := ⟨_, rfl⟩
      have a := R.mono (i := i) (j := j) (N := N) c (by omega)
      have a2 : szN b N (sAt b rs j).1 (sAt b rs j).2 < szN b N (sAt b rs i).1 (sAt b rs i).2 := by
        rw [hj]
        refine hs.at (by have := R.b2; omega) ?_ ?_
        · have e : (sAt b rs j).2 = p' := by rw [hj]
          show 0 ≤ N + p'
          rw [← e]
          show 0 ≤ N + (j / rs.length - lg b (sAt b rs j).1)
          omega
        · show 0 ≤ N + (i / rs.length - lg b (sAt b rs i).1)
          omega
      omega
    · subst c
      rw [hj] at hs
      obtain ⟨N, _, _, q⟩ := hs
      exact absurd q (Int.lt_irrefl _)
  have nf : ¬ FitI b rs k most l h d j := by
    by_cases q : lowQ b most l h d * rs.length ≤ j
    · exact h2 j q hji
    · exact fit_low R hlt hm (by omega)
  unfold FitI at nf
  rw [hj] at nf
  exact nf
end
end Ax
namespace Ax
instance {b : Int} {k : Kd} {most l h m e : Int} : Decidable (FitE b k most l h m e) := inferInstanceAs (Decidable (_ ≤ _))
theorem fac_bound {b e : Int} {n : Nat} (hb : 1 ≤ b) (h : b ^ e.natAbs < 2 ^ n) : 1 ≤ facZ b e ∧ facZ b e < 2 ^ n := by
  have h1 := pow_pos' hb e.natAbs
  unfold facZ
  by_cases c : 0 ≤ e
  · rw [if_pos c]
    omega
  · rw [if_neg c, show (-e).toNat = e.natAbs by omega]
    exact ⟨h1, h⟩
theorem siz_bound {b m e : Int} {n : Nat} (hb : 1 ≤ b) (hm : 1 ≤ m) (hmB : m < 2 ^ 64) (h : b ^ e.natAbs < 2 ^ n) : 1 ≤ sizZ b m e ∧ sizZ b m e < 2 ^ (64 + n) := by
  have h1 := pow_pos' hb e.natAbs
  unfold sizZ
  by_cases c : 0 ≤ e
  · rw [if_pos c, show e.toNat = e.natAbs by omega]
    have a := Int.mul_le_mul hm h1 (by omega) (by omega)
    have a1 := Int.mul_lt_mul_of_pos_right hmB (show 0 < b ^ e.natAbs by omega)
    have a2 := Int.mul_lt_mul_of_pos_left h (show (0 : Int) < 2 ^ 64 by decide)
    rw [pow_add']
    omega
  · rw [if_neg c]
    have := pow_le' (b := 2) (by decide) (Nat.le_add_right 64 n)
    omega
end Ax

namespace Ax
open PySem L2
/-! ### kinds, sizes, reaches: the mathematics' own words -/
def Kd.s : Kd → Str
  | .ins => "inside" | .cov => "cover" | .len => "length"
section
variable {P : Program} {w : World} {K : PySem.W.Frag} {mg : Str → Option Value} {base : Heap} {A : Adr}
/-! ### measure -/
def spMeasure (K : PySem.W.Frag) : Sp := fun vs H Q _ => ∃ (b m p d : Int) (t : Addr), vs = [.int b, .ref t, .int d] ∧ SqT K H t [.int m, .int p] ∧ 1 ≤ b ∧ b < BIG ∧ b ^ (p + d).natAbs < BIG ∧ 0 ≤ m ∧ m < BIG ∧
  ∀ (H' : Hp) (q : Addr), Same H H' → H q = none → H' = upd H q (.tup [.int (facZ b (p + d)), .int (sizZ b m (p + d))]) → Q (.ref q) H'
abbrev nm_measure : List Str := ["base", "step", "digits", "mantissa", "power", "exponent"]
theorem sc_measure : FnScope ["base", "step", "digits", "mantissa", "power", "exponent"] ["base", "step", "digits"] (defScope s_measure) := ⟨rfl, rfl, rfl, by decide +kernel, rfl, by decide +kernel, by decide +kernel⟩
theorem ok_measure (T : Txt K mg A w) : FnOk P w K mg base CX0 2 A.a_measure A.d_measure ["base", "step", "digits"] (spMeasure K) := by
  have G_power_of : FnOk P w K mg base CX0 1 A.a_power_of A.d_power_of ["base", "exponent"] spPow := ok_power_of T
  refine T.F_measure.ok sc_measure (fun vs H Q E h => ?_) (fun cdv A0 outer s H vs Q E hr h => ?_)
  · obtain ⟨b, m, p, d, t, rfl, _⟩ := h
    rfl
  · obtain ⟨b, m, p, d, t, rfl, hT, hb, hbB, hpB, hm, hmB, q⟩ := h
    refine ⟨_, (pss_cons (ps_asg (pv 1) (pg_tup (by rfl) (pgs_cons (pg_name (i := 3) sc_measure.nd rfl (Or.inl rfl)) (pgs_cons (pg_name (i := 4) sc_measure.nd rfl (Or.inl rfl)) pgs_nil))))
  (pss_cons (ps_set (i := 5) sc_measure.nd rfl (Or.inl rfl) (pe_op op_add (pv 4) (pv 2)))
  (pss_cons (ps_if (pt_cmpR op_ge (pv 5) pe_int (nomark _)) (pss_one (ps_ret (pe_tup (pa_cons pe_int (pa_cons (pe_op op_mulW (pv 3) (pe_call G_power_of (hr.mono (by decide)) (by rfl) T.m_power_of T.F_power_of.kp T.B_power_of .nil pass0 (pa_cons (pv 0) (pa_cons (pv 5) pa_nil)))) pa_nil))))) pss_nil)
  (pss_one (ps_ret (pe_tup (pa_cons (pe_call G_power_of (hr.mono (by decide)) (by rfl) T.m_power_of T.F_power_of.kp T.B_power_of .nil pass0 (pa_cons (pv 0) (pa_cons (pe_un un_neg (pv 5)) pa_nil))) (pa_cons (pv 3) pa_nil)))))))), ?_⟩
    refine ⟨_, rfl, t, _, rfl, hT, rfl, _, _, rfl, _, _, rfl, rfl, ?_⟩
    refine ⟨_, rfl, _, rfl, _, _, rfl, rfl, ?_⟩
    refine ⟨_, rfl, _, _, rfl, rfl, _, rfl, ?_⟩
    refine ite2 (fun hc => ?_) (fun hc => ?_)
    · have hc : 0 ≤ p + d := of_decide_eq_true hc
      have e1 : facZ b (p + d) = 1 := if_pos hc
      have e2 : sizZ b m (p + d) = m * b ^ (p + d).toNat := if_pos hc
      have hpB' : b ^ (p + d).toNat < BIG := by rw [show (p + d).toNat = (p + d).natAbs by omega]; exact hpB
      refine ⟨_, rfl, _, rfl, _, rfl, b, p + d, rfl, hb, hc, hpB', hbB, ?_⟩
      have hp1 := pow_pos' hb (p + d).toNat
      refine ⟨_, _, rfl, rfl, mulBig hm (big_le hmB) (by omega) (big_le hpB'), (by show 2 ≤ sizeLine; decide), fun r hr0 => ?_⟩
      refine q _ r (fun c o e => ?_) hr0 ?_
      · rw [upd_ne (ne_of_none e hr0)]
        exact e
      · rw [e1, e2]
    · have hc : ¬ 0 ≤ p + d := fun z => hc (decide_eq_true z)
      have e1 : facZ b (p + d) = b ^ (-(p + d)).toNat := if_neg hc
      have e2 : sizZ b m (p + d) = m := if_neg hc
      have hpB' : b ^ (-(p + d)).toNat < BIG := by rw [show (-(p + d)).toNat = (p + d).natAbs by omega]; exact hpB
      refine ⟨_, rfl, _, rfl, _, rfl, b, -(p + d), rfl, hb, by omega, hpB', hbB, ?_⟩
      refine ⟨_, rfl, (by show 2 ≤ sizeLine; decide), fun r hr0 => ?_⟩
      refine q _ r (fun c o e => ?_) hr0 ?_
      · rw [upd_ne (ne_of_none e hr0)]
        exact e
      · rw [e1, e2]
/-! ### reach -/
def spReach : Sp := fun vs H Q _ => ∃ (k : Kd) (most low size : Int), vs = [.str k.s, .int most, .int low, .int size] ∧ 1 ≤ size ∧ size < BIG ∧ -BIG < low ∧ low < BIG ∧ 0 ≤ most ∧ most < BIG ∧ Q (.int (reachZ k most low size)) H
abbrev nm_reach : List Str := ["kind", "most", "low", "size"]
theorem sc_reach : FnScope ["kind", "most", "low", "size"] ["kind", "most", "low", "size"] (defScope s_reach) := ⟨rfl, rfl, rfl, by decide +kernel, rfl, by decide +kernel, by decide +kernel⟩
theorem div_big {i j : Int} (h1 : 1 ≤ j) (h2 : -BIG < i) (h3 : i < BIG) : -BIG ≤ i / j ∧ i / j < BIG := by
  have hB : (0 : Int) < BIG := by show (0 : Int) < 2 ^ 8000; exact Int.lt_of_lt_of_le (by decide) (pow_pos' (b := 2) (by decide) 8000)
  constructor
  · refine (Int.le_ediv_iff_mul_le (by omega)).mpr ?_
    have := Int.mul_le_mul_of_nonneg_left h1 (show (0 : Int) ≤ BIG by omega)
    rw [Int.neg_mul]
    omega
  · refine (Int.ediv_lt_iff_lt_mul (by omega)).mpr ?_
    have := Int.mul_le_mul_of_nonneg_left h1 (show (0 : Int) ≤ BIG by omega)
    omega
theorem size_div {j : Int} (h1 : 1 ≤ j) (h2 : j < BIG) (i : Int) : CDivW i j := wide_div (b := 8000) (by omega) (abs_lt_pow (by omega) h2) (by decide) (by decide)
theorem mulBig' {i j : Int} (h0 : -(BIG + BIG) ≤ i) (h1 : i ≤ BIG + BIG) (h2 : 0 ≤ j) (h3 : j < BIG) : CMulW i j := by
  refine wide_mul (a := 8002) (b := 8000) ?_ (abs_lt_pow h2 h3) (by decide) (by decide) (by decide)
  have e : (2 : Int) ^ 8002 = 2 ^ 8000 * 4 := by
    rw [show 8002 = 8000 + 2 from rfl, pow_add']
    rfl
  have hB : (0 : Int) < BIG := by show (0 : Int) < 2 ^ 8000; exact Int.lt_of_lt_of_le (by decide) (pow_pos' (b := 2) (by decide) 8000)
  rcases Int.le_total 0 i with h | h
  · exact abs_lt_pow h (by rw [e]; show i < BIG * 4; omega)
  · rw [← Int.natAbs_neg]
    exact abs_lt_pow (by omega) (by rw [e]; show -i < BIG * 4; omega)
theorem kd_is (k k' : Kd) : decide (V.str k.s = V.str k'.s) = decide (k = k') := by
  cases k <;> cases k' <;> decide +kernel
theorem ok_reach (T : Txt K mg A w) : FnOk P w K mg base CX0 1 A.a_reach A.d_reach ["kind", "most", "low", "size"] spReach := by
  refine T.F_reach.ok sc_reach (fun vs H Q E h => ?_) (fun cdv A0 outer s H vs Q E hr h => ?_)
  · obtain ⟨k, a, b, c, rfl, _⟩ := h
    rfl
  · obtain ⟨k, most, low, size, rfl, hs, hsB, hlo, hhi, hm, hmB, q⟩ := h
    refine ⟨_, (pss_cons (ps_if (pt_cmpR op_eq (pv 0) pe_str (nomark _)) (pss_one (ps_ret (pe_op op_add (pv 2) (pe_op op_mulW (pv 1) (pv 3))))) pss_nil)
  (pss_cons (ps_if (pt_cmpR op_eq (pv 0) pe_str (nomark _)) (pss_one (ps_ret (pe_op op_mulW (pe_op op_add (pe_op op_fdivW (pv 2) (pv 3)) (pv 1)) (pv 3)))) pss_nil)
  (pss_one (ps_ret (pe_op op_sub (pe_op op_mulW (pe_op op_add (pe_un un_neg (pe_op op_fdivW (pe_un un_neg (pv 2)) (pv 3))) (pv 1)) (pv 3)) pe_int))))), ?_⟩
    have d1 := div_big hs hlo hhi
    have d2 := div_big (i := -low) hs (by omega) (by omega)
    refine ⟨_, rfl, rfl, _, rfl, ?_⟩
    show if (decide (V.str k.s = V.str Kd.len.s)) = true then _ else _
    rw [kd_is]
    cases k with
    | len =>
      refine iteT ?_
      exact ⟨_, rfl, _, rfl, _, rfl, _, _, rfl, rfl, mulBig' (by omega) (by omega) (by omega) hsB, _, _, rfl, rfl, q⟩
    | cov =>
      refine iteF ?_
      refine ⟨_, rfl, rfl, _, rfl, ?_⟩
      show if (decide (V.str Kd.cov.s = V.str Kd.cov.s)) = true then _ else _
      rw [kd_is]
      refine iteT ?_
      exact ⟨_, rfl, _, rfl, _, _, rfl, rfl, size_div hs hsB _, _, rfl, _, _, rfl, rfl, _, rfl, _, _, rfl, rfl, mulBig' (by show -(BIG + BIG) ≤ low / size + most; omega) (by show low / size + most ≤ BIG + BIG; omega) (by omega) hsB, q⟩
    | ins =>
      refine iteF ?_
      refine ⟨_, rfl, rfl, _, rfl, ?_⟩
      show if (decide (V.str Kd.ins.s = V.str Kd.cov.s)) = true then _ else _
      rw [kd_is]
      refine iteF ?_
      exact ⟨_, rfl, _, rfl, _, rfl, _, _, rfl, rfl, size_div hs hsB _, _, rfl, _, rfl, _, _, rfl, rfl, _, rfl, _, _, rfl, rfl, mulBig' (by show -(BIG + BIG) ≤ -(-low / size) + most; omega) (by show -(-low / size) + most ≤ BIG + BIG; omega) (by omega) hsB, _, _, rfl, rfl, q⟩
/-! ### is_span -/
theorem yes_of {σ : L2.St} {H : Hp} {A B : Hp → Prop} (h : A H) : tYes σ H (fun b H3 => if b = true then A H3 else B H3) := by
  show if true = true then A H else B H
  rw [if_pos rfl]
  exact h
def spSpan : Sp := fun vs H Q _ => ∃ (t : Addr) (l h d : Int), vs = [.ref t] ∧ H t = some (.tup [.int l, .int h, .int d]) ∧ l < h ∧ 0 ≤ d ∧ ∀ H', Same H H' → Q (.bl true) H'
abbrev nm_is_span : List Str := ["value", "number", "low", "high", "digits"]
theorem sc_is_span : FnScope ["value", "number", "low", "high", "digits"] ["value"] (defScope s_is_span) := ⟨rfl, rfl, rfl, by decide +kernel, rfl, by decide +kernel, by decide +kernel⟩
theorem ok_is_span (T : Txt K mg A w) : FnOk P w K mg base CX0 2 A.a_is_span A.d_is_span ["value"] spSpan := by
  have G_is_whole : FnOk P w K mg base CX0 1 A.a_is_whole A.d_is_whole ["value"] (spWhole K) := ok_is_whole T
  refine T.F_is_span.ok sc_is_span (fun vs H Q E h => ?_) (fun cdv A0 outer s H vs Q E hr h => ?_)
  · obtain ⟨t, l, h, d, rfl, _⟩ := h
    rfl
  · obtain ⟨t, l, h, d, rfl, hT, hlh, hd, q⟩ := h
    refine ⟨_, (pss_cons (ps_if (PW.pt (pw_or (pt_not (pt_val (pe_callB call_isi (by rfl) T.n_isinstance (by decide +kernel) (pa_cons (pv 0) (pa_cons (pe_bltn (v := .ty "tuple") (by rfl) T.n_tuple (by decide +kernel) rfl) pa_nil))))) (pw_or1 (pt_cmpR op_ne (pe_callB call_len_seq (by rfl) T.n_len (by decide +kernel) (pa_cons (pv 0) pa_nil)) pe_int (nomark _))))) (pss_one (ps_ret pe_bl)) pss_nil)
  (pss_cons (ps_if (pt_not (pt_val (pe_callB (cr_all rfl) (by rfl) T.n_all (by decide +kernel) (pa_cons (pe_lc (own := [("number", 1)]) (g := gName 1) (tt := tYes) rfl sc_is_span.nd (pi_tup (pv 0)) (blkOk_by (own := [("number", 1)]) (N := nm_is_span) (sc := defScope s_is_span) (by decide +kernel)) (fun _ _ _ _ _ => (pg_name (i := 1) sc_is_span.nd rfl (Or.inl rfl))) (fun _ _ _ _ _ => pts_nil) (fun _ _ _ _ _ => (pe_call G_is_whole (hr.mono (by decide)) (by rfl) T.m_is_whole T.F_is_whole.kp T.B_is_whole .nil pass0 (pa_cons (pv 1) pa_nil)))) pa_nil)))) (pss_one (ps_ret pe_bl)) pss_nil)
  (pss_cons (ps_asg (pv 0) (pg_tup (by rfl) (pgs_cons (pg_name (i := 2) sc_is_span.nd rfl (Or.inl rfl)) (pgs_cons (pg_name (i := 3) sc_is_span.nd rfl (Or.inl rfl)) (pgs_cons (pg_name (i := 4) sc_is_span.nd rfl (Or.inl rfl)) pgs_nil)))))
  (pss_one (ps_ret (pe_and (pe_cmpR op_lt (pv 2) (pv 3) (nomark _)) (pe_one (pe_cmpR op_ge (pv 4) pe_int (nomark _))))))))), ?_⟩
    refine ⟨_, rfl, _, .ty "tuple", .type "tuple", .type "tuple", true, rfl, .ty _, .base (.tup hT), kit_ty (by decide +kernel), true, rfl, ?_⟩
    refine iteF ?_
    refine ⟨_, rfl, t, _, rfl, .inr (SqT.of hT), rfl, _, rfl, ?_⟩
    refine iteF ?_
    refine ⟨_, rfl, t, rfl, ⟨_, SqT.of hT⟩, fun D hD => lc_tup (K := K) (a := t) (xs := [.int l, .int h, .int d]) (fun i H' => H' = upd H D (.lst (List.replicate i (.bl true)))) rfl ?_ ?_ ?_⟩
    · rintro i H' _ rfl
      exact SqT.of (by rw [upd_ne (ne_of_none hT hD)]; exact hT)
    · rintro i x H' hi rfl
      obtain ⟨n, rfl⟩ : ∃ n, x = V.int n := by
        match i, hi with
        | 0, hi => exact ⟨l, (Option.some.inj hi).symm⟩
        | 1, hi => exact ⟨h, (Option.some.inj hi).symm⟩
        | 2, hi => exact ⟨d, (Option.some.inj hi).symm⟩
      refine ⟨rfl, yes_of ?_⟩
      refine ⟨_, rfl, .int n, .type "int", true, false, rfl, .base (.int n), kit_ty (by decide +kernel), fun _ => kit_ty (by decide +kernel), ?_⟩
      have hi3 : i < 3 := (List.getElem?_eq_some_iff.mp hi).1
      refine ⟨_, upd_same, ?_, ?_⟩
      · rw [List.length_replicate]
        exact small1000 (by omega)
      · rw [upd_upd, List.replicate_succ']
        rfl
    · rintro H' rfl
      have s1 : Same H (upd H D (.lst (List.replicate 3 (.bl true)))) := fun c o e => by
        rw [upd_ne (ne_of_none e hD)]
        exact e
      refine ⟨D, [true, true, true], rfl, SqL.of upd_same, true, rfl, iteF ?_⟩
      refine ⟨_, rfl, t, _, rfl, SqT.of (s1 _ _ hT), rfl, _, _, rfl, _, _, rfl, _, _, rfl, rfl, ?_⟩
      refine ⟨_, rfl, _, rfl, _, _, rfl, rfl, _, rfl, ?_⟩
      rw [decide_eq_true hlh]
      refine iteT ?_
      refine ⟨_, rfl, _, _, rfl, rfl, ?_⟩
      show Q (.bl (decide (0 ≤ d))) _
      rw [decide_eq_true hd]
      exact q _ s1
end
end Ax

namespace Ax
open PySem L2
/-- what a rule may be made of -/
structure RArgs (b : Int) (k : Kd) (ms : List Int) (most : Int) : Prop where
  b2 : 2 ≤ b
  bB : b < 2 ^ 64
  m1 : 1 ≤ most
  mB : most < 2 ^ 60
  mC : k = .cov → 2 ≤ most
  ne : ms ≠ []
  le : ms.length < 60
  nd : ms.Nodup
  all : ∀ m ∈ ms, 1 ≤ m ∧ m < 2 ^ 64 ∧ m % b ≠ 0
section
variable {P : Program} {w : World} {K : PySem.W.Frag} {mg : Str → Option Value} {base : Heap} {A : Adr}
/-! ### _kind_and_most_fit -/
def spKM : Sp := fun vs H Q _ => ∃ (k : Kd) (most : Int), vs = [.str k.s, .int most] ∧ 1 ≤ most ∧ (k = .cov → 2 ≤ most) ∧ Q (.bl true) H
abbrev nm_kind_and_most_fit : List Str := ["kind", "most"]
theorem sc_kind_and_most_fit : FnScope ["kind", "most"] ["kind", "most"] (defScope s_kind_and_most_fit) := ⟨rfl, rfl, rfl, by decide +kernel, rfl, by decide +kernel, by decide +kernel⟩
def Kd.least : Kd → Int
  | .cov => 2 | _ => 1
theorem kd_in (T : Txt K mg A w) (k : Kd) : ∃ t, PySem.W.nsIn K A.a_LEAST k.s = some (some (.int k.least t)) := by
  cases k with
  | ins => exact T.kd_inside
  | cov => exact T.kd_cover
  | len => exact T.kd_length
theorem ok_kind (T : Txt K mg A w) : FnOk P w K mg base CX0 2 A.a_kind_and_most_fit A.d_kind_and_most_fit ["kind", "most"] spKM := by
  have G_is_whole : FnOk P w K mg base CX0 1 A.a_is_whole A.d_is_whole ["value"] (spWhole K) := ok_is_whole T
  refine T.F_kind_and_most_fit.ok sc_kind_and_most_fit (fun vs H Q E h => ?_) (fun cdv A0 outer s H vs Q E hr h => ?_)
  · obtain ⟨k, m, rfl, _⟩ := h
    rfl
  · obtain ⟨k, m, rfl, hm, hc, q⟩ := h
    obtain ⟨es, n, D⟩ := T.kd
    obtain ⟨tk, hk⟩ := kd_in T k
    refine ⟨_, (pss_cons (ps_if (PW.pt (pw_or (pt_not (pt_val (pe_callB call_isi (by rfl) T.n_isinstance (by decide +kernel) (pa_cons (pv 0) (pa_cons (pe_bltn (v := .ty "str") (by rfl) T.n_str (by decide +kernel) rfl) pa_nil))))) (pw_or1 (pt_cmpR (op_notIn_kd D) (pv 0) (pe_glob (v := .ref A.a_LEAST) rfl T.m_LEAST_MOST rfl) (by rfl))))) (pss_one (ps_ret pe_bl)) pss_nil)
  (pss_one (ps_ret (pe_and (pe_call G_is_whole (hr.mono (by decide)) (by rfl) T.m_is_whole T.F_is_whole.kp T.B_is_whole .nil pass0 (pa_cons (pv 1) pa_nil)) (pe_one (pe_cmpR op_ge (pv 1) (pe_ix ix_kdict (pe_glob (v := .ref A.a_LEAST) rfl T.m_LEAST_MOST rfl) (pv 0) (fun _ _ => rfl)) (nomark _))))))), ?_⟩
    refine ⟨_, rfl, _, .ty "str", .type "str", .type "str", true, rfl, .ty _, .base (.str _), kit_ty (by decide +kernel), true, rfl, ?_⟩
    refine iteF ?_
    refine ⟨_, rfl, k.s, _, rfl, rfl, hk, _, rfl, ?_⟩
    refine iteF ?_
    refine ⟨_, rfl, .int m, .type "int", true, false, rfl, .base (.int m), kit_ty (by decide +kernel), fun _ => kit_ty (by decide +kernel), ?_⟩
    refine ⟨_, rfl, ?_⟩
    refine iteT ?_
    refine ⟨_, rfl, _, rfl, _, k.s, .int k.least, rfl, rfl, ⟨es, n, _, D.at_, D.lit, hk, tk, rfl⟩, _, _, rfl, rfl, ?_⟩
    show Q (.bl (decide (k.least ≤ m))) _
    rw [decide_eq_true (show k.least ≤ m by cases k <;> simp [Kd.least] at * <;> omega)]
    exact q
/-! ### _mantissas_fit -/
def spMF (K : PySem.W.Frag) : Sp := fun vs H Q _ => ∃ (k : Kd) (b most : Int) (ms : List Int) (a : Addr), vs = [.int b, .ref a] ∧ H a = some (.lst (ms.map V.int)) ∧ RArgs b k ms most ∧ ∀ H', Same H H' → Q (.bl true) H'
abbrev nm_mantissas_fit : List Str := ["base", "mantissas", "mantissa"]
theorem sc_mantissas_fit : FnScope ["base", "mantissas", "mantissa"] ["base", "mantissas"] (defScope s_mantissas_fit) := ⟨rfl, rfl, rfl, by decide +kernel, rfl, by decide +kernel, by decide +kernel⟩
theorem map_get {ms : List Int} {i : Nat} {x : V} (h : (ms.map V.int)[i]? = some x) : ∃ m, ms[i]? = some m ∧ x = .int m := by
  rw [List.getElem?_map] at h
  cases e : ms[i]? with
  | none =>
    rw [e] at h
    cases h
  | some m =>
    rw [e] at h
    exact ⟨m, rfl, (Option.some.inj h).symm⟩
theorem same_new {H : Hp} {D : Addr} {o : HO} (hD : H D = none) : Same H (upd H D o) := fun c o e => by
  rw [upd_ne (ne_of_none e hD)]
  exact e
theorem all_true (n : Nat) : (List.replicate n true).all id = true := by
  induction n with
  | zero => rfl
  | succ n ih =>
    rw [List.replicate_succ, List.all_cons, ih]
    rfl
theorem map_rep (n : Nat) : (List.replicate n true).map V.bl = List.replicate n (.bl true) := by
  rw [List.map_replicate]
theorem ok_mf (T : Txt K mg A w) : FnOk P w K mg base CX0 2 A.a_mantissas_fit A.d_mantissas_fit ["base", "mantissas"] (spMF K) := by
  have G_is_whole : FnOk P w K mg base CX0 1 A.a_is_whole A.d_is_whole ["value"] (spWhole K) := ok_is_whole T
  refine T.F_mantissas_fit.ok sc_mantissas_fit (fun vs H Q E h => ?_) (fun cdv A0 outer s H vs Q E hr h => ?_)
  · obtain ⟨k, b, most, ms, a, rfl, _⟩ := h
    rfl
  · obtain ⟨k, b, most, ms, a, rfl, hL, R, q⟩ := h
    have hlen : (ms.map V.int).length = ms.length := List.length_map _
    have hpos : 0 < ms.length := List.length_pos_iff.mpr R.ne
    refine ⟨_, (pss_cons (ps_if (PW.pt (pw_or (pt_not (pt_val (pe_callB call_isi (by rfl) T.n_isinstance (by decide +kernel) (pa_cons (pv 1) (pa_cons (pe_bltn (v := .ty "list") (by rfl) T.n_list (by decide +kernel) rfl) pa_nil))))) (pw_or1 (pt_cmpR op_eq (pe_callB call_len_seq (by rfl) T.n_len (by decide +kernel) (pa_cons (pv 1) pa_nil)) pe_int (nomark _))))) (pss_one (ps_ret pe_bl)) pss_nil)
  (pss_cons (ps_if (pt_not (pt_val (pe_callB (cr_all rfl) (by rfl) T.n_all (by decide +kernel) (pa_cons (pe_lc (own := [("mantissa", 2)]) (g := gName 2) (tt := tYes) rfl sc_mantissas_fit.nd (pi_list (pv 1)) (blkOk_by (own := [("mantissa", 2)]) (N := nm_mantissas_fit) (sc := defScope s_mantissas_fit) (by decide +kernel)) (fun _ _ _ _ _ => (pg_name (i := 2) sc_mantissas_fit.nd rfl (Or.inl rfl))) (fun _ _ _ _ _ => pts_nil) (fun _ _ _ _ _ => (pe_call G_is_whole (hr.mono (by decide)) (by rfl) T.m_is_whole T.F_is_whole.kp T.B_is_whole .nil pass0 (pa_cons (pv 2) pa_nil)))) pa_nil)))) (pss_one (ps_ret pe_bl)) pss_nil)
  (pss_cons (ps_if (pt_cmpR op_ne (RZ.pe_lenSetI rfl T.n_len rfl T.n_set (pv 1)) (pe_callB call_len_seq (by rfl) T.n_len (by decide +kernel) (pa_cons (pv 1) pa_nil)) (nomark _)) (pss_one (ps_ret pe_bl)) pss_nil)
  (pss_one (ps_ret (pe_callB (cr_all rfl) (by rfl) T.n_all (by decide +kernel) (pa_cons (pe_lc (own := [("mantissa", 2)]) (g := gName 2) (tt := tYes) rfl sc_mantissas_fit.nd (pi_list (pv 1)) (blkOk_by (own := [("mantissa", 2)]) (N := nm_mantissas_fit) (sc := defScope s_mantissas_fit) (by decide +kernel)) (fun _ _ _ _ _ => (pg_name (i := 2) sc_mantissas_fit.nd rfl (Or.inl rfl))) (fun _ _ _ _ _ => pts_nil) (fun _ _ _ _ _ => (pe_and (pe_cmpR op_ge (pv 2) pe_int (nomark _)) (pe_one (pe_cmpR op_ne (pe_op op_mod (pv 2) (pv 0)) pe_int (nomark _)))))) pa_nil))))))), ?_⟩
    refine ⟨_, rfl, _, .ty "list", .type "list", .type "list", true, rfl, .ty _, .base (.lst hL), kit_ty (by decide +kernel), true, rfl, ?_⟩
    refine iteF ?_
    refine ⟨_, rfl, a, _, rfl, .inl (SqL.of hL), rfl, _, rfl, ?_⟩
    have z0 : decide (V.int ((ms.map V.int).length : Nat) = V.int 0) = false := decide_eq_false (fun z => by have := V.int.inj z; omega)
    show if (decide (V.int ((ms.map V.int).length : Nat) = V.int 0)) = true then _ else _
    rw [z0]
    refine iteF ?_
    -- the first comprehension
    refine ⟨_, rfl, a, rfl, ⟨_, SqL.of hL⟩, fun D hD => lc_list (K := K) (a := a) (xs := ms.map V.int) (fun i H' => H' = upd H D (.lst (List.replicate i (.bl true)))) rfl ?_ ?_ ?_⟩
    · rintro i H' _ rfl
      exact SqL.of (by rw [upd_ne (ne_of_none hL hD)]; exact hL)
    · rintro i x H' hi rfl
      obtain ⟨n, hn, rfl⟩ := map_get hi
      have hi3 : i < ms.length := (List.getElem?_eq_some_iff.mp hn).1
      refine ⟨rfl, yes_of ?_⟩
      refine ⟨_, rfl, .int n, .type "int", true, false, rfl, .base (.int n), kit_ty (by decide +kernel), fun _ => kit_ty (by decide +kernel), ?_⟩
      refine ⟨_, upd_same, ?_, ?_⟩
      · rw [List.length_replicate]
        exact small1000 (by have := R.le; omega)
      · rw [upd_upd, List.replicate_succ']
        rfl
    · rintro H' rfl
      have s1 : Same H (upd H D (.lst (List.replicate (ms.map V.int).length (.bl true)))) := same_new hD
      refine ⟨D, List.replicate (ms.map V.int).length true, rfl, SqL.of (by rw [map_rep]; exact upd_same), _, rfl, ?_⟩
      rw [all_true]
      refine iteF ?_
      refine ⟨_, rfl, a, ms, rfl, SqL.of (s1 _ _ hL), R.nd, by have := R.le; omega, ?_⟩
      refine ⟨_, rfl, a, _, rfl, .inl (SqL.of (s1 _ _ hL)), rfl, _, rfl, ?_⟩
      rw [hlen] at s1
      rw [hlen, decide_eq_true (rfl : V.int (ms.length : Nat) = V.int (ms.length : Nat))]
      refine iteF ?_
      -- the second one
      refine ⟨_, rfl, a, rfl, ⟨_, SqL.of (s1 _ _ hL)⟩, fun D2 hD2 => lc_list (K := K) (a := a) (xs := ms.map V.int) (fun i H' => H' = upd (upd H D (.lst (List.replicate ms.length (.bl true)))) D2 (.lst (List.replicate i (.bl true)))) rfl ?_ ?_ ?_⟩
      · rintro i H' _ rfl
        exact SqL.of (by rw [upd_ne (ne_of_none (s1 _ _ hL) hD2)]; exact s1 _ _ hL)
      · rintro i x H' hi rfl
        obtain ⟨n, hn, rfl⟩ := map_get hi
        have hi3 : i < ms.length := (List.getElem?_eq_some_iff.mp hn).1
        obtain ⟨n1, n2, n3⟩ := R.all n (List.mem_of_getElem? hn)
        refine ⟨rfl, yes_of ?_⟩
        refine ⟨_, rfl, _, _, rfl, rfl, _, rfl, ?_⟩
        rw [decide_eq_true n1]
        refine iteT ?_
        refine ⟨_, rfl, _, rfl, _, _, rfl, rfl, (by have := R.b2; show 0 < b; omega), rfl, ?_⟩
        refine ⟨_, upd_same, ?_, ?_⟩
        · rw [List.length_replicate]
          exact small1000 (by have := R.le; omega)
        · rw [upd_upd, List.replicate_succ']
          have e : decide (V.int (n % b) = V.int 0) = false := decide_eq_false (fun z => n3 (V.int.inj z))
          show upd _ D2 (HO.lst (List.replicate i (V.bl true) ++ [V.bl (!decide (V.int (n % b) = V.int 0))])) = _
          rw [e]
          rfl
      · rintro H' rfl
        rw [hlen]
        refine ⟨D2, List.replicate ms.length true, rfl, SqL.of (by rw [map_rep]; exact upd_same), ?_⟩
        rw [all_true]
        exact q _ (s1.trans (same_new hD2))
/-! ### is_base -/
def spBase : Sp := fun vs H Q _ => ∃ b : Int, vs = [.int b] ∧ 2 ≤ b ∧ Q (.bl true) H
abbrev nm_is_base : List Str := ["value"]
theorem sc_is_base : FnScope ["value"] ["value"] (defScope s_is_base) := ⟨rfl, rfl, rfl, by decide +kernel, rfl, by decide +kernel, by decide +kernel⟩
theorem ok_is_base (T : Txt K mg A w) : FnOk P w K mg base CX0 2 A.a_is_base A.d_is_base ["value"] spBase := by
  have G_is_whole : FnOk P w K mg base CX0 1 A.a_is_whole A.d_is_whole ["value"] (spWhole K) := ok_is_whole T
  refine T.F_is_base.ok sc_is_base (fun vs H Q E h => ?_) (fun cdv A0 outer s H vs Q E hr h => ?_)
  · obtain ⟨b, rfl, _⟩ := h
    rfl
  · obtain ⟨b, rfl, hb, q⟩ := h
    refine ⟨_, (pss_one (ps_ret (pe_and (pe_call G_is_whole (hr.mono (by decide)) (by rfl) T.m_is_whole T.F_is_whole.kp T.B_is_whole .nil pass0 (pa_cons (pv 0) pa_nil)) (pe_one (pe_cmpR op_ge (pv 0) pe_int (nomark _)))))), ?_⟩
    refine ⟨_, rfl, .int b, .type "int", true, false, rfl, .base (.int b), kit_ty (by decide +kernel), fun _ => kit_ty (by decide +kernel), ?_⟩
    refine ⟨_, rfl, ?_⟩
    refine iteT ?_
    refine ⟨_, rfl, _, _, rfl, rfl, ?_⟩
    show Q (.bl (decide (2 ≤ b))) _
    rw [decide_eq_true hb]
    exact q
/-! ### _arguments_fit -/
def spAF (K : PySem.W.Frag) : Sp := fun vs H Q _ => ∃ (b : Int) (k : Kd) (ms : List Int) (a : Addr) (most : Int), vs = [.int b, .str k.s, .ref a, .int most] ∧ H a = some (.lst (ms.map V.int)) ∧ RArgs b k ms most ∧ ∀ H', Same H H' → Q (.bl true) H'
abbrev nm_arguments_fit : List Str := ["base", "kind", "mantissas", "most"]
theorem sc_arguments_fit : FnScope ["base", "kind", "mantissas", "most"] ["base", "kind", "mantissas", "most"] (defScope s_arguments_fit) := ⟨rfl, rfl, rfl, by decide +kernel, rfl, by decide +kernel, by decide +kernel⟩
theorem ok_af (T : Txt K mg A w) : FnOk P w K mg base CX0 3 A.a_arguments_fit A.d_arguments_fit ["base", "kind", "mantissas", "most"] (spAF K) := by
  have G_is_base : FnOk P w K mg base CX0 2 A.a_is_base A.d_is_base ["value"] spBase := ok_is_base T
  have G_kind_and_most_fit : FnOk P w K mg base CX0 2 A.a_kind_and_most_fit A.d_kind_and_most_fit ["kind", "most"] spKM := ok_kind T
  have G_mantissas_fit : FnOk P w K mg base CX0 2 A.a_mantissas_fit A.d_mantissas_fit ["base", "mantissas"] (spMF K) := ok_mf T
  refine T.F_arguments_fit.ok sc_arguments_fit (fun vs H Q E h => ?_) (fun cdv A0 outer s H vs Q E hr h => ?_)
  · obtain ⟨b, k, ms, a, most, rfl, _⟩ := h
    rfl
  · obtain ⟨b, k, ms, a, most, rfl, hL, R, q⟩ := h
    refine ⟨_, (pss_one (ps_ret (pe_and (pe_call G_is_base (hr.mono (by decide)) (by rfl) T.m_is_base T.F_is_base.kp T.B_is_base .nil pass0 (pa_cons (pv 0) pa_nil)) (pe_and (pe_call G_kind_and_most_fit (hr.mono (by decide)) (by rfl) T.m_kind_and_most_fit T.F_kind_and_most_fit.kp T.B_kind_and_most_fit .nil pass0 (pa_cons (pv 1) (pa_cons (pv 3) pa_nil))) (pe_one (pe_call G_mantissas_fit (hr.mono (by decide)) (by rfl) T.m_mantissas_fit T.F_mantissas_fit.kp T.B_mantissas_fit .nil pass0 (pa_cons (pv 0) (pa_cons (pv 2) pa_nil)))))))), ?_⟩
    refine ⟨_, rfl, b, rfl, R.b2, ?_⟩
    refine ⟨_, rfl, ?_⟩
    refine iteT ?_
    refine ⟨_, rfl, _, rfl, k, most, rfl, R.m1, R.mC, ?_⟩
    refine ⟨_, rfl, ?_⟩
    refine iteT ?_
    exact ⟨_, rfl, _, rfl, k, b, most, ms, a, rfl, hL, R, fun H' s1 => q H' s1⟩
end
end Ax

/-! max and sorted of whole numbers with key=int: the key of a whole number is the number itself, nothing else happens. -/
namespace Ax
open PySem PyProof.Rows
def Keep (h h' : Heap) : Prop := ∀ b o, h.get? b = some o → h'.get? b = some o
theorem Keep.refl (h : Heap) : Keep h h := fun _ _ e => e
theorem Keep.lst {h h' : Heap} {l : Addr} {xs : Array Value} (k : Keep h h') (e : h.IsList l xs) : h'.IsList l xs := let ⟨o, q, r⟩ := e; ⟨o, k _ _ q, r⟩
section
variable {prog : Program} {w : World} {A : Around} {E : Value → Shared → Prop} {s : Shared} {G : Heap} {l I S : Addr} {vs : List Value} {ns : List Int} {R : Result → Shared → Prop} {Q : Value → Shared → Prop}
theorem mx_loop (calm : A.handled = none) (isL : G.IsList l vs.toArray) (allI : IntsAre vs ns) (gI : G.get? I = none) (gS : G.get? S = none) (dif : I ≠ S)
    (fin : ∀ (M : Int) (t : Tok) (h : Heap) (tk : Nat), Keep G h → M ∈ ns → (∀ a ∈ ns, a ≤ M) → R (.ok (.ret (.int M t))) { s with heap := h, toks := tk }) :
    ∀ (r j : Nat) (M : Int) (h : Heap) (tk : Nat) (t t' : Tok) (c : Nat), vs.length - j = r → j ≤ vs.length → Keep G h → h.get? S = some (seqObj "list" #[.int M t, .int M t'] c) → h.IsListIter I l j → M ∈ ns → (∀ i a, i < j → ns[i]? = some a → a ≤ M) →
      codeAny (model prog w) A (.builtin "max.loop" ⟨[.ref I, .type "int", .ref S], []⟩) R { s with heap := h, toks := tk } := by
  have nm : (toString "max" ++ toString ".loop" : String) = "max.loop" := by decide
  have lI : l ≠ I := fun z => by
    obtain ⟨o, e, _⟩ := isL
    rw [z, gI] at e
    cases e
  have W := Walks.list (prog := prog) (w := w) (A := A.in1) calm I l lI vs.toArray
  have sz : vs.toArray.size = vs.length := List.size_toArray ..
  have ln := allI.length
  intro r
  induction r with
  | zero =>
    intro j M h tk t t' c hr hj K hS it hM hb
    have ej : j = vs.length := by omega
    refine codeAny_builtin (PySem.F.entry_max_loop) ?_
    rw [Around.under_plainId (PySem.F.plain_max_loop) _]
    show wpAny _ A.in1 (seqItems? (Value.ref S) >>= _) _ _ _
    refine wpAny_bind (wpAny_seqItems hS rfl ?_)
    show wpAny _ A.in1 (tryCatch (pyNext (Value.ref I)) _ >>= _) _ _ _
    refine wpAny_bind (wpAny_tryCatch (W.done _ _ _ ⟨by rw [sz, ← ej]; exact it, K.lst isL⟩ fun h2 tk2 k2 => ?_))
    have hS2 := k2 S _ (fun z => dif (List.mem_singleton.mp z).symm) hS
    have u := Heap.SameBut.update h2 S (Obj.mapSeq fun _ => (#[] : Array Value))
    show wpAny _ A.in1 (updateSeq S (fun _ => #[]) >>= _) _ _ _
    refine wpAny_bind (wpAny_updateSeq hS2 rfl (wpAny_bind (wpAny_letGo (wpAny_pure ?_))))
    refine fin M t _ _ (fun b o e => ?_) hM fun a ha => ?_
    · have b1 : b ≠ S := fun z => by rw [z, gS] at e; cases e
      have b2 : b ≠ I := fun z => by rw [z, gI] at e; cases e
      exact (u.2 b b1).trans (k2 b o (fun z => b2 (List.mem_singleton.mp z)) (K b o e))
    · obtain ⟨i, hi, ei⟩ := List.getElem_of_mem ha
      exact hb i a (by omega) (by rw [List.getElem?_eq_getElem hi, ei])
  | succ r ih =>
    intro j M h tk t t' c hr hj K hS it hM hb
    have lt : j < vs.length := by omega
    refine codeAny_builtin (PySem.F.entry_max_loop) ?_
    rw [Around.under_plainId (PySem.F.plain_max_loop) _]
    show wpAny _ A.in1 (seqItems? (Value.ref S) >>= _) _ _ _
    refine wpAny_bind (wpAny_seqItems hS rfl ?_)
    show wpAny _ A.in1 (tryCatch (pyNext (Value.ref I)) _ >>= _) _ _ _
    refine wpAny_bind (wpAny_tryCatch (W.item j _ _ _ (by rw [sz]; exact lt) ⟨it, K.lst isL⟩ fun v h2 tk2 at2 st2 k2 => ?_))
    have ev : vs[j]? = some v := by simpa using at2
    obtain ⟨n, en⟩ : ∃ n, ns[j]? = some n := ⟨_, List.getElem?_eq_getElem (by omega)⟩
    obtain ⟨tn, etn⟩ := allI.get j n en
    rw [etn] at ev
    obtain rfl := Option.some.inj ev
    obtain ⟨oI, eI, cI, dI⟩ := id st2.1
    have hS2 := k2 S _ (fun z => dif (List.mem_singleton.mp z).symm) hS
    have K2 : Keep G h2 := fun b o e => k2 b o (fun z => by rw [List.mem_singleton.mp z, gI] at e; cases e) (K b o e)
    show wpAny _ A.in1 (tryCatch (holding [Value.int n tn] (call (.type "int") [Value.int n tn])) _ >>= _) _ _ _
    refine wpAny_bind (wpAny_tryCatch (wpAny_holding (call_int_int ?_)))
    show wpAny _ A.in1 (tryCatch (holding [Value.int n tn, Value.int n tn] (richCompare .Gt (Value.int n tn) (Value.int M t') >>= _)) _ >>= _) _ _ _
    refine wpAny_bind (wpAny_tryCatch (wpAny_holding (wpAny_bind (CmpOf.ints_gt (prog := prog) (w := w) (A := A.in1) (P := fun i v => ∃ t, v = .int (if i = 0 then n else M) t) (fun i => if i = 0 then n else M) (fun i v h => h) 0 1 _ _ _ _ _ ⟨tn, rfl⟩ ⟨t', rfl⟩ ?_))))
    refine wpAny_bind (wpAny_holding (wpAny_truthy_bool ?_))
    refine wpAny_bind (wpAny_letGo (wpAny_pure ?_))
    have better : ∀ i a, i < j + 1 → ns[i]? = some a → a ≤ M ∨ i = j ∧ a = n := fun i a hi e => by
      by_cases q : i = j
      · rw [q, en] at e
        exact .inr ⟨q, (Option.some.inj e).symm⟩
      · exact .inl (hb i a (by omega) e)
    by_cases gt : n > M
    · have u := Heap.SameBut.update h2 S (Obj.mapSeq fun _ => #[Value.int n tn, Value.int n tn])
      obtain ⟨c2, ec2⟩ : ∃ c2, (h2.update S (Obj.mapSeq fun _ => #[Value.int n tn, Value.int n tn])).get? S = some (seqObj "list" #[Value.int n tn, Value.int n tn] c2) := ⟨_, get?_update_seq hS2 fun _ => _⟩
      simp only [if_true, Nat.one_ne_zero, if_false, gt, decide_true]
      refine wpAny_bind (wpAny_updateSeq hS2 rfl (wpAny_bind (wpAny_letGo ?_)))
      rw [nm]
      refine wpAny_pure ⟨plainId_quiet PySem.F.plain_max_loop _, ih (j + 1) n _ _ tn tn c2 (by omega) lt (fun b o e => ?_) ec2 ⟨oI, (u.2 I dif).trans eI, cI, dI⟩ (List.mem_of_getElem? en) fun i a hi e => ?_⟩
      · have b1 : b ≠ S := fun z => by rw [z, gS] at e; cases e
        exact (u.2 b b1).trans (K2 b o e)
      · rcases better i a hi e with q | ⟨_, q⟩ <;> omega
    · simp only [if_true, Nat.one_ne_zero, if_false, gt, decide_false, Bool.false_eq_true]
      refine wpAny_bind (wpAny_letGo ?_)
      rw [nm]
      refine wpAny_pure ⟨plainId_quiet PySem.F.plain_max_loop _, ih (j + 1) M _ _ t t' c (by omega) lt K2 hS2 ⟨oI, eI, cI, dI⟩ hM fun i a hi e => ?_⟩
      rcases better i a hi e with q | ⟨_, q⟩ <;> omega
theorem call_max_int (calm : A.handled = none) (isL : s.heap.IsList l vs.toArray) (allI : IntsAre vs ns) (ne : 0 < vs.length)
    (fin : ∀ (M : Int) (t : Tok) (h : Heap) (tk : Nat), Keep s.heap h → M ∈ ns → (∀ a ∈ ns, a ≤ M) → Q (.int M t) { s with heap := h, toks := tk }) :
    wpAny (model prog w) A (call (.builtin "max") [.ref l] [(Str.ofString "key", .type "int")]) Q E s := by
  have nm : (toString "max" ++ toString ".loop" : String) = "max.loop" := by decide
  have sz : vs.toArray.size = vs.length := List.size_toArray ..
  have ln := allI.length
  refine kmb_tree PySem.F.kind_max PySem.F.plain_max (PySem.F.entry_max) (kmb_max_key _ _) ?_
  show wpAny _ A.in1 (Builtin.Builtins.bindParams "max" ["key", "default"] 0 ⟨[], [(Str.ofString "key", .type "int")]⟩ >>= _) _ _ s
  refine wpAny_bind (wpAny_of_eq (show Builtin.Builtins.bindParams "max" ["key", "default"] 0 ⟨[], [(Str.ofString "key", .type "int")]⟩ = pure [some (.type "int"), none] from rfl) ?_)
  refine wpAny_bind (wpAny_pure (wpAny_bind (wpAny_pyIter_list isL ?_)))
  refine wpAny_bind (wpAny_newList ?_ (Nat.zero_le _))
  rw [nm]
  refine wpAny_pure ⟨plainId_quiet PySem.F.plain_max_loop _, ?_⟩
  obtain ⟨I, eqI⟩ : ∃ I, I = s.heap.objs.size := ⟨_, rfl⟩
  obtain ⟨h1, eq1⟩ : ∃ h1, h1 = s.heap.push { cls := .type "list_iterator", data := .fields #[.ref l, .int 0 0] } := ⟨_, rfl⟩
  obtain ⟨S, eqS⟩ : ∃ S, S = h1.objs.size := ⟨_, rfl⟩
  obtain ⟨h2, eq2⟩ : ∃ h2, h2 = h1.push (seqObj "list" #[] 0) := ⟨_, rfl⟩
  have gI : s.heap.get? I = none := Heap.get?_none_of_le (by omega)
  have szS : S = s.heap.objs.size + 1 := by rw [eqS, eq1]; exact size_push' ..
  have gS : s.heap.get? S = none := Heap.get?_none_of_le (by omega)
  have dif : I ≠ S := by omega
  have lI : l ≠ I := fun z => by
    obtain ⟨o, e, _⟩ := isL
    rw [z, gI] at e
    cases e
  have K2 : Keep s.heap h2 := fun b o e => by rw [eq2, eq1]; exact Heap.get?_push_of_some _ (Heap.get?_push_of_some _ e)
  have eI : h2.get? I = some { cls := .type "list_iterator", data := .fields #[.ref l, .int 0 0] } := by rw [eq2, eq1, eqI]; exact Heap.get?_push_of_some _ (Heap.get?_push_size _ rfl)
  have eS : h2.get? S = some (seqObj "list" #[] 0) := by rw [eq2, eqS]; exact Heap.get?_push_size _ rfl
  show codeAny (model prog w) A (.builtin "max.loop" ⟨[.ref s.heap.objs.size, .type "int", .ref (s.heap.push { cls := .type "list_iterator", data := .fields #[.ref l, .int 0 0] }).objs.size], []⟩) _ { s with heap := (s.heap.push { cls := .type "list_iterator", data := .fields #[.ref l, .int 0 0] }).push (seqObj "list" #[] 0) }
  rw [← eq1, ← eq2, ← eqS, ← eqI]
  have W := Walks.list (prog := prog) (w := w) (A := A.in1) calm I l lI vs.toArray
  refine codeAny_builtin (PySem.F.entry_max_loop) ?_
  rw [Around.under_plainId (PySem.F.plain_max_loop) _]
  show wpAny _ A.in1 (seqItems? (Value.ref S) >>= _) _ _ _
  refine wpAny_bind (wpAny_seqItems eS rfl ?_)
  show wpAny _ A.in1 (tryCatch (pyNext (Value.ref I)) _ >>= _) _ _ _
  refine wpAny_bind (wpAny_tryCatch (W.item 0 _ _ _ (by rw [sz]; exact ne) ⟨⟨_, eI, rfl, rfl⟩, K2.lst isL⟩ fun v h3 tk3 at3 st3 k3 => ?_))
  have ev : vs[0]? = some v := by simpa using at3
  obtain ⟨n, en⟩ : ∃ n, ns[0]? = some n := ⟨_, List.getElem?_eq_getElem (by omega)⟩
  obtain ⟨tn, etn⟩ := allI.get 0 n en
  rw [etn] at ev
  obtain rfl := Option.some.inj ev
  obtain ⟨oI, eI3, cI, dI⟩ := id st3.1
  have hS3 := k3 S _ (fun z => dif (List.mem_singleton.mp z).symm) eS
  have K3 : Keep s.heap h3 := fun b o e => k3 b o (fun z => by rw [List.mem_singleton.mp z, gI] at e; cases e) (K2 b o e)
  show wpAny _ A.in1 (tryCatch (holding [Value.int n tn] (call (.type "int") [Value.int n tn])) _ >>= _) _ _ _
  refine wpAny_bind (wpAny_tryCatch (wpAny_holding (call_int_int ?_)))
  have u := Heap.SameBut.update h3 S (Obj.mapSeq fun _ => #[Value.int n tn, Value.int n tn])
  obtain ⟨c4, ec4⟩ : ∃ c4, (h3.update S (Obj.mapSeq fun _ => #[Value.int n tn, Value.int n tn])).get? S = some (seqObj "list" #[Value.int n tn, Value.int n tn] c4) := ⟨_, get?_update_seq hS3 fun _ => _⟩
  show wpAny _ A.in1 (updateSeq S (fun _ => #[Value.int n tn, Value.int n tn]) >>= _) _ _ _
  refine wpAny_bind (wpAny_updateSeq hS3 rfl ?_)
  rw [nm]
  refine wpAny_pure ⟨plainId_quiet PySem.F.plain_max_loop _, mx_loop (s := s) (G := s.heap) calm isL allI gI gS dif (fun M t h tk k hM hb => fin M t h tk k hM hb) _ 1 n _ _ tn tn c4 rfl ne (fun b o e => ?_) ec4 ⟨oI, (u.2 I dif).trans eI3, cI, dI⟩ (List.mem_of_getElem? en) fun i a hi e => ?_⟩
  · have b1 : b ≠ S := fun z => by rw [z, gS] at e; cases e
    exact (u.2 b b1).trans (K3 b o e)
  · have z : i = 0 := by omega
    rw [z, en] at e
    have := Option.some.inj e
    omega
end
end Ax
namespace Ax
open PySem PySem.Spec PyProof.Rows L2
section
variable {X : Cx}
/-- max(xs, key=int), xs a list of whole numbers -/
def rMaxInt (K : PySem.W.Frag) : List V → List V → Hp → VK → Prop := fun vs zs H Q => ∃ (a : Addr) (ns : List Int), vs = [V.ref a] ∧ zs = [.ty "int"] ∧ SqL K H a (ns.map V.int) ∧ 0 < ns.length ∧ ∀ M, M ∈ ns → (∀ y ∈ ns, y ≤ M) → Q (.int M) H
theorem cr_maxInt (hc : X.calm = true) : CallRK X (.builtin "max") [Str.ofString "key"] (rMaxInt X.K) := by
  intro pins s σ H vs zs us ws Q I r rz h
  obtain ⟨a, ns, rfl, rfl, hs, hne, q⟩ := h
  obtain rfl := Vals.ref1 r
  obtain ⟨w1, rfl, e1⟩ := vals1 rz
  obtain rfl : w1 = Value.type "int" := e1
  obtain ⟨its, rv, hl, hz⟩ := I.list hs
  have hi := rv.ints
  have hlen : its.length = ns.length := by rw [← rv.length, List.length_map]
  exact call_max_int (I.ok.hd hc) hl.isList hi (by omega) fun M t h tk k hM hb => ⟨.int M, H, I.kept k, ⟨t, rfl⟩, q M hM hb⟩
end
end Ax

namespace Ax
open PySem PyProof.Rows
/-! ### sorted with key=int -/
theorem ints_of_pairs : ∀ {ps : List (Int × Value)}, (∀ p ∈ ps, ∃ t, p.2 = .int p.1 t) → IntsAre (ps.map Prod.snd) (ps.map Prod.fst)
  | [], _ => .nil
  | (n, v) :: r, h => by
    obtain ⟨t, e⟩ := h (n, v) (List.mem_cons_self ..)
    cases (show v = Value.int n t from e)
    exact .cons n t (ints_of_pairs fun p hp => h p (List.mem_cons_of_mem _ hp))
theorem zip_pairs : ∀ {vs : List Value} {ns : List Int}, IntsAre vs ns → ∀ p ∈ ns.zip vs, ∃ t, p.2 = .int p.1 t
  | _, _, .nil, p, h => by simp at h
  | _, _, .cons n t r, p, h => by
    rw [List.zip_cons_cons] at h
    rcases List.mem_cons.mp h with e | h
    · rw [e]
      exact ⟨t, rfl⟩
    · exact zip_pairs r p h
/-- all that lives, but for two -/
def rest2 (h : Heap) (L D : Addr) : List (Addr × Obj) := (List.range h.objs.size).filterMap fun b => if b = L ∨ b = D then none else (h.get? b).map fun o => (b, o)
theorem mem_rest2 {h : Heap} {L D b : Addr} {o : Obj} : (b, o) ∈ rest2 h L D ↔ b ≠ L ∧ b ≠ D ∧ h.get? b = some o := by
  unfold rest2
  rw [List.mem_filterMap]
  constructor
  · rintro ⟨c, _, e⟩
    by_cases q : c = L ∨ c = D
    · rw [if_pos q] at e
      cases e
    · rw [if_neg q] at e
      cases eo : h.get? c with
      | none =>
        rw [eo] at e
        cases e
      | some u =>
        rw [eo] at e
        cases e
        exact ⟨fun z => q (.inl z), fun z => q (.inr z), eo⟩
  · rintro ⟨h1, h2, h3⟩
    refine ⟨b, List.mem_range.mpr (Heap.lt_size h3), ?_⟩
    rw [if_neg (fun z => z.elim h1 h2), h3]
    rfl
section
variable {prog : Program} {w : World} {A : Around} {E : Value → Shared → Prop} {s : Shared} {l D L : Addr} {m : Str → Option Value} {vs : List Value} {ns : List Int} {P : PySem.Fin → Shared → Prop}
theorem lsort_int (atD : s.heap.get? D = some (seqObj "list" vs.toArray 0)) (allI : IntsAre vs ns) (few : vs.length < 64) (nsL : s.heap.Ns L m) (dif : D ≠ L)
    (fin : ∀ (h : Heap) (tk : Nat) (out : Array Value) (c : Nat) (ms : List Int), (∀ b o, b ≠ L → b ≠ D → s.heap.get? b = some o → h.get? b = some o) → h.Ns L m → h.get? D = some (seqObj "list" out c) → IntsAre out.toList ms → ms.Perm ns → ms.Pairwise (· ≤ ·) →
      P (.done (.ret .none)) { s with heap := h, toks := tk }) :
    wpAny (model prog w) A (Builtin.«list.sort» ⟨[.ref D], [(Str.ofString "key", .type "int")]⟩) P E s := by
  have e0 : Builtin.«list.sort» ⟨[.ref D], [(Str.ofString "key", .type "int")]⟩ = ksk_tree D (.type "int") false := rfl
  rw [e0]
  have none0 : ∀ b, ({ s.heap with objs := #[] } : Heap).get? b = none := fun b => Heap.get?_none_of_le (Nat.zero_le _)
  have ln := allI.length
  refine ksk_sort (h₀ := { s.heap with objs := #[] }) (L := L) (m := m) (news := rest2 s.heap L D) (kz := ns) (b := false) ⟨nsL, fun b o e => (by rw [none0] at e; cases e), Nat.zero_le _⟩ (fun p hp => ?_) atD dif (none0 D) (fun p hp => ?_) ln.symm few (fun i v k hv hk h tk own F N => ?_) fun h tk out c F N ko => ?_
  · obtain ⟨b, o⟩ := p
    obtain ⟨h1, _, h3⟩ := mem_rest2.mp hp
    exact ⟨h3, h1, none0 b⟩
  · obtain ⟨b, o⟩ := p
    exact (mem_rest2.mp hp).2.1
  · obtain ⟨t, ht⟩ := allI.get i k hk
    rw [ht] at hv
    obtain rfl := Option.some.inj hv
    exact call_int_int ⟨h, tk, t, rfl, rfl, F, N⟩
  · obtain ⟨ps, pp, po, pw⟩ := ko
    have all := zip_pairs allI
    refine fin h tk out c (ps.map Prod.fst) (fun b o h1 h2 h3 => ?_) F.ns (N (D, seqObj "list" out c) (List.mem_cons_self ..)).1 ?_ ?_ ?_
    · exact (N (b, o) (List.mem_cons_of_mem _ (mem_rest2.mpr ⟨h1, h2, h3⟩))).1
    · rw [po]
      exact ints_of_pairs fun p hp => all p (pp.mem_iff.mp hp)
    · have := pp.map Prod.fst
      rwa [List.map_fst_zip (by omega)] at this
    · rw [List.pairwise_map]
      exact pw
end
end Ax
namespace L2
open PySem PySem.Spec PyProof.Rows
section
variable {X : Cx} {pins : List (Addr × Obj)} {σ : St} {H : Hp} {s : Shared} {h' : Heap}
/-- a new object tracked; the frame's own dict may be another object with the same names -/
theorem Inv.laidL {t' : Nat} {T : Addr} {ob : HO} (I : Inv X pins σ H s) (k : ∀ b o, b ≠ X.env.locals → s.heap.get? b = some o → h'.get? b = some o) (hns : ∀ m, s.heap.Ns X.env.locals m → h'.Ns X.env.locals m) (hT : s.heap.objs.size ≤ T)
    (new : ObjOk X.prog X.w (upd H T ob) h' T ob) : Inv X pins σ (upd H T ob) { s with heap := h', toks := t' } := by
  have hn : H T = none := I.hok.fresh hT
  obtain ⟨m0, n0, _⟩ := I.loc
  refine I.step (g' := s.gens) (d' := s.drawn) (ch := []) (fun b hb => nomatch hb) (fun b o h1 _ _ e _ => k b o h1 e) (fun b o h1 _ _ e _ => ⟨o.slots, k b o h1 e⟩)
    (fun b o _ e n => ?_) (fun b o _ e => ?_) (fun b xs e => ?_) (fun b o u e => ?_) (fun b ps e => ⟨#[], ?_⟩) (fun m hm => hns m hm) (fun b u e => ?_) I.bare
  · rw [upd_ne (Nat.ne_of_lt (Nat.lt_of_lt_of_le (Heap.lt_size e) hT))]
    exact n
  · by_cases q : b = X.env.locals
    · obtain ⟨o', _, _, e', _⟩ := hns m0 n0
      exact ⟨o', by rw [q]; exact e'⟩
    · exact ⟨o, k b o q e⟩
  · rw [upd_ne (ne_of_none e hn)]
    exact e
  · rw [upd_ne (ne_of_none e hn)]
    exact e
  · rw [upd_ne (ne_of_none e hn), e, Array.append_empty]
  · by_cases hb : b = T
    · subst hb
      rw [upd_same] at e
      cases e
      exact new
    · rw [upd_ne hb] at e
      refine (I.hok b u e).stay (fun c v hc q => k c v ?_ q) (fun c q => by rw [upd_ne (ne_of_none q hn)]; exact q) fun c xs q => by rw [upd_ne (ne_of_none q hn)]; exact q
      intro z
      have f := I.free
      rw [← z] at f
      rcases hc with y | y
      · rw [y, e] at f
        cases f
      · rw [y] at f
        cases f
end
end L2

namespace Ax
open PySem PySem.Spec PyProof.Rows L2
theorem ns_same {h : Heap} {L : Addr} {m m' : Str → Option Value} (a : h.Ns L m) (b : h.Ns L m') : m' = m := by
  obtain ⟨o, es, ep, e1, e2, _, e3⟩ := a
  obtain ⟨o', es', ep', f1, f2, _, f3⟩ := b
  rw [e1] at f1
  obtain rfl := Option.some.inj f1
  rw [e2] at f2
  cases f2
  funext x
  rw [← f3 x, e3 x]
section
variable {X : Cx}
/-- what is left to do behind the items: a new list of them, sorted -/
theorem sorted_tail {pins : List (Addr × Obj)} {σ : L2.St} {H : Hp} {s : Shared} {ns : List Int} {vs : List Value} {Q : VK} {E : Value → Shared → Prop} (I : Inv X pins σ H s) (allI : IntsAre vs ns) (few : vs.length < 64)
    (q : ∀ (ms : List Int) (p : Addr), ms.Perm ns → ms.Pairwise (· ≤ ·) → H p = none → Q (.ref p) (upd H p (.lst (ms.map V.int)))) :
    wpAny (model X.prog X.w) X.A.in1 (do
      let l ← newList vs
      let _ ← holding [l] (call (.builtin "list.sort") [l] [(Str.ofString "key", .type "int")])
      (ret l : Sem PySem.Fin)) (fun f s' => ∃ v, f = .done (.ret v) ∧ EP X pins σ Q v s') E s := by
  obtain ⟨mL, nsL, _⟩ := I.loc
  have ltL : X.env.locals < s.heap.objs.size := nsL.lt
  refine wpAny_bind (wpAny_newList ?_ (Nat.le_trans (Nat.le_of_lt few) (by decide)))
  have at1 : (s.heap.push (seqObj "list" vs.toArray 0)).get? s.heap.objs.size = some (seqObj "list" vs.toArray 0) := Heap.get?_push_size _ rfl
  have k1 : ∀ b o, s.heap.get? b = some o → (s.heap.push (seqObj "list" vs.toArray 0)).get? b = some o := fun b o e => Heap.get?_push_of_some _ e
  have ns1 : (s.heap.push (seqObj "list" vs.toArray 0)).Ns X.env.locals mL := by
    obtain ⟨o, es, ep, e, r⟩ := nsL
    exact ⟨o, es, ep, k1 _ _ e, r⟩
  refine wpAny_bind (wpAny_holding (wpAny_call_entry_kw slot_list_sort ⟨_, at1, rfl⟩ entry_list_sort ?_ (ksk_l1 _ _)))
  refine lsort_int (s := { s with heap := s.heap.push (seqObj "list" vs.toArray 0) }) at1 allI few ns1 (Nat.ne_of_gt ltL) fun h tk out c ms k n atD iO pm pw => ⟨_, rfl, ?_⟩
  have zl : (ms.map V.int).length ≤ sizeLine := by
    rw [List.length_map, pm.length_eq, ← allI.length, sizeLine_eq]
    omega
  have J : Inv X pins σ (upd H s.heap.objs.size (.lst (ms.map V.int))) { s with heap := h, toks := tk } :=
    Inv.laidL I (fun b o h1 e => k b o h1 (Nat.ne_of_lt (Heap.lt_size e)) (k1 b o e)) (fun m hm => by rw [ns_same nsL hm]; exact n) (Nat.le_refl _)
      (show ObjOk X.prog X.w _ _ _ (.lst (ms.map V.int)) from ⟨zl, out.toList, c, vals_of_ints iO, by rw [Array.toArray_toList]; exact atD⟩)
  exact wpAny_pure ⟨_, rfl, .ref s.heap.objs.size, _, J, rfl, q ms _ pm pw (I.hok.fresh (Nat.le_refl _))⟩
/-- sorted(xs, key=int), xs a list of whole numbers -/
def rSortInt (K : PySem.W.Frag) : List V → List V → Hp → VK → Prop := fun vs zs H Q => ∃ (a : Addr) (ns : List Int), vs = [V.ref a] ∧ zs = [.ty "int"] ∧ SqL K H a (ns.map V.int) ∧ ns.length < 64 ∧
  ∀ (ms : List Int) (p : Addr), ms.Perm ns → ms.Pairwise (· ≤ ·) → H p = none → Q (.ref p) (upd H p (.lst (ms.map V.int)))
theorem cr_sortInt : CallRK X (.builtin "sorted") [Str.ofString "key"] (rSortInt X.K) := by
  intro pins s σ H vs zs us ws Q I r rz h
  obtain ⟨a, ns, rfl, rfl, hs, few, q⟩ := h
  obtain rfl := Vals.ref1 r
  obtain ⟨w1, rfl, e1⟩ := vals1 rz
  obtain rfl : w1 = Value.type "int" := e1
  obtain ⟨its, rv, hl, hz⟩ := I.list hs
  have hi := rv.ints
  have ln : its.length = ns.length := by rw [← rv.length, List.length_map]
  refine call_function_entry_kw kind_sorted plain_sorted entry_sorted (ksk_s1 _ _) ?_
  unfold Builtin.«sorted»
  have kp : ∀ b o, s.heap.get? b = some o → ((s.heap.push (seqObj "list" #[] 0)).update s.heap.objs.size (Obj.mapSeq (· ++ its.toArray))).get? b = some o := fun b o e => by
    rw [Heap.get?_update_ne _ _ _ _ (Nat.ne_of_lt (Heap.lt_size e))]
    exact Heap.get?_push_of_some _ e
  refine wpAny_bind (m := checkCount "sorted" 1 1 _) (wpAny_pure (wpAny_bind (collect_list hl.isList ?_ (Nat.le_trans (Nat.le_of_lt (by omega)) (by decide : 64 ≤ sizeLine)))))
  have I1 : Inv X pins σ H { s with heap := (s.heap.push (seqObj "list" #[] 0)).update s.heap.objs.size (Obj.mapSeq (· ++ its.toArray)), toks := s.toks } := I.kept kp
  exact wpAny_mono (sorted_tail I1 hi (by omega) q) (fun f s' ⟨v, e, z⟩ => by rw [e]; exact ⟨v, rfl, z⟩) fun _ _ e => e
/-- sorted(d, key=int), d a dict whose keys are whole numbers -/
def rSortDInt : List V → List V → Hp → VK → Prop := fun vs zs H Q => ∃ (a : Addr) (kvs : List (Key × V)) (ks : List Int), vs = [V.ref a] ∧ zs = [.ty "int"] ∧ Rd H a (.dK kvs) ∧ kvs.map (·.1) = ks.map Sum.inl ∧ ks.length < 64 ∧
  ∀ (ms : List Int) (p : Addr), ms.Perm ks → ms.Pairwise (· ≤ ·) → H p = none → Q (.ref p) (upd H p (.lst (ms.map V.int)))
theorem cr_sortDInt (calm : X.calm = true) : CallRK X (.builtin "sorted") [Str.ofString "key"] rSortDInt := by
  intro pins s σ H vs zs us ws Q I r rz h
  obtain ⟨a, kvs, ks, rfl, rfl, hd, hks, few, q⟩ := h
  obtain rfl := Vals.ref1 r
  obtain ⟨w1, rfl, e1⟩ := vals1 rz
  obtain rfl : w1 = Value.type "int" := e1
  obtain ⟨z, lo, es, rel, dd⟩ := dk_rd I.hok hd
  obtain ⟨ep, atd⟩ := dd.dictAt
  have keys : es.map (·.1) = ks.map Sum.inl := rel.keys.symm.trans hks
  have ln : es.length = ks.length := by
    have e := congrArg List.length keys
    rwa [List.length_map, List.length_map] at e
  refine call_function_entry_kw kind_sorted plain_sorted entry_sorted (ksk_s1 _ _) ?_
  unfold Builtin.«sorted»
  refine wpAny_bind (m := checkCount "sorted" 1 1 _) (wpAny_pure (wpAny_bind (PySem.W.kdu_collect (A := X.A.in1) (PySem.W.kdl_dict (knd := mixKind X.prog X.w) (kvs := es) (ep := ep) lo) (I.ok.hd calm) atd (by rw [ln]; exact Nat.le_trans (Nat.le_of_lt few) (by decide)) fun h1 tk acc hk hacc => ?_)))
  have la : acc.toList.length = ks.length := by rw [Array.length_toList, hacc.1, ln]
  have allI : IntsAre acc.toList ks := ints_each la fun j v e => by
    obtain ⟨k, x, e1, e2⟩ := hacc.2 j v (by rw [← Array.getElem?_toList]; exact e)
    have e3 : (es.map (·.1))[j]? = some k := by
      rw [List.getElem?_map, e1]
      rfl
    rw [keys, List.getElem?_map] at e3
    cases e4 : ks[j]? with
    | none =>
      rw [e4] at e3
      cases e3
    | some y =>
      rw [e4] at e3
      obtain rfl : Sum.inl y = k := Option.some.inj e3
      rcases keyIs_shape (show keyIs (Sum.inl y) v = true from e2) with ⟨i, t, ek, ev⟩ | ⟨z, t, ek, ev⟩
      · cases ek
        exact ⟨y, t, rfl, ev⟩
      · cases ek
  have I1 : Inv X pins σ H { s with heap := h1, toks := tk } := I.kept hk
  exact wpAny_mono (sorted_tail I1 allI (by rw [la]; exact few) q) (fun f s' ⟨v, e, z⟩ => by rw [e]; exact ⟨v, rfl, z⟩) fun _ _ e => e
end
end Ax

namespace Ax
open PySem L2
section
variable {P : Program} {w : World} {K : PySem.W.Frag} {mg : Str → Option Value} {base : Heap} {A : Adr}
theorem two64 : (2 : Int) ^ 64 < BIG := pow_lt' (b := 2) (by decide) (by decide)
theorem lt_big {i : Int} {n : Nat} (h : i < 2 ^ n) (hn : n ≤ 8000) : i < BIG := Int.lt_of_lt_of_le h (pow_le' (b := 2) (by decide) hn)
/-! ### rungs_of -/
/-- a dict's entry for a mantissa: its size, and the tuple of it and its power -/
def EntAt (H : Hp) (b : Int) (top : Nat) (m : Int) (e : Key × V) : Prop := ∃ t : Addr, e = (.inl (keyOf b top m), .ref t) ∧ H t = some (.tup [.int m, .int (-(lg b m : Int))])
theorem EntAt.same {H H' : Hp} {b : Int} {top : Nat} {m : Int} {e : Key × V} (s : Same H H') (h : EntAt H b top m e) : EntAt H' b top m e := by
  obtain ⟨t, h1, h2⟩ := h
  exact ⟨t, h1, s _ _ h2⟩
abbrev Ents (H : Hp) (b : Int) (top : Nat) : List Int → List (Key × V) → Prop := Paired (EntAt H b top)
theorem Ents.same {H H' : Hp} {b : Int} {top : Nat} (s : Same H H') : ∀ {ms : List Int} {kvs : List (Key × V)}, Ents H b top ms kvs → Ents H' b top ms kvs
  | _, _, .nil => .nil
  | _, _, .cons h t => .cons (h.same s) (Ents.same s t)
theorem Ents.but {H H' : Hp} {b : Int} {top : Nat} (s : ∀ c xs, H c = some (.tup xs) → H' c = some (.tup xs)) : ∀ {ms : List Int} {kvs : List (Key × V)}, Ents H b top ms kvs → Ents H' b top ms kvs
  | _, _, .nil => .nil
  | _, _, .cons ⟨t, h1, h2⟩ r => .cons ⟨t, h1, s _ _ h2⟩ (Ents.but s r)
theorem Ents.snoc {H : Hp} {b : Int} {top : Nat} {m : Int} {e : Key × V} : ∀ {ms : List Int} {kvs : List (Key × V)}, Ents H b top ms kvs → EntAt H b top m e → Ents H b top (ms ++ [m]) (kvs ++ [e])
  | _, _, .nil, h => .cons h .nil
  | _, _, .cons h t, q => .cons h (Ents.snoc t q)
theorem Ents.len {H : Hp} {b : Int} {top : Nat} {ms : List Int} {kvs : List (Key × V)} (h : Ents H b top ms kvs) : ms.length = kvs.length := Paired.length h
theorem Ents.keys {H : Hp} {b : Int} {top : Nat} : ∀ {ms : List Int} {kvs : List (Key × V)}, Ents H b top ms kvs → kvs.map (·.1) = (ms.map (keyOf b top)).map Sum.inl
  | _, _, .nil => rfl
  | _, _, .cons h t => by
    obtain ⟨q, h1, _⟩ := h
    rw [List.map_cons, List.map_cons, List.map_cons, Ents.keys t, h1]
theorem Ents.val {H : Hp} {b : Int} {top : Nat} {m : Int} : ∀ {ms : List Int} {kvs : List (Key × V)}, Ents H b top ms kvs → m ∈ ms → (∀ n ∈ ms, keyOf b top n = keyOf b top m → n = m) → ∃ t, valV kvs (.inl (keyOf b top m)) = some (.ref t) ∧ H t = some (.tup [.int m, .int (-(lg b m : Int))])
  | _, _, .nil, h, _ => nomatch h
  | n :: ms, _, .cons h t, hm, hi => by
    obtain ⟨t0, h1, h2⟩ := h
    by_cases c : keyOf b top n = keyOf b top m
    · have e2 := hi n (List.mem_cons_self ..) c
      subst e2
      exact ⟨t0, by rw [h1]; exact valV_pos rfl, h2⟩
    · have hm2 : m ∈ ms := (List.mem_cons.mp hm).resolve_left fun z => c (by rw [z])
      obtain ⟨t1, k1, k2⟩ := Ents.val t hm2 fun n' hn => hi n' (List.mem_cons_of_mem _ hn)
      refine ⟨t1, ?_, k2⟩
      rw [valV_neg (by rw [h1]; exact fun z => c (Sum.inl.inj z))]
      exact k1
theorem Ents.no {H : Hp} {b : Int} {top : Nat} {k : Int} : ∀ {ms : List Int} {kvs : List (Key × V)}, Ents H b top ms kvs → (∀ n ∈ ms, keyOf b top n ≠ k) → valV kvs (.inl k) = none
  | _, _, .nil, _ => rfl
  | n :: ms, _, .cons h t, hi => by
    obtain ⟨t0, h1, h2⟩ := h
    rw [valV_neg (by rw [h1]; exact fun z => hi n (List.mem_cons_self ..) (Sum.inl.inj z))]
    exact Ents.no t fun n' hn => hi n' (List.mem_cons_of_mem _ hn)
/-- the rungs: mantissas in the order of their least steps of at least 1, each at its tuple -/
abbrev TupsAt (H : Hp) (b : Int) : List Int → List Addr → Prop := Paired fun m t => H t = some (.tup [.int m, .int (-(lg b m : Int))])
theorem TupsAt.same {H H' : Hp} {b : Int} (s : ∀ c xs, H c = some (.tup xs) → H' c = some (.tup xs)) : ∀ {rs : List Int} {ts : List Addr}, TupsAt H b rs ts → TupsAt H' b rs ts
  | _, _, .nil => .nil
  | _, _, .cons h r => .cons (s _ _ h) (TupsAt.same s r)
theorem TupsAt.snoc {H : Hp} {b m : Int} {t : Addr} : ∀ {rs : List Int} {ts : List Addr}, TupsAt H b rs ts → H t = some (.tup [.int m, .int (-(lg b m : Int))]) → TupsAt H b (rs ++ [m]) (ts ++ [t])
  | _, _, .nil, h => .cons h .nil
  | _, _, .cons h r, q => .cons h (TupsAt.snoc r q)
theorem TupsAt.len {H : Hp} {b : Int} {rs : List Int} {ts : List Addr} (h : TupsAt H b rs ts) : rs.length = ts.length := Paired.length h
theorem TupsAt.get {H : Hp} {b : Int} : ∀ {rs : List Int} {ts : List Addr} {i : Nat} {m : Int}, TupsAt H b rs ts → rs[i]? = some m → ∃ t, ts[i]? = some t ∧ H t = some (.tup [.int m, .int (-(lg b m : Int))])
  | _, _, _, _, .nil, h => nomatch h
  | _, _, 0, _, .cons h _, e => by
    obtain rfl := Option.some.inj e
    exact ⟨_, rfl, h⟩
  | _, _, i + 1, _, .cons _ r, e => TupsAt.get (i := i) r e
theorem TupsAt.get2 {H : Hp} {b : Int} : ∀ {rs : List Int} {ts : List Addr} {i : Nat} {t : Addr}, TupsAt H b rs ts → ts[i]? = some t → ∃ m, rs[i]? = some m ∧ H t = some (.tup [.int m, .int (-(lg b m : Int))])
  | _, _, _, _, .nil, h => nomatch h
  | _, _, 0, _, .cons h _, e => by
    obtain rfl := Option.some.inj e
    exact ⟨_, rfl, h⟩
  | _, _, i + 1, _, .cons _ r, e => TupsAt.get2 (i := i) r e
theorem crMin (K : PySem.W.Frag) {X : Cx} (hc : X.calm = true := by rfl) (h : X.K = K := by rfl) : CallR X (.builtin "min") (rMin K) := h ▸ cr_min hc
theorem crMax (K : PySem.W.Frag) {X : Cx} (hc : X.calm = true := by rfl) (h : X.K = K := by rfl) : CallR X (.builtin "max") (rMax K) := h ▸ cr_max hc
def spRungs : Sp := fun vs H Q _ => ∃ (k : Kd) (b most : Int) (ms : List Int) (a : Addr), vs = [.int b, .ref a] ∧ H a = some (.lst (ms.map V.int)) ∧ RArgs b k ms most ∧
  ∀ (H' : Hp) (lr : Addr) (rs : List Int) (ts : List Addr) (M : Int), Same H H' → H lr = none → M ∈ ms → (∀ m ∈ ms, m ≤ M) → H' lr = some (.lst (ts.map V.ref)) → TupsAt H' b rs ts → rs.Perm ms → rs.Pairwise (fun m n => keyOf b (lg b M) m < keyOf b (lg b M) n) → Q (.ref lr) H'
abbrev nm_rungs_of : List Str := ["base", "mantissas", "top", "mantissa", "rungs", "power", "size"]
theorem sc_rungs_of : FnScope ["base", "mantissas", "top", "mantissa", "rungs", "power", "size"] ["base", "mantissas"] (defScope s_rungs_of) := ⟨rfl, rfl, rfl, by decide +kernel, rfl, by decide +kernel, by decide +kernel⟩
theorem ok_rungs (T : Txt K mg A w) : FnOk P w K mg base CX0 2 A.a_rungs_of A.d_rungs_of ["base", "mantissas"] spRungs := by
  have G_log_of : FnOk P w K mg base CX0 1 A.a_log_of A.d_log_of ["base", "number"] spLog := ok_log_of T
  have G_power_of : FnOk P w K mg base CX0 1 A.a_power_of A.d_power_of ["base", "exponent"] spPow := ok_power_of T
  refine T.F_rungs_of.ok sc_rungs_of (fun vs H Q E h => ?_) (fun cdv A0 outer s H vs Q E hr h => ?_)
  · obtain ⟨k, b, most, ms, a, rfl, _⟩ := h
    rfl
  · obtain ⟨k, b, most, ms, a, rfl, hL, R, q⟩ := h
    have hlen : (ms.map V.int).length = ms.length := List.length_map _
    have hpos : 0 < ms.length := List.length_pos_iff.mpr R.ne
    refine ⟨_, (pss_cons (ps_set (i := 2) sc_rungs_of.nd rfl (Or.inl rfl) (pe_call G_log_of (hr.mono (by decide)) (by rfl) T.m_log_of T.F_log_of.kp T.B_log_of .nil pass0 (pa_cons (pv 0) (pa_cons (pe_callB (crMax K) (by rfl) T.n_max (by decide +kernel) (pa_cons (pe_lc (own := [("mantissa", 3)]) (g := gName 3) (tt := tYes) rfl sc_rungs_of.nd (pi_list (pv 1)) (blkOk_by (own := [("mantissa", 3)]) (N := nm_rungs_of) (sc := defScope s_rungs_of) (by decide +kernel)) (fun _ _ _ _ _ => (pg_name (i := 3) sc_rungs_of.nd rfl (Or.inl rfl))) (fun _ _ _ _ _ => pts_nil) (fun _ _ _ _ _ => (pe_callTy call_int1 (by rfl) T.n_int (by decide +kernel) (pa_cons (pv 3) pa_nil)))) pa_nil)) pa_nil))))
  (pss_cons (ps_set (i := 4) sc_rungs_of.nd rfl (Or.inr rfl) pe_dnewK)
  (pss_cons (ps_for PassesOwn.never rfl (pi_list (pv 1)) (pg_name (i := 3) sc_rungs_of.nd rfl (Or.inl rfl))
  (pss_cons (ps_set (i := 5) sc_rungs_of.nd rfl (Or.inl rfl) (pe_un un_neg (pe_call G_log_of (hr.mono (by decide)) (by rfl) T.m_log_of T.F_log_of.kp T.B_log_of .nil pass0 (pa_cons (pv 0) (pa_cons (pv 3) pa_nil)))))
  (pss_one (ps_dput (hu_of hr) (pv 4) (pe_op op_mulW (pv 3) (pe_call G_power_of (hr.mono (by decide)) (by rfl) T.m_power_of T.F_power_of.kp T.B_power_of .nil pass0 (pa_cons (pv 0) (pa_cons (pe_op op_add (pv 2) (pv 5)) pa_nil)))) (pe_tup (pa_cons (pv 3) (pa_cons (pv 5) pa_nil))) rfl))))
  (pss_one (ps_ret (pe_lc (own := [("size", 6)]) (g := gName 6) (tt := tYes) rfl sc_rungs_of.nd (pi_list (pe_callBK (cr_sortDInt rfl) (by rfl) T.n_sorted (by decide +kernel) (pa_cons (pv 4) pa_nil) (pk_cons (pe_bltn (v := .ty "int") (by rfl) T.n_int (by decide +kernel) rfl) pk_nil))) (blkOk_by (own := [("size", 6)]) (N := nm_rungs_of) (sc := defScope s_rungs_of) (by decide +kernel)) (fun _ _ _ _ _ => (pg_name (i := 6) sc_rungs_of.nd rfl (Or.inl rfl))) (fun _ _ _ _ _ => pts_nil) (fun _ _ _ _ _ => (pe_dget (hu_of hr) (pv 4) (pv 6) (fun _ _ => rfl))))))))), ?_⟩
    -- top = log_of(base, max([..]))
    refine ⟨_, rfl, _, rfl, a, rfl, ⟨_, SqL.of hL⟩, fun D0 hD0 => lc_list (K := K) (a := a) (xs := ms.map V.int) (fun i H' => H' = upd H D0 (.lst ((ms.take i).map V.int))) rfl ?_ ?_ ?_⟩
    · rintro i H' _ rfl
      exact SqL.of (by rw [upd_ne (ne_of_none hL hD0)]; exact hL)
    · rintro i x H' hi rfl
      obtain ⟨n, hn, rfl⟩ := map_get hi
      have hi3 : i < ms.length := (List.getElem?_eq_some_iff.mp hn).1
      refine ⟨rfl, yes_of ?_⟩
      refine ⟨_, rfl, .inl ⟨n, rfl, ?_⟩⟩
      refine ⟨_, upd_same, ?_, ?_⟩
      · rw [List.length_map, List.length_take]
        exact small1000 (by have := R.le; omega)
      · rw [upd_upd, List.take_add_one, hn, List.map_append]
        rfl
    rintro H0 rfl
    rw [hlen, List.take_length]
    have s0 : Same H (upd H D0 (.lst (ms.map V.int))) := same_new hD0
    refine ⟨D0, ms, rfl, SqL.of upd_same, hpos, fun M hM hmax => ?_⟩
    obtain ⟨M1, M2, M3⟩ := R.all M hM
    refine ⟨b, M, rfl, R.b2, lt_big R.bB (by decide), M1, lt_big M2 (by decide), fun E1 H1 s1 g1 g2 => ?_⟩
    obtain rfl := lg_eq R.b2 M1 g1 g2
    replace s1 := s0.trans s1
    refine fun d hd => ?_
    have hd0 : H d = none := s1.free hd
    refine ⟨_, rfl, a, rfl, ⟨_, SqL.of (by rw [upd_ne (ne_of_none (s1 _ _ hL) hd)]; exact s1 _ _ hL)⟩, for_list (K := K) (a := a) (xs := ms.map V.int) (fun i σ H' => ∃ (kvs : List (Key × V)) (v1 v2 : Option V), σ = [some (.int b), some (.ref a), some (.int (lg b M : Nat)), v1, some (.ref d), v2, none] ∧ Same H H' ∧ H' d = some (.dK kvs) ∧ Ents H' b (lg b M) (ms.take i) kvs)
      ⟨[], none, none, rfl, s1.trans (same_new hd), upd_same, .nil⟩ (fun i σ H' _ ⟨kvs, v1, v2, _, s2, _⟩ => SqL.of (s2 _ _ hL)) ?_ ?_⟩
    · rintro i y σ H' hi ⟨kvs, v1, v2, rfl, s2, hD, hE⟩
      obtain ⟨m, hm, rfl⟩ := map_get hi
      have hmem : m ∈ ms := List.mem_of_getElem? hm
      obtain ⟨m1, m2, m3⟩ := R.all m hmem
      have lgm := lg_mono R.b2 m1 (hmax m hmem)
      have hi3 : i < ms.length := (List.getElem?_eq_some_iff.mp hm).1
      refine ⟨_, rfl, _, rfl, b, m, rfl, R.b2, lt_big R.bB (by decide), m1, lt_big m2 (by decide), fun E2 H2 s3 g3 g4 => ?_⟩
      obtain rfl := lg_eq R.b2 m1 g3 g4
      refine ⟨_, rfl, ?_⟩
      -- rungs[..] = (mantissa, power)
      refine ⟨_, rfl, _, rfl, (by show 2 ≤ sizeLine; decide), fun t ht => ?_⟩
      have ht2 : H' t = none := s3.free ht
      have eT : ((lg b M : Nat) + -(lg b m : Nat) : Int).toNat = lg b M - lg b m := by omega
      have pB : b ^ (lg b M - lg b m) < BIG := by
        have h1 := pow_le' (b := b) (by have := R.b2; omega) (Nat.sub_le (lg b M) (lg b m))
        have h2 := (lg_spec R.b2 M1).1
        have h3 := lt_big (n := 64) M2 (by decide)
        omega
      have p1 := pow_pos' (b := b) (by have := R.b2; omega) (lg b M - lg b m)
      refine ⟨_, rfl, _, rfl, _, rfl, _, rfl, _, rfl, _, _, rfl, rfl, b, _, rfl, by have := R.b2; omega, ?_, ?_, lt_big R.bB (by decide), ?_⟩
      · show (0 : Int) ≤ (lg b M : Nat) + -(lg b m : Nat)
        omega
      · rw [eT]
        exact pB
      · rw [eT]
        refine ⟨_, _, rfl, rfl, mulBig (by omega) (big_le (lt_big m2 (by decide))) (by omega) (big_le pB), ?_⟩
        have kn : valV kvs (.inl (keyOf b (lg b M) m)) = none := hE.no fun n hn => fun z => by
          obtain ⟨j, hj, ej⟩ := List.getElem_of_mem hn
          rw [List.length_take] at hj
          rw [List.getElem_take] at ej
          have nm : n ∈ ms := by rw [← ej]; exact List.getElem_mem _
          obtain ⟨n1, n2, n3⟩ := R.all n nm
          have e := key_inj R.b2 n3 m3 (lg_mono R.b2 n1 (hmax n nm)) lgm z
          have hj2 : ms[j]'(by omega) = ms[i]'hi3 := by
            rw [ej, e]
            exact ((List.getElem?_eq_some_iff.mp hm).2).symm
          have := (List.getElem_inj R.nd).mp hj2
          omega
        have hd3 : upd H2 t (.tup [.int m, .int (-(lg b m : Int))]) d = some (.dK kvs) := by
          rw [upd_ne (ne_of_none (s3 _ _ hD) ht)]
          exact s3 _ _ hD
        have hlk : kvs.length = i := by
          rw [← hE.len, List.length_take]
          omega
        refine ⟨d, _, rfl, DPut.k (k := .inl (keyOf b (lg b M) m)) hd3 (small1000 (by have := R.le; omega)), ?_⟩
        rw [putK_new _ kn]
        have ntd : t ≠ d := fun z => by
          rw [z, s3 _ _ hD] at ht
          cases ht
        refine ⟨kvs ++ [(.inl (keyOf b (lg b M) m), .ref t)], _, _, rfl, fun c o e => ?_, upd_same, ?_⟩
        · rw [upd_ne (ne_of_none e hd0), upd_ne (ne_of_none (s3 _ _ (s2 _ _ e)) ht)]
          exact s3 _ _ (s2 _ _ e)
        · have et : ms.take (i + 1) = ms.take i ++ [m] := by
            rw [List.take_add_one, hm]
            rfl
          rw [et]
          refine Ents.snoc ?_ ⟨t, rfl, by rw [upd_ne ntd, upd_same]⟩
          exact hE.but fun c xs e => by
            have ncd : c ≠ d := fun z => by
              rw [z, hD] at e
              cases e
            rw [upd_ne ncd, upd_ne (ne_of_none (s3 _ _ e) ht)]
            exact s3 _ _ e
    · rintro σ H' ⟨kvs, v1, v2, rfl, s2, hD, hE⟩
      rw [hlen, List.take_length] at hE
      have few : (ms.map (keyOf b (lg b M))).length < 64 := by rw [List.length_map]; have := R.le; omega
      refine ⟨_, rfl, d, kvs, ms.map (keyOf b (lg b M)), rfl, rfl, .inl hD, hE.keys, few, fun zs p hp1 hp2 hp => ?_⟩
      obtain ⟨rs, pr, rfl⟩ := perm_lift hp1
      have lgle : ∀ m ∈ ms, lg b m ≤ lg b M := fun m hm => lg_mono R.b2 (R.all m hm).1 (hmax m hm)
      have lz : ((rs.map (keyOf b (lg b M))).map V.int).length = rs.length := by rw [List.length_map, List.length_map]
      have s3 : Same H' (upd H' p (.lst ((rs.map (keyOf b (lg b M))).map V.int))) := same_new hp
      have hD3 := s3 _ _ hD
      have hE3 := hE.same s3
      have s03 := s2.trans s3
      refine ⟨p, rfl, ⟨_, SqL.of upd_same⟩, fun D hDn => lc_list (K := K) (a := p) (xs := (rs.map (keyOf b (lg b M))).map V.int) (fun i H'' => ∃ ts : List Addr, H'' = upd (upd H' p (.lst ((rs.map (keyOf b (lg b M))).map V.int))) D (.lst (ts.map V.ref)) ∧ ts.length = i ∧ TupsAt (upd H' p (.lst ((rs.map (keyOf b (lg b M))).map V.int))) b (rs.take i) ts)
        ⟨[], rfl, rfl, .nil⟩ ?_ ?_ ?_⟩
      · rintro i H'' _ ⟨ts, rfl, _⟩
        have npD : p ≠ D := fun z => by rw [← z, upd_same] at hDn; cases hDn
        exact SqL.of (by rw [upd_ne npD, upd_same])
      · rintro i x H'' hi ⟨ts, rfl, ht1, ht2⟩
        obtain ⟨z, hz, rfl⟩ := map_get hi
        rw [List.getElem?_map] at hz
        obtain ⟨m, hm, rfl⟩ : ∃ m, rs[i]? = some m ∧ z = keyOf b (lg b M) m := by
          cases e : rs[i]? with
          | none =>
            rw [e] at hz
            cases hz
          | some m =>
            rw [e] at hz
            exact ⟨m, rfl, (Option.some.inj hz).symm⟩
        have hm2 : m ∈ ms := pr.mem_iff.mp (List.mem_of_getElem? hm)
        obtain ⟨t, hv, htup⟩ := hE3.val hm2 fun n hn e => key_inj R.b2 (R.all n hn).2.2 (R.all m hm2).2.2 (lgle n hn) (lgle m hm2) e
        refine ⟨rfl, yes_of ?_⟩
        have dn := ne_of_none hD3 hDn
        refine ⟨_, rfl, _, rfl, d, .ref t, rfl, ?_, ?_⟩
        · rw [← hv]
          exact DGet.k (k := .inl (keyOf b (lg b M) m)) (by rw [upd_ne dn]; exact hD3)
        · refine ⟨_, upd_same, ?_, ts ++ [t], ?_, ?_, ?_⟩
          · rw [List.length_map, ht1]
            have := (List.getElem?_eq_some_iff.mp hm).1
            rw [pr.length_eq] at this
            exact small1000 (by have := R.le; omega)
          · rw [upd_upd, List.map_append]
            rfl
          · rw [List.length_append, ht1]
            rfl
          · rw [List.take_add_one, hm]
            exact TupsAt.snoc ht2 htup
      · rintro H'' ⟨ts, rfl, ht1, ht2⟩
        rw [lz, List.take_length] at ht2
        have s6 := same_new (o := .lst (ts.map V.ref)) hDn
        refine q _ D rs ts M (s03.trans s6) (s03.free hDn) hM hmax upd_same (ht2.same fun c xs e => s6 _ _ e) pr ?_
        have nd : (rs.map (keyOf b (lg b M))).Nodup := nodup_map (pr.nodup_iff.mpr R.nd) fun x hx y hy e => key_inj R.b2 (R.all x (pr.mem_iff.mp hx)).2.2 (R.all y (pr.mem_iff.mp hy)).2.2 (lgle x (pr.mem_iff.mp hx)) (lgle y (pr.mem_iff.mp hy)) e
        have := strict hp2 nd
        rwa [List.pairwise_map] at this
end
end Ax

namespace Ax
open PySem L2
/-- whether each size divides the next one, the first one times the base behind the last -/
def dvZ (b : Int) (zs : List Int) : Bool := ((zs.zip (zs.drop 1 ++ [b * zs.headD 0])).map fun p => decide (p.2 % p.1 = 0)).all id
theorem cut_one (z : Int) (zs : List Int) : cutV ((z :: zs).map V.int) (some 1) none = zs.map V.int := by
  have e : cutV ((z :: zs).map V.int) (some 1) none = (zs.map V.int).take zs.length := by
    unfold cutV HT.sIx
    simp
  rw [e]
  exact List.take_of_length_le (by rw [List.length_map]; exact Nat.le_refl _)
theorem ref_get {as : List Addr} {i : Nat} {x : V} (h : (as.map V.ref)[i]? = some x) : ∃ a, as[i]? = some a ∧ x = .ref a := by
  rw [List.getElem?_map] at h
  cases e : as[i]? with
  | none =>
    rw [e] at h
    cases h
  | some a =>
    rw [e] at h
    exact ⟨a, rfl, (Option.some.inj h).symm⟩
theorem mul_lt2 {a c x y : Int} (h1 : a < x) (h2 : c < y) (hc : 0 < c) (hx : 0 ≤ x := by decide) : a * c < x * y := by
  have a1 := Int.mul_lt_mul_of_pos_right h1 hc
  have a2 := Int.mul_le_mul_of_nonneg_left (Int.le_of_lt h2) hx
  omega
section
variable {P : Program} {w : World} {K : PySem.W.Frag} {mg : Str → Option Value} {base : Heap} {A : Adr}
/-! ### _is_dividing -/
def spDiv : Sp := fun vs H Q _ => ∃ (b M : Int) (rs : List Int) (ts : List Addr) (lr : Addr), vs = [.int b, .ref lr] ∧ H lr = some (.lst (ts.map V.ref)) ∧ TupsAt H b rs ts ∧ 2 ≤ b ∧ b < 2 ^ 64 ∧ M ∈ rs ∧ rs.length < 60 ∧ (∀ m ∈ rs, 1 ≤ m ∧ m < 2 ^ 64 ∧ m ≤ M) ∧ ∀ H', Same H H' → Q (.bl (dvZ b (rs.map (keyOf b (lg b M))))) H'
abbrev nm_is_dividing : List Str := ["base", "rungs", "lowest", "_", "power", "sizes", "mantissa", "greater", "size", "above"]
theorem sc_is_dividing : FnScope ["base", "rungs", "lowest", "_", "power", "sizes", "mantissa", "greater", "size", "above"] ["base", "rungs"] (defScope s_is_dividing) := ⟨rfl, rfl, rfl, by decide +kernel, rfl, by decide +kernel, by decide +kernel⟩
theorem ok_div (T : Txt K mg A w) : FnOk P w K mg base CX0 2 A.a_is_dividing A.d_is_dividing ["base", "rungs"] spDiv := by
  have G_power_of : FnOk P w K mg base CX0 1 A.a_power_of A.d_power_of ["base", "exponent"] spPow := ok_power_of T
  refine T.F_is_dividing.ok sc_is_dividing (fun vs H Q E h => ?_) (fun cdv A0 outer s H0 vs Q E hr h => ?_)
  · obtain ⟨b, M, rs, ts, lr, rfl, _⟩ := h
    rfl
  · obtain ⟨b, M, rs, ts, lr, rfl, hLr, hT, hb, hbB, hM, hlen0, hrs, q0⟩ := h
    have hlt : ts.length = rs.length := hT.len.symm
    have hpos : 0 < rs.length := List.length_pos_of_mem hM
    refine ⟨_, (pss_cons (ps_set (i := 2) sc_is_dividing.nd rfl (Or.inr rfl) (pe_callB (crMin K) (by rfl) T.n_min (by decide +kernel) (pa_cons (pe_lc (own := [("_", 3), ("power", 4)]) (g := gTup K 2 (gCons (gName 3) (gCons (gName 4) gNil))) (tt := tYes) rfl sc_is_dividing.nd (pi_list (pv 1)) (blkOk_by (own := [("_", 3), ("power", 4)]) (N := nm_is_dividing) (sc := defScope s_is_dividing) (by decide +kernel)) (fun _ _ _ _ _ => (pg_tup (by rfl) (pgs_cons (pg_name (i := 3) sc_is_dividing.nd rfl (Or.inl rfl)) (pgs_cons (pg_name (i := 4) sc_is_dividing.nd rfl (Or.inl rfl)) pgs_nil)))) (fun _ _ _ _ _ => pts_nil) (fun _ _ _ _ _ => (pe_callTy call_int1 (by rfl) T.n_int (by decide +kernel) (pa_cons (pv 4) pa_nil)))) pa_nil)))
  (pss_cons (ps_setLc (i := 5) (own := [("mantissa", 6), ("power", 4)]) (g := gTup K 2 (gCons (gName 6) (gCons (gName 4) gNil))) (tt := tYes) rfl sc_is_dividing.nd rfl rfl (sw_true rfl rfl rfl (by decide +kernel)) (pi_list (pv 1)) (blkOk_by (own := [("mantissa", 6), ("power", 4)]) (N := nm_is_dividing) (sc := defScope s_is_dividing) (by decide +kernel)) (fun _ _ _ _ _ => (pg_tup (by rfl) (pgs_cons (pg_name (i := 6) sc_is_dividing.nd rfl (Or.inl rfl)) (pgs_cons (pg_name (i := 4) sc_is_dividing.nd rfl (Or.inl rfl)) pgs_nil)))) (fun _ _ _ _ _ => pts_nil) (fun _ _ _ _ _ => (pe_op op_mulW (pv 6) (pe_call G_power_of (hr.mono (by decide)) (by rfl) T.m_power_of T.F_power_of.kp T.B_power_of .nil pass0 (pa_cons (pv 0) (pa_cons (pe_op op_sub (pv 4) (pv 2)) pa_nil))))))
  (pss_cons (ps_set (i := 7) sc_is_dividing.nd rfl (Or.inl rfl) (pe_op op_cat (pe_slice sl_list (pv 5) (po_some pe_int) po_none) (pe_lst (pa_cons (pe_op op_mulW (pv 0) (pe_ix ix_list (pv 5) pe_int (fun _ _ => rfl))) pa_nil))))
  (pss_one (ps_ret (pe_callB (cr_all rfl) (by rfl) T.n_all (by decide +kernel) (pa_cons (pe_lc (own := [("size", 8), ("above", 9)]) (g := gTup K 2 (gCons (gName 8) (gCons (gName 9) gNil))) (tt := tYes) rfl sc_is_dividing.nd (pi_zip (by rfl) T.n_zip (pa_cons (pv 5) (pa_cons (pv 7) pa_nil))) (blkOk_by (own := [("size", 8), ("above", 9)]) (N := nm_is_dividing) (sc := defScope s_is_dividing) (by decide +kernel)) (fun _ _ _ _ _ => (pg_tup (by rfl) (pgs_cons (pg_name (i := 8) sc_is_dividing.nd rfl (Or.inl rfl)) (pgs_cons (pg_name (i := 9) sc_is_dividing.nd rfl (Or.inl rfl)) pgs_nil)))) (fun _ _ _ _ _ => pts_nil) (fun _ _ _ _ _ => (pe_cmpR op_eq (pe_op op_mod (pv 9) (pv 8)) pe_int (nomark _)))) pa_nil))))))), ?_⟩
    have lgle : ∀ m ∈ rs, lg b m ≤ lg b M := fun m hm => lg_mono hb (hrs m hm).1 (hrs m hm).2.2
    have lT : (ts.map V.ref).length = rs.length := by rw [List.length_map, hlt]
    -- lowest = min([..])
    refine ⟨_, rfl, lr, rfl, ⟨_, SqL.of hLr⟩, fun D0 hD0 => lc_list (K := K) (a := lr) (xs := ts.map V.ref) (fun i H' => H' = upd H0 D0 (.lst (((rs.take i).map fun m => -(lg b m : Int)).map V.int))) rfl ?_ ?_ ?_⟩
    · rintro i H' _ rfl
      exact SqL.of (by rw [upd_ne (ne_of_none hLr hD0)]; exact hLr)
    · rintro i x H' hi rfl
      obtain ⟨t, ht, rfl⟩ := ref_get hi
      obtain ⟨m, hm, htup⟩ := hT.get2 ht
      have hi3 : i < rs.length := (List.getElem?_eq_some_iff.mp hm).1
      refine ⟨t, _, rfl, SqT.of (by rw [upd_ne (ne_of_none htup hD0)]; exact htup), rfl, _, _, rfl, _, _, rfl, rfl, rfl, yes_of ?_⟩
      refine ⟨_, rfl, .inl ⟨_, rfl, ?_⟩⟩
      refine ⟨_, upd_same, ?_, ?_⟩
      · rw [List.length_map, List.length_map, List.length_take]
        exact small1000 (by omega)
      · rw [upd_upd, List.take_add_one, hm, List.map_append, List.map_append]
        rfl
    rintro H1 rfl
    rw [lT, List.take_length]
    have s1 : Same H0 (upd H0 D0 (.lst ((rs.map fun m => -(lg b m : Int)).map V.int))) := same_new hD0
    refine ⟨D0, rs.map fun m => -(lg b m : Int), rfl, SqL.of upd_same, (by rw [List.length_map]; exact hpos), fun lo hlo hmin => ?_⟩
    obtain rfl : lo = -(lg b M : Int) := by
      obtain ⟨m0, hm0, rfl⟩ := List.mem_map.mp hlo
      have h1 := hmin _ (List.mem_map_of_mem (f := fun m => -(lg b m : Int)) hM)
      have h2 := lgle m0 hm0
      omega
    have hLr1 := s1 _ _ hLr
    have hT1 := hT.same fun c xs e => s1 _ _ e
    clear hLr hT
    generalize upd H0 D0 (.lst ((rs.map fun m => -(lg b m : Int)).map V.int)) = H1 at *
    -- sizes = [..]
    refine ⟨_, rfl, lr, rfl, ⟨_, SqL.of hLr1⟩, fun a hDa => lc_list (K := K) (a := lr) (xs := ts.map V.ref) (fun i H' => H' = upd H1 a (.lst (((rs.take i).map (keyOf b (lg b M))).map V.int))) rfl ?_ ?_ ?_⟩
    · rintro i H' _ rfl
      exact SqL.of (by rw [upd_ne (ne_of_none hLr1 hDa)]; exact hLr1)
    · rintro i x H' hi rfl
      obtain ⟨t, ht, rfl⟩ := ref_get hi
      obtain ⟨m, hm, htup⟩ := hT1.get2 ht
      have hi3 : i < rs.length := (List.getElem?_eq_some_iff.mp hm).1
      have hmm := List.mem_of_getElem? hm
      obtain ⟨m1, m2, m3⟩ := hrs m hmm
      have lgm := lgle m hmm
      have M1 := (hrs M hM).1
      have M2 := (hrs M hM).2.1
      have eT : (-(lg b m : Nat) - -(lg b M : Nat) : Int).toNat = lg b M - lg b m := by omega
      have pB : b ^ (lg b M - lg b m) < BIG := by
        have h1 := pow_le' (b := b) (by omega) (Nat.sub_le (lg b M) (lg b m))
        have h2 := (lg_spec hb M1).1
        have h3 := lt_big (n := 64) M2 (by decide)
        omega
      have p1 := pow_pos' (b := b) (by omega) (lg b M - lg b m)
      refine ⟨t, _, rfl, SqT.of (by rw [upd_ne (ne_of_none htup hDa)]; exact htup), rfl, _, _, rfl, _, _, rfl, rfl, rfl, yes_of ?_⟩
      refine ⟨_, rfl, _, rfl, _, rfl, _, rfl, _, _, rfl, rfl, b, _, rfl, by omega, ?_, ?_, lt_big hbB (by decide), ?_⟩
      · show (0 : Int) ≤ -(lg b m : Nat) - -(lg b M : Nat)
        omega
      · rw [eT]
        exact pB
      · rw [eT]
        refine ⟨_, _, rfl, rfl, mulBig (by omega) (big_le (lt_big m2 (by decide))) (by omega) (big_le pB), ?_⟩
        refine ⟨_, upd_same, ?_, ?_⟩
        · rw [List.length_map, List.length_map, List.length_take]
          exact small1000 (by omega)
        · rw [upd_upd, List.take_add_one, hm, List.map_append, List.map_append]
          rfl
    rintro H2 rfl
    rw [lT, List.take_length]
    have s2 : Same H1 (upd H1 a (.lst ((rs.map (keyOf b (lg b M))).map V.int))) := same_new hDa
    have hL : (upd H1 a (.lst ((rs.map (keyOf b (lg b M))).map V.int))) a = some (.lst ((rs.map (keyOf b (lg b M))).map V.int)) := upd_same
    have q : ∀ H', Same (upd H1 a (.lst ((rs.map (keyOf b (lg b M))).map V.int))) H' → Q (.bl (dvZ b (rs.map (keyOf b (lg b M))))) H' := fun H' s3 => q0 _ ((s1.trans s2).trans s3)
    have hz : ∀ z ∈ rs.map (keyOf b (lg b M)), 1 ≤ z ∧ z < 2 ^ 200 := fun z hz => by
      obtain ⟨m, hm, rfl⟩ := List.mem_map.mp hz
      have k1 := key_pos (top := lg b M) hb (hrs m hm).1
      have k2 := (key_lt (top := lg b M) hb (hrs m hm).1 (lgle m hm)).2
      have k3 := (lg_spec hb (hrs M hM).1).1
      have k5 := (hrs M hM).2.1
      rw [Int.pow_succ] at k2
      have k4 := mul_lt2 (show b ^ lg b M < 2 ^ 64 by omega) hbB (by omega)
      refine ⟨k1, Int.lt_trans k2 (Int.lt_trans k4 ?_)⟩
      rw [← pow_add']
      exact pow_lt' (b := 2) (by decide) (by decide)
    have hne : rs.map (keyOf b (lg b M)) ≠ [] := fun z => by
      have e1 := congrArg List.length z
      rw [List.length_map, List.length_nil] at e1
      omega
    have hlen : (rs.map (keyOf b (lg b M))).length < 60 := by rw [List.length_map]; exact hlen0
    generalize upd H1 a (.lst ((rs.map (keyOf b (lg b M))).map V.int)) = H at *
    generalize rs.map (keyOf b (lg b M)) = zs at *
    clear hLr1 hT1 s1 s2 q0 hlo hmin
    obtain ⟨z0, zr, rfl⟩ : ∃ z0 zr, zs = z0 :: zr := by
      cases zs with
      | nil => exact absurd rfl hne
      | cons z r => exact ⟨z, r, rfl⟩
    obtain ⟨z1, z2⟩ := hz z0 (List.mem_cons_self ..)
    refine ⟨_, rfl, _, rfl, a, _, rfl, SqL.of hL, fun p hp => ?_⟩
    rw [cut_one]
    have nap : a ≠ p := ne_of_none hL hp
    refine ⟨_, rfl, _, rfl, a, _, _, _, rfl, rfl, SqL.of (by rw [upd_ne nap]; exact hL), atI_nat (j := 0) rfl, _, _, rfl, rfl, mulBig (by omega) (big_le (lt_big hbB (by decide))) (by omega) (big_le (lt_big z2 (by decide))), (by show 1 ≤ sizeLine; decide), fun p2 hp2 => ?_⟩
    have np : p ≠ p2 := fun z => by
      rw [← z, upd_same] at hp2
      cases hp2
    refine ⟨p, p2, _, _, rfl, rfl, by rw [upd_ne np, upd_same], upd_same, ?_, fun p3 hp3 => ?_⟩
    · rw [List.length_map]
      simp only [List.length_cons] at hlen
      exact Nat.le_of_lt (small1000 (by show zr.length + 1 ≤ 1000; omega))
    · have s1 : Same H (upd (upd H p (.lst (zr.map V.int))) p2 (.lst [.int (b * z0)])) := (same_new hp).trans (same_new hp2)
      have s3 : Same H _ := s1.trans (same_new (o := .lst (zr.map V.int ++ [V.int (b * z0)])) hp3)
      have eg : zr.map V.int ++ [V.int (b * z0)] = (zr ++ [b * z0]).map V.int := by rw [List.map_append]; rfl
      have lenE : ((z0 :: zr).map V.int).length = ((zr ++ [b * z0]).map V.int).length := by simp
      have minE : ((z0 :: zr).map V.int).length = min ((z0 :: zr).map V.int).length ((zr ++ [b * z0]).map V.int).length := by rw [← lenE]; simp
      have lz : ((z0 :: zr).map V.int).length = (z0 :: zr).length := List.length_map _
      refine ⟨_, rfl, _, rfl, a, p3, _, _, rfl, SqL.of (s3 _ _ hL), SqL.of upd_same, fun D hD => ?_⟩
      refine lc_it (walk_zip (K := K) (a := a) (b := p3) minE) (fun i H' => Same _ H' ∧ H' D = some (.lst ((((z0 :: zr).zip (zr ++ [b * z0])).take i).map fun p => V.bl (decide (p.2 % p.1 = 0))))) ⟨same_new hD, upd_same⟩ (fun i H' _ ⟨s5, _⟩ => ⟨SqL.of (s5 _ _ (s3 _ _ hL)), SqL.of (xs := (zr ++ [b * z0]).map V.int) (s5 _ _ (by rw [← eg]; exact upd_same))⟩) ?_ ?_
      · rintro i x H' H2 hi ⟨s5, hD2⟩ ⟨Tt, x1, y1, rfl, hT, rfl, hx, hy⟩
        obtain ⟨zi, hzi, rfl⟩ := map_get hx
        obtain ⟨gi, hgi, rfl⟩ := map_get hy
        obtain ⟨c1, c2⟩ := hz zi (List.mem_of_getElem? hzi)
        refine ⟨Tt, _, rfl, SqT.of upd_same, rfl, _, _, rfl, _, _, rfl, rfl, rfl, yes_of ?_⟩
        refine ⟨_, rfl, _, rfl, _, _, rfl, rfl, (by show 0 < zi; omega), rfl, ?_⟩
        have nDT : D ≠ Tt := ne_of_none hD2 hT
        have hpair : ((z0 :: zr).zip (zr ++ [b * z0]))[i]? = some (zi, gi) := by
          rw [List.getElem?_zip_eq_some]
          exact ⟨hzi, hgi⟩
        refine ⟨_, by rw [upd_ne nDT]; exact hD2, ?_, fun c o e => ?_, ?_⟩
        · rw [List.length_map, List.length_take]
          rw [lz] at hi
          exact small1000 (by omega)
        · have ncD : c ≠ D := ne_of_none e hD
          rw [upd_ne ncD, upd_ne (ne_of_none (s5 _ _ e) hT)]
          exact s5 _ _ e
        · rw [upd_same, List.take_add_one, hpair, List.map_append]
          have ed : decide (V.int (gi % zi) = V.int 0) = decide (gi % zi = 0) := by
            by_cases c : gi % zi = 0
            · rw [c]
              simp
            · rw [decide_eq_false c, decide_eq_false (fun z => c (V.int.inj z))]
          show some (HO.lst (_ ++ [V.bl (decide (V.int (gi % zi) = V.int 0))])) = _
          rw [ed]
          rfl
      · rintro H' ⟨s5, hD2⟩
        have lp : ((z0 :: zr).zip (zr ++ [b * z0])).length = ((z0 :: zr).map V.int).length := by simp
        rw [← lp, List.take_length] at hD2
        refine ⟨D, ((z0 :: zr).zip (zr ++ [b * z0])).map fun p => decide (p.2 % p.1 = 0), rfl, SqL.of (by rw [hD2, List.map_map]; rfl), ?_⟩
        exact q _ (s3.trans s5)
end
end Ax

namespace Ax
open PySem L2
/-! ### a rule's object -/
def rf1 (b : Int) : List (Str × V) := putF "_base" (.int b) []
def rf2 (b : Int) (k : Kd) : List (Str × V) := putF "_kind" (.str k.s) (rf1 b)
def rf3 (b : Int) (k : Kd) (lm : Addr) : List (Str × V) := putF "_mantissas" (.ref lm) (rf2 b k)
def rf4 (b : Int) (k : Kd) (lm : Addr) (most : Int) : List (Str × V) := putF "_most" (.int most) (rf3 b k lm)
def rf5 (b : Int) (k : Kd) (lm : Addr) (most : Int) (dv : Bool) : List (Str × V) := putF "_dividing" (.bl dv) (rf4 b k lm most)
def rf (b : Int) (k : Kd) (lm : Addr) (most : Int) (dv : Bool) (lr : Addr) : List (Str × V) := putF "_rungs" (.ref lr) (rf5 b k lm most dv)
section
variable (b : Int) (k : Kd) (lm lr : Addr) (most : Int) (dv : Bool)
theorem rf_lookup (f : Str) : (rf b k lm most dv lr).lookup f = if f = "_rungs" then some (.ref lr) else if f = "_dividing" then some (.bl dv) else if f = "_most" then some (.int most) else if f = "_mantissas" then some (.ref lm) else if f = "_kind" then some (.str k.s) else if f = "_base" then some (.int b) else none := by
  unfold rf rf5 rf4 rf3 rf2 rf1
  simp only [lookup_putF, List.lookup_nil]
theorem rf_rungs : (rf b k lm most dv lr).lookup ("_rungs" : Str) = some (.ref lr) := by rw [rf_lookup, if_pos rfl]
theorem rf_dividing : (rf b k lm most dv lr).lookup ("_dividing" : Str) = some (.bl dv) := by rw [rf_lookup, if_neg (by decide +kernel), if_pos rfl]
theorem rf_most : (rf b k lm most dv lr).lookup ("_most" : Str) = some (.int most) := by rw [rf_lookup, if_neg (by decide +kernel), if_neg (by decide +kernel), if_pos rfl]
theorem rf_mantissas : (rf b k lm most dv lr).lookup ("_mantissas" : Str) = some (.ref lm) := by rw [rf_lookup, if_neg (by decide +kernel), if_neg (by decide +kernel), if_neg (by decide +kernel), if_pos rfl]
theorem rf_kind : (rf b k lm most dv lr).lookup ("_kind" : Str) = some (.str k.s) := by rw [rf_lookup, if_neg (by decide +kernel), if_neg (by decide +kernel), if_neg (by decide +kernel), if_neg (by decide +kernel), if_pos rfl]
theorem rf_base : (rf b k lm most dv lr).lookup ("_base" : Str) = some (.int b) := by rw [rf_lookup, if_neg (by decide +kernel), if_neg (by decide +kernel), if_neg (by decide +kernel), if_neg (by decide +kernel), if_neg (by decide +kernel), if_pos rfl]
end
/-- a rule's own parts: its dict, its lists, what they hold -/
structure RD where
  dx : Addr
  lm : Addr
  lr : Addr
  ms' : List Int
  rs : List Int
  ts : List Addr
  top : Nat
  dv : Bool
structure RX (C : Addr) (H : Hp) (r : Addr) (b : Int) (k : Kd) (ms : List Int) (most : Int) (D : RD) : Prop where
  at_ : H r = some (.ins C D.dx (rf b k D.lm most D.dv D.lr))
  lm_ : H D.lm = some (.lst (D.ms'.map V.int))
  pm : D.ms'.Perm ms
  ps : D.ms'.Pairwise (· ≤ ·)
  lr_ : H D.lr = some (.lst (D.ts.map V.ref))
  tup : TupsAt H b D.rs D.ts
  pr : D.rs.Perm ms
  top_ : ∀ m ∈ ms, lg b m ≤ D.top
  st : D.rs.Pairwise (fun m n => keyOf b D.top m < keyOf b D.top n)
  dv_ : D.dv = dvZ b (D.rs.map (keyOf b D.top))
theorem RX.same {C : Addr} {H H' : Hp} {r : Addr} {b : Int} {k : Kd} {ms : List Int} {most : Int} {D : RD} (x : RX C H r b k ms most D) (s : Same H H') : RX C H' r b k ms most D :=
  ⟨s _ _ x.at_, s _ _ x.lm_, x.pm, x.ps, s _ _ x.lr_, x.tup.same fun c xs e => s _ _ e, x.pr, x.top_, x.st, x.dv_⟩
/-- a list apart may change -/
theorem RX.but {C : Addr} {H H' : Hp} {r p : Addr} {b : Int} {k : Kd} {ms : List Int} {most : Int} {D : RD} {xs : List V} (x : RX C H r b k ms most D) (hp : H p = some (.lst xs)) (n1 : D.lm ≠ p) (n2 : D.lr ≠ p) (s : ∀ c o, c ≠ p → H c = some o → H' c = some o) : RX C H' r b k ms most D :=
  ⟨s _ _ (ne_of x.at_ hp (by intro z; cases z)) x.at_, s _ _ n1 x.lm_, x.pm, x.ps, s _ _ n2 x.lr_, x.tup.same fun c xs e => s _ _ (ne_of e hp (by intro z; cases z)) e, x.pr, x.top_, x.st, x.dv_⟩
section
variable {P : Program} {w : World} {K : PySem.W.Frag} {mg : Str → Option Value} {base : Heap} {A : Adr}
/-- between the stores of __init__ -/
structure Mid (C : Addr) (H Hc : Hp) (r dx a lr : Addr) (b : Int) (ms rs : List Int) (ts : List Addr) (fs : List (Str × V)) : Prop where
  at_ : Hc r = some (.ins C dx fs)
  kp : ∀ c o, c ≠ r → H c = some o → Hc c = some o
  la : Hc a = some (.lst (ms.map V.int))
  ll : Hc lr = some (.lst (ts.map V.ref))
  tp : TupsAt Hc b rs ts
theorem Mid.same {C : Addr} {H Hc Hn : Hp} {r dx a lr : Addr} {b : Int} {ms rs : List Int} {ts : List Addr} {fs : List (Str × V)} (m : Mid C H Hc r dx a lr b ms rs ts fs) (s : Same Hc Hn) : Mid C H Hn r dx a lr b ms rs ts fs :=
  ⟨s _ _ m.at_, fun c o h e => s _ _ (m.kp c o h e), s _ _ m.la, s _ _ m.ll, m.tp.same fun c xs e => s _ _ e⟩
theorem Mid.fld {C : Addr} {H Hc : Hp} {r dx a lr : Addr} {b : Int} {ms rs : List Int} {ts : List Addr} {fs : List (Str × V)} (m : Mid C H Hc r dx a lr b ms rs ts fs) (gs : List (Str × V)) : Mid C H (upd Hc r (.ins C dx gs)) r dx a lr b ms rs ts gs := by
  have n1 : a ≠ r := ne_of m.la m.at_ (by intro z; cases z)
  have n2 : lr ≠ r := ne_of m.ll m.at_ (by intro z; cases z)
  refine ⟨upd_same, fun c o h e => by rw [upd_ne h]; exact m.kp c o h e, by rw [upd_ne n1]; exact m.la, by rw [upd_ne n2]; exact m.ll, m.tp.same fun c xs e => ?_⟩
  rw [upd_ne (ne_of e m.at_ (by intro z; cases z))]
  exact e
theorem Mid.fresh {C : Addr} {H Hc : Hp} {r dx a lr : Addr} {b : Int} {ms rs : List Int} {ts : List Addr} {fs : List (Str × V)} (m : Mid C H Hc r dx a lr b ms rs ts fs) {l : Addr} (h : Hc l = none) : H l = none := by
  have n := (ne_of_none m.at_ h).symm
  cases e : H l with
  | none => rfl
  | some o =>
    rw [m.kp l o n e] at h
    cases h
theorem fewF {fs : List (Str × V)} (h : fs.length ≤ 6) : fs.length < 1000 := by omega
theorem l1 (b : Int) : (rf1 b).length ≤ 1 := length_putF _ _ _
theorem l2 (b : Int) (k : Kd) : (rf2 b k).length ≤ 2 := Nat.le_trans (length_putF _ _ _) (Nat.succ_le_succ (l1 b))
theorem l3 (b : Int) (k : Kd) (lm : Addr) : (rf3 b k lm).length ≤ 3 := Nat.le_trans (length_putF _ _ _) (Nat.succ_le_succ (l2 b k))
theorem l4 (b : Int) (k : Kd) (lm : Addr) (most : Int) : (rf4 b k lm most).length ≤ 4 := Nat.le_trans (length_putF _ _ _) (Nat.succ_le_succ (l3 b k lm))
theorem l5 (b : Int) (k : Kd) (lm : Addr) (most : Int) (dv : Bool) : (rf5 b k lm most dv).length ≤ 5 := Nat.le_trans (length_putF _ _ _) (Nat.succ_le_succ (l4 b k lm most))
def spInit (A : Adr) : Sp := fun vs H Q _ => ∃ (r dx a : Addr) (b : Int) (k : Kd) (ms : List Int) (most : Int), vs = [.ref r, .int b, .str k.s, .ref a, .int most] ∧ H r = some (.ins A.c_Rule dx []) ∧ H a = some (.lst (ms.map V.int)) ∧ RArgs b k ms most ∧
  ∀ (H' : Hp) (D : RD), (∀ c o, c ≠ r → H c = some o → H' c = some o) → RX A.c_Rule H' r b k ms most D → H D.lm = none → H D.lr = none → Q .non H'
abbrev nm_Rule_init : List Str := ["self", "base", "kind", "mantissas", "most", "rungs"]
theorem sc_Rule_init : FnScope ["self", "base", "kind", "mantissas", "most", "rungs"] ["self", "base", "kind", "mantissas", "most"] (defScope s_Rule_init) := ⟨rfl, rfl, rfl, by decide +kernel, rfl, by decide +kernel, by decide +kernel⟩
theorem ok_init (T : Txt K mg A w) : FnOk P w K mg base CX0 4 A.a_Rule_init A.d_Rule_init ["self", "base", "kind", "mantissas", "most"] (spInit A) := by
  have G_arguments_fit : FnOk P w K mg base CX0 3 A.a_arguments_fit A.d_arguments_fit ["base", "kind", "mantissas", "most"] (spAF K) := ok_af T
  have G_rungs_of : FnOk P w K mg base CX0 2 A.a_rungs_of A.d_rungs_of ["base", "mantissas"] spRungs := ok_rungs T
  have G_is_dividing : FnOk P w K mg base CX0 2 A.a_is_dividing A.d_is_dividing ["base", "rungs"] spDiv := ok_div T
  refine T.F_Rule_init.ok sc_Rule_init (fun vs H Q E h => ?_) (fun cdv A0 outer s H vs Q E hr h => ?_)
  · obtain ⟨r, dx, a, b, k, ms, most, rfl, _⟩ := h
    rfl
  · obtain ⟨r, dx, a, b, k, ms, most, rfl, hR, hL, R, q⟩ := h
    refine ⟨_, (pss_cons (ps_if (pt_not (pt_val (pe_call G_arguments_fit (hr.mono (by decide)) (by rfl) T.m_arguments_fit T.F_arguments_fit.kp T.B_arguments_fit .nil pass0 (pa_cons (pv 1) (pa_cons (pv 2) (pa_cons (pv 3) (pa_cons (pv 4) pa_nil))))))) (pss_one ps_never) pss_nil)
  (pss_cons (ps_set (i := 5) sc_Rule_init.nd rfl (Or.inl rfl) (pe_call G_rungs_of (hr.mono (by decide)) (by rfl) T.m_rungs_of T.F_rungs_of.kp T.B_rungs_of .nil pass0 (pa_cons (pv 1) (pa_cons (pv 3) pa_nil))))
  (pss_cons (ps_fld (pv 0) (pv 1) rfl)
  (pss_cons (ps_fld (pv 0) (pv 2) rfl)
  (pss_cons (ps_fld (pv 0) (pe_callBK cr_sortInt (by rfl) T.n_sorted (by decide +kernel) (pa_cons (pv 3) pa_nil) (pk_cons (pe_bltn (v := .ty "int") (by rfl) T.n_int (by decide +kernel) rfl) pk_nil)) rfl)
  (pss_cons (ps_fld (pv 0) (pv 4) rfl)
  (pss_cons (ps_fld (pv 0) (pe_call G_is_dividing (hr.mono (by decide)) (by rfl) T.m_is_dividing T.F_is_dividing.kp T.B_is_dividing .nil pass0 (pa_cons (pv 1) (pa_cons (pv 5) pa_nil))) rfl)
  (pss_one (ps_fld (pv 0) (pv 5) rfl))))))))), ?_⟩
    refine ⟨_, rfl, _, rfl, _, rfl, _, rfl, b, k, ms, a, most, rfl, hL, R, fun H1 s1 => ?_⟩
    refine ⟨_, rfl, iteF ?_⟩
    refine ⟨_, rfl, _, rfl, k, b, most, ms, a, rfl, s1 _ _ hL, R, fun G0 lr rs ts M s2 hlr hM hmax hD hE pr st => ?_⟩
    have m0 : Mid A.c_Rule H G0 r dx a lr b ms rs ts [] :=
      ⟨s2 _ _ (s1 _ _ hR), fun c o _ e => s2 _ _ (s1 _ _ e), s2 _ _ (s1 _ _ hL), hD, hE⟩
    -- self._base = base; self._kind = kind
    refine ⟨_, rfl, _, rfl, r, A.c_Rule, dx, [], rfl, m0.at_, T.cl, T.na_base, (by decide), ?_⟩
    have m1 := m0.fld (rf1 b)
    refine ⟨_, rfl, _, rfl, r, A.c_Rule, dx, rf1 b, rfl, m1.at_, T.cl, T.na_kind, fewF (Nat.le_trans (l1 b) (by decide)), ?_⟩
    have m2 := m1.fld (rf2 b k)
    -- self._mantissas = sorted(mantissas, key=int)
    refine ⟨_, rfl, a, ms, rfl, rfl, SqL.of m2.la, (by have := R.le; omega), fun ms' lm hp3 hp4 hlm => ?_⟩
    have m2' := m2.same (same_new (o := .lst (ms'.map V.int)) hlm)
    have lm2 := upd_same (H := upd (upd G0 r (.ins A.c_Rule dx (rf1 b))) r (.ins A.c_Rule dx (rf2 b k))) (a := lm) (o := .lst (ms'.map V.int))
    refine ⟨_, rfl, r, A.c_Rule, dx, rf2 b k, rfl, m2'.at_, T.cl, T.na_mantissas, fewF (Nat.le_trans (l2 b k) (by decide)), ?_⟩
    have m3 := m2'.fld (rf3 b k lm)
    have nlr : lm ≠ r := ne_of lm2 m2'.at_ (by intro z; cases z)
    have lm3 := (upd_ne (o := .ins A.c_Rule dx (rf3 b k lm)) nlr).trans lm2
    -- self._most = most
    refine ⟨_, rfl, _, rfl, r, A.c_Rule, dx, rf3 b k lm, rfl, m3.at_, T.cl, T.na_most, fewF (Nat.le_trans (l3 b k lm) (by decide)), ?_⟩
    have m4 := m3.fld (rf4 b k lm most)
    have lm4 := (upd_ne (o := .ins A.c_Rule dx (rf4 b k lm most)) nlr).trans lm3
    -- self._dividing = _is_dividing(base, rungs)
    have lgle : ∀ m ∈ ms, lg b m ≤ lg b M := fun m hm => lg_mono R.b2 (R.all m hm).1 (hmax m hm)
    have rlen : rs.length < 60 := by rw [pr.length_eq]; exact R.le
    refine ⟨_, rfl, _, rfl, b, M, rs, ts, lr, rfl, m4.ll, m4.tp, R.b2, R.bB, pr.mem_iff.mpr hM, rlen, fun m hm => ⟨(R.all m (pr.mem_iff.mp hm)).1, (R.all m (pr.mem_iff.mp hm)).2.1, hmax m (pr.mem_iff.mp hm)⟩, fun H5 s5 => ?_⟩
    have m4' := m4.same s5
    have lm4' := s5 _ _ lm4
    generalize hdv : dvZ b (rs.map (keyOf b (lg b M))) = dv
    refine ⟨_, rfl, r, A.c_Rule, dx, rf4 b k lm most, rfl, m4'.at_, T.cl, T.na_dividing, fewF (Nat.le_trans (l4 b k lm most) (by decide)), ?_⟩
    have m5 := m4'.fld (rf5 b k lm most dv)
    have lm5 := (upd_ne (o := .ins A.c_Rule dx (rf5 b k lm most dv)) nlr).trans lm4'
    -- self._rungs = rungs
    refine ⟨_, rfl, _, rfl, r, A.c_Rule, dx, rf5 b k lm most dv, rfl, m5.at_, T.cl, T.na_rungs, fewF (Nat.le_trans (l5 b k lm most dv) (by decide)), ?_⟩
    have m6 := m5.fld (rf b k lm most dv lr)
    refine q _ ⟨dx, lm, lr, ms', rs, ts, lg b M, dv⟩ m6.kp ⟨m6.at_, ?_, hp3, hp4, m6.ll, m6.tp, pr, lgle, st, hdv.symm⟩ (m2.fresh hlm) (s1.free hlr)
    rw [upd_ne nlr]
    exact lm5
end
end Ax

namespace Ax
open PySem L2
section
variable {P : Program} {w : World} {K : PySem.W.Frag} {mg : Str → Option Value} {base : Heap} {A : Adr}
theorem RX.rungs {C : Addr} {H : Hp} {r : Addr} {b : Int} {k : Kd} {ms : List Int} {most : Int} {D : RD} (x : RX C H r b k ms most D) (R : RArgs b k ms most) : Rungs b D.rs D.top :=
  ⟨R.b2, by rw [x.pr.length_eq]; exact List.length_pos_iff.mpr R.ne, fun m hm => (R.all m (x.pr.mem_iff.mp hm)).1, fun m hm => x.top_ m (x.pr.mem_iff.mp hm), x.st⟩
theorem RX.len {C : Addr} {H : Hp} {r : Addr} {b : Int} {k : Kd} {ms : List Int} {most : Int} {D : RD} (x : RX C H r b k ms most D) : (D.ts.map V.ref).length = D.rs.length := by
  rw [List.length_map, x.tup.len]
/-! ### step_at -/
def spAt (A : Adr) : Sp := fun vs H Q _ => ∃ (r : Addr) (i : Int) (b : Int) (k : Kd) (ms : List Int) (most : Int) (D : RD), vs = [.ref D.lr, .int i] ∧ RX A.c_Rule H r b k ms most D ∧ RArgs b k ms most ∧
  ∀ (H' : Hp) (q : Addr), Same H H' → H q = none → H' q = some (.tup [.int (sAt b D.rs i).1, .int (sAt b D.rs i).2]) → Q (.ref q) H'
abbrev nm_step_at : List Str := ["rungs", "number", "power", "place", "mantissa", "shift"]
theorem sc_step_at : FnScope ["rungs", "number", "power", "place", "mantissa", "shift"] ["rungs", "number"] (defScope s_step_at) := ⟨rfl, rfl, rfl, by decide +kernel, rfl, by decide +kernel, by decide +kernel⟩
theorem ok_step_at (T : Txt K mg A w) : FnOk P w K mg base CX0 1 A.a_step_at A.d_step_at ["rungs", "number"] (spAt A) := by
  refine T.F_step_at.ok sc_step_at (fun vs H Q E h => ?_) (fun cdv A0 outer s H vs Q E hr h => ?_)
  · obtain ⟨r, i, b, k, ms, most, D, rfl, _⟩ := h
    rfl
  · obtain ⟨r, i, b, k, ms, most, D, rfl, x, R, q⟩ := h
    have X := x.rungs R
    have hn : 0 < (D.rs.length : Int) := by have := X.ne; omega
    have hl : ((D.ts.map V.ref).length : Int) = D.rs.length := by rw [x.len]
    have lrs : D.rs.length < 60 := by rw [x.pr.length_eq]; exact R.le
    refine ⟨_, (pss_cons (ps_asg (pe_callB call_divmodW (by rfl) T.n_divmod (by decide +kernel) (pa_cons (pv 1) (pa_cons (pe_callB call_len_seq (by rfl) T.n_len (by decide +kernel) (pa_cons (pv 0) pa_nil)) pa_nil))) (pg_tup (by rfl) (pgs_cons (pg_name (i := 2) sc_step_at.nd rfl (Or.inl rfl)) (pgs_cons (pg_name (i := 3) sc_step_at.nd rfl (Or.inl rfl)) pgs_nil))))
  (pss_cons (ps_asg (pe_ix ix_list (pv 0) (pv 3) (fun _ _ => rfl)) (pg_tup (by rfl) (pgs_cons (pg_name (i := 4) sc_step_at.nd rfl (Or.inl rfl)) (pgs_cons (pg_name (i := 5) sc_step_at.nd rfl (Or.inl rfl)) pgs_nil))))
  (pss_one (ps_ret (pe_tup (pa_cons (pv 4) (pa_cons (pe_op op_add (pv 2) (pv 5)) pa_nil))))))), ?_⟩
    refine ⟨_, rfl, _, rfl, D.lr, _, rfl, .inl (SqL.of x.lr_), i, _, rfl, ⟨by omega, PyProof.noPylong_of_log2 ?_⟩, fun q1 hq1 => ?_⟩
    · rw [hl, Int.natAbs_natCast]
      exact Nat.lt_of_le_of_lt (Nat.log2_le_self _) (by omega)
    refine ⟨q1, _, rfl, SqT.of upd_same, rfl, _, _, rfl, _, _, rfl, rfl, ?_⟩
    have s1 : Same H (upd H q1 (.tup [.int (i / ((D.ts.map V.ref).length : Nat)), .int (i % ((D.ts.map V.ref).length : Nat))])) := same_new hq1
    have x1 := x.same s1
    have f1 := Int.emod_nonneg i (show (D.rs.length : Int) ≠ 0 by omega)
    have f2 := Int.emod_lt_of_pos i hn
    have lt : (i % D.rs.length).toNat < D.rs.length := by omega
    have eg : D.rs[(i % D.rs.length).toNat]? = some (sAt b D.rs i).1 := by
      show _ = some (D.rs.getD (i % D.rs.length).toNat 1)
      rw [List.getD_eq_getElem?_getD, List.getElem?_eq_getElem lt]
      rfl
    obtain ⟨t, ht, htup⟩ := x1.tup.get eg
    have hat : atI (D.ts.map V.ref) (i % ((D.ts.map V.ref).length : Nat)) = some (.ref t) := by
      refine at_of (j := (i % D.rs.length).toNat) (by rw [hl]; omega) ?_
      rw [List.getElem?_map, ht]
      rfl
    refine ⟨_, rfl, _, rfl, D.lr, _, _, _, rfl, rfl, SqL.of x1.lr_, hat, ?_⟩
    refine ⟨t, _, rfl, SqT.of htup, rfl, _, _, rfl, _, _, rfl, rfl, ?_⟩
    refine ⟨_, rfl, _, rfl, _, rfl, _, _, rfl, rfl, (by show 2 ≤ sizeLine; decide), fun q2 hq2 => ?_⟩
    refine q _ q2 (s1.trans (same_new hq2)) (s1.free hq2) ?_
    rw [upd_same, hl]
    rfl
/-! ### low_rung -/
def spLow (A : Adr) : Sp := fun vs H Q _ => ∃ (r : Addr) (l h d : Int) (b : Int) (k : Kd) (ms : List Int) (most : Int) (D : RD), vs = [.int b, .ref D.lr, .int most, .int (h - l), .int d] ∧ RX A.c_Rule H r b k ms most D ∧ RArgs b k ms most ∧ l < h ∧ h - l < 2 ^ 1000 ∧ 0 ≤ d ∧ d < 2 ^ 20 ∧
  ∀ H' : Hp, Same H H' → Q (.int (lowQ b most l h d * D.rs.length)) H'
abbrev nm_low_rung : List Str := ["base", "rungs", "most", "length", "digits", "spare"]
theorem sc_low_rung : FnScope ["base", "rungs", "most", "length", "digits", "spare"] ["base", "rungs", "most", "length", "digits"] (defScope s_low_rung) := ⟨rfl, rfl, rfl, by decide +kernel, rfl, by decide +kernel, by decide +kernel⟩
theorem ok_low (T : Txt K mg A w) : FnOk P w K mg base CX0 2 A.a_low_rung A.d_low_rung ["base", "rungs", "most", "length", "digits"] (spLow A) := by
  have G_log_of : FnOk P w K mg base CX0 1 A.a_log_of A.d_log_of ["base", "number"] spLog := ok_log_of T
  refine T.F_low_rung.ok sc_low_rung (fun vs H Q E h => ?_) (fun cdv A0 outer s H vs Q E hr h => ?_)
  · obtain ⟨r, l, h, d, b, k, ms, most, D, rfl, _⟩ := h
    rfl
  · obtain ⟨r, l, h, d, b, k, ms, most, D, rfl, x, R, hlt, hB, hd, hdB, q⟩ := h
    have X := x.rungs R
    have lrs : D.rs.length < 60 := by rw [x.pr.length_eq]; exact R.le
    refine ⟨_, (pss_cons (ps_set (i := 5) sc_low_rung.nd rfl (Or.inl rfl) (pe_op op_add (pe_call G_log_of (hr.mono (by decide)) (by rfl) T.m_log_of T.F_log_of.kp T.B_log_of .nil pass0 (pa_cons (pv 0) (pa_cons (pe_op op_add (pv 2) pe_int) pa_nil))) pe_int))
  (pss_one (ps_ret (pe_op op_mulW (pe_op op_sub (pe_op op_sub (pe_call G_log_of (hr.mono (by decide)) (by rfl) T.m_log_of T.F_log_of.kp T.B_log_of .nil pass0 (pa_cons (pv 0) (pa_cons (pv 3) pa_nil))) (pv 4)) (pv 5)) (pe_callB call_len_seq (by rfl) T.n_len (by decide +kernel) (pa_cons (pv 1) pa_nil)))))), ?_⟩
    have mB := R.mB
    have m1 := R.m1
    have m61 : most + 1 < 2 ^ 61 := by
      have : (2 : Int) ^ 60 + 1 ≤ 2 ^ 61 := by decide
      omega
    refine ⟨_, rfl, _, rfl, _, _, rfl, rfl,
      b, most + 1, rfl, R.b2, lt_big R.bB (by decide), by omega, lt_big (n := 61) m61 (by decide), fun E1 H1 s1 g1 g2 => ?_⟩
    obtain rfl := lg_eq R.b2 (by omega) g1 g2
    refine ⟨_, _, rfl, rfl, ?_⟩
    have x1 := x.same s1
    refine ⟨_, rfl, _, rfl, b, h - l, rfl, R.b2, lt_big R.bB (by decide), by omega, lt_big (n := 1000) hB (by decide), fun E2 H2 s2 g3 g4 => ?_⟩
    obtain rfl := lg_eq R.b2 (by omega) g3 g4
    have x2 := x1.same s2
    refine ⟨_, rfl, _, _, rfl, rfl, _, rfl, _, _, rfl, rfl, ?_⟩
    refine ⟨_, rfl, D.lr, _, rfl, .inl (SqL.of x2.lr_), _, _, rfl, rfl, ?_, ?_⟩
    · have e1 := exp_lt R.b2 (Int.lt_of_le_of_lt g3 hB)
      have e2 := exp_lt (n := 61) R.b2 (Int.lt_of_le_of_lt g1 m61)
      refine wide_mul (a := 30) (b := 30) ?_ ?_ (by decide) (by decide) (by decide)
      · have : (2 : Nat) ^ 30 = 1073741824 := by decide
        have : (2 : Int) ^ 20 = 1048576 := by decide
        omega
      · rw [x.len, Int.natAbs_natCast]
        have : (2 : Nat) ^ 30 = 1073741824 := by decide
        omega
    · have e := q H2 (s1.trans s2)
      rw [x.len]
      exact e
end
end Ax

namespace Ax
open PySem L2
section
variable {P : Program} {w : World} {K : PySem.W.Frag} {mg : Str → Option Value} {base : Heap} {A : Adr}
/-! ### _fits -/
def spFits (A : Adr) : Sp := fun vs H Q _ => ∃ (r t sp : Addr) (m p l h d : Int) (b : Int) (k : Kd) (ms : List Int) (most : Int) (D : RD), vs = [.ref r, .ref t, .ref sp] ∧ RX A.c_Rule H r b k ms most D ∧ RArgs b k ms most ∧
  H t = some (.tup [.int m, .int p]) ∧ H sp = some (.tup [.int l, .int h, .int d]) ∧ 1 ≤ m ∧ m < 2 ^ 64 ∧ b ^ (p + d).natAbs < 2 ^ 2000 ∧ l.natAbs < 2 ^ 1500 ∧ h.natAbs < 2 ^ 1500 ∧
  ∀ H' : Hp, Same H H' → Q (.bl (decide (FitE b k most l h m (p + d)))) H'
abbrev nm_Rule__fits : List Str := ["self", "step", "span", "low", "high", "digits", "factor", "size"]
theorem sc_Rule__fits : FnScope ["self", "step", "span", "low", "high", "digits", "factor", "size"] ["self", "step", "span"] (defScope s_Rule__fits) := ⟨rfl, rfl, rfl, by decide +kernel, rfl, by decide +kernel, by decide +kernel⟩
theorem ok_fits (T : Txt K mg A w) : FnOk P w K mg base CX0 3 A.a_Rule__fits A.d_Rule__fits ["self", "step", "span"] (spFits A) := by
  have G_measure : FnOk P w K mg base CX0 2 A.a_measure A.d_measure ["base", "step", "digits"] (spMeasure K) := ok_measure T
  have G_reach : FnOk P w K mg base CX0 1 A.a_reach A.d_reach ["kind", "most", "low", "size"] spReach := ok_reach T
  refine T.F_Rule__fits.ok sc_Rule__fits (fun vs H Q E h => ?_) (fun cdv A0 outer s H vs Q E hr h => ?_)
  · obtain ⟨r, t, sp, m, p, l, h, d, b, k, ms, most, D, rfl, _⟩ := h
    rfl
  · obtain ⟨r, t, sp, m, p, l, h, d, b, k, ms, most, D, rfl, x, R, ht, hsp, m1, mB, eB, lB, hB, q⟩ := h
    have b1 : 1 ≤ b := by have := R.b2; omega
    obtain ⟨f1, f2⟩ := fac_bound b1 eB
    obtain ⟨z1, z2⟩ := siz_bound b1 m1 mB eB
    have fN : (facZ b (p + d)).natAbs < 2 ^ 2000 := abs_lt_pow (by omega) f2
    have lf : (l * facZ b (p + d)).natAbs < 2 ^ 3500 := wide_lt lB fN
    have lf2 : (((l * facZ b (p + d)).natAbs : Nat) : Int) < 2 ^ 3500 := by
      have := Int.ofNat_lt.mpr lf
      rwa [Int.natCast_pow] at this
    have lf3 : (2 : Int) ^ 3500 < BIG := pow_lt' (b := 2) (by decide) (by decide)
    refine ⟨_, (pss_cons (ps_asg (pv 2) (pg_tup (by rfl) (pgs_cons (pg_name (i := 3) sc_Rule__fits.nd rfl (Or.inl rfl)) (pgs_cons (pg_name (i := 4) sc_Rule__fits.nd rfl (Or.inl rfl)) (pgs_cons (pg_name (i := 5) sc_Rule__fits.nd rfl (Or.inl rfl)) pgs_nil)))))
  (pss_cons (ps_asg (pe_call G_measure (hr.mono (by decide)) (by rfl) T.m_measure T.F_measure.kp T.B_measure .nil pass0 (pa_cons (pe_fld (pv 0) rfl) (pa_cons (pv 1) (pa_cons (pv 5) pa_nil)))) (pg_tup (by rfl) (pgs_cons (pg_name (i := 6) sc_Rule__fits.nd rfl (Or.inl rfl)) (pgs_cons (pg_name (i := 7) sc_Rule__fits.nd rfl (Or.inl rfl)) pgs_nil))))
  (pss_one (ps_ret (pe_cmpR op_le (pe_op op_mulW (pv 4) (pv 6)) (pe_call G_reach (hr.mono (by decide)) (by rfl) T.m_reach T.F_reach.kp T.B_reach .nil pass0 (pa_cons (pe_fld (pv 0) rfl) (pa_cons (pe_fld (pv 0) rfl) (pa_cons (pe_op op_mulW (pv 3) (pv 6)) (pa_cons (pv 7) pa_nil))))) (nomark _)))))), ?_⟩
    refine ⟨_, rfl, sp, _, rfl, SqT.of hsp, rfl, _, _, rfl, _, _, rfl, _, _, rfl, rfl, ?_⟩
    refine ⟨_, rfl, r, A.c_Rule, D.dx, _, _, rfl, x.at_, T.cl, T.na_base, rf_base _ _ _ _ _ _, _, rfl, _, rfl, b, m, p, d, t, rfl, SqT.of ht, b1, lt_big R.bB (by decide), lt_big (n := 2000) eB (by decide), by omega, lt_big mB (by decide), ?_⟩
    rintro H1 q1 s1 hq1 rfl
    refine ⟨q1, _, rfl, SqT.of upd_same, rfl, _, _, rfl, _, _, rfl, rfl, ?_⟩
    have x1 := x.same s1
    refine ⟨_, rfl, _, rfl, _, _, rfl, rfl, wide_mul hB fN (by decide) (by decide) (by decide), ?_⟩
    refine ⟨_, rfl, r, A.c_Rule, D.dx, _, _, rfl, x1.at_, T.cl, T.na_kind, rf_kind _ _ _ _ _ _, _, rfl, r, A.c_Rule, D.dx, _, _, rfl, x1.at_, T.cl, T.na_most, rf_most _ _ _ _ _ _, _, rfl, _, rfl, _, _, rfl, rfl, wide_mul lB fN (by decide) (by decide) (by decide), _, rfl, ?_⟩
    refine ⟨k, most, l * facZ b (p + d), sizZ b m (p + d), rfl, z1, lt_big (n := 2064) z2 (by decide), by omega, by omega, by have := R.m1; omega, lt_big R.mB (by decide), ?_⟩
    exact ⟨_, _, rfl, rfl, q _ s1⟩
/-! ### step -/
/-- the ranges that are asked -/
structure Rng (l h d : Int) : Prop where
  lt : l < h
  len : h - l < 2 ^ 1000
  lo : l.natAbs < 2 ^ 1500
  hi : h.natAbs < 2 ^ 1500
  d0 : 0 ≤ d
  dB : d < 2 ^ 20
def spStep (A : Adr) : Sp := fun vs H Q _ => ∃ (r sp : Addr) (l h d : Int) (b : Int) (k : Kd) (ms : List Int) (most : Int) (D : RD), vs = [.ref r, .ref sp] ∧ RX A.c_Rule H r b k ms most D ∧ RArgs b k ms most ∧
  H sp = some (.tup [.int l, .int h, .int d]) ∧ Rng l h d ∧
  ∀ (H' : Hp) (q : Addr) (m p : Int), Same H H' → H q = none → H' q = some (.tup [.int m, .int p]) → LeastFit b ms k most l h d m p → b ^ (p + d).natAbs < 2 ^ 2000 → (lg b (h - l) : Int) - (lg b (most + 1) + 1) ≤ p + d + lg b m → Q (.ref q) H'
abbrev nm_Rule_step : List Str := ["self", "span", "low", "high", "digits", "number"]
theorem sc_Rule_step : FnScope ["self", "span", "low", "high", "digits", "number"] ["self", "span"] (defScope s_Rule_step) := ⟨rfl, rfl, rfl, by decide +kernel, rfl, by decide +kernel, by decide +kernel⟩
theorem ok_step (T : Txt K mg A w) : FnOk P w K mg base CX0 4 A.a_Rule_step A.d_Rule_step ["self", "span"] (spStep A) := by
  have G_is_span : FnOk P w K mg base CX0 2 A.a_is_span A.d_is_span ["value"] spSpan := ok_is_span T
  have G_low_rung : FnOk P w K mg base CX0 2 A.a_low_rung A.d_low_rung ["base", "rungs", "most", "length", "digits"] (spLow A) := ok_low T
  have G_step_at : FnOk P w K mg base CX0 1 A.a_step_at A.d_step_at ["rungs", "number"] (spAt A) := ok_step_at T
  have G_Rule__fits : FnOk P w K mg base CX0 3 A.a_Rule__fits A.d_Rule__fits ["self", "step", "span"] (spFits A) := ok_fits T
  refine T.F_Rule_step.ok sc_Rule_step (fun vs H Q E h => ?_) (fun cdv A0 outer s H vs Q E hr h => ?_)
  · obtain ⟨r, sp, l, h, d, b, k, ms, most, D, rfl, _⟩ := h
    rfl
  · obtain ⟨r, sp, l, h, d, b, k, ms, most, D, rfl, x, R, hsp, G, q⟩ := h
    have X := x.rungs R
    have rB : ∀ m ∈ D.rs, m < 2 ^ 64 := fun m hm => (R.all m (x.pr.mem_iff.mp hm)).2.1
    have noF : (rf b k D.lm most D.dv D.lr).lookup ("_fits" : Str) = none := by
      rw [rf_lookup, if_neg (by decide +kernel), if_neg (by decide +kernel), if_neg (by decide +kernel), if_neg (by decide +kernel), if_neg (by decide +kernel), if_neg (by decide +kernel)]
    refine ⟨_, (pss_cons (ps_if (pt_not (pt_val (pe_call G_is_span (hr.mono (by decide)) (by rfl) T.m_is_span T.F_is_span.kp T.B_is_span .nil pass0 (pa_cons (pv 1) pa_nil)))) (pss_one ps_never) pss_nil)
  (pss_cons (ps_asg (pv 1) (pg_tup (by rfl) (pgs_cons (pg_name (i := 2) sc_Rule_step.nd rfl (Or.inl rfl)) (pgs_cons (pg_name (i := 3) sc_Rule_step.nd rfl (Or.inl rfl)) (pgs_cons (pg_name (i := 4) sc_Rule_step.nd rfl (Or.inl rfl)) pgs_nil)))))
  (pss_cons (ps_set (i := 5) sc_Rule_step.nd rfl (Or.inl rfl) (pe_call G_low_rung (hr.mono (by decide)) (by rfl) T.m_low_rung T.F_low_rung.kp T.B_low_rung .nil pass0 (pa_cons (pe_fld (pv 0) rfl) (pa_cons (pe_fld (pv 0) rfl) (pa_cons (pe_fld (pv 0) rfl) (pa_cons (pe_op op_sub (pv 3) (pv 2)) (pa_cons (pv 4) pa_nil)))))))
  (pss_cons (ps_while PassesOwn.never (pt_not (pt_val (pe_meth (pv 0) T.cl T.t_Rule__fits G_Rule__fits (hr.mono (by decide)) T.B_Rule__fits .nil pass0 (pa_cons (pe_call G_step_at (hr.mono (by decide)) (by rfl) T.m_step_at T.F_step_at.kp T.B_step_at .nil pass0 (pa_cons (pe_fld (pv 0) rfl) (pa_cons (pv 5) pa_nil))) (pa_cons (pv 1) pa_nil)))))
  (pss_one (ps_set (i := 5) sc_Rule_step.nd rfl (Or.inl rfl) (pe_op op_add (pv 5) pe_int))))
  (pss_one (ps_ret (pe_call G_step_at (hr.mono (by decide)) (by rfl) T.m_step_at T.F_step_at.kp T.B_step_at .nil pass0 (pa_cons (pe_fld (pv 0) rfl) (pa_cons (pv 5) pa_nil))))))))), ?_⟩
    refine ⟨_, rfl, sp, l, h, d, rfl, hsp, G.lt, G.d0, fun H1 s1 => ⟨_, rfl, ?_⟩⟩
    refine iteF ?_
    have x1 := x.same s1
    refine ⟨_, rfl, sp, _, rfl, SqT.of (s1 _ _ hsp), rfl, _, _, rfl, _, _, rfl, _, _, rfl, rfl, ?_⟩
    refine ⟨_, rfl, r, A.c_Rule, D.dx, _, _, rfl, x1.at_, T.cl, T.na_base, rf_base _ _ _ _ _ _, _, rfl, r, A.c_Rule, D.dx, _, _, rfl, x1.at_, T.cl, T.na_rungs, rf_rungs _ _ _ _ _ _, _, rfl, r, A.c_Rule, D.dx, _, _, rfl, x1.at_, T.cl, T.na_most, rf_most _ _ _ _ _ _, _, rfl, _, rfl, _, _, rfl, rfl, _, rfl, r, l, h, d, b, k, ms, most, D, rfl, x1, R, G.lt, G.len, G.d0, G.dB, fun H2 s2 => ?_⟩
    have x2 := x1.same s2
    have s02 : Same H H2 := s1.trans s2
    have hR := fit_high (k := k) X G.lt R.m1 R.mC (Int.le_refl ((lg b (h - l) - d + 1) * D.rs.length)) (d := d)
    have hn : 0 < (D.rs.length : Int) := by have := X.ne; omega
    refine ⟨fun m σ H' => ∃ (i : Int), σ = [some (.ref r), some (.ref sp), some (.int l), some (.int h), some (.int d), some (.int i)] ∧ Same H H' ∧
        lowQ b most l h d * D.rs.length ≤ i ∧ i ≤ (lg b (h - l) - d + 1) * D.rs.length ∧ (∀ j, lowQ b most l h d * D.rs.length ≤ j → j < i → ¬ FitI b D.rs k most l h d j) ∧ m = ((lg b (h - l) - d + 1) * D.rs.length - i).toNat,
      ⟨_, lowQ b most l h d * D.rs.length, rfl, s02, Int.le_refl _, Int.mul_le_mul_of_nonneg_right (by unfold lowQ; omega) (by omega), fun j h1 h2 => by omega, rfl⟩, ?_⟩
    rintro m σ H' ⟨i, rfl, s4, i1, i2, i3, rfl⟩
    have x4 := x.same s4
    have eB := exp_bound X R.bB G.lt G.len R.m1 R.mB rB i1 i2
    -- self._fits(step_at(self._rungs, number), span)
    refine ⟨_, rfl, r, D.dx, _, rfl, x4.at_, noF, _, rfl, r, A.c_Rule, D.dx, _, _, rfl, x4.at_, T.cl, T.na_rungs, rf_rungs _ _ _ _ _ _, _, rfl, r, i, b, k, ms, most, D, rfl, x4, R, fun H3 t s3 ht0 ht => ?_⟩
    have x5 := x4.same s3
    have s43 := s4.trans s3
    refine ⟨_, rfl, r, t, sp, _, _, l, h, d, b, k, ms, most, D, rfl, x5, R, ht, s43 _ _ hsp, X.pos _ (X.mem i), rB _ (X.mem i), eB, G.lo, G.hi, fun H5 s5 => ⟨_, rfl, ?_⟩⟩
    have s05 := s43.trans s5
    have x6 := x.same s05
    by_cases c : FitE b k most l h (sAt b D.rs i).1 ((sAt b D.rs i).2 + d)
    · rw [decide_eq_true c]
      refine iteF ⟨_, rfl, r, A.c_Rule, D.dx, _, _, rfl, x6.at_, T.cl, T.na_rungs, rf_rungs _ _ _ _ _ _, _, rfl, r, i, b, k, ms, most, D, rfl, x6, R, fun H7 t7 s7 ht7 e7 => ?_⟩
      refine q H7 t7 _ _ (s05.trans s7) (s05.free ht7) e7 (least_of X G.lt R.m1 x.pr c i3) eB ?_
      have q1 : lowQ b most l h d ≤ i / D.rs.length := (Int.le_ediv_iff_mul_le hn).mpr i1
      unfold lowQ at q1
      show (lg b (h - l) : Int) - (lg b (most + 1) + 1) ≤ (i / D.rs.length - lg b (sAt b D.rs i).1) + d + lg b (sAt b D.rs i).1
      omega
    · rw [decide_eq_false c]
      have ilt : i < (lg b (h - l) - d + 1) * D.rs.length := by
        rcases Int.lt_or_eq_of_le i2 with z | z
        · exact z
        · rw [z] at c
          exact absurd hR c
      refine iteT ⟨fun σ' H6 => σ' = [some (.ref r), some (.ref sp), some (.int l), some (.int h), some (.int d), some (.int (i + 1))] ∧ Same H H6, ?_, ?_⟩
      · rintro σ' H6 ⟨rfl, s6⟩
        refine ⟨((lg b (h - l) - d + 1) * D.rs.length - (i + 1)).toNat, by omega, i + 1, rfl, s6, by omega, by omega, fun j h1 h2 => ?_, rfl⟩
        by_cases e : j = i
        · rw [e]
          exact c
        · exact i3 j h1 (by omega)
      · exact ⟨_, rfl, _, _, rfl, rfl, rfl, s05⟩
end
end Ax

namespace L2
open PySem PySem.Spec PyProof.Rows
/-- a power that is not too great -/
def CPowX (i j : Int) : Prop := 0 ≤ j ∧ (Builtin.Int.intBits i : Int) * j ≤ 2 ^ 27
theorem op_powX {X : Cx} : OpR X (binaryOp .Pow) (rI CPowX fun i j => .int (i ^ j.toNat)) := opI fun _ _ _ _ _ _ _ hc q => pow_int hc.1 hc.2 q
end L2
namespace Ax
open PySem L2
section
variable {P : Program} {w : World} {K : PySem.W.Frag} {mg : Str → Option Value} {base : Heap} {A : Adr}
/-! ### the purse of draws -/
abbrev PM : Int := (10 ^ (40 : Int).toNat) ^ (10 : Int).toNat
/-- a purse that at most t draws have been taken from -/
def Purse (H : Hp) (p : Addr) (t : Nat) : Prop := ∃ a c u : Int, H p = some (.lst [.int a, .int c, .int u]) ∧ 0 ≤ a ∧ a < PM ∧ 0 ≤ c ∧ c < 2 ^ 31 ∧ 0 ≤ u ∧ u ≤ t
/-- all but the purse is kept -/
def Kp (p : Addr) (H H' : Hp) : Prop := ∀ c o, c ≠ p → H c = some o → H' c = some o
theorem Kp.refl (p : Addr) (H : Hp) : Kp p H H := fun _ _ _ e => e
theorem Kp.trans {p : Addr} {H H1 H2 : Hp} (a : Kp p H H1) (b : Kp p H1 H2) : Kp p H H2 := fun c o h e => b c o h (a c o h e)
theorem Same.kp {H H' : Hp} (s : Same H H') (p : Addr) : Kp p H H' := fun c o _ e => s c o e
theorem Purse.same {H H' : Hp} {p : Addr} {t : Nat} (x : Purse H p t) (s : Same H H') : Purse H' p t := by
  obtain ⟨a, c, u, h, r⟩ := x
  exact ⟨a, c, u, s _ _ h, r⟩
theorem Purse.le {H : Hp} {p : Addr} {t t' : Nat} (x : Purse H p t) (h : t ≤ t') : Purse H p t' := by
  obtain ⟨a, c, u, h1, h2, h3, h4, h5, h6, h7⟩ := x
  exact ⟨a, c, u, h1, h2, h3, h4, h5, h6, by omega⟩
theorem Purse.some {H : Hp} {p : Addr} {t : Nat} (x : Purse H p t) : ∃ xs, H p = some (.lst xs) := by
  obtain ⟨a, c, u, h, _⟩ := x
  exact ⟨_, h⟩
theorem Purse.ne {H : Hp} {p l : Addr} {t : Nat} (x : Purse H p t) (h : H l = none) : l ≠ p := by
  obtain ⟨xs, e⟩ := x.some
  exact (ne_of_none e h).symm
/-- what was free before is free, behind an all-but-the-purse step -/
theorem Kp.free {p : Addr} {H H' : Hp} {l : Addr} {t' : Nat} (k : Kp p H H') (y : Purse H' p t') (h : H' l = none) : H l = none := by
  have n := y.ne h
  cases e : H l with
  | none => rfl
  | some o =>
    rw [k l o n e] at h
    cases h
theorem PM_lt : PM < 2 ^ 1400 := by
  show ((10 : Int) ^ 40) ^ 10 < 2 ^ 1400
  decide +kernel
def spPurse (K : PySem.W.Frag) : Sp := fun vs H Q _ => ∃ (s : Addr) (ns : List Int) (i : Nat), vs = [.ref s, .int i] ∧ SqL K H s (ns.map V.int) ∧ ns.length ≤ 63 ∧ ∀ (H' : Hp) (p : Addr), Same H H' → H p = none → Purse H' p 0 → Q (.ref p) H'
abbrev nm_law_purse : List Str := ["_law_script", "_law_at", "_law_cell"]
theorem sc_law_purse : FnScope ["_law_script", "_law_at", "_law_cell"] ["_law_script", "_law_at"] (defScope s_law_purse) := ⟨rfl, rfl, rfl, by decide +kernel, rfl, by decide +kernel, by decide +kernel⟩
theorem ok_purse (T : Txt K mg A w) : FnOk P w K mg base CX0 1 A.a_law_purse A.d_law_purse ["_law_script", "_law_at"] (spPurse K) := by
  refine T.F_law_purse.ok sc_law_purse (fun vs H Q E h => ?_) (fun cdv A0 outer s H vs Q E hr h => ?_)
  · obtain ⟨r, ns, i, rfl, _⟩ := h
    rfl
  · obtain ⟨r, ns, i, rfl, hS, hl, q⟩ := h
    refine ⟨_, (pss_cons (ps_set (i := 2) sc_law_purse.nd rfl (Or.inl rfl) pe_int)
  (pss_cons (ps_if (pt_cmpR op_lt (pv 1) (pe_callB call_len_seq (by rfl) T.n_len (by decide +kernel) (pa_cons (pv 0) pa_nil)) (nomark _)) (pss_one (ps_set (i := 2) sc_law_purse.nd rfl (Or.inl rfl) (pe_ix ix_list (pv 0) (pv 1) (fun _ _ => rfl)))) pss_nil)
  (pss_one (ps_ret (pe_lst (pa_cons (pe_op op_mod (pe_callTy call_int1 (by rfl) T.n_int (by decide +kernel) (pa_cons (pe_callB (call_max2 rfl) (by rfl) T.n_max (by decide +kernel) (pa_cons (pe_op op_sub (pv 2) (pe_op op_pow pe_int pe_int)) (pa_cons pe_int pa_nil))) pa_nil)) (pe_op op_powX (pe_op op_pow pe_int pe_int) pe_int)) (pa_cons (pe_op op_mod (pe_callTy call_int1 (by rfl) T.n_int (by decide +kernel) (pa_cons (pv 2) pa_nil)) pe_int) (pa_cons pe_int pa_nil)))))))), ?_⟩
    have lm : (ns.map V.int).length = ns.length := List.length_map _
    -- behind the cell
    have rest : ∀ c : Int, ∀ p, H p = none → Q (.ref p) (upd H p (.lst [.int ((if 0 > c - 10 ^ (18 : Int).toNat then 0 else c - 10 ^ (18 : Int).toNat) % PM), .int (c % 2147483629), .int 0])) := fun c p hp => by
      refine q _ p (same_new hp) hp ⟨_, _, _, upd_same, Int.emod_nonneg _ ?_, Int.emod_lt_of_pos _ ?_, Int.emod_nonneg _ (by decide), ?_, by decide, by decide⟩
      · show ((10 : Int) ^ 40) ^ 10 ≠ 0
        decide +kernel
      · show 0 < ((10 : Int) ^ 40) ^ 10
        decide +kernel
      · have := Int.emod_lt_of_pos c (show (0 : Int) < 2147483629 by decide)
        have : (2 : Int) ^ 31 = 2147483648 := by decide
        omega
    refine ⟨_, rfl, _, rfl, r, _, rfl, .inl hS, _, _, rfl, rfl, _, rfl, ?_⟩
    refine ite2 (fun hc => ?_) (fun hc => ?_)
    · have hc : (i : Int) < ((ns.map V.int).length : Nat) := of_decide_eq_true hc
      have hi : i < ns.length := by omega
      refine ⟨_, rfl, _, rfl, r, _, _, _, rfl, rfl, hS, atI_nat (by rw [List.getElem?_map, List.getElem?_eq_getElem hi]; rfl), ?_⟩
      refine ⟨_, rfl, _, _, rfl, rfl, ⟨by decide, by decide, by decide⟩, _, _, rfl, rfl, _, _, rfl, .inl ⟨_, rfl, _, _, rfl, rfl, ⟨by decide, by decide, by decide⟩, _, _, rfl, rfl, ⟨by decide, by decide +kernel⟩, _, _, rfl, rfl, ?_, _, rfl, .inl ⟨_, rfl, _, _, rfl, rfl, (by show (0 : Int) < 2147483629; decide), ?_⟩⟩⟩
      · show 0 < ((10 : Int) ^ 40) ^ 10
        decide +kernel
      · exact ⟨(by show 3 ≤ sizeLine; decide), fun p hp => rest _ p hp⟩
    · refine ⟨_, rfl, _, _, rfl, rfl, ⟨by decide, by decide, by decide⟩, _, _, rfl, rfl, _, _, rfl, .inl ⟨_, rfl, _, _, rfl, rfl, ⟨by decide, by decide, by decide⟩, _, _, rfl, rfl, ⟨by decide, by decide +kernel⟩, _, _, rfl, rfl, ?_, _, rfl, .inl ⟨_, rfl, _, _, rfl, rfl, (by show (0 : Int) < 2147483629; decide), ?_⟩⟩⟩
      · show 0 < ((10 : Int) ^ 40) ^ 10
        decide +kernel
      · exact ⟨(by show 3 ≤ sizeLine; decide), fun p hp => rest _ p hp⟩
/-! ### a draw -/
theorem mulS {i j : Int} (h0 : 0 ≤ i) (h1 : i < 18446744073709551616) (h2 : 0 ≤ j) (h3 : j < 18446744073709551616) : CMulW i j :=
  wide_mul (a := 64) (b := 64) (abs_lt_pow h0 h1) (abs_lt_pow h2 h3) (by decide) (by decide) (by decide)
theorem ofNat_le {t : Nat} {u : Int} (h : u ≤ t) (ht : t ≤ 2 ^ 20) : u < 2 ^ 21 := by
  have : (2 : Nat) ^ 20 = 1048576 := by decide
  have : (2 : Int) ^ 21 = 2097152 := by decide
  omega
theorem nab {i : Int} {n : Nat} (h0 : 0 ≤ i) (h : i < 2 ^ n) : i.natAbs < 2 ^ n := abs_lt_pow h0 h
theorem atL {xs : List V} {j : Nat} {v : V} (h : xs[j]? = some v) : atI xs (j : Int) = some v := atI_nat h
def spDraw : Sp := fun vs H Q _ => ∃ (p : Addr) (many : Int) (t : Nat), vs = [.ref p, .int many] ∧ Purse H p t ∧ t ≤ 2 ^ 20 ∧ 0 < many ∧ many < 2 ^ 2000 ∧ ∀ (H' : Hp) (n : Int), Kp p H H' → Purse H' p (t + 1) → 0 ≤ n → n < many → Q (.int n) H'
abbrev nm_law_draw : List Str := ["_law_purse_here", "_law_many", "_law_drawn", "_law_turn", "_law_number"]
theorem sc_law_draw : FnScope ["_law_purse_here", "_law_many", "_law_drawn", "_law_turn", "_law_number"] ["_law_purse_here", "_law_many"] (defScope s_law_draw) := ⟨rfl, rfl, rfl, by decide +kernel, rfl, by decide +kernel, by decide +kernel⟩
theorem ok_draw (T : Txt K mg A w) : FnOk P w K mg base CX0 1 A.a_law_draw A.d_law_draw ["_law_purse_here", "_law_many"] spDraw := by
  refine T.F_law_draw.ok sc_law_draw (fun vs H Q E h => ?_) (fun cdv A0 outer s H vs Q E hr h => ?_)
  · obtain ⟨p, many, t, rfl, _⟩ := h
    rfl
  · obtain ⟨p, many, t, rfl, ⟨a, c, u, hp, a0, aB, c0, cB, u0, uB⟩, ht, m0, mB, q⟩ := h
    refine ⟨_, (pss_cons (ps_if (pt_cmpR op_gt (pe_ix ix_list (pv 0) pe_int (fun _ _ => rfl)) pe_int (nomark _)) (pss_cons (ps_set (i := 2) sc_law_draw.nd rfl (Or.inl rfl) (pe_op op_mod (pe_callTy call_int1 (by rfl) T.n_int (by decide +kernel) (pa_cons (pe_ix ix_list (pv 0) pe_int (fun _ _ => rfl)) pa_nil)) (pv 1)))
  (pss_cons (ps_asg (pe_op op_fdivW (pe_ix ix_list (pv 0) pe_int (fun _ _ => rfl)) (pv 1)) (pg_sub (pv 0) pe_int set_list))
  (pss_one (ps_ret (pv 2))))) pss_nil)
  (pss_cons (ps_set (i := 3) sc_law_draw.nd rfl (Or.inl rfl) (pe_op op_add (pe_ix ix_list (pv 0) pe_int (fun _ _ => rfl)) pe_int))
  (pss_cons (ps_asg (pv 3) (pg_sub (pv 0) pe_int set_list))
  (pss_cons (ps_set (i := 4) sc_law_draw.nd rfl (Or.inl rfl) (pe_op op_mod (pe_callTy call_int1 (by rfl) T.n_int (by decide +kernel) (pa_cons (pe_op op_mulW (pe_op op_add (pe_ix ix_list (pv 0) pe_int (fun _ _ => rfl)) (pe_op op_mulW pe_int (pv 3))) (pe_op op_add (pe_op op_mulW (pv 3) (pv 3)) pe_int)) pa_nil)) pe_int))
  (pss_cons (ps_set (i := 4) sc_law_draw.nd rfl (Or.inl rfl) (pe_op op_mod (pe_callTy call_int1 (by rfl) T.n_int (by decide +kernel) (pa_cons (pe_op op_add (pe_op op_mulW (pv 4) (pv 4)) (pv 3)) pa_nil)) pe_int))
  (pss_one (ps_ret (pe_op op_mod (pe_op op_fdivW (pe_op op_mod (pe_callTy call_int1 (by rfl) T.n_int (by decide +kernel) (pa_cons (pe_op op_mulW (pv 4) pe_int) pa_nil)) pe_int) pe_int) (pv 1))))))))), ?_⟩
    refine ⟨_, rfl, p, _, _, _, rfl, rfl, SqL.of hp, atL (j := 0) rfl, _, _, rfl, rfl, _, rfl, ?_⟩
    have kp : ∀ xs, Kp p H (upd H p (.lst xs)) := fun xs b o n e => by
      rw [upd_ne n]
      exact e
    refine ite2 (fun hc => ?_) (fun hc => ?_)
    · have hc : 0 < a := of_decide_eq_true hc
      refine ⟨_, rfl, p, _, _, _, rfl, rfl, SqL.of hp, atL (j := 0) rfl, .inl ⟨_, rfl, _, rfl, _, _, rfl, rfl, m0, ?_⟩⟩
      refine ⟨_, rfl, p, _, _, _, rfl, rfl, SqL.of hp, atL (j := 0) rfl, _, rfl, _, _, rfl, rfl, size_div (by omega) (lt_big mB (by decide)) _, ?_⟩
      refine ⟨_, rfl, p, _, _, 0, rfl, rfl, hp, rfl, ?_⟩
      refine ⟨_, rfl, q _ _ (kp _) ⟨_, _, _, upd_same, Int.ediv_nonneg a0 (by omega), Int.lt_of_le_of_lt (Int.ediv_le_self _ a0) aB, c0, cB, u0, by omega⟩ (Int.emod_nonneg _ (by omega)) (Int.emod_lt_of_pos _ m0)⟩
    · refine ⟨_, rfl, p, _, _, _, rfl, rfl, SqL.of hp, atL (j := 2) rfl, _, _, rfl, rfl, ?_⟩
      have u1 := ofNat_le uB ht
      have e21 : (2 : Int) ^ 21 = 2097152 := by decide
      have e31 : (2 : Int) ^ 31 = 2147483648 := by decide
      refine ⟨_, rfl, _, rfl, p, _, _, 2, rfl, rfl, hp, rfl, ?_⟩
      have v1 : (u + 1) * (u + 1) ≤ 2097152 * 2097152 := Int.mul_le_mul (by omega) (by omega) (by omega) (by decide)
      have v0 : 0 ≤ (u + 1) * (u + 1) := Int.mul_nonneg (by omega) (by omega)
      refine ⟨_, rfl, p, _, _, _, rfl, rfl, SqL.of upd_same, atL (j := 1) rfl, _, rfl, _, _, rfl, rfl, mulS (by decide) (by decide) (by omega) (by omega), _, _, rfl, rfl, ?_⟩
      refine ⟨_, rfl, _, rfl, _, _, rfl, rfl, mulS (by omega) (by omega) (by omega) (by omega), _, _, rfl, rfl, _, _, rfl, rfl, mulS (by omega) (by omega) (by omega) (by omega), .inl ⟨_, rfl, _, _, rfl, rfl, (by show (0 : Int) < 2147483629; decide), ?_⟩⟩
      have g10 : 0 ≤ (((c + 104729 * (u + 1)) * ((u + 1) * (u + 1) + 7919)) % 2147483629) := Int.emod_nonneg _ (by decide)
      have g11 : (((c + 104729 * (u + 1)) * ((u + 1) * (u + 1) + 7919)) % 2147483629) < 2147483629 := Int.emod_lt_of_pos _ (by decide)
      refine ⟨_, rfl, _, rfl, _, _, rfl, rfl, mulS g10 (Int.lt_trans g11 (by decide)) g10 (Int.lt_trans g11 (by decide)), _, rfl, _, _, rfl, rfl, .inl ⟨_, rfl, _, _, rfl, rfl, (by show (0 : Int) < 2147483587; decide), ?_⟩⟩
      have g20 : 0 ≤ (((((c + 104729 * (u + 1)) * ((u + 1) * (u + 1) + 7919)) % 2147483629) * (((c + 104729 * (u + 1)) * ((u + 1) * (u + 1) + 7919)) % 2147483629) + (u + 1)) % 2147483587) := Int.emod_nonneg _ (by decide)
      have g21 : (((((c + 104729 * (u + 1)) * ((u + 1) * (u + 1) + 7919)) % 2147483629) * (((c + 104729 * (u + 1)) * ((u + 1) * (u + 1) + 7919)) % 2147483629) + (u + 1)) % 2147483587) < 2147483587 := Int.emod_lt_of_pos _ (by decide)
      refine ⟨_, rfl, _, _, rfl, rfl, mulS g20 (Int.lt_trans g21 (by decide)) (by decide) (by decide), .inl ⟨_, rfl, _, _, rfl, rfl, (by show (0 : Int) < 2147483647; decide), _, _, rfl, rfl, ⟨by decide, by decide⟩, _, rfl, _, _, rfl, rfl, m0, ?_⟩⟩
      exact q _ _ (kp _) ⟨a, c, u + 1, upd_same, a0, aB, c0, cB, by omega, by omega⟩ (Int.emod_nonneg _ (by omega)) (Int.emod_lt_of_pos _ m0)
end
end Ax

namespace Ax
open PySem L2
section
variable {P : Program} {w : World} {K : PySem.W.Frag} {mg : Str → Option Value} {base : Heap} {A : Adr}
theorem two20 {t : Nat} {n : Nat} (h : t ≤ 2 ^ 20) (hn : n < 2 ^ 1000) : (n : Int) < 2 ^ 2000 := by
  have h1 : ((n : Nat) : Int) < ((2 ^ 1000 : Nat) : Int) := Int.ofNat_lt.mpr hn
  rw [Int.natCast_pow] at h1
  exact Int.lt_trans h1 (pow_lt' (b := 2) (by decide) (by decide))
theorem small2000 {n : Int} (h : n < 18446744073709551616) : n < 2 ^ 2000 := Int.lt_of_lt_of_le (show n < 2 ^ 64 from h) (pow_le' (b := 2) (by decide) (by decide))
/-! ### _law_pick -/
def spPick : Sp := fun vs H Q _ => ∃ (p l : Addr) (xs : List V) (t : Nat), vs = [.ref p, .ref l] ∧ Purse H p t ∧ t ≤ 2 ^ 20 ∧ H l = some (.lst xs) ∧ l ≠ p ∧ 0 < xs.length ∧ xs.length ≤ 1000 ∧ ∀ (H' : Hp) (i : Nat) (x : V), Kp p H H' → Purse H' p (t + 1) → xs[i]? = some x → Q x H'
abbrev nm_law_pick : List Str := ["_law_purse_here", "_law_items"]
theorem sc_law_pick : FnScope ["_law_purse_here", "_law_items"] ["_law_purse_here", "_law_items"] (defScope s_law_pick) := ⟨rfl, rfl, rfl, by decide +kernel, rfl, by decide +kernel, by decide +kernel⟩
theorem ok_pick (T : Txt K mg A w) : FnOk P w K mg base CX0 2 A.a_law_pick A.d_law_pick ["_law_purse_here", "_law_items"] spPick := by
  have G_law_draw : FnOk P w K mg base CX0 1 A.a_law_draw A.d_law_draw ["_law_purse_here", "_law_many"] spDraw := ok_draw T
  refine T.F_law_pick.ok sc_law_pick (fun vs H Q E h => ?_) (fun cdv A0 outer s H vs Q E hr h => ?_)
  · obtain ⟨p, l, xs, t, rfl, _⟩ := h
    rfl
  · obtain ⟨p, l, xs, t, rfl, hP, ht, hl, nlp, h0, h1, q⟩ := h
    refine ⟨_, (pss_one (ps_ret (pe_ix ix_list (pv 1) (pe_call G_law_draw (hr.mono (by decide)) (by rfl) T.m_law_draw T.F_law_draw.kp T.B_law_draw .nil pass0 (pa_cons (pv 0) (pa_cons (pe_callB call_len_seq (by rfl) T.n_len (by decide +kernel) (pa_cons (pv 1) pa_nil)) pa_nil))) (fun _ _ => rfl)))), ?_⟩
    refine ⟨_, rfl, _, rfl, _, rfl, l, _, rfl, .inl (SqL.of hl), p, _, t, rfl, hP, ht, by omega, small2000 (by omega), fun H' n k P' n0 n1 => ?_⟩
    have hn : n.toNat < xs.length := by omega
    refine ⟨l, _, n, xs[n.toNat], rfl, rfl, SqL.of (k _ _ nlp hl), at_of (j := n.toNat) (by omega) (List.getElem?_eq_getElem hn), q H' n.toNat _ k P' (List.getElem?_eq_getElem hn)⟩
/-- what a pick out of a written list of whole numbers gives -/
theorem pick_int {ms : List Int} {i : Nat} {x : V} {P : Int → Prop} (h : (ms.map V.int)[i]? = some x) (hp : ∀ m ∈ ms, P m) : ∃ m, x = .int m ∧ P m := by
  obtain ⟨m, hm, rfl⟩ := map_get h
  exact ⟨m, rfl, hp m (List.mem_of_getElem? hm)⟩
theorem kpNew {p l : Addr} {H : Hp} {o : HO} (h : H l = none) : Kp p H (upd H l o) := fun c u _ e => by
  rw [upd_ne (ne_of_none e h)]
  exact e
end
end Ax

namespace Ax
open PySem L2
/-- a drawn rule: a base, a kind, heads, a greatest number -/
structure Drawn (b : Int) (k : Kd) (hs : List Int) (most : Int) : Prop where
  b2 : 2 ≤ b
  b10 : b ≤ 10
  m1 : 1 ≤ most
  m6 : most ≤ 6
  mC : k = .cov → 2 ≤ most
  ne : hs ≠ []
  le : hs.length ≤ 4
  nd : hs.Nodup
  all : ∀ m ∈ hs, 1 ≤ m ∧ m ≤ 25 ∧ m % b ≠ 0
theorem Drawn.args {b : Int} {k : Kd} {hs : List Int} {most : Int} (d : Drawn b k hs most) : RArgs b k hs most := by
  have e60 : (2 : Int) ^ 60 = 1152921504606846976 := by decide
  have e64 : (2 : Int) ^ 64 = 18446744073709551616 := by decide
  obtain ⟨h1, h2, h3, h4, h5, h6, h7, h8, h9⟩ := d
  exact ⟨h1, by omega, h3, by omega, h5, h6, by omega, h8, fun m hm => by
    obtain ⟨a, c, e⟩ := h9 m hm
    exact ⟨a, by omega, e⟩⟩
/-- the tuple of a drawn rule, at ru; its heads at lh -/
def RuleT (H : Hp) (ru lh : Addr) (b : Int) (k : Kd) (hs : List Int) (most : Int) : Prop := H ru = some (.tup [.int b, .str k.s, .ref lh, .int most]) ∧ H lh = some (.lst (hs.map V.int))
section
variable {P : Program} {w : World} {K : PySem.W.Frag} {mg : Str → Option Value} {base : Heap} {A : Adr}
theorem RuleT.same {H H' : Hp} {ru lh : Addr} {b : Int} {k : Kd} {hs : List Int} {most : Int} (x : RuleT H ru lh b k hs most) (s : Same H H') : RuleT H' ru lh b k hs most := ⟨s _ _ x.1, s _ _ x.2⟩
theorem RuleT.kp {H H' : Hp} {p ru lh : Addr} {b : Int} {k : Kd} {hs : List Int} {most : Int} {t : Nat} (x : RuleT H ru lh b k hs most) (y : Purse H p t) (n : lh ≠ p) (s : Kp p H H') : RuleT H' ru lh b k hs most := by
  obtain ⟨xs, e⟩ := y.some
  exact ⟨s _ _ (ne_of x.1 e (by intro z; cases z)) x.1, s _ _ n x.2⟩
end
end Ax

namespace Ax
open PySem L2
/-! ### written lists of lists -/
abbrev LsAt (H : Hp) : List (List Int) → List Addr → Prop := Paired fun is a => H a = some (.lst (is.map V.int))
theorem LsAt.same {H H' : Hp} (s : Same H H') : ∀ {ls : List (List Int)} {as : List Addr}, LsAt H ls as → LsAt H' ls as
  | _, _, .nil => .nil
  | _, _, .cons h t => .cons (s _ _ h) (LsAt.same s t)
theorem LsAt.app {H : Hp} : ∀ {ls ks : List (List Int)} {as bs : List Addr}, LsAt H ls as → LsAt H ks bs → LsAt H (ls ++ ks) (as ++ bs)
  | _, _, _, _, .nil, q => q
  | _, _, _, _, .cons h t, q => .cons h (LsAt.app t q)
theorem LsAt.get {H : Hp} : ∀ {ls : List (List Int)} {as : List Addr} {i : Nat} {a : Addr}, LsAt H ls as → as[i]? = some a → ∃ is, ls[i]? = some is ∧ H a = some (.lst (is.map V.int))
  | _, _, _, _, .nil, h => nomatch h
  | _, _, 0, _, .cons h _, e => by
    obtain rfl := Option.some.inj e
    exact ⟨_, rfl, h⟩
  | _, _, i + 1, _, .cons _ r, e => LsAt.get (i := i) r e
theorem LsAt.snoc {H : Hp} : ∀ {ls : List (List Int)} {as : List Addr} {is : List Int} {l : Addr}, LsAt H ls as → H l = some (.lst (is.map V.int)) → LsAt H (ls ++ [is]) (as ++ [l])
  | _, _, _, _, .nil, q => .cons q .nil
  | _, _, _, _, .cons h t, q => .cons h (LsAt.snoc t q)
theorem LsAt.new {H : Hp} {ls : List (List Int)} {as : List Addr} (is : List Int) {l : Addr} (a : LsAt H ls as) (h : H l = none) : LsAt (upd H l (.lst (is.map V.int))) (ls ++ [is]) (as ++ [l]) := (a.same (same_new h)).snoc upd_same
/-! ### the families -/
def BASES : List Int := [10, 2, 10, 3, 10, 4, 6, 5, 7, 10]
def FAM1 : List (List Int) := [[1, 2, 5], [1, 2, 3, 6], [1, 3, 5, 15], [2, 3, 5], [1, 3], [2, 3, 4], [1, 25], [1, 4, 12], [1, 2, 4]]
def FAM2 : List (List Int) := [[1, 7], [1, 11], [2, 13]]
def kept (b : Int) (is : List Int) : List Int := is.filter fun m => decide (0 < m % b)
def famOf (b : Int) (is : List Int) : List Int := if kept b is = [] then [1] else kept b is
/-- what is drawn as a base and a family -/
def Fam (b : Int) (ms : List Int) : Prop := b ∈ BASES ∧ ∃ is ∈ FAM1 ++ FAM2, ms = famOf b is
def FamOk (b : Int) (ms : List Int) : Prop := (2 ≤ b ∧ b ≤ 10) ∧ ms ≠ [] ∧ ms.length ≤ 4 ∧ ms.Nodup ∧ ∀ m ∈ ms, 1 ≤ m ∧ m ≤ 25 ∧ m % b ≠ 0
instance {b : Int} {ms : List Int} : Decidable (FamOk b ms) := inferInstanceAs (Decidable (_ ∧ _))
theorem fam_table : ∀ b ∈ BASES, ∀ is ∈ FAM1 ++ FAM2, FamOk b (famOf b is) := by decide +kernel
theorem Fam.ok {b : Int} {ms : List Int} (h : Fam b ms) : FamOk b ms := by
  obtain ⟨h1, is, h2, rfl⟩ := h
  exact fam_table b h1 is h2
section
variable {P : Program} {w : World} {K : PySem.W.Frag} {mg : Str → Option Value} {base : Heap} {A : Adr}
theorem eqv_nil_cons {d : PyData} {ds : List PyData} : PyData.eqv (.list (d :: ds)) (.list []) = false := by simp [PyData.eqv, PyData.eqvAll]
theorem eqv_nil_nil : PyData.eqv (.list []) (.list []) = true := by simp [PyData.eqv, PyData.eqvAll]
theorem dp_ints {H : Hp} : ∀ ms : List Int, DpAll K H (ms.map V.int) (ms.map PyData.int)
  | [] => .nil
  | m :: r => .cons (.int m) (dp_ints r)
theorem shaped_ints (ms : List Int) : SeqAt.shaped (.list (ms.map PyData.int)) = true := by
  exact PySem.W.shaped_ints ms
def spFamily : Sp := fun vs H Q _ => ∃ (p : Addr) (t : Nat), vs = [.ref p] ∧ Purse H p t ∧ t ≤ 2 ^ 18 ∧ ∀ (H' : Hp) (q lf : Addr) (b : Int) (ms : List Int), Kp p H H' → Purse H' p (t + 2) → H' q = some (.tup [.int b, .ref lf]) → H' lf = some (.lst (ms.map V.int)) → H lf = none → Fam b ms → Q (.ref q) H'
abbrev nm_law_family : List Str := ["_law_purse_here", "_law_base", "_law_some", "_law_family_here", "_law_one"]
theorem sc_law_family : FnScope ["_law_purse_here", "_law_base", "_law_some", "_law_family_here", "_law_one"] ["_law_purse_here"] (defScope s_law_family) := ⟨rfl, rfl, rfl, by decide +kernel, rfl, by decide +kernel, by decide +kernel⟩
theorem ok_family (T : Txt K mg A w) : FnOk P w K mg base CX0 3 A.a_law_family A.d_law_family ["_law_purse_here"] spFamily := by
  have G_law_pick : FnOk P w K mg base CX0 2 A.a_law_pick A.d_law_pick ["_law_purse_here", "_law_items"] spPick := ok_pick T
  refine T.F_law_family.ok sc_law_family (fun vs H Q E h => ?_) (fun cdv A0 outer s H vs Q E hr h => ?_)
  · obtain ⟨p, t, rfl, _⟩ := h
    rfl
  · obtain ⟨p, t, rfl, hP, ht, q⟩ := h
    have e18 : (2 : Nat) ^ 18 = 262144 := by decide
    have e20 : (2 : Nat) ^ 20 = 1048576 := by decide
    refine ⟨_, (pss_cons (ps_set (i := 1) sc_law_family.nd rfl (Or.inr rfl) (pe_call G_law_pick (hr.mono (by decide)) (by rfl) T.m_law_pick T.F_law_pick.kp T.B_law_pick .nil pass0 (pa_cons (pv 0) (pa_cons (pe_lst (pa_cons pe_int (pa_cons pe_int (pa_cons pe_int (pa_cons pe_int (pa_cons pe_int (pa_cons pe_int (pa_cons pe_int (pa_cons pe_int (pa_cons pe_int (pa_cons pe_int pa_nil))))))))))) pa_nil))))
  (pss_cons (ps_set (i := 2) sc_law_family.nd rfl (Or.inl rfl) (pe_lst (pa_cons (pe_lst (pa_cons pe_int (pa_cons pe_int (pa_cons pe_int pa_nil)))) (pa_cons (pe_lst (pa_cons pe_int (pa_cons pe_int (pa_cons pe_int (pa_cons pe_int pa_nil))))) (pa_cons (pe_lst (pa_cons pe_int (pa_cons pe_int (pa_cons pe_int (pa_cons pe_int pa_nil))))) (pa_cons (pe_lst (pa_cons pe_int (pa_cons pe_int (pa_cons pe_int pa_nil)))) (pa_cons (pe_lst (pa_cons pe_int (pa_cons pe_int pa_nil))) (pa_cons (pe_lst (pa_cons pe_int (pa_cons pe_int (pa_cons pe_int pa_nil)))) (pa_cons (pe_lst (pa_cons pe_int (pa_cons pe_int pa_nil))) (pa_cons (pe_lst (pa_cons pe_int (pa_cons pe_int (pa_cons pe_int pa_nil)))) (pa_cons (pe_lst (pa_cons pe_int (pa_cons pe_int (pa_cons pe_int pa_nil)))) pa_nil)))))))))))
  (pss_cons (ps_set (i := 2) sc_law_family.nd rfl (Or.inl rfl) (pe_op op_cat (pv 2) (pe_lst (pa_cons (pe_lst (pa_cons pe_int (pa_cons pe_int pa_nil))) (pa_cons (pe_lst (pa_cons pe_int (pa_cons pe_int pa_nil))) (pa_cons (pe_lst (pa_cons pe_int (pa_cons pe_int pa_nil))) pa_nil))))))
  (pss_cons (ps_setLc (i := 3) (own := [("_law_one", 4)]) (g := gName 4) rfl sc_law_family.nd rfl rfl (sw_true rfl rfl rfl (by decide +kernel)) (pi_list (pe_call G_law_pick (hr.mono (by decide)) (by rfl) T.m_law_pick T.F_law_pick.kp T.B_law_pick .nil pass0 (pa_cons (pv 0) (pa_cons (pv 2) pa_nil)))) (blkOk_by (own := [("_law_one", 4)]) (N := nm_law_family) (sc := defScope s_law_family) (by decide +kernel)) (fun _ _ _ _ _ => (pg_name (i := 4) sc_law_family.nd rfl (Or.inl rfl))) (fun _ _ _ _ _ => (pts_one (pt_cmpR op_gt (pe_op op_mod (pe_callTy call_int1 (by rfl) T.n_int (by decide +kernel) (pa_cons (pv 4) pa_nil)) (pv 1)) pe_int (nomark _)))) (fun _ _ _ _ _ => (pv 4)))
  (Evl.pss_cut (ps_if (pt_cmpR (op_eqD (hr.units)) (pv 3) (pe_lst pa_nil) (nomark _)) (pss_one (ps_set (i := 3) sc_law_family.nd rfl (Or.inl rfl) (pe_lst (pa_cons pe_int pa_nil)))) pss_nil)
  (pss_one (ps_ret (pe_tup (pa_cons (pv 1) (pa_cons (pv 3) pa_nil)))))))))), ?_⟩
    refine ⟨_, rfl, (by show 10 ≤ sizeLine; decide), fun l hl => ?_⟩
    have P0 := hP.same (same_new (o := .lst (BASES.map V.int)) hl)
    refine ⟨p, l, BASES.map V.int, t, rfl, P0, by omega, upd_same, hP.ne hl, (by decide), (by decide), fun H1 i1 x1 k1 P1 g1 => ?_⟩
    obtain ⟨b, rfl, hb⟩ := pick_int (ms := BASES) (P := fun m => m ∈ BASES) g1 (fun m hm => hm)
    have k01 : Kp p H H1 := (kpNew hl).trans k1
    -- the families
    refine ⟨(by show 3 ≤ sizeLine; decide), fun a0 ha0 => ⟨(by show 4 ≤ sizeLine; decide), fun a1 ha1 => ⟨(by show 4 ≤ sizeLine; decide), fun a2 ha2 => ⟨(by show 3 ≤ sizeLine; decide), fun a3 ha3 => ⟨(by show 2 ≤ sizeLine; decide), fun a4 ha4 => ⟨(by show 3 ≤ sizeLine; decide), fun a5 ha5 => ⟨(by show 2 ≤ sizeLine; decide), fun a6 ha6 => ⟨(by show 3 ≤ sizeLine; decide), fun a7 ha7 => ⟨(by show 3 ≤ sizeLine; decide), fun a8 ha8 => ⟨(by show 9 ≤ sizeLine; decide), fun L2 hL2 => ?_⟩⟩⟩⟩⟩⟩⟩⟩⟩⟩
    have sA : Same H1 _ := (Same.trans (Same.trans (Same.trans (Same.trans (Same.trans (Same.trans (Same.trans (Same.trans (Same.trans (Same.refl _) (same_new (o := .lst ([1, 2, 5].map V.int)) ha0)) (same_new (o := .lst ([1, 2, 3, 6].map V.int)) ha1)) (same_new (o := .lst ([1, 3, 5, 15].map V.int)) ha2)) (same_new (o := .lst ([2, 3, 5].map V.int)) ha3)) (same_new (o := .lst ([1, 3].map V.int)) ha4)) (same_new (o := .lst ([2, 3, 4].map V.int)) ha5)) (same_new (o := .lst ([1, 25].map V.int)) ha6)) (same_new (o := .lst ([1, 4, 12].map V.int)) ha7)) (same_new (o := .lst ([1, 2, 4].map V.int)) ha8))
    have A1 : LsAt _ FAM1 [a0, a1, a2, a3, a4, a5, a6, a7, a8] := (LsAt.new [1, 2, 4] (LsAt.new [1, 4, 12] (LsAt.new [1, 25] (LsAt.new [2, 3, 4] (LsAt.new [1, 3] (LsAt.new [2, 3, 5] (LsAt.new [1, 3, 5, 15] (LsAt.new [1, 2, 3, 6] (LsAt.new [1, 2, 5] (Paired.nil : LsAt _ [] []) ha0) ha1) ha2) ha3) ha4) ha5) ha6) ha7) ha8)
    have s2 := sA.trans (same_new (o := .lst [V.ref a0, V.ref a1, V.ref a2, V.ref a3, V.ref a4, V.ref a5, V.ref a6, V.ref a7, V.ref a8]) hL2)
    refine ⟨_, rfl, ⟨(by show 2 ≤ sizeLine; decide), fun b0 hb0 => ⟨(by show 2 ≤ sizeLine; decide), fun b1 hb1 => ⟨(by show 2 ≤ sizeLine; decide), fun b2 hb2 => ⟨(by show 3 ≤ sizeLine; decide), fun L3 hL3 => ?_⟩⟩⟩⟩⟩
    have sB : Same _ _ := (Same.trans (Same.trans (Same.trans (Same.refl _) (same_new (o := .lst ([1, 7].map V.int)) hb0)) (same_new (o := .lst ([1, 11].map V.int)) hb1)) (same_new (o := .lst ([2, 13].map V.int)) hb2))
    have B1 : LsAt _ FAM2 [b0, b1, b2] := (LsAt.new [2, 13] (LsAt.new [1, 11] (LsAt.new [1, 7] (Paired.nil : LsAt _ [] []) hb0) hb1) hb2)
    have s3 := sB.trans (same_new (o := .lst [V.ref b0, V.ref b1, V.ref b2]) hL3)
    refine ⟨L2, L3, _, _, rfl, rfl, s3 _ _ upd_same, upd_same, (by show 9 + 3 ≤ sizeLine; decide), fun L4 hL4 => ?_⟩
    have sAll := (s2.trans s3).trans (same_new (o := .lst [V.ref a0, V.ref a1, V.ref a2, V.ref a3, V.ref a4, V.ref a5, V.ref a6, V.ref a7, V.ref a8, V.ref b0, V.ref b1, V.ref b2]) hL4)
    have AB : LsAt _ (FAM1 ++ FAM2) ([a0, a1, a2, a3, a4, a5, a6, a7, a8] ++ [b0, b1, b2]) := LsAt.app ((A1.same (same_new (o := .lst [V.ref a0, V.ref a1, V.ref a2, V.ref a3, V.ref a4, V.ref a5, V.ref a6, V.ref a7, V.ref a8]) hL2)).same (s3.trans (same_new (o := .lst [V.ref a0, V.ref a1, V.ref a2, V.ref a3, V.ref a4, V.ref a5, V.ref a6, V.ref a7, V.ref a8, V.ref b0, V.ref b1, V.ref b2]) hL4))) (B1.same ((same_new (o := .lst [V.ref b0, V.ref b1, V.ref b2]) hL3).trans (same_new (o := .lst [V.ref a0, V.ref a1, V.ref a2, V.ref a3, V.ref a4, V.ref a5, V.ref a6, V.ref a7, V.ref a8, V.ref b0, V.ref b1, V.ref b2]) hL4)))
    have P4 := P1.same sAll
    have n4p : L4 ≠ p := (P1.same (s2.trans s3)).ne hL4
    have na0 : a0 ≠ p := (P1.same (Same.refl _)).ne ha0
    have na1 : a1 ≠ p := (P1.same (Same.trans (Same.refl _) (same_new (o := .lst ([1, 2, 5].map V.int)) ha0))).ne ha1
    have na2 : a2 ≠ p := (P1.same (Same.trans (Same.trans (Same.refl _) (same_new (o := .lst ([1, 2, 5].map V.int)) ha0)) (same_new (o := .lst ([1, 2, 3, 6].map V.int)) ha1))).ne ha2
    have na3 : a3 ≠ p := (P1.same (Same.trans (Same.trans (Same.trans (Same.refl _) (same_new (o := .lst ([1, 2, 5].map V.int)) ha0)) (same_new (o := .lst ([1, 2, 3, 6].map V.int)) ha1)) (same_new (o := .lst ([1, 3, 5, 15].map V.int)) ha2))).ne ha3
    have na4 : a4 ≠ p := (P1.same (Same.trans (Same.trans (Same.trans (Same.trans (Same.refl _) (same_new (o := .lst ([1, 2, 5].map V.int)) ha0)) (same_new (o := .lst ([1, 2, 3, 6].map V.int)) ha1)) (same_new (o := .lst ([1, 3, 5, 15].map V.int)) ha2)) (same_new (o := .lst ([2, 3, 5].map V.int)) ha3))).ne ha4
    have na5 : a5 ≠ p := (P1.same (Same.trans (Same.trans (Same.trans (Same.trans (Same.trans (Same.refl _) (same_new (o := .lst ([1, 2, 5].map V.int)) ha0)) (same_new (o := .lst ([1, 2, 3, 6].map V.int)) ha1)) (same_new (o := .lst ([1, 3, 5, 15].map V.int)) ha2)) (same_new (o := .lst ([2, 3, 5].map V.int)) ha3)) (same_new (o := .lst ([1, 3].map V.int)) ha4))).ne ha5
    have na6 : a6 ≠ p := (P1.same (Same.trans (Same.trans (Same.trans (Same.trans (Same.trans (Same.trans (Same.refl _) (same_new (o := .lst ([1, 2, 5].map V.int)) ha0)) (same_new (o := .lst ([1, 2, 3, 6].map V.int)) ha1)) (same_new (o := .lst ([1, 3, 5, 15].map V.int)) ha2)) (same_new (o := .lst ([2, 3, 5].map V.int)) ha3)) (same_new (o := .lst ([1, 3].map V.int)) ha4)) (same_new (o := .lst ([2, 3, 4].map V.int)) ha5))).ne ha6
    have na7 : a7 ≠ p := (P1.same (Same.trans (Same.trans (Same.trans (Same.trans (Same.trans (Same.trans (Same.trans (Same.refl _) (same_new (o := .lst ([1, 2, 5].map V.int)) ha0)) (same_new (o := .lst ([1, 2, 3, 6].map V.int)) ha1)) (same_new (o := .lst ([1, 3, 5, 15].map V.int)) ha2)) (same_new (o := .lst ([2, 3, 5].map V.int)) ha3)) (same_new (o := .lst ([1, 3].map V.int)) ha4)) (same_new (o := .lst ([2, 3, 4].map V.int)) ha5)) (same_new (o := .lst ([1, 25].map V.int)) ha6))).ne ha7
    have na8 : a8 ≠ p := (P1.same (Same.trans (Same.trans (Same.trans (Same.trans (Same.trans (Same.trans (Same.trans (Same.trans (Same.refl _) (same_new (o := .lst ([1, 2, 5].map V.int)) ha0)) (same_new (o := .lst ([1, 2, 3, 6].map V.int)) ha1)) (same_new (o := .lst ([1, 3, 5, 15].map V.int)) ha2)) (same_new (o := .lst ([2, 3, 5].map V.int)) ha3)) (same_new (o := .lst ([1, 3].map V.int)) ha4)) (same_new (o := .lst ([2, 3, 4].map V.int)) ha5)) (same_new (o := .lst ([1, 25].map V.int)) ha6)) (same_new (o := .lst ([1, 4, 12].map V.int)) ha7))).ne ha8
    have nb0 : b0 ≠ p := ((P1.same s2).same (Same.refl _)).ne hb0
    have nb1 : b1 ≠ p := ((P1.same s2).same (Same.trans (Same.refl _) (same_new (o := .lst ([1, 7].map V.int)) hb0))).ne hb1
    have nb2 : b2 ≠ p := ((P1.same s2).same (Same.trans (Same.trans (Same.refl _) (same_new (o := .lst ([1, 7].map V.int)) hb0)) (same_new (o := .lst ([1, 11].map V.int)) hb1))).ne hb2
    have nes : ∀ a ∈ ([a0, a1, a2, a3, a4, a5, a6, a7, a8] ++ [b0, b1, b2]), a ≠ p := by
      intro a h
      simp only [List.cons_append, List.nil_append, List.mem_cons, List.not_mem_nil, or_false] at h
      rcases h with rfl | rfl | rfl | rfl | rfl | rfl | rfl | rfl | rfl | rfl | rfl | rfl
      · exact na0
      · exact na1
      · exact na2
      · exact na3
      · exact na4
      · exact na5
      · exact na6
      · exact na7
      · exact na8
      · exact nb0
      · exact nb1
      · exact nb2
    -- the family that is drawn
    refine ⟨_, rfl, _, rfl, p, L4, _, t + 1, rfl, P4, by omega, upd_same, n4p, (by show 0 < 12; decide), (by show 12 ≤ 1000; decide), fun H5 i5 x5 k5 P5 g5 => ?_⟩
    obtain ⟨a, is, rfl, his, ha, nap⟩ : ∃ a is, x5 = V.ref a ∧ (FAM1 ++ FAM2)[i5]? = some is ∧ H5 a = some (HO.lst (is.map V.int)) ∧ a ≠ p := by
      have g5' : (([a0, a1, a2, a3, a4, a5, a6, a7, a8] ++ [b0, b1, b2]).map V.ref)[i5]? = some x5 := g5
      rw [List.getElem?_map] at g5'
      cases e : ([a0, a1, a2, a3, a4, a5, a6, a7, a8] ++ [b0, b1, b2])[i5]? with
      | none =>
        rw [e] at g5'
        cases g5'
      | some a =>
        rw [e] at g5'
        obtain ⟨is, h1, h2⟩ := AB.get e
        have np := nes a (List.mem_of_getElem? e)
        exact ⟨a, is, (Option.some.inj g5').symm, h1, k5 _ _ np h2, np⟩
    have k05 : Kp p H H5 := k01.trans ((Ax.Same.kp sAll p).trans k5)
    have his2 : is ∈ FAM1 ++ FAM2 := List.mem_of_getElem? his
    have lenIs : is.length ≤ 4 := (by decide : ∀ is ∈ FAM1 ++ FAM2, is.length ≤ 4) is his2
    have bpos : 0 < b := (by decide : ∀ b ∈ BASES, 0 < b) b hb
    refine ⟨a, rfl, ⟨_, SqL.of ha⟩, fun D hD => lc_list (K := K) (a := a) (xs := is.map V.int) (fun i H' => H' = upd H5 D (.lst ((kept b (is.take i)).map V.int))) rfl ?_ ?_ ?_⟩
    · rintro i H' _ rfl
      exact SqL.of (by rw [upd_ne (ne_of_none ha hD)]; exact ha)
    · rintro i x H' hi rfl
      obtain ⟨m, hm, rfl⟩ := map_get hi
      have et : is.take (i + 1) = is.take i ++ [m] := by
        rw [List.take_add_one, hm]
        rfl
      refine ⟨rfl, _, rfl, .inl ⟨_, rfl, _, rfl, _, _, rfl, rfl, bpos, _, _, rfl, rfl, _, rfl, ?_⟩⟩
      refine ite2 (fun hc => ?_) (fun hc => ?_)
      · have hc : 0 < m % b := of_decide_eq_true hc
        refine ⟨_, rfl, _, upd_same, ?_, ?_⟩
        · rw [List.length_map]
          have h1 : (kept b (is.take i)).length ≤ (is.take i).length := List.length_filter_le _ _
          rw [List.length_take] at h1
          exact small1000 (by omega)
        · rw [upd_upd, et]
          have e2 : kept b (is.take i ++ [m]) = kept b (is.take i) ++ [m] := by
            unfold kept
            rw [List.filter_append, List.filter_cons, if_pos (decide_eq_true hc), List.filter_nil]
          rw [e2, List.map_append]
          rfl
      · have hc : ¬ 0 < m % b := fun z => hc (decide_eq_true z)
        rw [et]
        have e2 : kept b (is.take i ++ [m]) = kept b (is.take i) := by
          unfold kept
          rw [List.filter_append, List.filter_cons, if_neg (by rw [decide_eq_false hc]; decide), List.filter_nil, List.append_nil]
        rw [e2]
    · rintro H' rfl
      rw [List.length_map, List.take_length]
      have s6 := same_new (o := .lst ((kept b is).map V.int)) hD
      have P6 := P5.same s6
      have k06 : Kp p H (upd H5 D (.lst ((kept b is).map V.int))) := k05.trans (Ax.Same.kp s6 p)
      have fresh0 : ∀ l, upd H5 D (.lst ((kept b is).map V.int)) l = none → H l = none := fun l e => k06.free P6 e
      have D0 : H D = none := k05.free P5 hD
      refine ⟨fun σ H7 => ∃ lf : Addr, σ = [some (.ref p), some (.int b), some (.ref L4), some (.ref lf), none] ∧ Kp p H H7 ∧ Purse H7 p (t + 2) ∧ H7 lf = some (.lst ((famOf b is).map V.int)) ∧ H lf = none, ?_, ?_⟩
      · refine ⟨_, rfl, Nat.zero_le _, fun l8 hl8 => ?_⟩
        have nD8 : D ≠ l8 := ne_of_none upd_same hl8
        refine ⟨.list ((kept b is).map PyData.int), .list [], .lst (SqL.of (by rw [upd_ne nD8, upd_same])) (dp_ints _), .lst (SqL.of upd_same) .nil, ?_, by decide, _, rfl, ?_⟩
        · exact shaped_ints _
        · have k8 := k06.trans (kpNew (p := p) (o := .lst []) hl8)
          have P8 := P6.same (same_new (o := .lst []) hl8)
          by_cases c : kept b is = []
          · have e : famOf b is = [1] := if_pos c
            rw [c] at k8 P8 ⊢
            show if PyData.eqv (.list []) (.list []) = true then _ else _
            rw [eqv_nil_nil]
            refine iteT ⟨(by show 1 ≤ sizeLine; decide), fun l9 hl9 => ?_⟩
            exact ⟨l9, rfl, k8.trans (kpNew hl9), P8.same (same_new hl9), by rw [e]; exact upd_same, k8.free P8 hl9⟩
          · have e : famOf b is = kept b is := if_neg c
            obtain ⟨m0, mr, em⟩ : ∃ m0 mr, kept b is = m0 :: mr := by
              cases q : kept b is with
              | nil => exact absurd q c
              | cons x r => exact ⟨x, r, rfl⟩
            rw [em] at k8 P8 ⊢
            show if PyData.eqv (.list (PyData.int m0 :: mr.map PyData.int)) (.list []) = true then _ else _
            rw [eqv_nil_cons]
            refine iteF ?_
            exact ⟨D, rfl, k8, P8, by rw [e, em, upd_ne nD8, upd_same], D0⟩
      · rintro σ H7 ⟨lf, rfl, k7, P7, h7, f7⟩
        refine ⟨_, rfl, _, rfl, (by show 2 ≤ sizeLine; decide), fun q1 hq1 => ?_⟩
        have nl := ne_of_none h7 hq1
        exact q _ q1 lf b _ (k7.trans (kpNew hq1)) (P7.same (same_new hq1)) upd_same (by rw [upd_ne nl]; exact h7) f7 ⟨hb, is, his2, rfl⟩
end
end Ax

namespace Ax
open PySem L2
section
variable {P : Program} {w : World} {K : PySem.W.Frag} {mg : Str → Option Value} {base : Heap} {A : Adr}
theorem drawn_of {b most : Int} {k : Kd} {ms hs : List Int} (F : FamOk b ms) (ne : hs ≠ []) (sub : hs.Sublist ms) (m1 : 1 ≤ most) (m5 : most ≤ 5) : Drawn b k hs (most + (if decide (k = .cov) = true then 1 else 0)) := by
  obtain ⟨⟨h1, h2⟩, h3, h4, h5, h6⟩ := F
  refine ⟨h1, h2, ?_, ?_, fun z => ?_, ne, Nat.le_trans sub.length_le h4, sub.nodup h5, fun m hm => h6 m (sub.mem hm)⟩
  · split <;> omega
  · split <;> omega
  · rw [if_pos (decide_eq_true z)]
    omega
theorem kd_cov (k : Kd) : decide (V.str k.s = V.str "cover") = decide (k = .cov) := kd_is k .cov
theorem pick_kd {i : Nat} {x : V} (h : ([V.str "inside", V.str "cover", V.str "length", V.str "inside", V.str "cover"] : List V)[i]? = some x) : ∃ k : Kd, x = .str k.s := by
  have h' : (([Kd.ins, .cov, .len, .ins, .cov] : List Kd).map fun k => V.str k.s)[i]? = some x := h
  rw [List.getElem?_map] at h'
  cases e : ([Kd.ins, .cov, .len, .ins, .cov] : List Kd)[i]? with
  | none =>
    rw [e] at h'
    cases h'
  | some k =>
    rw [e] at h'
    exact ⟨k, (Option.some.inj h').symm⟩
theorem take_sub {ms : List Int} {i : Nat} {m : Int} (hm : ms[i]? = some m) : ms.take (i + 1) = ms.take i ++ [m] := by
  rw [List.take_add_one, hm]
  rfl
def spRule : Sp := fun vs H Q _ => ∃ (p f lf : Addr) (t : Nat) (b : Int) (ms : List Int), vs = [.ref p, .ref f] ∧ Purse H p t ∧ t ≤ 2 ^ 18 ∧ H f = some (.tup [.int b, .ref lf]) ∧ H lf = some (.lst (ms.map V.int)) ∧ lf ≠ p ∧ Fam b ms ∧
  ∀ (H' : Hp) (q lh : Addr) (k : Kd) (hs : List Int) (most : Int), Kp p H H' → Purse H' p (t + 8) → RuleT H' q lh b k hs most → H lh = none → Drawn b k hs most → (∀ m ∈ hs, m ∈ ms) → Q (.ref q) H'
abbrev nm_law_rule : List Str := ["_law_purse_here", "_law_family_here", "_law_base", "_law_some", "_law_kind", "_law_heads", "_law_one"]
theorem sc_law_rule : FnScope ["_law_purse_here", "_law_family_here", "_law_base", "_law_some", "_law_kind", "_law_heads", "_law_one"] ["_law_purse_here", "_law_family_here"] (defScope s_law_rule) := ⟨rfl, rfl, rfl, by decide +kernel, rfl, by decide +kernel, by decide +kernel⟩
theorem ok_rule (T : Txt K mg A w) : FnOk P w K mg base CX0 3 A.a_law_rule A.d_law_rule ["_law_purse_here", "_law_family_here"] spRule := by
  have G_law_draw : FnOk P w K mg base CX0 1 A.a_law_draw A.d_law_draw ["_law_purse_here", "_law_many"] spDraw := ok_draw T
  have G_law_pick : FnOk P w K mg base CX0 2 A.a_law_pick A.d_law_pick ["_law_purse_here", "_law_items"] spPick := ok_pick T
  refine T.F_law_rule.ok sc_law_rule (fun vs H Q E h => ?_) (fun cdv A0 outer s H vs Q E hr h => ?_)
  · obtain ⟨p, f, lf, t, b, ms, rfl, _⟩ := h
    rfl
  · obtain ⟨p, f, lf, t, b, ms, rfl, hP, ht, hf, hl, nlp, F, q⟩ := h
    have Fo := F.ok
    have e18 : (2 : Nat) ^ 18 = 262144 := by decide
    have e20 : (2 : Nat) ^ 20 = 1048576 := by decide
    have lm4 : ms.length ≤ 4 := Fo.2.2.1
    have lpos : 0 < ms.length := List.length_pos_iff.mpr Fo.2.1
    refine ⟨_, (pss_cons (ps_asg (pv 1) (pg_tup (by rfl) (pgs_cons (pg_name (i := 2) sc_law_rule.nd rfl (Or.inl rfl)) (pgs_cons (pg_name (i := 3) sc_law_rule.nd rfl (Or.inl rfl)) pgs_nil))))
  (pss_cons (ps_set (i := 4) sc_law_rule.nd rfl (Or.inl rfl) (pe_call G_law_pick (hr.mono (by decide)) (by rfl) T.m_law_pick T.F_law_pick.kp T.B_law_pick .nil pass0 (pa_cons (pv 0) (pa_cons (pe_lst (pa_cons pe_str (pa_cons pe_str (pa_cons pe_str (pa_cons pe_str (pa_cons pe_str pa_nil)))))) pa_nil))))
  (pss_cons (ps_setLc (i := 5) (own := [("_law_one", 6)]) (g := gName 6) rfl sc_law_rule.nd rfl rfl (sw_true rfl rfl rfl (by decide +kernel)) (pi_list (pv 3)) (blkOk_by (own := [("_law_one", 6)]) (N := nm_law_rule) (sc := defScope s_law_rule) (by decide +kernel)) (fun _ _ _ _ _ => (pg_name (i := 6) sc_law_rule.nd rfl (Or.inl rfl))) (fun _ _ _ _ _ => (pts_one (pt_cmpR op_gt (pe_call G_law_draw (hr.mono (by decide)) (by rfl) T.m_law_draw T.F_law_draw.kp T.B_law_draw .nil pass0 (pa_cons (pv 0) (pa_cons pe_int pa_nil))) pe_int (nomark _)))) (fun _ _ _ _ _ => (pv 6)))
  (Evl.pss_cut (ps_if (pt_cmpR (op_eqD (hr.units)) (pv 5) (pe_lst pa_nil) (nomark _)) (pss_one (ps_set (i := 5) sc_law_rule.nd rfl (Or.inl rfl) (pe_lst (pa_cons (pe_call G_law_pick (hr.mono (by decide)) (by rfl) T.m_law_pick T.F_law_pick.kp T.B_law_pick .nil pass0 (pa_cons (pv 0) (pa_cons (pv 3) pa_nil))) pa_nil)))) pss_nil)
  (pss_one (ps_ret (pe_tup (pa_cons (pv 2) (pa_cons (pv 4) (pa_cons (pv 5) (pa_cons (pe_op op_add (pe_call G_law_pick (hr.mono (by decide)) (by rfl) T.m_law_pick T.F_law_pick.kp T.B_law_pick .nil pass0 (pa_cons (pv 0) (pa_cons (pe_lst (pa_cons pe_int (pa_cons pe_int (pa_cons pe_int (pa_cons pe_int (pa_cons pe_int (pa_cons pe_int (pa_cons pe_int pa_nil)))))))) pa_nil))) (pe_callTy call_int1 (by rfl) T.n_int (by decide +kernel) (pa_cons (pe_cmpR op_eq (pv 4) pe_str (nomark _)) pa_nil))) pa_nil))))))))))), ?_⟩
    refine ⟨_, rfl, f, _, rfl, SqT.of hf, rfl, _, _, rfl, _, _, rfl, rfl, ?_⟩
    refine ⟨_, rfl, (by show 5 ≤ sizeLine; decide), fun l hl0 => ?_⟩
    have P0 := hP.same (same_new (o := .lst [.str "inside", .str "cover", .str "length", .str "inside", .str "cover"]) hl0)
    refine ⟨p, l, _, t, rfl, P0, by omega, upd_same, hP.ne hl0, (by show 0 < 5; decide), (by show 5 ≤ 1000; decide), fun H1 i1 x1 k1 P1 g1 => ?_⟩
    obtain ⟨k, rfl⟩ := pick_kd g1
    have k01 : Kp p H H1 := (kpNew hl0).trans k1
    have hl1 := k01 _ _ nlp hl
    -- the heads
    refine ⟨_, rfl, lf, rfl, ⟨_, SqL.of hl1⟩, fun D hD => ?_⟩
    have nDp : D ≠ p := P1.ne hD
    have nlD : lf ≠ D := ne_of_none hl1 hD
    refine lc_list (K := K) (a := lf) (xs := ms.map V.int) (fun i H' => Kp p H1 H' ∧ Purse H' p (t + 1 + i) ∧ ∃ hx : List Int, H' D = some (.lst (hx.map V.int)) ∧ hx.Sublist (ms.take i)) ⟨kpNew hD, P1.same (same_new hD), [], upd_same, .slnil⟩ ?_ ?_ ?_
    · rintro i H' _ ⟨k2, _⟩
      exact SqL.of (k2 _ _ nlp hl1)
    · rintro i x H' hi ⟨k2, P2, hx, hD2, sub⟩
      obtain ⟨m, hm, rfl⟩ := map_get hi
      have hi3 : i < ms.length := (List.getElem?_eq_some_iff.mp hm).1
      refine ⟨rfl, _, rfl, p, 3, t + 1 + i, rfl, P2, by omega, by decide, small2000 (by decide), fun H3 z k3 P3 z0 z1 => ⟨_, _, rfl, rfl, _, rfl, ?_⟩⟩
      have hD3 := k3 _ _ nDp hD2
      have sub2 : hx.Sublist (ms.take (i + 1)) := by
        rw [take_sub hm]
        exact sub.trans (List.sublist_append_left _ _)
      refine ite2 (fun hc => ?_) (fun hc => ?_)
      · refine ⟨_, rfl, _, hD3, ?_, fun c o n e => ?_, ?_, hx ++ [m], ?_, ?_⟩
        · rw [List.length_map]
          have := sub.length_le
          rw [List.length_take] at this
          exact small1000 (by omega)
        · have ncD : c ≠ D := ne_of_none e hD
          rw [upd_ne ncD]
          exact k3 c o n (k2 c o n e)
        · obtain ⟨a, c, u, h1, r⟩ := P3
          exact Purse.le ⟨a, c, u, by rw [upd_ne nDp.symm]; exact h1, r⟩ (by omega)
        · rw [upd_same, List.map_append]
          rfl
        · rw [take_sub hm]
          exact List.Sublist.append sub (List.Sublist.refl _)
      · exact ⟨k2.trans k3, P3.le (by omega), hx, hD3, sub2⟩
    · rintro H' ⟨k2, P2, hx, hD2, sub⟩
      rw [List.length_map, List.take_length] at sub
      rw [List.length_map] at P2
      have k02 : Kp p H H' := k01.trans k2
      have D0 : H D = none := k01.free P1 hD
      refine ⟨fun σ H7 => ∃ (lh : Addr) (hs : List Int) (v : Option V), σ = [some (.ref p), some (.ref f), some (.int b), some (.ref lf), some (.str k.s), some (.ref lh), v] ∧ Kp p H H7 ∧ Purse H7 p (t + 6) ∧ H7 lh = some (.lst (hs.map V.int)) ∧ lh ≠ p ∧ H lh = none ∧ hs ≠ [] ∧ hs.Sublist ms, ?_, ?_⟩
      · refine ⟨_, rfl, Nat.zero_le _, fun l8 hl8 => ?_⟩
        have nD8 : D ≠ l8 := ne_of_none hD2 hl8
        refine ⟨.list (hx.map PyData.int), .list [], .lst (SqL.of (by rw [upd_ne nD8]; exact hD2)) (dp_ints _), .lst (SqL.of upd_same) .nil, shaped_ints _, by decide, _, rfl, ?_⟩
        have k8 := k02.trans (kpNew (p := p) (o := .lst []) hl8)
        have P8 := P2.same (same_new (o := .lst []) hl8)
        cases hx with
        | nil =>
          show if PyData.eqv (.list []) (.list []) = true then _ else _
          rw [eqv_nil_nil]
          have hlf8 := k8 _ _ nlp hl
          refine iteT ⟨_, rfl, _, rfl, p, lf, _, t + 1 + ms.length, rfl, P8, by omega, hlf8, nlp, by rw [List.length_map]; exact lpos, by rw [List.length_map]; omega, fun H9 i9 x9 k9 P9 g9 => ?_⟩
          obtain ⟨m, hm, rfl⟩ := map_get g9
          refine ⟨(by show 1 ≤ sizeLine; decide), fun l10 hl10 => ?_⟩
          have k9' := k8.trans k9
          exact ⟨l10, [m], none, rfl, k9'.trans (kpNew hl10), (P9.same (same_new hl10)).le (by omega), upd_same, P9.ne hl10, k9'.free P9 hl10, by simp, List.singleton_sublist.mpr (List.mem_of_getElem? hm)⟩
        | cons m0 mr =>
          show if PyData.eqv (.list (PyData.int m0 :: mr.map PyData.int)) (.list []) = true then _ else _
          rw [eqv_nil_cons]
          refine iteF ?_
          exact ⟨D, m0 :: mr, none, rfl, k8, P8.le (by omega), by rw [upd_ne nD8]; exact hD2, nDp, D0, by simp, sub⟩
      · rintro σ H7 ⟨lh, hs, v, rfl, k7, P7, h7, n7, f7, ne7, sub7⟩
        refine ⟨_, rfl, _, rfl, _, rfl, _, rfl, (by show 7 ≤ sizeLine; decide), fun l11 hl11 => ?_⟩
        have P11 := P7.same (same_new (o := .lst [.int 1, .int 2, .int 3, .int 4, .int 5, .int 2, .int 3]) hl11)
        refine ⟨p, l11, _, t + 6, rfl, P11, by omega, upd_same, P7.ne hl11, (by show 0 < 7; decide), (by show 7 ≤ 1000; decide), fun H12 i12 x12 k12 P12 g12 => ?_⟩
        obtain ⟨mo, rfl, mo1, mo5⟩ := pick_int (ms := [1, 2, 3, 4, 5, 2, 3]) (P := fun m => 1 ≤ m ∧ m ≤ 5) g12 (by decide)
        refine ⟨_, rfl, rfl, .inr ⟨_, rfl, _, _, rfl, rfl, (by show 4 ≤ sizeLine; decide), fun q1 hq1 => ?_⟩⟩
        have k13 : Kp p H7 _ := (kpNew (o := .lst [.int 1, .int 2, .int 3, .int 4, .int 5, .int 2, .int 3]) hl11).trans k12
        have h12 := k13 _ _ n7 h7
        have nq : lh ≠ q1 := ne_of_none h12 hq1
        refine q _ q1 lh k hs (mo + (if decide (k = .cov) = true then 1 else 0)) ((k7.trans k13).trans (kpNew hq1)) ((P12.same (same_new hq1)).le (by omega)) ⟨?_, by rw [upd_ne nq]; exact h12⟩ f7 (drawn_of Fo ne7 sub7 mo1 mo5) (fun m hm => sub7.mem hm)
        rw [upd_same, ← kd_cov]
end
end Ax

namespace Ax
theorem siz_pos {b m e : Int} (hb : 1 ≤ b) (hm : 1 ≤ m) : 1 ≤ sizZ b m e := by
  unfold sizZ
  split
  · have h1 := pow_pos' hb e.toNat
    have := Int.mul_le_mul hm h1 (by omega) (by omega)
    omega
  · exact hm
theorem least_le {b : Int} {ms : List Int} {k1 k2 : Kd} {n1 n2 l h d m1 p1 m2 p2 : Int} (L1 : LeastFit b ms k1 n1 l h d m1 p1) (L2 : LeastFit b ms k2 n2 l h d m2 p2) (imp : ∀ m ∈ ms, ∀ e, FitE b k2 n2 l h m e → FitE b k1 n1 l h m e) {N : Int} (q1 : 0 ≤ N + p1) (q2 : 0 ≤ N + p2) :
    szN b N m1 p1 ≤ szN b N m2 p2 := by
  apply Int.not_lt.mp
  intro c
  exact L1.least m2 L2.mem p2 ⟨N, q2, q1, c⟩ (imp m2 L2.mem _ L2.fit)
section
variable {l h s n : Int}
theorem div_facts (l : Int) (hs : 0 < s) : s * (l / s) ≤ l ∧ l < s * (l / s) + s := by
  have e1 := Int.emod_add_mul_ediv l s
  have e2 := Int.emod_nonneg l (show s ≠ 0 by omega)
  have e3 := Int.emod_lt_of_pos l hs
  omega
theorem len_ins (hs : 0 < s) (q : h ≤ reachZ .len n l s) : h ≤ reachZ .ins (n + 1) l s := by
  obtain ⟨f1, f2⟩ := div_facts (-l) hs
  have q : h ≤ l + n * s := q
  show h ≤ (-(-l / s) + (n + 1)) * s - 1
  rw [Int.add_mul, Int.neg_mul, Int.mul_comm (-l / s), Int.add_mul]
  omega
theorem cov_len (hs : 0 < s) (q : h ≤ reachZ .cov n l s) : h ≤ reachZ .len n l s := by
  obtain ⟨f1, f2⟩ := div_facts l hs
  have q : h ≤ (l / s + n) * s := q
  rw [Int.add_mul, Int.mul_comm (l / s)] at q
  show h ≤ l + n * s
  omega
theorem len_cov (hs : 0 < s) (q : h ≤ reachZ .len n l s) : h ≤ reachZ .cov (n + 1) l s := by
  obtain ⟨f1, f2⟩ := div_facts l hs
  have q : h ≤ l + n * s := q
  show h ≤ (l / s + (n + 1)) * s
  rw [Int.add_mul, Int.mul_comm (l / s), Int.add_mul]
  omega
theorem ins_cov (hs : 0 < s) (q : h ≤ reachZ .ins n l s) : h ≤ reachZ .cov (n + 1) l s := by
  obtain ⟨f1, f2⟩ := div_facts l hs
  obtain ⟨g1, g2⟩ := div_facts (-l) hs
  have q : h ≤ (-(-l / s) + n) * s - 1 := q
  rw [Int.add_mul, Int.neg_mul, Int.mul_comm (-l / s)] at q
  show h ≤ (l / s + (n + 1)) * s
  rw [Int.add_mul, Int.mul_comm (l / s), Int.add_mul]
  -- the least multiple at or above l is at most one step above the greatest at or below it
  have c : -(s * (-l / s)) ≤ s * (l / s) + s := by
    apply Int.not_lt.mp
    intro z
    have z2 : s * (l / s + 1) < s * (-(-l / s)) := by
      rw [Int.mul_add, Int.mul_one, Int.mul_neg]
      exact z
    have z3 : l / s + 1 < -(-l / s) := Int.lt_of_mul_lt_mul_left z2 (by omega)
    have z4 := Int.mul_le_mul_of_nonneg_left (show l / s + 1 + 1 ≤ -(-l / s) by omega) (show 0 ≤ s by omega)
    rw [Int.mul_add, Int.mul_add, Int.mul_one, Int.mul_neg] at z4
    omega
  omega
end
end Ax

namespace Ax
/-- the first and the last mark, in whole numbers -/
def fstZ (k : Kd) (l s : Int) : Int := if k = .cov then l / s else -(-l / s)
def lstZ (k : Kd) (h s : Int) : Int := if k = .cov then -(-h / s) else h / s
end Ax
namespace Ax
/-! ### of two least steps that fit there is one -/
theorem least_one {b : Int} {ms : List Int} {k : Kd} {n l h d m1 p1 m2 p2 : Int} (hb : 2 ≤ b) (hm : ∀ m ∈ ms, 1 ≤ m ∧ m % b ≠ 0) (L1 : LeastFit b ms k n l h d m1 p1) (L2 : LeastFit b ms k n l h d m2 p2) : m1 = m2 ∧ p1 = p2 := by
  obtain ⟨N, hN⟩ : ∃ N : Int, N = p1.natAbs + p2.natAbs := ⟨_, rfl⟩
  have a := least_le L1 L2 (fun m _ e q => q) (N := N) (by omega) (by omega)
  have c := least_le L2 L1 (fun m _ e q => q) (N := N) (by omega) (by omega)
  have e : szN b N m1 p1 = szN b N m2 p2 := by omega
  unfold szN at e
  rcases Int.le_total p1 p2 with q | q
  · have x : (N + p2).toNat = (p2 - p1).toNat + (N + p1).toNat := by omega
    rw [x, pow_add', ← Int.mul_assoc] at e
    have y := mul_cancel (pow_pos' (by omega) _) e
    cases z : (p2 - p1).toNat with
    | zero =>
      rw [z, Int.pow_zero, Int.mul_one] at y
      exact ⟨y, by omega⟩
    | succ j =>
      rw [z] at y
      exact absurd (dvd_of_mul y.symm) (hm m1 L1.mem).2
  · have x : (N + p1).toNat = (p1 - p2).toNat + (N + p2).toNat := by omega
    rw [x, pow_add', ← Int.mul_assoc] at e
    have y := mul_cancel (pow_pos' (by omega) _) e
    cases z : (p1 - p2).toNat with
    | zero =>
      rw [z, Int.pow_zero, Int.mul_one] at y
      exact ⟨y, by omega⟩
    | succ j =>
      rw [z] at y
      exact absurd (dvd_of_mul y) (hm m2 L2.mem).2
/-! ### how many marks -/
section
variable {k : Kd} {l h s n : Int}
theorem lt_div_iff {x y s : Int} (hs : 0 < s) : y / s < x ↔ y < x * s := Int.ediv_lt_iff_lt_mul hs
theorem le_div_iff {x y s : Int} (hs : 0 < s) : x ≤ y / s ↔ x * s ≤ y := Int.le_ediv_iff_mul_le hs
theorem ceil_facts (l : Int) (hs : 0 < s) : l ≤ s * (-(-l / s)) ∧ s * (-(-l / s)) < l + s := by
  obtain ⟨f1, f2⟩ := div_facts (-l) hs
  rw [Int.mul_neg]
  omega
theorem floor_ceil (l : Int) (hs : 0 < s) : l / s ≤ -(-l / s) ∧ -(-l / s) ≤ l / s + 1 := by
  obtain ⟨f1, f2⟩ := div_facts l hs
  obtain ⟨g1, g2⟩ := ceil_facts l hs
  constructor
  · apply Int.not_lt.mp
    intro z
    have := Int.mul_le_mul_of_nonneg_left (show -(-l / s) + 1 ≤ l / s by omega) (show 0 ≤ s by omega)
    rw [Int.mul_add, Int.mul_one] at this
    omega
  · apply Int.not_lt.mp
    intro z
    have := Int.mul_le_mul_of_nonneg_left (show l / s + 1 + 1 ≤ -(-l / s) by omega) (show 0 ≤ s by omega)
    rw [Int.mul_add, Int.mul_add, Int.mul_one] at this
    omega
theorem marks_most (hs : 0 < s) (q : h ≤ reachZ k n l s) : lstZ k h s - fstZ k l s + 1 ≤ n + (if k = .ins then 0 else 1) := by
  obtain ⟨c1, c2⟩ := floor_ceil l hs
  unfold fstZ lstZ
  cases k with
  | ins =>
    rw [if_neg (by decide), if_neg (by decide), if_pos rfl]
    have q : h ≤ (-(-l / s) + n) * s - 1 := q
    have := (lt_div_iff hs (y := h) (x := -(-l / s) + n)).mpr (by omega)
    omega
  | cov =>
    rw [if_pos rfl, if_pos rfl, if_neg (by decide)]
    have q : h ≤ (l / s + n) * s := q
    have := (le_div_iff hs (y := -h) (x := -(l / s + n))).mpr (by rw [Int.neg_mul]; omega)
    omega
  | len =>
    rw [if_neg (by decide), if_neg (by decide), if_neg (by decide)]
    have q : h ≤ l + n * s := q
    obtain ⟨f1, f2⟩ := div_facts l hs
    have := (lt_div_iff hs (y := h) (x := l / s + n + 1)).mpr (by rw [Int.add_mul, Int.add_mul, Int.one_mul, Int.mul_comm (l / s)]; omega)
    omega
theorem marks_least (hs : 0 < s) (lt : l < h) : (if k = .cov then 2 else 0) ≤ lstZ k h s - fstZ k l s + 1 := by
  obtain ⟨c1, c2⟩ := floor_ceil l hs
  obtain ⟨f1, f2⟩ := div_facts l hs
  obtain ⟨g1, g2⟩ := ceil_facts h hs
  have mono : l / s ≤ h / s := Int.ediv_le_ediv hs (by omega)
  unfold fstZ lstZ
  by_cases c : k = .cov
  · rw [if_pos c, if_pos c, if_pos c]
    have : l / s < -(-h / s) := by
      apply Int.not_le.mp
      intro z
      have := Int.mul_le_mul_of_nonneg_left z (show 0 ≤ s by omega)
      omega
    omega
  · rw [if_neg c, if_neg c, if_neg c]
    omega
/-- the law's own words of what fits -/
def fitL (k : Kd) (n l h s : Int) : Bool := match k with
  | .ins => decide (h / s - (0 - (0 - l) / s) + 1 ≤ n)
  | .cov => decide (0 - (0 - h) / s - l / s ≤ n)
  | .len => decide (h - l ≤ n * s)
theorem fitL_eq (hs : 0 < s) : fitL k n l h s = decide (h ≤ reachZ k n l s) := by
  have e : ∀ x : Int, 0 - x = -x := fun x => by omega
  cases k with
  | ins =>
    show decide (h / s - (0 - (0 - l) / s) + 1 ≤ n) = decide (h ≤ (-(-l / s) + n) * s - 1)
    rw [e, e]
    have := lt_div_iff hs (y := h) (x := -(-l / s) + n)
    apply decide_eq_decide.mpr
    omega
  | cov =>
    show decide (0 - (0 - h) / s - l / s ≤ n) = decide (h ≤ (l / s + n) * s)
    rw [e, e]
    have := le_div_iff hs (y := -h) (x := -(l / s + n))
    rw [Int.neg_mul] at this
    apply decide_eq_decide.mpr
    omega
  | len =>
    show decide (h - l ≤ n * s) = decide (h ≤ l + n * s)
    apply decide_eq_decide.mpr
    omega
end
end Ax

namespace Ax
open PySem L2
section
variable {P : Program} {w : World} {K : PySem.W.Frag} {mg : Str → Option Value} {base : Heap} {A : Adr}
theorem rf_no {b : Int} {k : Kd} {lm : Addr} {most : Int} {dv : Bool} {lr : Addr} {f : Str} (h1 : ¬ f = "_rungs") (h2 : ¬ f = "_dividing") (h3 : ¬ f = "_most") (h4 : ¬ f = "_mantissas") (h5 : ¬ f = "_kind") (h6 : ¬ f = "_base") : (rf b k lm most dv lr).lookup f = none := by
  rw [rf_lookup, if_neg h1, if_neg h2, if_neg h3, if_neg h4, if_neg h5, if_neg h6]
/-! ### marks -/
def spMarks (A : Adr) : Sp := fun vs H Q _ => ∃ (r sp : Addr) (l h d : Int) (b : Int) (k : Kd) (ms : List Int) (most : Int) (D : RD), vs = [.ref r, .ref sp] ∧ RX A.c_Rule H r b k ms most D ∧ RArgs b k ms most ∧
  H sp = some (.tup [.int l, .int h, .int d]) ∧ Rng l h d ∧
  ∀ (H' : Hp) (q : Addr) (m p : Int), Same H H' → H q = none → LeastFit b ms k most l h d m p → b ^ (p + d).natAbs < 2 ^ 2000 → (lg b (h - l) : Int) - (lg b (most + 1) + 1) ≤ p + d + lg b m →
    H' q = some (.tup [.int (fstZ k (l * facZ b (p + d)) (sizZ b m (p + d))), .int (lstZ k (h * facZ b (p + d)) (sizZ b m (p + d)))]) → Q (.ref q) H'
abbrev nm_Rule_marks : List Str := ["self", "span", "factor", "size", "low", "high"]
theorem sc_Rule_marks : FnScope ["self", "span", "factor", "size", "low", "high"] ["self", "span"] (defScope s_Rule_marks) := ⟨rfl, rfl, rfl, by decide +kernel, rfl, by decide +kernel, by decide +kernel⟩
theorem ok_marks (T : Txt K mg A w) : FnOk P w K mg base CX0 5 A.a_Rule_marks A.d_Rule_marks ["self", "span"] (spMarks A) := by
  have G_measure : FnOk P w K mg base CX0 2 A.a_measure A.d_measure ["base", "step", "digits"] (spMeasure K) := ok_measure T
  have G_Rule_step : FnOk P w K mg base CX0 4 A.a_Rule_step A.d_Rule_step ["self", "span"] (spStep A) := ok_step T
  refine T.F_Rule_marks.ok sc_Rule_marks (fun vs H Q E h => ?_) (fun cdv A0 outer s H vs Q E hr h => ?_)
  · obtain ⟨r, sp, l, h, d, b, k, ms, most, D, rfl, _⟩ := h
    rfl
  · obtain ⟨r, sp, l, h, d, b, k, ms, most, D, rfl, x, R, hsp, G, q⟩ := h
    have noS : (rf b k D.lm most D.dv D.lr).lookup ("step" : Str) = none := rf_no (by decide +kernel) (by decide +kernel) (by decide +kernel) (by decide +kernel) (by decide +kernel) (by decide +kernel)
    have b1 : 1 ≤ b := by have := R.b2; omega
    refine ⟨_, (pss_cons (ps_asg (pe_call G_measure (hr.mono (by decide)) (by rfl) T.m_measure T.F_measure.kp T.B_measure .nil pass0 (pa_cons (pe_fld (pv 0) rfl) (pa_cons (pe_meth (pv 0) T.cl T.t_Rule_step G_Rule_step (hr.mono (by decide)) T.B_Rule_step .nil pass0 (pa_cons (pv 1) pa_nil)) (pa_cons (pe_ix ix_tup (pv 1) pe_int (fun _ _ => rfl)) pa_nil)))) (pg_tup (by rfl) (pgs_cons (pg_name (i := 2) sc_Rule_marks.nd rfl (Or.inl rfl)) (pgs_cons (pg_name (i := 3) sc_Rule_marks.nd rfl (Or.inl rfl)) pgs_nil))))
  (pss_cons (ps_set (i := 4) sc_Rule_marks.nd rfl (Or.inl rfl) (pe_op op_mulW (pe_ix ix_tup (pv 1) pe_int (fun _ _ => rfl)) (pv 2)))
  (pss_cons (ps_set (i := 5) sc_Rule_marks.nd rfl (Or.inl rfl) (pe_op op_mulW (pe_ix ix_tup (pv 1) pe_int (fun _ _ => rfl)) (pv 2)))
  (pss_cons (ps_if (pt_cmpR op_eq (pe_fld (pv 0) rfl) pe_str (nomark _)) (pss_one (ps_ret (pe_tup (pa_cons (pe_op op_fdivW (pv 4) (pv 3)) (pa_cons (pe_un un_neg (pe_op op_fdivW (pe_un un_neg (pv 5)) (pv 3))) pa_nil))))) pss_nil)
  (pss_one (ps_ret (pe_tup (pa_cons (pe_un un_neg (pe_op op_fdivW (pe_un un_neg (pv 4)) (pv 3))) (pa_cons (pe_op op_fdivW (pv 5) (pv 3)) pa_nil))))))))), ?_⟩
    refine ⟨_, rfl, r, A.c_Rule, D.dx, _, _, rfl, x.at_, T.cl, T.na_base, rf_base _ _ _ _ _ _, _, rfl, r, D.dx, _, rfl, x.at_, noS, _, rfl, r, sp, l, h, d, b, k, ms, most, D, rfl, x, R, hsp, G, fun H1 q1 m p s1 hq1 ht1 L eB low => ?_⟩
    obtain ⟨m1, mB, m3⟩ := R.all m L.mem
    have hsp1 := s1 _ _ hsp
    refine ⟨_, rfl, sp, _, _, _, rfl, rfl, SqT.of hsp1, atL (j := 2) rfl, b, m, p, d, q1, rfl, SqT.of ht1, b1, lt_big R.bB (by decide), lt_big (n := 2000) eB (by decide), by omega, lt_big mB (by decide), ?_⟩
    rintro H2 q2 s2 hq2 rfl
    refine ⟨q2, _, rfl, SqT.of upd_same, rfl, _, _, rfl, _, _, rfl, rfl, ?_⟩
    have s02 := s1.trans s2
    have x2 := x.same s02
    have hsp2 := s02 _ _ hsp
    obtain ⟨f1, f2⟩ := fac_bound b1 eB
    obtain ⟨z1, z2⟩ := siz_bound b1 m1 mB eB
    have fN : (facZ b (p + d)).natAbs < 2 ^ 2000 := abs_lt_pow (by omega) f2
    have zB : sizZ b m (p + d) < BIG := lt_big (n := 2064) z2 (by decide)
    refine ⟨_, rfl, sp, _, _, _, rfl, rfl, SqT.of hsp2, atL (j := 0) rfl, _, rfl, _, _, rfl, rfl, wide_mul G.lo fN (by decide) (by decide) (by decide), ?_⟩
    refine ⟨_, rfl, sp, _, _, _, rfl, rfl, SqT.of hsp2, atL (j := 1) rfl, _, rfl, _, _, rfl, rfl, wide_mul G.hi fN (by decide) (by decide) (by decide), ?_⟩
    refine ⟨_, rfl, r, A.c_Rule, D.dx, _, _, rfl, x2.at_, T.cl, T.na_kind, rf_kind _ _ _ _ _ _, rfl, _, rfl, ?_⟩
    show if (decide (V.str k.s = V.str "cover")) = true then _ else _
    rw [kd_cov]
    by_cases c : k = .cov
    · rw [decide_eq_true c]
      refine iteT ⟨_, rfl, _, rfl, _, _, rfl, rfl, size_div z1 zB _, _, rfl, _, rfl, _, rfl, _, _, rfl, rfl, size_div z1 zB _, _, rfl, (by show 2 ≤ sizeLine; decide), fun q3 hq3 => ?_⟩
      refine q _ q3 m p (s02.trans (same_new hq3)) (s02.free hq3) L eB low ?_
      rw [upd_same]
      unfold fstZ lstZ
      rw [if_pos c, if_pos c]
    · rw [decide_eq_false c]
      refine iteF ⟨_, rfl, _, rfl, _, rfl, _, _, rfl, rfl, size_div z1 zB _, _, rfl, _, rfl, _, rfl, _, _, rfl, rfl, size_div z1 zB _, (by show 2 ≤ sizeLine; decide), fun q3 hq3 => ?_⟩
      refine q _ q3 m p (s02.trans (same_new hq3)) (s02.free hq3) L eB low ?_
      rw [upd_same]
      unfold fstZ lstZ
      rw [if_neg c, if_neg c]
/-! ### count -/
def spCount (A : Adr) : Sp := fun vs H Q _ => ∃ (r sp : Addr) (l h d : Int) (b : Int) (k : Kd) (ms : List Int) (most : Int) (D : RD), vs = [.ref r, .ref sp] ∧ RX A.c_Rule H r b k ms most D ∧ RArgs b k ms most ∧
  H sp = some (.tup [.int l, .int h, .int d]) ∧ Rng l h d ∧
  ∀ (H' : Hp) (m p : Int), Same H H' → LeastFit b ms k most l h d m p → Q (.int (lstZ k (h * facZ b (p + d)) (sizZ b m (p + d)) - fstZ k (l * facZ b (p + d)) (sizZ b m (p + d)) + 1)) H'
abbrev nm_Rule_count : List Str := ["self", "span", "first", "last"]
theorem sc_Rule_count : FnScope ["self", "span", "first", "last"] ["self", "span"] (defScope s_Rule_count) := ⟨rfl, rfl, rfl, by decide +kernel, rfl, by decide +kernel, by decide +kernel⟩
theorem ok_count (T : Txt K mg A w) : FnOk P w K mg base CX0 6 A.a_Rule_count A.d_Rule_count ["self", "span"] (spCount A) := by
  have G_Rule_marks : FnOk P w K mg base CX0 5 A.a_Rule_marks A.d_Rule_marks ["self", "span"] (spMarks A) := ok_marks T
  refine T.F_Rule_count.ok sc_Rule_count (fun vs H Q E h => ?_) (fun cdv A0 outer s H vs Q E hr h => ?_)
  · obtain ⟨r, sp, l, h, d, b, k, ms, most, D, rfl, _⟩ := h
    rfl
  · obtain ⟨r, sp, l, h, d, b, k, ms, most, D, rfl, x, R, hsp, G, q⟩ := h
    have noM : (rf b k D.lm most D.dv D.lr).lookup ("marks" : Str) = none := rf_no (by decide +kernel) (by decide +kernel) (by decide +kernel) (by decide +kernel) (by decide +kernel) (by decide +kernel)
    refine ⟨_, (pss_cons (ps_asg (pe_meth (pv 0) T.cl T.t_Rule_marks G_Rule_marks (hr.mono (by decide)) T.B_Rule_marks .nil pass0 (pa_cons (pv 1) pa_nil)) (pg_tup (by rfl) (pgs_cons (pg_name (i := 2) sc_Rule_count.nd rfl (Or.inl rfl)) (pgs_cons (pg_name (i := 3) sc_Rule_count.nd rfl (Or.inl rfl)) pgs_nil))))
  (pss_one (ps_ret (pe_op op_add (pe_op op_sub (pv 3) (pv 2)) pe_int)))), ?_⟩
    refine ⟨_, rfl, r, D.dx, _, rfl, x.at_, noM, _, rfl, r, sp, l, h, d, b, k, ms, most, D, rfl, x, R, hsp, G, fun H1 q1 m p s1 hq1 L eB low ht => ?_⟩
    refine ⟨q1, _, rfl, SqT.of ht, rfl, _, _, rfl, _, _, rfl, rfl, ?_⟩
    exact ⟨_, rfl, _, rfl, _, _, rfl, rfl, _, _, rfl, rfl, q H1 m p s1 L⟩
end
end Ax

namespace Ax
open PySem L2
section
variable {P : Program} {w : World} {K : PySem.W.Frag} {mg : Str → Option Value} {base : Heap} {A : Adr}
/-! ### _law_made -/
def spMade (A : Adr) : Sp := fun vs H Q _ => ∃ (ru lh : Addr) (b : Int) (k : Kd) (hs : List Int) (most : Int), vs = [.ref ru] ∧ RuleT H ru lh b k hs most ∧ RArgs b k hs most ∧
  ∀ (H' : Hp) (r : Addr) (D : RD), Same H H' → H r = none → RX A.c_Rule H' r b k hs most D → H D.lm = none → H D.lr = none → Q (.ref r) H'
abbrev nm_law_made : List Str := ["_law_rule_here"]
theorem sc_law_made : FnScope ["_law_rule_here"] ["_law_rule_here"] (defScope s_law_made) := ⟨rfl, rfl, rfl, by decide +kernel, rfl, by decide +kernel, by decide +kernel⟩
theorem ok_made (T : Txt K mg A w) : FnOk P w K mg base CX0 6 A.a_law_made A.d_law_made ["_law_rule_here"] (spMade A) := by
  have G_Rule_init : FnOk P w K mg base CX0 4 A.a_Rule_init A.d_Rule_init ["self", "base", "kind", "mantissas", "most"] (spInit A) := ok_init T
  refine T.F_law_made.ok sc_law_made (fun vs H Q E h => ?_) (fun cdv A0 outer s H vs Q E hr h => ?_)
  · obtain ⟨ru, lh, b, k, hs, most, rfl, _⟩ := h
    rfl
  · obtain ⟨ru, lh, b, k, hs, most, rfl, RT, R, q⟩ := h
    refine ⟨_, (pss_one (ps_ret (pe_make T.mk_Rule G_Rule_init (hr.mono (by decide)) (by rfl) T.c_Rule T.B_Rule_init .nil pass0 (pa_cons (pe_ix ix_tup (pv 0) pe_int (fun _ _ => rfl)) (pa_cons (pe_ix ix_tup (pv 0) pe_int (fun _ _ => rfl)) (pa_cons (pe_callTy call_list_of (by rfl) T.n_list (by decide +kernel) (pa_cons (pe_ix ix_tup (pv 0) pe_int (fun _ _ => rfl)) pa_nil)) (pa_cons (pe_ix ix_tup (pv 0) pe_int (fun _ _ => rfl)) pa_nil))))))), ?_⟩
    refine ⟨_, rfl, ru, _, _, _, rfl, rfl, SqT.of RT.1, atL (j := 0) rfl, _, rfl, ru, _, _, _, rfl, rfl, SqT.of RT.1, atL (j := 1) rfl, _, rfl, ru, _, _, _, rfl, rfl, SqT.of RT.1, atL (j := 2) rfl, lh, _, rfl, .inl (SqL.of RT.2), fun l9 hl9 => ?_⟩
    have s8 : Same H (upd H l9 (.lst (hs.map V.int))) := same_new hl9
    refine ⟨_, rfl, ru, _, _, _, rfl, rfl, SqT.of (s8 _ _ RT.1), atL (j := 3) rfl, fun x dx nx ndx nex => ?_⟩
    generalize hH8 : upd H l9 (.lst (hs.map V.int)) = H8 at s8 nx ndx ⊢
    have l98 : H8 l9 = some (.lst (hs.map V.int)) := by rw [← hH8]; exact upd_same
    have s9 : Same H8 (upd (upd H8 dx (.own x)) x (.ins A.c_Rule dx [])) := (same_new ndx).trans (same_new (by rw [upd_ne nex.symm]; exact nx))
    refine ⟨x, dx, l9, b, k, hs, most, rfl, upd_same, s9 _ _ l98, R, fun H10 D kept X10 n1 n2 => ⟨rfl, ?_⟩⟩
    have s10 : Same H H10 := fun c o e => kept c o (ne_of_none (s8 _ _ e) nx) (s9 _ _ (s8 _ _ e))
    exact q H10 x D s10 (s8.free nx) X10 ((s8.trans s9).free n1) ((s8.trans s9).free n2)
end
end Ax

namespace Ax
/-! ### ranges within, upside down, times the base -/
theorem least_gen {b : Int} {ms1 : List Int} {k1 : Kd} {n1 l1 h1 d m1 p1 m2 p2 : Int} (L1 : LeastFit b ms1 k1 n1 l1 h1 d m1 p1) (hin : m2 ∈ ms1) (fit : FitE b k1 n1 l1 h1 m2 (p2 + d)) {N : Int} (q1 : 0 ≤ N + p1) (q2 : 0 ≤ N + p2) :
    szN b N m1 p1 ≤ szN b N m2 p2 := by
  apply Int.not_lt.mp
  intro c
  exact L1.least m2 hin p2 ⟨N, q2, q1, c⟩ fit
theorem reach_in {k : Kd} {n l h l' h' s : Int} (hs : 0 < s) (h1 : l ≤ l') (h2 : h' ≤ h) (q : h ≤ reachZ k n l s) : h' ≤ reachZ k n l' s := by
  cases k with
  | len =>
    have q : h ≤ l + n * s := q
    show h' ≤ l' + n * s
    omega
  | cov =>
    have q : h ≤ (l / s + n) * s := q
    have m : l / s ≤ l' / s := Int.ediv_le_ediv hs h1
    have := Int.mul_le_mul_of_nonneg_right (show l / s + n ≤ l' / s + n by omega) (show 0 ≤ s by omega)
    show h' ≤ (l' / s + n) * s
    omega
  | ins =>
    have q : h ≤ (-(-l / s) + n) * s - 1 := q
    have m : -l' / s ≤ -l / s := Int.ediv_le_ediv hs (by omega)
    have := Int.mul_le_mul_of_nonneg_right (show -(-l / s) + n ≤ -(-l' / s) + n by omega) (show 0 ≤ s by omega)
    show h' ≤ (-(-l' / s) + n) * s - 1
    omega
theorem reach_more {k : Kd} {n n' l h s : Int} (hs : 0 < s) (h1 : n ≤ n') (q : h ≤ reachZ k n l s) : h ≤ reachZ k n' l s := by
  cases k with
  | len =>
    have q : h ≤ l + n * s := q
    have := Int.mul_le_mul_of_nonneg_right h1 (show 0 ≤ s by omega)
    show h ≤ l + n' * s
    omega
  | cov =>
    have q : h ≤ (l / s + n) * s := q
    have := Int.mul_le_mul_of_nonneg_right (show l / s + n ≤ l / s + n' by omega) (show 0 ≤ s by omega)
    show h ≤ (l / s + n') * s
    omega
  | ins =>
    have q : h ≤ (-(-l / s) + n) * s - 1 := q
    have := Int.mul_le_mul_of_nonneg_right (show -(-l / s) + n ≤ -(-l / s) + n' by omega) (show 0 ≤ s by omega)
    show h ≤ (-(-l / s) + n') * s - 1
    omega
theorem reach_flip {k : Kd} {n l h s : Int} (hs : 0 < s) : -l ≤ reachZ k n (-h) s ↔ h ≤ reachZ k n l s := by
  cases k with
  | len =>
    show -l ≤ -h + n * s ↔ h ≤ l + n * s
    omega
  | cov =>
    show -l ≤ (-h / s + n) * s ↔ h ≤ (l / s + n) * s
    have a := le_div_iff hs (x := -(l / s + n)) (y := -h)
    have c := le_div_iff hs (x := -(-h / s + n)) (y := l)
    rw [Int.neg_mul] at a c
    omega
  | ins =>
    show -l ≤ (-(- -h / s) + n) * s - 1 ↔ h ≤ (-(-l / s) + n) * s - 1
    rw [Int.neg_neg]
    have a := lt_div_iff hs (x := -(-l / s) + n) (y := h)
    have c := lt_div_iff hs (x := -(h / s) + n) (y := -l)
    omega
section
variable {b : Int} {ms : List Int} {k : Kd} {n l h d m p : Int}
theorem fitE_in {l' h' e : Int} (hb : 1 ≤ b) (hm : 1 ≤ m) (h1 : l ≤ l') (h2 : h' ≤ h) (q : FitE b k n l h m e) : FitE b k n l' h' m e := by
  have f1 : 1 ≤ facZ b e := by
    unfold facZ
    split
    · decide
    · exact pow_pos' hb _
  unfold FitE at q ⊢
  exact reach_in (by have := siz_pos (e := e) hb hm; omega) (Int.mul_le_mul_of_nonneg_right h1 (by omega)) (Int.mul_le_mul_of_nonneg_right h2 (by omega)) q
theorem fitE_more {n' e : Int} (hb : 1 ≤ b) (hm : 1 ≤ m) (h1 : n ≤ n') (q : FitE b k n l h m e) : FitE b k n' l h m e :=
  reach_more (by have := siz_pos (e := e) hb hm; omega) h1 q
theorem fitE_flip {e : Int} (hb : 1 ≤ b) (hm : 1 ≤ m) : FitE b k n (-h) (-l) m e ↔ FitE b k n l h m e := by
  unfold FitE
  rw [Int.neg_mul, Int.neg_mul]
  exact reach_flip (by have := siz_pos (e := e) hb hm; omega)
theorem fitE_base {e : Int} (hb : 1 ≤ b) (hm : 1 ≤ m) : FitE b k n (l * b) (h * b) m (e + 1) ↔ FitE b k n l h m e := by
  obtain ⟨N, hN⟩ : ∃ N : Nat, N = e.natAbs := ⟨_, rfl⟩
  rw [fitE_N (N := N) hb hm (by omega) (by omega), fitE_N (N := N + 1) hb hm (by omega) (by omega)]
  have e1 : szN b N m (e + 1) = szN b (N + 1) m e := by
    unfold szN
    rw [show (N : Int) + (e + 1) = N + 1 + e by omega]
  have e2 : ∀ x : Int, x * b * b ^ (N : Int).toNat = x * b ^ ((N : Int) + 1).toNat := fun x => by
    rw [show ((N : Int) + 1).toNat = N + 1 by omega, Int.toNat_natCast, Int.pow_succ, Int.mul_assoc, Int.mul_comm b]
  rw [e1, e2, e2]
theorem LeastFit.flip (hb : 1 ≤ b) (hm : ∀ m ∈ ms, 1 ≤ m) (L : LeastFit b ms k n l h d m p) : LeastFit b ms k n (-h) (-l) d m p :=
  ⟨L.mem, (fitE_flip hb (hm m L.mem)).mpr L.fit, fun m' hm' p' s q => L.least m' hm' p' s ((fitE_flip hb (hm m' hm')).mp q)⟩
theorem SLt.up {x y : Int × Int} (h : SLt b x (y.1, y.2 + 1)) : SLt b (x.1, x.2 - 1) y := by
  obtain ⟨N, h1, h2, h3⟩ := h
  have h1 : 0 ≤ N + x.2 := h1
  have h2 : 0 ≤ N + (y.2 + 1) := h2
  refine ⟨N + 1, by show 0 ≤ N + 1 + (x.2 - 1); omega, by omega, ?_⟩
  have h3 : x.1 * b ^ (N + x.2).toNat < y.1 * b ^ (N + (y.2 + 1)).toNat := h3
  show x.1 * b ^ (N + 1 + (x.2 - 1)).toNat < y.1 * b ^ (N + 1 + y.2).toNat
  rw [show N + 1 + (x.2 - 1) = N + x.2 by omega, show N + 1 + y.2 = N + (y.2 + 1) by omega]
  exact h3
theorem LeastFit.base (hb : 1 ≤ b) (hm : ∀ m ∈ ms, 1 ≤ m) (L : LeastFit b ms k n l h d m p) : LeastFit b ms k n (l * b) (h * b) d m (p + 1) := by
  refine ⟨L.mem, ?_, fun m' hm' p' s q => ?_⟩
  · rw [show p + 1 + d = p + d + 1 by omega]
    exact (fitE_base hb (hm m L.mem)).mpr L.fit
  · refine L.least m' hm' (p' - 1) (SLt.up (x := (m', p')) (y := (m, p)) s) ?_
    rw [show p' + d = p' - 1 + d + 1 by omega] at q
    exact (fitE_base hb (hm m' hm')).mp q
end
end Ax

namespace Ax
/-! # the step of growing ranges -/
abbrev Te := Int × Int × Int
theorem nodup_le {α : Type} [DecidableEq α] : ∀ {l u : List α}, l.Nodup → (∀ x ∈ l, x ∈ u) → l.length ≤ u.length
  | [], _, _, _ => Nat.zero_le _
  | a :: r, u, nd, h => by
    have nd2 := List.nodup_cons.mp nd
    have ha := h a (List.mem_cons_self ..)
    have ih := nodup_le (l := r) (u := u.erase a) nd2.2 fun x hx => (List.mem_erase_of_ne fun e => nd2.1 (by rw [← e]; exact hx)).mpr (h x (List.mem_cons_of_mem _ hx))
    rw [List.length_erase_of_mem ha] at ih
    have := List.length_pos_of_mem ha
    rw [List.length_cons]
    omega
section
variable {b most low : Int} {ms : List Int} {k : Kd}
/-- the last high end for which a step fits -/
def lastZ (b : Int) (k : Kd) (most low m p : Int) : Int := reachZ k most (low * facZ b p) (sizZ b m p) / facZ b p
theorem fac_one {p : Int} (b1 : 1 ≤ b) : 1 ≤ facZ b p := by
  unfold facZ
  split
  · decide
  · exact pow_pos' b1 _
theorem fit_last {m p h : Int} (b1 : 1 ≤ b) : FitE b k most low h m p ↔ h ≤ lastZ b k most low m p := by
  unfold FitE lastZ
  exact (Int.le_ediv_iff_mul_le (by have := fac_one (p := p) b1; omega)).symm
theorem LeastFit.grow {m p h h' : Int} (L : LeastFit b ms k most low h 0 m p) (b1 : 1 ≤ b) (hall : ∀ m ∈ ms, 1 ≤ m) (h1 : h ≤ h') (h2 : h' ≤ lastZ b k most low m p) : LeastFit b ms k most low h' 0 m p :=
  ⟨L.mem, by rw [Int.add_zero]; exact (fit_last b1).mpr h2, fun m' hm p' hs hf => L.least m' hm p' hs (fitE_in b1 (hall m' hm) (Int.le_refl _) h1 hf)⟩
/-- entries that cover the high ends below nx -/
structure Seg (b : Int) (ms : List Int) (k : Kd) (most low : Int) (es : List Te) (nx : Int) : Prop where
  fst : ∀ e, es[0]? = some e → e.1 = low + 1
  lt : ∀ i e, es[i]? = some e → ∀ y, (es.map (·.1) ++ [nx])[i + 1]? = some y → e.1 < y
  lf : ∀ i e, es[i]? = some e → ∀ y, (es.map (·.1) ++ [nx])[i + 1]? = some y → ∀ h, e.1 ≤ h → h < y → LeastFit b ms k most low h 0 e.2.1 e.2.2
  nd : (es.map (·.2)).Nodup
  gt : ∀ e ∈ es, low < e.1
  ltn : ∀ e ∈ es, e.1 < nx
theorem Seg.nil {nx : Int} : Seg b ms k most low [] nx := ⟨fun _ h => (nomatch h), fun _ _ h => (nomatch h), fun _ _ h => (nomatch h), .nil, fun _ h => (nomatch h), fun _ h => (nomatch h)⟩
theorem Seg.snoc {es : List Te} {nx nx' m p : Int} (S : Seg b ms k most low es nx) (h0 : es = [] → nx = low + 1) (lt : nx < nx') (lf : ∀ h, nx ≤ h → h < nx' → LeastFit b ms k most low h 0 m p) (new : (m, p) ∉ es.map (·.2)) (hlow : low < nx) : Seg b ms k most low (es ++ [(nx, m, p)]) nx' := by
  have same : ∀ i, i < es.length → ((es ++ [(nx, m, p)]).map (·.1) ++ [nx'])[i + 1]? = (es.map (·.1) ++ [nx])[i + 1]? := fun i hi => by
    rw [List.map_append]
    exact List.getElem?_append_left (by simp; omega)
  have last : ((es ++ [(nx, m, p)]).map (·.1) ++ [nx'])[es.length + 1]? = some nx' := by
    rw [List.getElem?_append_right (by simp)]
    simp
  have split : ∀ {i e}, (es ++ [(nx, m, p)])[i]? = some e → (i < es.length ∧ es[i]? = some e) ∨ (i = es.length ∧ e = (nx, m, p)) := fun {i e} h => by
    by_cases c : i < es.length
    · rw [List.getElem?_append_left c] at h
      exact .inl ⟨c, h⟩
    · rw [List.getElem?_append_right (by omega)] at h
      obtain ⟨h1, h2⟩ := List.getElem?_eq_some_iff.mp h
      rw [List.length_singleton] at h1
      have e1 : i = es.length := by omega
      subst e1
      refine .inr ⟨rfl, ?_⟩
      rw [← h2]
      simp
  refine ⟨fun e h => ?_, fun i e h y hy => ?_, fun i e h y hy => ?_, ?_, fun e he => ?_, fun e he => ?_⟩
  · rcases split h with ⟨c, h⟩ | ⟨c, rfl⟩
    · exact S.fst e h
    · exact h0 (List.eq_nil_of_length_eq_zero c.symm)
  · rcases split h with ⟨c, h⟩ | ⟨rfl, rfl⟩
    · rw [same i c] at hy
      exact S.lt i e h y hy
    · rw [last] at hy
      cases hy
      exact lt
  · rcases split h with ⟨c, h⟩ | ⟨rfl, rfl⟩
    · rw [same i c] at hy
      exact S.lf i e h y hy
    · rw [last] at hy
      cases hy
      exact lf
  · rw [List.map_append]
    exact List.nodup_append.mpr ⟨S.nd, List.nodup_cons.mpr ⟨List.not_mem_nil, .nil⟩, fun a ha c hc => by
      rw [List.map_cons, List.map_nil, List.mem_singleton] at hc
      intro e
      rw [e, hc] at ha
      exact new ha⟩
  · rcases List.mem_append.mp he with y | y
    · exact S.gt e y
    · rw [List.mem_singleton.mp y]
      exact hlow
  · rcases List.mem_append.mp he with y | y
    · have := S.ltn e y
      omega
    · rw [List.mem_singleton.mp y]
      exact lt
theorem Seg.cut {es : List Te} {nx top : Int} (S : Seg b ms k most low es nx) (h : top + 1 ≤ nx) (le : ∀ e ∈ es, e.1 ≤ top) : Seg b ms k most low es (top + 1) := by
  have rel : ∀ i e, es[i]? = some e → ∀ y, (es.map (·.1) ++ [top + 1])[i + 1]? = some y → ∃ y', (es.map (·.1) ++ [nx])[i + 1]? = some y' ∧ y ≤ y' ∧ e.1 < y := fun i e he y hy => by
    have hi := (List.getElem?_eq_some_iff.mp he).1
    by_cases c : i + 1 < es.length
    · rw [List.getElem?_append_left (by simpa using c)] at hy
      have hy' : (es.map (·.1) ++ [nx])[i + 1]? = some y := by rw [List.getElem?_append_left (by simpa using c)]; exact hy
      exact ⟨y, hy', Int.le_refl _, S.lt i e he y hy'⟩
    · have c1 : i + 1 = es.length := by omega
      rw [List.getElem?_append_right (by simp; omega)] at hy
      have ey : y = top + 1 := by
        rw [List.length_map, c1, Nat.sub_self] at hy
        exact (Option.some.inj hy).symm
      refine ⟨nx, ?_, by omega, ?_⟩
      · rw [List.getElem?_append_right (by simp; omega), List.length_map, c1, Nat.sub_self]
        rfl
      · have := le e (List.mem_of_getElem? he)
        omega
  exact ⟨S.fst, fun i e he y hy => (rel i e he y hy).elim fun _ z => z.2.2, fun i e he y hy h h1 h2 => by
    obtain ⟨y', a1, a2, a3⟩ := rel i e he y hy
    exact S.lf i e he y' a1 h h1 (by omega), S.nd, S.gt, fun e he => by have := le e he; omega⟩
theorem Seg.at_nx {es : List Te} {nx : Int} {i : Nat} (hi : i + 1 = es.length) : (es.map (·.1) ++ [nx])[i + 1]? = some nx := by
  rw [List.getElem?_append_right (by simp; omega), List.length_map, hi, Nat.sub_self]
  rfl
theorem Seg.at_e {es : List Te} {nx : Int} {i : Nat} {e : Te} (h : es[i]? = some e) : (es.map (·.1) ++ [nx])[i]? = some e.1 := by
  have hi := (List.getElem?_eq_some_iff.mp h).1
  rw [List.getElem?_append_left (by simpa using hi), List.getElem?_map, h]
  rfl
/-- two of them about the same ranges: the next entry is the same -/
theorem Seg.step {es es' : List Te} {nx : Int} (S : Seg b ms k most low es nx) (S' : Seg b ms k most low es' nx) (b2 : 2 ≤ b) (hall : ∀ m ∈ ms, 1 ≤ m ∧ m % b ≠ 0) {i : Nat} {e : Te} (h : es[i]? = some e) (h' : es'[i]? = some e) : ∀ {e1 : Te}, es[i + 1]? = some e1 → es'[i + 1]? = some e1 := by
  intro e1 h1
  have hi := (List.getElem?_eq_some_iff.mp h').1
  have y1 := Seg.at_e (nx := nx) h1
  have l1 := S.lt i e h _ y1
  have m1 := List.mem_of_getElem? h1
  have n1 := S.ltn e1 m1
  -- e's step is no more that of e1's high end
  have other : ¬ LeastFit b ms k most low e1.1 0 e.2.1 e.2.2 := fun L => by
    obtain ⟨z, hz⟩ : ∃ z, (es.map (·.1) ++ [nx])[i + 2]? = some z := by
      have := (List.getElem?_eq_some_iff.mp h1).1
      exact ⟨_, List.getElem?_eq_getElem (by simp; omega)⟩
    have L1 := S.lf (i + 1) e1 h1 z hz e1.1 (Int.le_refl _) (S.lt (i + 1) e1 h1 z hz)
    obtain ⟨q1, q2⟩ := least_one b2 hall L L1
    have a1 : (es.map (·.2))[i]? = some e.2 := by rw [List.getElem?_map, h]; rfl
    have a2 : (es.map (·.2))[i + 1]? = some e1.2 := by rw [List.getElem?_map, h1]; rfl
    have ee : e.2 = e1.2 := Prod.ext q1 q2
    obtain ⟨x1, x2⟩ := List.getElem?_eq_some_iff.mp a1
    obtain ⟨x3, x4⟩ := List.getElem?_eq_some_iff.mp a2
    have := (List.getElem_inj (h₀ := x1) (h₁ := x3) S.nd).mp (by rw [x2, x4, ee])
    omega
  by_cases c : i + 1 < es'.length
  · obtain ⟨e1', g1⟩ : ∃ z, es'[i + 1]? = some z := ⟨_, List.getElem?_eq_getElem c⟩
    have y1' := Seg.at_e (nx := nx) g1
    have l1' := S'.lt i e h' _ y1'
    have m1' := List.mem_of_getElem? g1
    have eq : e1'.1 = e1.1 := by
      rcases Int.lt_trichotomy e1'.1 e1.1 with z | z | z
      · exfalso
        obtain ⟨y, hy⟩ : ∃ z, (es'.map (·.1) ++ [nx])[i + 2]? = some z := ⟨_, List.getElem?_eq_getElem (by simp; omega)⟩
        have L1 := S'.lf (i + 1) e1' g1 y hy e1'.1 (Int.le_refl _) (S'.lt (i + 1) e1' g1 y hy)
        have L2 := S.lf i e h _ y1 e1'.1 (by omega) z
        obtain ⟨q1, q2⟩ := least_one b2 hall L2 L1
        have a1 : (es'.map (·.2))[i]? = some e.2 := by rw [List.getElem?_map, h']; rfl
        have a2 : (es'.map (·.2))[i + 1]? = some e1'.2 := by rw [List.getElem?_map, g1]; rfl
        have ee : e.2 = e1'.2 := Prod.ext q1 q2
        obtain ⟨x1, x2⟩ := List.getElem?_eq_some_iff.mp a1
        obtain ⟨x3, x4⟩ := List.getElem?_eq_some_iff.mp a2
        have := (List.getElem_inj (h₀ := x1) (h₁ := x3) S'.nd).mp (by rw [x2, x4, ee])
        omega
      · exact z
      · exact absurd (S'.lf i e h' _ y1' e1.1 (by omega) z) other
    obtain ⟨z, hz⟩ : ∃ z, (es.map (·.1) ++ [nx])[i + 2]? = some z := by
      have := (List.getElem?_eq_some_iff.mp h1).1
      exact ⟨_, List.getElem?_eq_getElem (by simp; omega)⟩
    obtain ⟨y, hy⟩ : ∃ z, (es'.map (·.1) ++ [nx])[i + 2]? = some z := ⟨_, List.getElem?_eq_getElem (by simp; omega)⟩
    have L1 := S.lf (i + 1) e1 h1 z hz e1.1 (Int.le_refl _) (S.lt (i + 1) e1 h1 z hz)
    have L2 := S'.lf (i + 1) e1' g1 y hy e1'.1 (Int.le_refl _) (S'.lt (i + 1) e1' g1 y hy)
    rw [eq] at L2
    obtain ⟨q1, q2⟩ := least_one b2 hall L1 L2
    rw [g1]
    congr 1
    exact Prod.ext eq (Prod.ext q1.symm q2.symm)
  · exact absurd (S'.lf i e h' nx (Seg.at_nx (by omega)) e1.1 (by omega) n1) other
theorem Seg.uniq {es es' : List Te} {nx : Int} (S : Seg b ms k most low es nx) (S' : Seg b ms k most low es' nx) (b2 : 2 ≤ b) (hall : ∀ m ∈ ms, 1 ≤ m ∧ m % b ≠ 0) (ne : es ≠ []) (ne' : es' ≠ []) : es = es' := by
  have all : ∀ i : Nat, es[i]? = es'[i]? := by
    intro i
    induction i with
    | zero =>
      obtain ⟨e, r, rfl⟩ : ∃ e r, es = e :: r := by
        cases es with
        | nil => exact absurd rfl ne
        | cons e r => exact ⟨e, r, rfl⟩
      obtain ⟨e', r', rfl⟩ : ∃ e r, es' = e :: r := by
        cases es' with
        | nil => exact absurd rfl ne'
        | cons e r => exact ⟨e, r, rfl⟩
      have f1 := S.fst e rfl
      have f2 := S'.fst e' rfl
      obtain ⟨z, hz⟩ : ∃ z, ((e :: r).map (·.1) ++ [nx])[0 + 1]? = some z := ⟨_, List.getElem?_eq_getElem (by simp)⟩
      obtain ⟨y, hy⟩ : ∃ z, ((e' :: r').map (·.1) ++ [nx])[0 + 1]? = some z := ⟨_, List.getElem?_eq_getElem (by simp)⟩
      have L1 := S.lf 0 e rfl z hz e.1 (Int.le_refl _) (S.lt 0 e rfl z hz)
      have L2 := S'.lf 0 e' rfl y hy e'.1 (Int.le_refl _) (S'.lt 0 e' rfl y hy)
      rw [f2, ← f1] at L2
      obtain ⟨q1, q2⟩ := least_one b2 hall L1 L2
      show some e = some e'
      congr 1
      exact Prod.ext (f1.trans f2.symm) (Prod.ext q1 q2)
    | succ i ih =>
      cases h : es[i]? with
      | none =>
        rw [h] at ih
        have h1 := List.getElem?_eq_none_iff.mp h
        have h2 := List.getElem?_eq_none_iff.mp ih.symm
        rw [List.getElem?_eq_none (by omega), List.getElem?_eq_none (by omega)]
      | some e =>
        rw [h] at ih
        cases h1 : es[i + 1]? with
        | some e1 => exact (S.step S' b2 hall h ih.symm h1).symm
        | none =>
          cases h2 : es'[i + 1]? with
          | none => rfl
          | some e2 =>
            have := S'.step S b2 hall ih.symm h h2
            rw [h1] at this
            cases this
  exact List.ext_getElem? all
end
end Ax

namespace Ax
open PySem L2
section
variable {P : Program} {w : World} {K : PySem.W.Frag} {mg : Str → Option Value} {base : Heap} {A : Adr}
/-! ### properties -/
def spPB (A : Adr) : Sp := fun vs H Q _ => ∃ (r : Addr) (b : Int) (k : Kd) (ms : List Int) (most : Int) (D : RD), vs = [.ref r] ∧ RX A.c_Rule H r b k ms most D ∧ Q (.int b) H
def spPK (A : Adr) : Sp := fun vs H Q _ => ∃ (r : Addr) (b : Int) (k : Kd) (ms : List Int) (most : Int) (D : RD), vs = [.ref r] ∧ RX A.c_Rule H r b k ms most D ∧ Q (.str k.s) H
def spPM (A : Adr) : Sp := fun vs H Q _ => ∃ (r : Addr) (b : Int) (k : Kd) (ms : List Int) (most : Int) (D : RD), vs = [.ref r] ∧ RX A.c_Rule H r b k ms most D ∧ Q (.int most) H
abbrev nm_Rule_base : List Str := ["self"]
theorem sc_Rule_base : FnScope ["self"] ["self"] (defScope s_Rule_base) := ⟨rfl, rfl, rfl, by decide +kernel, rfl, by decide +kernel, by decide +kernel⟩
abbrev nm_Rule_kind : List Str := ["self"]
theorem sc_Rule_kind : FnScope ["self"] ["self"] (defScope s_Rule_kind) := ⟨rfl, rfl, rfl, by decide +kernel, rfl, by decide +kernel, by decide +kernel⟩
abbrev nm_Rule_most : List Str := ["self"]
theorem sc_Rule_most : FnScope ["self"] ["self"] (defScope s_Rule_most) := ⟨rfl, rfl, rfl, by decide +kernel, rfl, by decide +kernel, by decide +kernel⟩
theorem ok_pb (T : Txt K mg A w) : FnOk P w K mg base CX0 1 A.a_Rule_base A.d_Rule_base ["self"] (spPB A) := by
  refine T.F_Rule_base.ok sc_Rule_base (fun vs H Q E h => ?_) (fun cdv A0 outer s H vs Q E hr h => ?_)
  · obtain ⟨r, b, k, ms, most, D, rfl, _⟩ := h
    rfl
  · obtain ⟨r, b, k, ms, most, D, rfl, x, q⟩ := h
    refine ⟨_, (pss_one (ps_ret (pe_fld (pv 0) rfl))), ?_⟩
    exact ⟨_, rfl, r, A.c_Rule, D.dx, _, _, rfl, x.at_, T.cl, T.na_base, rf_base _ _ _ _ _ _, q⟩
theorem ok_pk (T : Txt K mg A w) : FnOk P w K mg base CX0 1 A.a_Rule_kind A.d_Rule_kind ["self"] (spPK A) := by
  refine T.F_Rule_kind.ok sc_Rule_kind (fun vs H Q E h => ?_) (fun cdv A0 outer s H vs Q E hr h => ?_)
  · obtain ⟨r, b, k, ms, most, D, rfl, _⟩ := h
    rfl
  · obtain ⟨r, b, k, ms, most, D, rfl, x, q⟩ := h
    refine ⟨_, (pss_one (ps_ret (pe_fld (pv 0) rfl))), ?_⟩
    exact ⟨_, rfl, r, A.c_Rule, D.dx, _, _, rfl, x.at_, T.cl, T.na_kind, rf_kind _ _ _ _ _ _, q⟩
theorem ok_pm (T : Txt K mg A w) : FnOk P w K mg base CX0 1 A.a_Rule_most A.d_Rule_most ["self"] (spPM A) := by
  refine T.F_Rule_most.ok sc_Rule_most (fun vs H Q E h => ?_) (fun cdv A0 outer s H vs Q E hr h => ?_)
  · obtain ⟨r, b, k, ms, most, D, rfl, _⟩ := h
    rfl
  · obtain ⟨r, b, k, ms, most, D, rfl, x, q⟩ := h
    refine ⟨_, (pss_one (ps_ret (pe_fld (pv 0) rfl))), ?_⟩
    exact ⟨_, rfl, r, A.c_Rule, D.dx, _, _, rfl, x.at_, T.cl, T.na_most, rf_most _ _ _ _ _ _, q⟩
/-! ### check_rule -/
def spCheck (A : Adr) : Sp := fun vs H Q _ => ∃ (r : Addr) (b : Int) (k : Kd) (ms : List Int) (most : Int) (D : RD), vs = [.ref r] ∧ RX A.c_Rule H r b k ms most D ∧ Q .non H
abbrev nm_check_rule : List Str := ["rule"]
theorem sc_check_rule : FnScope ["rule"] ["rule"] (defScope s_check_rule) := ⟨rfl, rfl, rfl, by decide +kernel, rfl, by decide +kernel, by decide +kernel⟩
theorem ok_check (T : Txt K mg A w) : FnOk P w K mg base CX0 1 A.a_check_rule A.d_check_rule ["rule"] (spCheck A) := by
  refine T.F_check_rule.ok sc_check_rule (fun vs H Q E h => ?_) (fun cdv A0 outer s H vs Q E hr h => ?_)
  · obtain ⟨r, b, k, ms, most, D, rfl, _⟩ := h
    rfl
  · obtain ⟨r, b, k, ms, most, D, rfl, x, q⟩ := h
    refine ⟨_, (pss_one (ps_if (pt_not (pt_val (pe_callB (C8.call_isC T.ic) (by rfl) T.n_isinstance (by decide +kernel) (pa_cons (pv 0) (pa_cons (pe_glob (v := .ref A.c_Rule) rfl T.c_Rule rfl) pa_nil))))) (pss_one ps_never) pss_nil)), ?_⟩
    refine ⟨_, rfl, r, D.dx, _, rfl, x.at_, _, rfl, ?_⟩
    exact iteF q
end
end Ax

/-! Dicts keyed by nested tuples, over the abstract heap: a thing of one's own (HO.ext) for the table, the keys' tuples tracked. -/
namespace ND
open PySem PySem.Spec PyProof.Rows L2

/-! ### keys -/
mutual
/-- the value is this key, by the tracked tuples -/
def NK (H : Hp) : NestedKey → V → Prop
  | .none, v => v = .non
  | .num i, v => v = .int i ∨ ∃ b, v = .bl b ∧ i = (if b = true then 1 else 0)
  | .text x, v => v = .str x
  | .tup ks, v => ∃ a vs, v = .ref a ∧ H a = some (.tup vs) ∧ NKs H ks vs
def NKs (H : Hp) : List NestedKey → List V → Prop
  | [], vs => vs = []
  | k :: ks, vs => ∃ v r, vs = v :: r ∧ NK H k v ∧ NKs H ks r
end
mutual
theorem NK.more {H H' : Hp} (t : ∀ b xs, H b = some (.tup xs) → H' b = some (.tup xs)) : ∀ (k : NestedKey) (v : V), NK H k v → NK H' k v
  | .none, _, h => by unfold NK at h ⊢; exact h
  | .num _, _, h => by unfold NK at h ⊢; exact h
  | .text _, _, h => by unfold NK at h ⊢; exact h
  | .tup ks, v, h => by
    unfold NK at h ⊢
    obtain ⟨a, vs, e, ha, hs⟩ := h
    exact ⟨a, vs, e, t _ _ ha, NKs.more t ks vs hs⟩
theorem NKs.more {H H' : Hp} (t : ∀ b xs, H b = some (.tup xs) → H' b = some (.tup xs)) : ∀ (ks : List NestedKey) (vs : List V), NKs H ks vs → NKs H' ks vs
  | [], _, h => by unfold NKs at h ⊢; exact h
  | k :: ks, vs, h => by
    unfold NKs at h ⊢
    obtain ⟨v, r, e, h1, h2⟩ := h
    exact ⟨v, r, e, NK.more t k v h1, NKs.more t ks r h2⟩
end
mutual
theorem nk_is {P : Program} {w : World} {H : Hp} {h : Heap} (ok : HOk P w H h) : ∀ (k : NestedKey) (v : V) (u : Value), NK H k v → RelV v u → NestedIs h k u
  | .none, v, u, q, r => by
    unfold NK at q
    subst q
    cases (show u = Value.none from r)
    exact .none
  | .num i, v, u, q, r => by
    unfold NK at q
    rcases q with e | ⟨b, e, hi⟩
    · subst e
      obtain ⟨t, rfl⟩ := (show ∃ t, u = Value.int i t from r)
      exact .int i t
    · subst e
      cases (show u = Value.bool b from r)
      exact .bool hi
  | .text x, v, u, q, r => by
    unfold NK at q
    subst q
    obtain ⟨t, rfl⟩ := (show ∃ t, u = Value.str x t from r)
    exact .text x t
  | .tup ks, v, u, q, r => by
    unfold NK at q
    obtain ⟨a, vs, e, ha, hs⟩ := q
    subst e
    cases (show u = Value.ref a from r)
    obtain ⟨_, its, rv, o, h1, h2, n, h3⟩ := (show ObjOk P w H h a (.tup vs) from ok a _ ha)
    exact .tup h1 h2 h3 (nks_is ok ks vs its hs (by simpa using rv))
theorem nks_is {P : Program} {w : World} {H : Hp} {h : Heap} (ok : HOk P w H h) : ∀ (ks : List NestedKey) (vs : List V) (us : List Value), NKs H ks vs → Vals vs us → NestedAll h ks us
  | [], vs, us, q, r => by
    unfold NKs at q
    subst q
    cases r
    exact .nil
  | k :: ks, vs, us, q, r => by
    unfold NKs at q
    obtain ⟨v, l, e, h1, h2⟩ := q
    subst e
    cases r with
    | cons r1 r2 => exact .cons (nk_is ok k v _ h1 r1) (nks_is ok ks l _ h2 r2)
end

/-! ### tables -/
abbrev Ent := NestedKey × Addr × V
abbrev RelE (p : Ent) (q : NestedKey × Addr × Value) : Prop := p.1 = q.1 ∧ p.2.1 = q.2.1 ∧ RelV p.2.2 q.2.2
/-- the dict's own object, of these entries -/
def dnO (w : World) (kvs : List Ent) (a : Addr) : HO := .ext fun h => ∃ (xs : List (NestedKey × Addr × Value)) (o : Obj) (es : Array DictEntry) (ep : Nat),
  Paired RelE kvs xs ∧ h.get? a = some o ∧ o.ExactDict ∧ o.data = .dict es ep ∧ es.toList = xs.map fun x => ⟨x.1.hash w, .ref x.2.1, x.2.2⟩
theorem dnO_mut {w : World} {kvs : List Ent} {a : Addr} : Mut (some (dnO w kvs a)) := trivial
/-- what is there at a key -/
def atN (kvs : List Ent) (k : NestedKey) : Option V := (kvs.find? fun e => decide (e.1 = k)).map fun e => e.2.2
/-- stored: in its place, else at the end -/
def putN (kvs : List Ent) (k : NestedKey) (a : Addr) (v : V) : List Ent :=
  if (atN kvs k).isSome = true then kvs.map (fun e => if e.1 = k then (e.1, e.2.1, v) else e) else kvs ++ [(k, a, v)]
structure DN (w : World) (H : Hp) (a : Addr) (kvs : List Ent) : Prop where
  at_ : Rd H a (dnO w kvs a)
  keys : ∀ e ∈ kvs, NK H e.1 (.ref e.2.1) ∧ e.1.depth ≤ 8
  nd : (kvs.map (·.1)).Nodup
  le : kvs.length ≤ sizeLine
  sys : (a == sysModules) = false
theorem atN_none {kvs : List Ent} {k : NestedKey} (h : ∀ e ∈ kvs, e.1 ≠ k) : atN kvs k = none := by
  unfold atN
  rw [List.find?_eq_none.mpr fun e he => by simpa using h e he]
  rfl
theorem atN_mem {kvs : List Ent} {k : NestedKey} {v : V} (h : atN kvs k = some v) : ∃ a, (k, a, v) ∈ kvs := by
  unfold atN at h
  obtain ⟨p, hp, e⟩ := Option.map_eq_some_iff.mp h
  have h1 := of_decide_eq_true (List.find?_some (p := fun e : Ent => decide (e.1 = k)) hp)
  refine ⟨p.2.1, ?_⟩
  rw [← h1, ← e]
  exact List.mem_of_find?_eq_some hp
theorem atN_of {kvs : List Ent} (nd : (kvs.map (·.1)).Nodup) {k : NestedKey} {a : Addr} {v : V} (h : (k, a, v) ∈ kvs) : atN kvs k = some v := by
  induction kvs with
  | nil => cases h
  | cons p r ih =>
    rw [List.map_cons, List.nodup_cons] at nd
    unfold atN
    rw [List.find?_cons]
    by_cases e : p.1 = k
    · rw [decide_eq_true e]
      rcases List.mem_cons.mp h with rfl | h
      · rfl
      · exact absurd (List.mem_map.mpr ⟨_, h, e.symm⟩) nd.1
    · rw [decide_eq_false e]
      rcases List.mem_cons.mp h with rfl | h
      · exact absurd rfl e
      · exact ih nd.2 h
theorem putN_new {kvs : List Ent} {k : NestedKey} {a : Addr} {v : V} (h : atN kvs k = none) : putN kvs k a v = kvs ++ [(k, a, v)] := by
  unfold putN
  rw [h]
  rfl
theorem putN_keys {kvs : List Ent} {k : NestedKey} {a : Addr} {v : V} : (putN kvs k a v).map (·.1) = if (atN kvs k).isSome = true then kvs.map (·.1) else kvs.map (·.1) ++ [k] := by
  unfold putN
  split
  · rw [List.map_map]
    refine List.map_congr_left fun e _ => ?_
    show (if e.1 = k then (e.1, e.2.1, v) else e).1 = e.1
    split <;> rfl
  · rw [List.map_append]
    rfl
theorem atN_isSome {kvs : List Ent} {k : NestedKey} : (atN kvs k).isSome = true ↔ k ∈ kvs.map (·.1) := by
  constructor
  · intro h
    obtain ⟨v, hv⟩ := Option.isSome_iff_exists.mp h
    obtain ⟨a, ha⟩ := atN_mem hv
    exact List.mem_map.mpr ⟨_, ha, rfl⟩
  · intro h
    cases e : atN kvs k with
    | some v => rfl
    | none =>
      obtain ⟨p, hp, e1⟩ := List.mem_map.mp h
      unfold atN at e
      have := List.find?_eq_none.mp (Option.map_eq_none_iff.mp e) p hp
      exact absurd e1 (by simpa using this)
theorem putN_nodup {kvs : List Ent} {k : NestedKey} {a : Addr} {v : V} (nd : (kvs.map (·.1)).Nodup) : ((putN kvs k a v).map (·.1)).Nodup := by
  rw [putN_keys]
  split
  · exact nd
  · rename_i h
    refine List.nodup_append.mpr ⟨nd, List.nodup_cons.mpr ⟨List.not_mem_nil, List.nodup_nil⟩, fun x hx y hy => ?_⟩
    rw [List.mem_singleton.mp hy]
    intro e
    rw [e] at hx
    exact h (atN_isSome.mpr hx)
theorem putN_len {kvs : List Ent} {k : NestedKey} {a : Addr} {v : V} : (putN kvs k a v).length ≤ kvs.length + 1 := by
  unfold putN
  split
  · rw [List.length_map]
    omega
  · rw [List.length_append, List.length_singleton]
    exact Nat.le_refl _
theorem putN_mem {kvs : List Ent} {k : NestedKey} {a : Addr} {v : V} {e : Ent} (h : e ∈ putN kvs k a v) : (∃ e' ∈ kvs, e'.1 = e.1 ∧ e'.2.1 = e.2.1) ∨ (e.1 = k ∧ e.2.1 = a) := by
  unfold putN at h
  split at h
  · obtain ⟨e', h1, h2⟩ := List.mem_map.mp h
    refine .inl ⟨e', h1, ?_⟩
    rw [← h2]
    split <;> exact ⟨rfl, rfl⟩
  · rcases List.mem_append.mp h with h | h
    · exact .inl ⟨e, h, rfl, rfl⟩
    · rw [List.mem_singleton.mp h]
      exact .inr ⟨rfl, rfl⟩
theorem pairs_any {kvs : List Ent} {xs : List (NestedKey × Addr × Value)} (r : Paired RelE kvs xs) (k : NestedKey) : RelO (atN kvs k) ((atKey xs k).map (·.2)) := by
  induction r with
  | nil => trivial
  | @cons p q ps qs h t ih =>
    unfold atN atKey
    rw [List.find?_cons, List.find?_cons]
    by_cases e : p.1 = k
    · rw [decide_eq_true e, decide_eq_true (h.1.symm.trans e)]
      exact h.2.2
    · rw [decide_eq_false e, decide_eq_false fun z => e (h.1.trans z)]
      exact ih
theorem pairs_keys {kvs : List Ent} {xs : List (NestedKey × Addr × Value)} (r : Paired RelE kvs xs) : xs.map (·.1) = kvs.map (·.1) := by
  induction r with
  | nil => rfl
  | cons h t ih => rw [List.map_cons, List.map_cons, ih, h.1]
theorem pairs_put {kvs : List Ent} {xs : List (NestedKey × Addr × Value)} (r : Paired RelE kvs xs) {k : NestedKey} {a : Addr} {v : V} {u : Value} (rv : RelV v u) : Paired RelE (putN kvs k a v) (storedH xs k a u) := by
  have e : (atN kvs k).isSome = (atKey xs k).isSome := by
    have z := (pairs_any r k).isSome_eq
    rw [Option.isSome_map] at z
    exact z
  unfold putN storedH
  rw [e]
  split
  · clear e
    rename_i h
    clear h
    induction r with
    | nil => exact .nil
    | @cons p q ps qs h t ih =>
      rw [List.map_cons, List.map_cons]
      refine .cons ?_ ih
      unfold putAt
      by_cases c : p.1 = k
      · rw [if_pos c, if_pos (h.1.symm.trans c)]
        exact ⟨h.1, h.2.1, rv⟩
      · rw [if_neg c, if_neg fun z => c (h.1.trans z)]
        exact h
  · exact Paired.snoc r ⟨rfl, rfl, rv⟩

section
variable {X : Cx} {pins : List (Addr × Obj)} {σ : L2.St} {H H' : Hp} {s : Shared} {a b : Addr} {kvs : List Ent} {k : NestedKey} {A : Around} {E : Value → Shared → Prop}
theorem DN.more {w : World} (d : DN w H a kvs) (h : ∀ c o, H c = some o → H' c = some o) : DN w H' a kvs :=
  ⟨d.at_.elim (fun e => .inl (h _ _ e)) fun ⟨o, e⟩ => .inr ⟨o, h _ _ e⟩, fun e he => ⟨NK.more (fun c xs q => h c _ q) _ _ (d.keys e he).1, (d.keys e he).2⟩, d.nd, d.le, d.sys⟩
theorem key_is (I : Inv X pins σ H s) (q : NK H k (.ref b)) (hd : k.depth ≤ 8) : (nestedKind X.prog X.w).is s.heap k b := ⟨nk_is I.hok k _ _ q rfl, hd⟩
theorem DN.of (I : Inv X pins σ H s) (d : DN X.w H a kvs) : ∃ xs, Paired RelE kvs xs ∧ s.heap.DictOfH (nestedKind X.prog X.w) a xs := by
  obtain ⟨⟨xs, o, es, ep, pr, h1, h2, h3, h4⟩, _⟩ := (show ObjOk X.prog X.w H s.heap a (dnO X.w kvs a) from d.at_.ok I.hok)
  refine ⟨xs, pr, o, es, ep, h1, h2, h3, h4, fun x hx => ?_, ?_⟩
  · obtain ⟨j, hj⟩ := List.mem_iff_getElem?.mp hx
    have hl := Paired.length pr
    have hlt : j < kvs.length := by rw [hl]; exact (List.getElem?_eq_some_iff.mp hj).1
    obtain ⟨y, hy, r⟩ := paired_get pr (i := j) (a := kvs[j]) (List.getElem?_eq_getElem hlt)
    rw [hj] at hy
    cases hy
    have kk := d.keys kvs[j] (List.getElem_mem hlt)
    rw [r.1, r.2.1] at kk
    exact key_is I kk.1 kk.2
  · rw [pairs_keys pr]
    exact d.nd
/-- d[k], there -/
theorem n_get {v : V} {Q : Value → Shared → Prop} (hu : A.units + 9 < cLine) (I : Inv X pins σ H s) (d : DN X.w H a kvs) (q : NK H k (.ref b)) (hd : k.depth ≤ 8) (g : atN kvs k = some v)
    (h : ∀ w' s', Inv X pins σ H s' → RelV v w' → Q w' s') : wpAny (model X.prog X.w) A (getItem (.ref a) (.ref b)) Q E s := by
  obtain ⟨xs, pr, dd⟩ := d.of I
  have r := pairs_any pr k
  rw [g] at r
  obtain ⟨w', hw, rw'⟩ := RelO.some_of r
  obtain ⟨p, hp, hp2⟩ := Option.map_eq_some_iff.mp hw
  refine wpAny_getItem_heap (knd := nestedKind X.prog X.w) (by show A.units + 1 + 8 < cLine; omega) (key_is I q hd) dd hp ?_
  rw [hp2]
  exact h w' _ (I.tok _) rw'
/-- the dict behind a store -/
theorem n_stored {h' : Heap} {t : Nat} {v : V} {u : Value} {xs : List (NestedKey × Addr × Value)} (I : Inv X pins σ H s) (e : H a = some (dnO X.w kvs a)) (pr : Paired RelE kvs xs) (rv : RelV v u)
    (dd : h'.DictOfH (nestedKind X.prog X.w) a (storedH xs k b u)) (hs : Heap.SameBut a s.heap h') : Inv X pins σ (upd H a (dnO X.w (putN kvs k b v) a)) { s with heap := h', toks := t } := by
  obtain ⟨o, es, ep, h1, h2, h3, h4, _, _⟩ := dd
  refine d_write (ob := dnO X.w (putN kvs k b v) a) I (by rw [e]; exact dnO_mut) hs ⟨o, h1⟩ ⟨⟨storedH xs k b u, o, es, ep, pairs_put pr rv, h1, h2, h3, h4⟩, ⟨o, h1⟩, ?_⟩
  rintro g1 g2 ⟨ys, o', es', ep', p1, p2, p3⟩ kp
  exact ⟨ys, o', es', ep', p1, kp _ p2, p3⟩
theorem DN.put {w : World} {v : V} (d : DN w H a kvs) (e : H a = some (dnO w kvs a)) (q : NK H k (.ref b)) (hd : k.depth ≤ 8) (hl : kvs.length < sizeLine) : DN w (upd H a (dnO w (putN kvs k b v) a)) a (putN kvs k b v) := by
  have tk : ∀ c xs, H c = some (.tup xs) → upd H a (dnO w (putN kvs k b v) a) c = some (.tup xs) := fun c xs z => by
    rw [upd_ne (ne_of z e fun z => by cases z)]
    exact z
  refine ⟨.inl upd_same, fun y hy => ?_, putN_nodup d.nd, Nat.le_trans putN_len hl, d.sys⟩
  rcases putN_mem hy with ⟨y', h1, h2, h3⟩ | ⟨h2, h3⟩
  · rw [← h2, ← h3]
    exact ⟨NK.more tk _ _ (d.keys y' h1).1, (d.keys y' h1).2⟩
  · rw [h2, h3]
    exact ⟨NK.more tk _ _ q, hd⟩
/-- d[k] = v -/
theorem n_set {v : V} {r : Value} {Q : Unit → Shared → Prop} (hu : A.units + 9 < cLine) (I : Inv X pins σ H s) (e : H a = some (dnO X.w kvs a)) (d : DN X.w H a kvs) (q : NK H k (.ref b)) (hd : k.depth ≤ 8) (rv : RelV v r)
    (h : ∀ s', Inv X pins σ (upd H a (dnO X.w (putN kvs k b v) a)) s' → Q () s') : wpAny (model X.prog X.w) A (setItem (.ref a) (.ref b) r) Q E s := by
  obtain ⟨xs, pr, dd⟩ := d.of I
  exact wpAny_setItem_heap (knd := nestedKind X.prog X.w) (hsz := by rw [← Paired.length pr]; exact d.le) (by show A.units + 1 + 8 < cLine; omega) (key_is I q hd) dd fun h' dd' hs => h _ (n_stored I e pr rv dd' hs)
/-- .. by a comprehension -/
theorem n_dictSet {v : V} {r : Value} {Q : Unit → Shared → Prop} (hu : A.units + 8 < cLine) (I : Inv X pins σ H s) (e : H a = some (dnO X.w kvs a)) (d : DN X.w H a kvs) (q : NK H k (.ref b)) (hd : k.depth ≤ 8) (rv : RelV v r)
    (h : ∀ s', Inv X pins σ (upd H a (dnO X.w (putN kvs k b v) a)) s' → Q () s') : wpAny (model X.prog X.w) A (dictSet a (.ref b) r) Q E s := by
  obtain ⟨xs, pr, dd⟩ := d.of I
  exact wpAny_dictSet_heap (knd := nestedKind X.prog X.w) (hsz := by rw [← Paired.length pr]; exact d.le) hu (key_is I q hd) dd fun h' dd' hs => h _ (n_stored I e pr rv dd' hs)
theorem dn_empty {P : Program} {w : World} {H : Hp} (h : Heap) (hb : sysModules < h.objs.size) : ObjOk P w H (h.push { cls := .type "dict", data := .dict #[] }) h.objs.size (dnO w [] h.objs.size) :=
  ⟨⟨[], _, #[], 0, .nil, Heap.get?_push_size _ rfl, ⟨rfl, rfl, rfl⟩, rfl, rfl⟩, ⟨_, Heap.get?_push_size _ rfl⟩, fun _ _ ⟨ys, o, es, ep, p1, p2, p3⟩ kp => ⟨ys, o, es, ep, p1, kp _ p2, p3⟩⟩
theorem DN.nil {w : World} (hs : (a == sysModules) = false) : DN w (upd H a (dnO w [] a)) a [] := ⟨.inl upd_same, fun _ h => (nomatch h), List.nodup_nil, Nat.zero_le _, hs⟩
theorem not_sys (I : Inv X pins σ H s) {p : Addr} (h : s.heap.objs.size ≤ p) : (p == sysModules) = false := beq_eq_false_iff_ne.mpr fun e =>
  absurd (Nat.lt_of_lt_of_le I.big h) (by rw [e]; exact Nat.lt_irrefl _)
end

/-! ### readings and rules -/
/-- {} -/
def tNew (w : World) : TE := fun _ H Q => ∀ p, H p = none → (p == sysModules) = false → Q (.ref p) (upd H p (dnO w [] p))
/-- d[y] -/
def tGet (w : World) (td ty : TE) : TE := fun σ H Q => td σ H fun x H1 => ty σ H1 fun y H2 => ∃ a b kvs k v, x = .ref a ∧ y = .ref b ∧ DN w H2 a kvs ∧ NK H2 k (.ref b) ∧ k.depth ≤ 8 ∧ atN kvs k = some v ∧ Q v H2
/-- d[y] = v -/
def sPut (w : World) (td ty tv : TE) : TS := fun D σ H => tv σ H fun v H1 => td σ H1 fun x H2 => ty σ H2 fun y H3 => ∃ a b kvs k, x = .ref a ∧ y = .ref b ∧ H3 a = some (dnO w kvs a) ∧ DN w H3 a kvs ∧ NK H3 k (.ref b) ∧ k.depth ≤ 8 ∧ D.nx σ (upd H3 a (dnO w (putN kvs k b v) a))
section
variable {X : Cx} {o i e value : Expr} {pos pos' tpos : Pos} {td ty tv : TE}
theorem pe_new : PE X (.Dict [] [] pos) (tNew X.w) := ⟨fun pins s σ H Q I h =>
  wpAny_Dict_empty ⟨.ref s.heap.objs.size, _, I.laid (a := s.heap.objs.size) (o := dnO X.w [] s.heap.objs.size) (t' := s.toks) (fun _ _ q => Heap.get?_push_of_some _ q) (Nat.le_refl _) (dn_empty s.heap I.big), rfl, h _ (I.hok.fresh (Nat.le_refl _)) (not_sys I (Nat.le_refl _))⟩⟩
theorem DN.type {pins : List (Addr × Obj)} {σ : L2.St} {H : Hp} {s : Shared} {a : Addr} {kvs : List Ent} (I : Inv X pins σ H s) (d : DN X.w H a kvs) : s.TypeIs (.ref a) "dict" := by
  obtain ⟨_, _, dd⟩ := d.of I
  exact dd.typeIs
theorem pe_get (hu : X.A.units + 9 < cLine) (ho : PE X o td) (hi : PE X i ty) (hs : NoSl i) : PE X (.Subscript o i pos) (tGet X.w td ty) := by
  refine ⟨fun pins s σ H Q I h => ?_⟩
  refine subD_of PySem.F.slot_dict_getitem.lookup hs (thn (ho.run pins s σ H _ I h) fun u s1 ⟨x, H1, I1, rx, q1⟩ => thn (hi.run pins s1 σ H1 _ I1 q1) fun iv s2 ⟨y, H2, I2, ry, a, b, kvs, k, v, ex, ey, d, nk, dp, g, q2⟩ => ?_)
  subst ex ey
  obtain rfl : u = Value.ref a := rx
  obtain rfl : iv = Value.ref b := ry
  exact ⟨d.type I2, n_get hu I2 d nk dp g fun w' s3 I3 rw' => ⟨v, H2, I3, rw', q2⟩⟩
theorem ps_put (hu : X.A.units + 9 < cLine) (ho : PE X o td) (hi : PE X i ty) (hv : PE X value tv) (hs : swapsWith value (some (.Subscript o i pos')) pos.line X.env = pure false) :
    PS X (.Assign [.Subscript o i pos'] value pos) (sPut X.w td ty tv) := by
  refine ⟨fun pins s σ H D I h => ?_⟩
  refine wpAny_Assign_Subscript (thn (hv.run pins s σ H _ I h) fun r s1 ⟨v, H1, I1, rv, q1⟩ => thn (ho.run pins s1 σ H1 _ I1 q1) fun u s2 ⟨x, H2, I2, rx, q2⟩ => thn (hi.run pins s2 σ H2 _ I2 q2) fun iv s3 ⟨y, H3, I3, ry, a, b, kvs, k, ex, ey, e, d, nk, dp, q3⟩ => ?_) hs
  subst ex ey
  obtain rfl : u = Value.ref a := rx
  obtain rfl : iv = Value.ref b := ry
  exact n_set hu I3 e d nk dp rv fun s4 I4 => ⟨σ, _, I4, q3⟩
/-- a made thing is never written again -/
def tSeal (t : TE) : TE := fun σ H Q => t σ H fun v H1 => ∃ d u, v = .ref d ∧ H1 d = some u ∧ Mut (some u) ∧ ∀ od, Q v (upd H1 d (.frz od u))
theorem pe_seal {t : TE} (he : PE X e t) : PE X e (tSeal t) := by
  refine ⟨fun pins s σ H Q I h => thn (he.run pins s σ H _ I h) fun u s1 ⟨x, H1, I1, rx, d, z, ex, hd, mu, q⟩ => ?_⟩
  obtain ⟨od, I2⟩ := I1.lock hd mu
  exact ⟨x, _, I2, rx, q od⟩
theorem DN.seal {w : World} {H : Hp} {a : Addr} {kvs : List Ent} {od : Obj} (d : DN w H a kvs) (e : H a = some (dnO w kvs a)) : DN w (upd H a (.frz od (dnO w kvs a))) a kvs :=
  ⟨.inr ⟨od, upd_same⟩, fun y hy => ⟨NK.more (fun c xs z => by rw [upd_ne (ne_of z e fun z => by cases z)]; exact z) _ _ (d.keys y hy).1, (d.keys y hy).2⟩, d.nd, d.le, d.sys⟩
end

/-! ### for k in d -/
/-- the keys' tuples of a sealed dict, in their order -/
def Itn (w : World) (d : Addr) (o : Obj) (kvs : List Ent) : It :=
  ⟨fun i H => H d = some (.frz o (dnO w kvs d)) ∧ i < kvs.length, fun i H x H' => H' = H ∧ ∃ e, kvs[i]? = some e ∧ x = .ref e.2.1, fun i H => H d = some (.frz o (dnO w kvs d)) ∧ kvs.length ≤ i⟩
theorem seen {X : Cx} {pins : List (Addr × Obj)} {σ : L2.St} {H : Hp} {s : Shared} {d : Addr} {o : Obj} {kvs : List Ent} (I : Inv X pins σ H s) (h : H d = some (.frz o (dnO X.w kvs d))) :
    s.heap.get? d = some o ∧ o.ExactDict ∧ ∃ (es : Array DictEntry) (ep : Nat), o.data = .dict es ep ∧ es.size = kvs.length ∧ ∀ (i : Nat) (e : Ent), kvs[i]? = some e → ∃ en : DictEntry, es[i]? = some en ∧ en.key = .ref e.2.1 := by
  obtain ⟨hd, ⟨xs, o', es, ep, pr, h1, h2, h3, h4⟩, _⟩ := I.hok d _ h
  rw [hd] at h1
  cases h1
  have hl := Paired.length pr
  have hz : es.size = xs.length := by
    rw [← Array.length_toList, h4, List.length_map]
  refine ⟨hd, h2, es, ep, h3, hz.trans hl.symm, fun i e he => ?_⟩
  obtain ⟨y, hy, r⟩ := paired_get pr he
  refine ⟨⟨y.1.hash X.w, .ref y.2.1, y.2.2⟩, ?_, by rw [r.2.1]⟩
  rw [← Array.getElem?_toList, h4, List.getElem?_map, hy]
  rfl
theorem turn_n {P : Program} {w : World} {K : PySem.W.Frag} {tg : Expr} {d : Addr} {o : Obj} {es : Array DictEntry} {ep : Nat} {kvs : List Ent} (it : Addr) (hod : o.data = .dict es ep) :
    Turn P w K tg (Itn w d o kvs) [it] it (fun i h => h.IsKeyIter it d i kvs.length ep) where
  mem := List.mem_singleton.mpr rfl
  obj := fun i h st b hb => by
    obtain rfl := List.mem_singleton.mp hb
    obtain ⟨oi, e, _, dd⟩ := st
    exact ⟨oi, e, fun v z => by rw [dd] at z; cases z⟩
  keep := fun i h h' st k => st.at fun oi e => k it (List.mem_singleton.mpr rfl) oi e
  item := by
    rintro X rfl rfl rfl hc i pins s σ H E I hf st ⟨hd, hi⟩
    obtain ⟨f0, f1, f2, f3, f4, f5⟩ := hf it (List.mem_singleton.mpr rfl)
    obtain ⟨hgd, hx, es', ep', hdt, hsz, ent⟩ := seen I hd
    obtain ⟨rfl, rfl⟩ := dict_ep hod hdt
    obtain ⟨en, hen, hkey⟩ := ent i kvs[i] (List.getElem?_eq_getElem hi)
    refine next_key_item st hgd hdt hsz hen fun h' st' sb => ⟨en.key, rfl, ?_⟩
    have I1 : Inv X pins σ H { s with heap := h' } := I.turned (t' := s.toks) (fun b ob n e => (sb.2 b n).trans e) f0 f1 f3 f4 f5
    obtain ⟨oi, e1, c1, d1⟩ := id st'
    refine go_of (s := { s with heap := h' }) e1 c1 d1 (by decide) ⟨.ref kvs[i].2.1, H, I1, hkey, ⟨rfl, kvs[i], List.getElem?_eq_getElem hi, rfl⟩, st', fun b hb => (hf b hb).1⟩
  done := by
    rintro X rfl rfl rfl hc i pins s σ H E I hf st ⟨hd, hi⟩
    obtain ⟨f0, f1, f2, f3, f4, f5⟩ := hf it (List.mem_singleton.mpr rfl)
    obtain ⟨hgd, hx, es', ep', hdt, hsz, ent⟩ := seen I hd
    obtain ⟨rfl, rfl⟩ := dict_ep hod hdt
    exact next_key_end (I.ok.hd hc) st hgd hdt hsz hi fun h' eb => ⟨rfl, I.turned (t' := s.toks) (fun b ob n e => eb b ob n e) f0 f1 f3 f4 f5⟩
  self := fun A i s Q E st h => wpAny_pyIter_keyiter st h
def iKeysN (w : World) (td : TE) : TI := fun σ H R => td σ H fun x H1 => ∃ d o kvs, x = .ref d ∧ H1 d = some (.frz o (dnO w kvs d)) ∧ (d == sysModules) = false ∧ R (Itn w d o kvs) H1
theorem pi_keysN {X : Cx} {tg e : Expr} {td : TE} (he : PE X e td) : PI X tg e (iKeysN X.w td) := by
  refine ⟨fun pins s σ H R I h => thn (he.run pins s σ H _ I h) fun u s1 ⟨x, H1, I1, rx, d, o, kvs, ex, hd, sy, q⟩ => ?_⟩
  subst ex
  obtain rfl : u = Value.ref d := rx
  obtain ⟨hgd, hx, es, ep, hdt, hsz, ent⟩ := seen I1 hd
  refine iter_keys sy hgd hx hdt (pi_one (tk := s1.toks) I1 _ (turn_n _ hdt) ⟨_, Heap.get?_push_size _ rfl, rfl, ?_⟩ q)
  rw [hsz]
  rfl
theorem walk_n {w : World} {d : Addr} {o : Obj} {kvs : List Ent} : Walk (Itn w d o kvs) kvs.length (fun H => H d = some (.frz o (dnO w kvs d))) (fun i H x H' => H' = H ∧ ∃ e, kvs[i]? = some e ∧ x = .ref e.2.1) :=
  ⟨fun i H hi g => ⟨g, hi⟩, fun H g => ⟨g, Nat.le_refl _⟩, fun i H x H' hi g y => y⟩
/-! ### list(d) -/
theorem cr_listN {X : Cx} (hc : X.calm = true) : CallR X (.type "list") (fun xs H Q => ∃ d kvs, xs = [V.ref d] ∧ DN X.w H d kvs ∧ ∀ p, H p = none → Q (.ref p) (upd H p (.lst (kvs.map fun e => V.ref e.2.1)))) := by
  intro pins s σ H xs us Q I r h
  obtain ⟨d, kvs, rfl, D, q⟩ := h
  obtain rfl := Vals.ref1 r
  obtain ⟨ks, pr, o, es, ep, ho, hx, hdt, he, _, _⟩ := D.of I
  have l1 : es.size = ks.length := size_of_entries he
  have l2 : kvs.length = ks.length := Paired.length pr
  have l3 := D.le
  refine PySem.W.kdl_call (kdl_raw D.sys hx hdt) (I.ok.hd hc) ho (by omega) fun h' tk acc c kp e it => ?_
  have ea : acc.toList = (kvs.map fun e => e.2.1).map Value.ref := by
    have hl : acc.toList.length = kvs.length := by rw [Array.length_toList, it.1, l1, l2]
    refine List.ext_getElem? fun j => ?_
    rw [List.getElem?_map, List.getElem?_map]
    by_cases hj : j < kvs.length
    · have h1 : acc.toList[j]? = some (acc.toList[j]'(by omega)) := List.getElem?_eq_getElem _
      obtain ⟨en, hen, hv⟩ := it.2 j _ (by rw [← Array.getElem?_toList]; exact h1)
      obtain ⟨y, hy, ry⟩ := paired_get pr (List.getElem?_eq_getElem hj)
      have qe := entry_at he j
      rw [hen, hy] at qe
      have e2 : en = entryOfKey (nestedKind X.prog X.w) y := Option.some.inj qe
      rw [h1, List.getElem?_eq_getElem hj, hv, e2]
      show some (Value.ref y.2.1) = some (Value.ref kvs[j].2.1)
      rw [ry.2.1]
    · rw [List.getElem?_eq_none (by omega), List.getElem?_eq_none (by omega)]
      rfl
  have rv : Vals (kvs.map fun e => V.ref e.2.1) acc.toList := by
    have z := vals_refs (kvs.map fun e => e.2.1)
    rw [List.map_map, ← ea] at z
    exact z
  exact ⟨.ref s.heap.objs.size, _, I.laid (t' := tk) (o := .lst (kvs.map fun e => V.ref e.2.1)) kp (Nat.le_refl _) ⟨by rw [List.length_map]; exact l3, acc.toList, c, rv, by rw [Array.toArray_toList]; exact e⟩, rfl, q _ (I.hok.fresh (Nat.le_refl _))⟩
end ND

/-! {k: v for ..}, keys nested tuples. -/
namespace ND
open PySem PySem.Spec PyProof.Rows L2
/-- D the new dict -/
def tDcN (w : World) (wi : TI) (g : TG) (tt : TT) (tk tv : TE) (vs : List Nat) : TE := fun σ H Q => wi σ H fun J H1 => ∀ D, H1 D = none → (D == sysModules) = false →
  ∃ W : Nat → Nat → Hp → Prop, (∃ m, W 0 m (upd H1 D (dnO w [] D))) ∧ ∀ i m H, W i m H → (J.stop i H ∧ Q (.ref D) H) ∨
    (J.go i H ∧ ∃ Nx : Hp → Prop, (∀ H', Nx H' → ∃ m', m' < m ∧ W (i + 1) m' H') ∧ ∀ x H', J.yld i H x H' → g x (wipe σ vs) H' fun σ2 H2 => wipe σ2 vs = wipe σ vs ∧ tt σ2 H2 fun c H3 =>
      if c = true then tk σ2 H3 fun y H4 => tv σ2 H4 fun z H5 => ∃ kvs k b, y = .ref b ∧ H5 D = some (dnO w kvs D) ∧ DN w H5 D kvs ∧ NK H5 k (.ref b) ∧ k.depth ≤ 8 ∧ Nx (upd H5 D (dnO w (putN kvs k b z) D)) else Nx H3)
section
variable {X : Cx}
theorem pe_dcN {kx vx tg iter : Expr} {ifs : List Expr} {scope : Scope} {own : List (Str × Nat)} {pos : Pos} {wi : TI} {g : TG} {tt : TT} {tk tv : TE} (hc : X.calm = true) (hN : X.N.Nodup) (hu : X.A.units + 9 < cLine) (hi : PI X tg iter wi)
    (ok : BlkOk X.N X.env.scope scope own) (hg : ∀ (s : Shared) (H : Hp) (C : Addr) (cl : List (Str × Addr)) (fp : List Addr), PG (X.blk s H scope (compEnvC scope cl C X.env) fp) tg g)
    (ht : ∀ (s : Shared) (H : Hp) (C : Addr) (cl : List (Str × Addr)) (fp : List Addr), PTs (X.blk s H scope (compEnvC scope cl C X.env) fp) ifs tt)
    (hk : ∀ (s : Shared) (H : Hp) (C : Addr) (cl : List (Str × Addr)) (fp : List Addr), PE (X.blk s H scope (compEnvC scope cl C X.env) fp) kx tk)
    (hv : ∀ (s : Shared) (H : Hp) (C : Addr) (cl : List (Str × Addr)) (fp : List Addr), PE (X.blk s H scope (compEnvC scope cl C X.env) fp) vx tv)
    (hs : ∀ x, foldedSetIterable iter X.env x = pure x := by intro _; rfl) : PE X (.DictComp kx vx [⟨tg, iter, ifs, 0⟩] scope pos) (tDcN X.w wi g tt tk tv (own.map (·.2))) := by
  refine ⟨fun pins s σ H Q I h => ?_⟩
  have fr : ∀ y ∈ scope.names, y.2 = .free → ∃ c, X.env.cells.lookup y.1 = some c := fun y hy e => (ok.free y hy e).elim (fun k => I.ok.has _ (.inl k)) fun k => I.ok.has _ (.inr k)
  rw [arm_eval_DictComp]
  refine wpAny_comprehension_free rfl hs (closure_ok fr) ok.kind (fun y hy e => (ok.uniq y hy).trans (congrArg some e)) (thn (hi.run pins s σ H _ I h) fun _ _ z => thn z fun itv s2 z2 => ?_)
  obtain ⟨it, fp, tn, J, H2, rfl, I2, T, st2, f2, q⟩ := z2
  -- the dict that is made
  have Dn : H2 s2.heap.objs.size = none := I2.hok.fresh (Nat.le_refl _)
  obtain ⟨W, ⟨m0, w0⟩, turn⟩ := q _ Dn (not_sys I2 (Nat.le_refl _))
  have old : ∀ b ∈ fp, b < s2.heap.objs.size := fun b hb => let ⟨_, e, _⟩ := T.obj _ _ st2 b hb; Heap.lt_size e
  refine wpAny_newObj_type (newEnv_comp ?_)
  have I3 : Inv X pins σ (upd H2 s2.heap.objs.size (dnO X.w [] s2.heap.objs.size)) { s2 with heap := s2.heap.push { cls := .type "dict", data := .dict #[] } } :=
    I2.laid (t' := s2.toks) (fun _ _ e => Heap.get?_push_of_some _ e) (Nat.le_refl _) (dn_empty s2.heap I2.big)
  have st3 : tn 0 (s2.heap.push { cls := .type "dict", data := .dict #[] }) := T.keep _ _ _ st2 fun _ _ _ e => Heap.get?_push_of_some _ e
  have f3 : ∀ b ∈ fp, FpOk X pins (upd H2 s2.heap.objs.size (dnO X.w [] s2.heap.objs.size)) b ∧ b < (s2.heap.push { cls := .type "dict", data := .dict #[] }).objs.size := fun b hb =>
    ⟨⟨(upd_ne (Nat.ne_of_lt (old b hb))).trans (f2 b hb).1, (f2 b hb).2⟩, by rw [Heap.size_push]; exact Nat.lt_succ_of_lt (old b hb)⟩
  generalize s2.heap.objs.size = D at Dn w0 turn I3 f3 ⊢
  generalize hs3 : ({ s2 with heap := s2.heap.push { cls := .type "dict", data := .dict #[] } } : Shared) = s3 at I3
  have e3 : s2.heap.push { cls := .type "dict", data := .dict #[] } = s3.heap := by rw [← hs3]
  rw [e3] at st3 f3
  generalize upd H2 D (dnO X.w [] D) = H3 at w0 I3 f3
  -- the block
  have I4 := block_start I3 ok hN f3
  have pg := hg s3 H3 s3.heap.objs.size (cellsFrom (s3.heap.objs.size + 1) scope.names (cloFrom X.env.cells scope.names [])) fp
  have pt := ht s3 H3 s3.heap.objs.size (cellsFrom (s3.heap.objs.size + 1) scope.names (cloFrom X.env.cells scope.names [])) fp
  have pk := hk s3 H3 s3.heap.objs.size (cellsFrom (s3.heap.objs.size + 1) scope.names (cloFrom X.env.cells scope.names [])) fp
  have pv := hv s3 H3 s3.heap.objs.size (cellsFrom (s3.heap.objs.size + 1) scope.names (cloFrom X.env.cells scope.names [])) fp
  have cL : (compEnvC scope (cellsFrom (s3.heap.objs.size + 1) scope.names (cloFrom X.env.cells scope.names [])) s3.heap.objs.size X.env).locals = s3.heap.objs.size := rfl
  have go : codeAny (model X.prog X.w) X.A (.compStart (.DictComp kx vx [⟨tg, iter, ifs, 0⟩] scope pos) 0 (.ref it) (.ref D) (compEnvC scope (cellsFrom (s3.heap.objs.size + 1) scope.names (cloFrom X.env.cells scope.names [])) s3.heap.objs.size X.env))
      (compPost (model X.prog X.w) X.A X.xe none (EP X pins σ Q) (.ref D) s3.heap.objs.size) { s3 with heap := pushCells (s3.heap.push { cls := .type "dict", data := .dict #[] }) scope.names } := by
    generalize compEnvC scope (cellsFrom (s3.heap.objs.size + 1) scope.names (cloFrom X.env.cells scope.names [])) s3.heap.objs.size X.env = ce at I4 pg pt pk pv cL ⊢
    have st4 : tn 0 (pushCells (s3.heap.push { cls := .type "dict", data := .dict #[] }) scope.names) := T.keep _ _ _ st3 fun _ _ _ e => pushCells_keeps _ _ _ _ (Heap.get?_push_of_some _ e)
    have its : ∀ {σ' : L2.St} {H' : Hp} {s' : Shared}, Inv (X.blk s3 H3 scope ce fp) [] σ' H' s' → (∀ b ∈ fp, H' b = none) → ∀ b ∈ fp, FpOk (X.blk s3 H3 scope ce fp) [] H' b := fun {σ' H' s'} J' n b hb =>
      ⟨n b hb, (J'.ok.exf b hb).1, J'.ok.exfs b hb, .inl hb, fun x c e => (J'.ok.exf b hb).2 x c e, fun p hp => nomatch (show p ∈ ([] : List (Addr × Obj)) from hp)⟩
    have run : codeAny (model X.prog X.w) X.A (.compLoop (.DictComp kx vx [⟨tg, iter, ifs, 0⟩] scope pos) 0 (.ref it) (.ref D) ce) (compPost (model X.prog X.w) X.A X.xe none (EP X pins σ Q) (.ref D) s3.heap.objs.size) { s3 with heap := pushCells (s3.heap.push { cls := .type "dict", data := .dict #[] }) scope.names } := by
      refine compLoop_anyD (fun n s' => ∃ i H', Inv (X.blk s3 H3 scope ce fp) [] (wipe σ (own.map (·.2))) H' s' ∧ tn i s'.heap ∧ (∀ b ∈ fp, H' b = none) ∧ W i n H') ?_ m0 ⟨0, H3, I4, st4, fun b hb => (f3 b hb).1.1, w0⟩
      rintro n s5 ⟨i, H5, I5, st5, n5, w5⟩
      rcases turn i n H5 w5 with ⟨stop, fin⟩ | ⟨on, Nx, dn, step⟩
      · refine thnF (T.done (X.blk s3 H3 scope ce fp) rfl rfl rfl hc i [] s5 _ H5 (fun _ _ => False) I5 (its I5 n5) st5 stop) fun r s6 ⟨er, I6⟩ => ?_
        subst er
        have back : Inv X pins σ H5 s6 := I3.call' (ch := fp) I6.os I6.base I6.hok I6.bare fun b hb => let ⟨⟨_, x1, _, x3, x4, x5⟩, _⟩ := f3 b hb; ⟨x3, x1, x4, x5⟩
        have nC : H5 s3.heap.objs.size = none := cL ▸ (show H5 ce.locals = none from I6.free)
        obtain ⟨m, hn, _⟩ := I6.loc
        have hn : s6.heap.Ns s3.heap.objs.size m := cL ▸ (show s6.heap.Ns ce.locals m from hn)
        refine ⟨m, hn, fun h'' sb => ?_⟩
        obtain ⟨y0, y1, _, y3, y4, y5⟩ := I3.fpOk (Nat.le_refl _) nC
        exact ⟨.ref D, H5, back.turned (t' := s6.toks) (fun b o ne e => (sb.2 b ne).trans e) y0 y1 y3 y4 y5, rfl, fin⟩
      · refine thnF (T.item (X.blk s3 H3 scope ce fp) rfl rfl rfl hc i [] s5 _ H5 (fun _ _ => False) I5 (its I5 n5) st5 on) fun r s6 ⟨u, er, z6⟩ => ?_
        subst er
        refine thnF z6 fun _ s7 ⟨x, H7, I7, r7, y7, st7, n7⟩ => ?_
        refine thnF (pg.run _ s7 _ H7 x u _ (I7.pinned (its I7 n7) (T.obj _ _ st7)) r7 (step x H7 y7)) fun _ s8 ⟨σ8, H8, I8, e8, q8⟩ => ?_
        have next : ∀ {s' : Shared} {H' : Hp}, Inv (X.blk s3 H3 scope ce fp) ([] ++ pinsAt fp s7.heap) σ8 H' s' → Nx H' → ∃ m, m < n ∧ ∃ i H', Inv (X.blk s3 H3 scope ce fp) [] (wipe σ (own.map (·.2))) H' s' ∧ tn i s'.heap ∧ (∀ b ∈ fp, H' b = none) ∧ W i m H' := fun {s' H'} J' nx => by
          obtain ⟨m', lt, w'⟩ := dn H' nx
          have at_ : ∀ b ∈ fp, ∀ o, s7.heap.get? b = some o → s'.heap.get? b = some o ∧ H' b = none := fun b hb o e => let ⟨p1, p2, _⟩ := J'.pin (b, o) (List.mem_append_right _ (List.mem_append_right _ (mem_pinsAt hb e))); ⟨p1, p2⟩
          refine ⟨m', lt, i + 1, H', J'.unpinned.weak (by rw [← e8, wipe_length]) (fun j v e => (wipe_some (e8 ▸ e)).1), T.keep _ _ _ st7 fun b hb o e => (at_ b hb o e).1, fun b hb => ?_, w'⟩
          obtain ⟨o, e, _⟩ := T.obj _ _ st7 b hb
          exact (at_ b hb o e).2
        refine thnF (pt.run _ s8 σ8 H8 _ I8 q8) fun c s9 ⟨H9, I9, q9⟩ => ?_
        cases c with
        | false =>
          rw [if_neg (by decide)] at q9 ⊢
          exact next I9 q9
        | true =>
          rw [if_pos rfl] at q9 ⊢
          refine thnF (pk.run _ s9 σ8 H9 _ I9 q9) fun ku s10 ⟨yk, H10, I10, r10, q10⟩ => thnF (pv.run _ s10 σ8 H10 _ I10 q10) fun vu s11 ⟨yv, H11, I11, r11, kvs, k, b, ek, eD, d, nk, dp, nx⟩ => ?_
          subst ek
          obtain rfl : ku = Value.ref b := r10
          exact n_dictSet (X := X.blk s3 H3 scope ce fp) (Nat.lt_of_succ_lt hu) I11 eD d nk dp r11 fun s12 I12 => next I12 nx
    exact codeAny_compStart_dict run (T.self X.A 0 _ _ _ st4 run)
  subst hs3
  exact go
end
/-- for blocks: the world, the written part told -/
theorem pe_getW {X : Cx} {o i : Expr} {pos : Pos} {td ty : TE} (w : World) (hu : X.A.units + 9 < cLine) (ho : PE X o td) (hi : PE X i ty) (hs : NoSl i) (hw : X.w = w := by rfl) : PE X (.Subscript o i pos) (tGet w td ty) := hw ▸ pe_get hu ho hi hs
theorem ixT (K : PySem.W.Frag) {X : Cx} (h : X.K = K := by rfl) : IxR X (rIxT K) := h ▸ ix_tup
/-! ### lcm -/
theorem cr_lcm {X : Cx} : CallR X (.builtin "math.lcm") (fun vs H Q => ∃ a b : Int, vs = [.int a, .int b] ∧ a.natAbs < 2 ^ 64 ∧ b.natAbs < 2 ^ 64 ∧ Q (.int ((Nat.lcm a.natAbs b.natAbs : Nat) : Int)) H) := by
  intro pins s σ H vs us Q I r h
  obtain ⟨a, b, rfl, ha, hb, q⟩ := h
  obtain ⟨t, u, rfl⟩ := Vals.int2 r
  exact PySem.W.mc_lcm ha hb fun _ => ⟨.int _, H, I.tok _, ⟨_, rfl⟩, q⟩
theorem room9 {k : Nat} {A : Around} (hr : Room k A) : A.units + 9 < cLine := by
  have := hr.un
  omega
end ND

namespace Ax
open PySem L2
section
variable {P : Program} {w : World} {K : PySem.W.Frag} {mg : Str → Option Value} {base : Heap} {A : Adr}
/-! ### rungs of a tuple's mantissas -/
def spRungsT : Sp := fun vs H Q _ => ∃ (k : Kd) (b most : Int) (ms : List Int) (a : Addr), vs = [.int b, .ref a] ∧ H a = some (.tup (ms.map V.int)) ∧ RArgs b k ms most ∧
  ∀ (H' : Hp) (lr : Addr) (rs : List Int) (ts : List Addr) (M : Int), Same H H' → H lr = none → M ∈ ms → (∀ m ∈ ms, m ≤ M) → H' lr = some (.lst (ts.map V.ref)) → TupsAt H' b rs ts → rs.Perm ms → rs.Pairwise (fun m n => keyOf b (lg b M) m < keyOf b (lg b M) n) → Q (.ref lr) H'
theorem ok_rungsT (T : Txt K mg A w) : FnOk P w K mg base CX0 2 A.a_rungs_of A.d_rungs_of ["base", "mantissas"] spRungsT := by
  have G_log_of : FnOk P w K mg base CX0 1 A.a_log_of A.d_log_of ["base", "number"] spLog := ok_log_of T
  have G_power_of : FnOk P w K mg base CX0 1 A.a_power_of A.d_power_of ["base", "exponent"] spPow := ok_power_of T
  refine T.F_rungs_of.ok sc_rungs_of (fun vs H Q E h => ?_) (fun cdv A0 outer s H vs Q E hr h => ?_)
  · obtain ⟨k, b, most, ms, a, rfl, _⟩ := h
    rfl
  · obtain ⟨k, b, most, ms, a, rfl, hL, R, q⟩ := h
    have hlen : (ms.map V.int).length = ms.length := List.length_map _
    have hpos : 0 < ms.length := List.length_pos_iff.mpr R.ne
    refine ⟨_, (pss_cons (ps_set (i := 2) sc_rungs_of.nd rfl (Or.inl rfl) (pe_call G_log_of (hr.mono (by decide)) (by rfl) T.m_log_of T.F_log_of.kp T.B_log_of .nil pass0 (pa_cons (pv 0) (pa_cons (pe_callB (crMax K) (by rfl) T.n_max (by decide +kernel) (pa_cons (pe_lc (own := [("mantissa", 3)]) (g := gName 3) (tt := tYes) rfl sc_rungs_of.nd (pi_tup (pv 1)) (blkOk_by (own := [("mantissa", 3)]) (N := nm_rungs_of) (sc := defScope s_rungs_of) (by decide +kernel)) (fun _ _ _ _ _ => (pg_name (i := 3) sc_rungs_of.nd rfl (Or.inl rfl))) (fun _ _ _ _ _ => pts_nil) (fun _ _ _ _ _ => (pe_callTy call_int1 (by rfl) T.n_int (by decide +kernel) (pa_cons (pv 3) pa_nil)))) pa_nil)) pa_nil))))
  (pss_cons (ps_set (i := 4) sc_rungs_of.nd rfl (Or.inr rfl) pe_dnewK)
  (pss_cons (ps_for PassesOwn.never rfl (pi_tup (pv 1)) (pg_name (i := 3) sc_rungs_of.nd rfl (Or.inl rfl))
  (pss_cons (ps_set (i := 5) sc_rungs_of.nd rfl (Or.inl rfl) (pe_un un_neg (pe_call G_log_of (hr.mono (by decide)) (by rfl) T.m_log_of T.F_log_of.kp T.B_log_of .nil pass0 (pa_cons (pv 0) (pa_cons (pv 3) pa_nil)))))
  (pss_one (ps_dput (hu_of hr) (pv 4) (pe_op op_mulW (pv 3) (pe_call G_power_of (hr.mono (by decide)) (by rfl) T.m_power_of T.F_power_of.kp T.B_power_of .nil pass0 (pa_cons (pv 0) (pa_cons (pe_op op_add (pv 2) (pv 5)) pa_nil)))) (pe_tup (pa_cons (pv 3) (pa_cons (pv 5) pa_nil))) rfl))))
  (pss_one (ps_ret (pe_lc (own := [("size", 6)]) (g := gName 6) (tt := tYes) rfl sc_rungs_of.nd (pi_list (pe_callBK (cr_sortDInt rfl) (by rfl) T.n_sorted (by decide +kernel) (pa_cons (pv 4) pa_nil) (pk_cons (pe_bltn (v := .ty "int") (by rfl) T.n_int (by decide +kernel) rfl) pk_nil))) (blkOk_by (own := [("size", 6)]) (N := nm_rungs_of) (sc := defScope s_rungs_of) (by decide +kernel)) (fun _ _ _ _ _ => (pg_name (i := 6) sc_rungs_of.nd rfl (Or.inl rfl))) (fun _ _ _ _ _ => pts_nil) (fun _ _ _ _ _ => (pe_dget (hu_of hr) (pv 4) (pv 6) (fun _ _ => rfl))))))))), ?_⟩
    -- top = log_of(base, max([..]))
    refine ⟨_, rfl, _, rfl, a, rfl, ⟨_, SqT.of hL⟩, fun D0 hD0 => lc_tup (K := K) (a := a) (xs := ms.map V.int) (fun i H' => H' = upd H D0 (.lst ((ms.take i).map V.int))) rfl ?_ ?_ ?_⟩
    · rintro i H' _ rfl
      exact SqT.of (by rw [upd_ne (ne_of_none hL hD0)]; exact hL)
    · rintro i x H' hi rfl
      obtain ⟨n, hn, rfl⟩ := map_get hi
      have hi3 : i < ms.length := (List.getElem?_eq_some_iff.mp hn).1
      refine ⟨rfl, yes_of ?_⟩
      refine ⟨_, rfl, .inl ⟨n, rfl, ?_⟩⟩
      refine ⟨_, upd_same, ?_, ?_⟩
      · rw [List.length_map, List.length_take]
        exact small1000 (by have := R.le; omega)
      · rw [upd_upd, List.take_add_one, hn, List.map_append]
        rfl
    rintro H0 rfl
    rw [hlen, List.take_length]
    have s0 : Same H (upd H D0 (.lst (ms.map V.int))) := same_new hD0
    refine ⟨D0, ms, rfl, SqL.of upd_same, hpos, fun M hM hmax => ?_⟩
    obtain ⟨M1, M2, M3⟩ := R.all M hM
    refine ⟨b, M, rfl, R.b2, lt_big R.bB (by decide), M1, lt_big M2 (by decide), fun E1 H1 s1 g1 g2 => ?_⟩
    obtain rfl := lg_eq R.b2 M1 g1 g2
    replace s1 := s0.trans s1
    refine fun d hd => ?_
    have hd0 : H d = none := s1.free hd
    refine ⟨_, rfl, a, rfl, ⟨_, SqT.of (by rw [upd_ne (ne_of_none (s1 _ _ hL) hd)]; exact s1 _ _ hL)⟩, for_tup (K := K) (a := a) (xs := ms.map V.int) (fun i σ H' => ∃ (kvs : List (Key × V)) (v1 v2 : Option V), σ = [some (.int b), some (.ref a), some (.int (lg b M : Nat)), v1, some (.ref d), v2, none] ∧ Same H H' ∧ H' d = some (.dK kvs) ∧ Ents H' b (lg b M) (ms.take i) kvs)
      ⟨[], none, none, rfl, s1.trans (same_new hd), upd_same, .nil⟩ (fun i σ H' _ ⟨kvs, v1, v2, _, s2, _⟩ => SqT.of (s2 _ _ hL)) ?_ ?_⟩
    · rintro i y σ H' hi ⟨kvs, v1, v2, rfl, s2, hD, hE⟩
      obtain ⟨m, hm, rfl⟩ := map_get hi
      have hmem : m ∈ ms := List.mem_of_getElem? hm
      obtain ⟨m1, m2, m3⟩ := R.all m hmem
      have lgm := lg_mono R.b2 m1 (hmax m hmem)
      have hi3 : i < ms.length := (List.getElem?_eq_some_iff.mp hm).1
      refine ⟨_, rfl, _, rfl, b, m, rfl, R.b2, lt_big R.bB (by decide), m1, lt_big m2 (by decide), fun E2 H2 s3 g3 g4 => ?_⟩
      obtain rfl := lg_eq R.b2 m1 g3 g4
      refine ⟨_, rfl, ?_⟩
      -- rungs[..] = (mantissa, power)
      refine ⟨_, rfl, _, rfl, (by show 2 ≤ sizeLine; decide), fun t ht => ?_⟩
      have ht2 : H' t = none := s3.free ht
      have eT : ((lg b M : Nat) + -(lg b m : Nat) : Int).toNat = lg b M - lg b m := by omega
      have pB : b ^ (lg b M - lg b m) < BIG := by
        have h1 := pow_le' (b := b) (by have := R.b2; omega) (Nat.sub_le (lg b M) (lg b m))
        have h2 := (lg_spec R.b2 M1).1
        have h3 := lt_big (n := 64) M2 (by decide)
        omega
      have p1 := pow_pos' (b := b) (by have := R.b2; omega) (lg b M - lg b m)
      refine ⟨_, rfl, _, rfl, _, rfl, _, rfl, _, rfl, _, _, rfl, rfl, b, _, rfl, by have := R.b2; omega, ?_, ?_, lt_big R.bB (by decide), ?_⟩
      · show (0 : Int) ≤ (lg b M : Nat) + -(lg b m : Nat)
        omega
      · rw [eT]
        exact pB
      · rw [eT]
        refine ⟨_, _, rfl, rfl, mulBig (by omega) (big_le (lt_big m2 (by decide))) (by omega) (big_le pB), ?_⟩
        have kn : valV kvs (.inl (keyOf b (lg b M) m)) = none := hE.no fun n hn => fun z => by
          obtain ⟨j, hj, ej⟩ := List.getElem_of_mem hn
          rw [List.length_take] at hj
          rw [List.getElem_take] at ej
          have nm : n ∈ ms := by rw [← ej]; exact List.getElem_mem _
          obtain ⟨n1, n2, n3⟩ := R.all n nm
          have e := key_inj R.b2 n3 m3 (lg_mono R.b2 n1 (hmax n nm)) lgm z
          have hj2 : ms[j]'(by omega) = ms[i]'hi3 := by
            rw [ej, e]
            exact ((List.getElem?_eq_some_iff.mp hm).2).symm
          have := (List.getElem_inj R.nd).mp hj2
          omega
        have hd3 : upd H2 t (.tup [.int m, .int (-(lg b m : Int))]) d = some (.dK kvs) := by
          rw [upd_ne (ne_of_none (s3 _ _ hD) ht)]
          exact s3 _ _ hD
        have hlk : kvs.length = i := by
          rw [← hE.len, List.length_take]
          omega
        refine ⟨d, _, rfl, DPut.k (k := .inl (keyOf b (lg b M) m)) hd3 (small1000 (by have := R.le; omega)), ?_⟩
        rw [putK_new _ kn]
        have ntd : t ≠ d := fun z => by
          rw [z, s3 _ _ hD] at ht
          cases ht
        refine ⟨kvs ++ [(.inl (keyOf b (lg b M) m), .ref t)], _, _, rfl, fun c o e => ?_, upd_same, ?_⟩
        · rw [upd_ne (ne_of_none e hd0), upd_ne (ne_of_none (s3 _ _ (s2 _ _ e)) ht)]
          exact s3 _ _ (s2 _ _ e)
        · have et : ms.take (i + 1) = ms.take i ++ [m] := by
            rw [List.take_add_one, hm]
            rfl
          rw [et]
          refine Ents.snoc ?_ ⟨t, rfl, by rw [upd_ne ntd, upd_same]⟩
          exact hE.but fun c xs e => by
            have ncd : c ≠ d := fun z => by
              rw [z, hD] at e
              cases e
            rw [upd_ne ncd, upd_ne (ne_of_none (s3 _ _ e) ht)]
            exact s3 _ _ e
    · rintro σ H' ⟨kvs, v1, v2, rfl, s2, hD, hE⟩
      rw [hlen, List.take_length] at hE
      have few : (ms.map (keyOf b (lg b M))).length < 64 := by rw [List.length_map]; have := R.le; omega
      refine ⟨_, rfl, d, kvs, ms.map (keyOf b (lg b M)), rfl, rfl, .inl hD, hE.keys, few, fun zs p hp1 hp2 hp => ?_⟩
      obtain ⟨rs, pr, rfl⟩ := perm_lift hp1
      have lgle : ∀ m ∈ ms, lg b m ≤ lg b M := fun m hm => lg_mono R.b2 (R.all m hm).1 (hmax m hm)
      have lz : ((rs.map (keyOf b (lg b M))).map V.int).length = rs.length := by rw [List.length_map, List.length_map]
      have s3 : Same H' (upd H' p (.lst ((rs.map (keyOf b (lg b M))).map V.int))) := same_new hp
      have hD3 := s3 _ _ hD
      have hE3 := hE.same s3
      have s03 := s2.trans s3
      refine ⟨p, rfl, ⟨_, SqL.of upd_same⟩, fun D hDn => lc_list (K := K) (a := p) (xs := (rs.map (keyOf b (lg b M))).map V.int) (fun i H'' => ∃ ts : List Addr, H'' = upd (upd H' p (.lst ((rs.map (keyOf b (lg b M))).map V.int))) D (.lst (ts.map V.ref)) ∧ ts.length = i ∧ TupsAt (upd H' p (.lst ((rs.map (keyOf b (lg b M))).map V.int))) b (rs.take i) ts)
        ⟨[], rfl, rfl, .nil⟩ ?_ ?_ ?_⟩
      · rintro i H'' _ ⟨ts, rfl, _⟩
        have npD : p ≠ D := fun z => by rw [← z, upd_same] at hDn; cases hDn
        exact SqL.of (by rw [upd_ne npD, upd_same])
      · rintro i x H'' hi ⟨ts, rfl, ht1, ht2⟩
        obtain ⟨z, hz, rfl⟩ := map_get hi
        rw [List.getElem?_map] at hz
        obtain ⟨m, hm, rfl⟩ : ∃ m, rs[i]? = some m ∧ z = keyOf b (lg b M) m := by
          cases e : rs[i]? with
          | none =>
            rw [e] at hz
            cases hz
          | some m =>
            rw [e] at hz
            exact ⟨m, rfl, (Option.some.inj hz).symm⟩
        have hm2 : m ∈ ms := pr.mem_iff.mp (List.mem_of_getElem? hm)
        obtain ⟨t, hv, htup⟩ := hE3.val hm2 fun n hn e => key_inj R.b2 (R.all n hn).2.2 (R.all m hm2).2.2 (lgle n hn) (lgle m hm2) e
        refine ⟨rfl, yes_of ?_⟩
        have dn := ne_of_none hD3 hDn
        refine ⟨_, rfl, _, rfl, d, .ref t, rfl, ?_, ?_⟩
        · rw [← hv]
          exact DGet.k (k := .inl (keyOf b (lg b M) m)) (by rw [upd_ne dn]; exact hD3)
        · refine ⟨_, upd_same, ?_, ts ++ [t], ?_, ?_, ?_⟩
          · rw [List.length_map, ht1]
            have := (List.getElem?_eq_some_iff.mp hm).1
            rw [pr.length_eq] at this
            exact small1000 (by have := R.le; omega)
          · rw [upd_upd, List.map_append]
            rfl
          · rw [List.length_append, ht1]
            rfl
          · rw [List.take_add_one, hm]
            exact TupsAt.snoc ht2 htup
      · rintro H'' ⟨ts, rfl, ht1, ht2⟩
        rw [lz, List.take_length] at ht2
        have s6 := same_new (o := .lst (ts.map V.ref)) hDn
        refine q _ D rs ts M (s03.trans s6) (s03.free hDn) hM hmax upd_same (ht2.same fun c xs e => s6 _ _ e) pr ?_
        have nd : (rs.map (keyOf b (lg b M))).Nodup := nodup_map (pr.nodup_iff.mpr R.nd) fun x hx y hy e => key_inj R.b2 (R.all x (pr.mem_iff.mp hx)).2.2 (R.all y (pr.mem_iff.mp hy)).2.2 (lgle x (pr.mem_iff.mp hx)) (lgle y (pr.mem_iff.mp hy)) e
        have := strict hp2 nd
        rwa [List.pairwise_map] at this
/-! ### a ladder of one's own -/
structure RG (H : Hp) (lr : Addr) (b : Int) (rs : List Int) (ts : List Addr) (top : Nat) : Prop where
  lr_ : H lr = some (.lst (ts.map V.ref))
  tup : TupsAt H b rs ts
  R : Rungs b rs top
  le : rs.length < 60
theorem RG.same {H H' : Hp} {lr : Addr} {b : Int} {rs : List Int} {ts : List Addr} {top : Nat} (x : RG H lr b rs ts top) (s : Same H H') : RG H' lr b rs ts top := ⟨s _ _ x.lr_, x.tup.same fun c xs e => s _ _ e, x.R, x.le⟩
theorem RG.len {H : Hp} {lr : Addr} {b : Int} {rs : List Int} {ts : List Addr} {top : Nat} (x : RG H lr b rs ts top) : (ts.map V.ref).length = rs.length := by
  rw [List.length_map, x.tup.len]
/-! ### step_at -/
def spAtG : Sp := fun vs H Q _ => ∃ (lr : Addr) (i : Int) (b : Int) (rs : List Int) (ts : List Addr) (top : Nat), vs = [.ref lr, .int i] ∧ RG H lr b rs ts top ∧
  ∀ (H' : Hp) (q : Addr), Same H H' → H q = none → H' q = some (.tup [.int (sAt b rs i).1, .int (sAt b rs i).2]) → Q (.ref q) H'
theorem ok_step_atG (T : Txt K mg A w) : FnOk P w K mg base CX0 1 A.a_step_at A.d_step_at ["rungs", "number"] spAtG := by
  refine T.F_step_at.ok sc_step_at (fun vs H Q E h => ?_) (fun cdv A0 outer s H vs Q E hr h => ?_)
  · obtain ⟨lr, i, b, rs, ts, top, rfl, _⟩ := h
    rfl
  · obtain ⟨lr, i, b, rs, ts, top, rfl, x, q⟩ := h
    have X := x.R
    have hn : 0 < (rs.length : Int) := by have := X.ne; omega
    have hl : ((ts.map V.ref).length : Int) = rs.length := by rw [x.len]
    have lrs : rs.length < 60 := x.le
    refine ⟨_, (pss_cons (ps_asg (pe_callB call_divmodW (by rfl) T.n_divmod (by decide +kernel) (pa_cons (pv 1) (pa_cons (pe_callB call_len_seq (by rfl) T.n_len (by decide +kernel) (pa_cons (pv 0) pa_nil)) pa_nil))) (pg_tup (by rfl) (pgs_cons (pg_name (i := 2) sc_step_at.nd rfl (Or.inl rfl)) (pgs_cons (pg_name (i := 3) sc_step_at.nd rfl (Or.inl rfl)) pgs_nil))))
  (pss_cons (ps_asg (pe_ix ix_list (pv 0) (pv 3) (fun _ _ => rfl)) (pg_tup (by rfl) (pgs_cons (pg_name (i := 4) sc_step_at.nd rfl (Or.inl rfl)) (pgs_cons (pg_name (i := 5) sc_step_at.nd rfl (Or.inl rfl)) pgs_nil))))
  (pss_one (ps_ret (pe_tup (pa_cons (pv 4) (pa_cons (pe_op op_add (pv 2) (pv 5)) pa_nil))))))), ?_⟩
    refine ⟨_, rfl, _, rfl, lr, _, rfl, .inl (SqL.of x.lr_), i, _, rfl, ⟨by omega, PyProof.noPylong_of_log2 ?_⟩, fun q1 hq1 => ?_⟩
    · rw [hl, Int.natAbs_natCast]
      exact Nat.lt_of_le_of_lt (Nat.log2_le_self _) (by omega)
    refine ⟨q1, _, rfl, SqT.of upd_same, rfl, _, _, rfl, _, _, rfl, rfl, ?_⟩
    have s1 : Same H (upd H q1 (.tup [.int (i / ((ts.map V.ref).length : Nat)), .int (i % ((ts.map V.ref).length : Nat))])) := same_new hq1
    have x1 := x.same s1
    have f1 := Int.emod_nonneg i (show (rs.length : Int) ≠ 0 by omega)
    have f2 := Int.emod_lt_of_pos i hn
    have lt : (i % rs.length).toNat < rs.length := by omega
    have eg : rs[(i % rs.length).toNat]? = some (sAt b rs i).1 := by
      show _ = some (rs.getD (i % rs.length).toNat 1)
      rw [List.getD_eq_getElem?_getD, List.getElem?_eq_getElem lt]
      rfl
    obtain ⟨t, ht, htup⟩ := x1.tup.get eg
    have hat : atI (ts.map V.ref) (i % ((ts.map V.ref).length : Nat)) = some (.ref t) := by
      refine at_of (j := (i % rs.length).toNat) (by rw [hl]; omega) ?_
      rw [List.getElem?_map, ht]
      rfl
    refine ⟨_, rfl, _, rfl, lr, _, _, _, rfl, rfl, SqL.of x1.lr_, hat, ?_⟩
    refine ⟨t, _, rfl, SqT.of htup, rfl, _, _, rfl, _, _, rfl, rfl, ?_⟩
    refine ⟨_, rfl, _, rfl, _, rfl, _, _, rfl, rfl, (by show 2 ≤ sizeLine; decide), fun q2 hq2 => ?_⟩
    refine q _ q2 (s1.trans (same_new hq2)) (s1.free hq2) ?_
    rw [upd_same, hl]
    rfl
/-! ### low_rung -/
def spLowG : Sp := fun vs H Q _ => ∃ (lr : Addr) (l h d : Int) (b : Int) (most : Int) (rs : List Int) (ts : List Addr) (top : Nat), vs = [.int b, .ref lr, .int most, .int (h - l), .int d] ∧ RG H lr b rs ts top ∧ b < 2 ^ 64 ∧ 1 ≤ most ∧ most < 2 ^ 60 ∧ l < h ∧ h - l < 2 ^ 1000 ∧ 0 ≤ d ∧ d < 2 ^ 20 ∧
  ∀ H' : Hp, Same H H' → Q (.int (lowQ b most l h d * rs.length)) H'
theorem ok_lowG (T : Txt K mg A w) : FnOk P w K mg base CX0 2 A.a_low_rung A.d_low_rung ["base", "rungs", "most", "length", "digits"] spLowG := by
  have G_log_of : FnOk P w K mg base CX0 1 A.a_log_of A.d_log_of ["base", "number"] spLog := ok_log_of T
  refine T.F_low_rung.ok sc_low_rung (fun vs H Q E h => ?_) (fun cdv A0 outer s H vs Q E hr h => ?_)
  · obtain ⟨lr, l, h, d, b, most, rs, ts, top, rfl, _⟩ := h
    rfl
  · obtain ⟨lr, l, h, d, b, most, rs, ts, top, rfl, x, bB, m1, mB, hlt, hB, hd, hdB, q⟩ := h
    have X := x.R
    have lrs : rs.length < 60 := x.le
    refine ⟨_, (pss_cons (ps_set (i := 5) sc_low_rung.nd rfl (Or.inl rfl) (pe_op op_add (pe_call G_log_of (hr.mono (by decide)) (by rfl) T.m_log_of T.F_log_of.kp T.B_log_of .nil pass0 (pa_cons (pv 0) (pa_cons (pe_op op_add (pv 2) pe_int) pa_nil))) pe_int))
  (pss_one (ps_ret (pe_op op_mulW (pe_op op_sub (pe_op op_sub (pe_call G_log_of (hr.mono (by decide)) (by rfl) T.m_log_of T.F_log_of.kp T.B_log_of .nil pass0 (pa_cons (pv 0) (pa_cons (pv 3) pa_nil))) (pv 4)) (pv 5)) (pe_callB call_len_seq (by rfl) T.n_len (by decide +kernel) (pa_cons (pv 1) pa_nil)))))), ?_⟩
    have m61 : most + 1 < 2 ^ 61 := by
      have : (2 : Int) ^ 60 + 1 ≤ 2 ^ 61 := by decide
      omega
    refine ⟨_, rfl, _, rfl, _, _, rfl, rfl,
      b, most + 1, rfl, X.b2, lt_big bB (by decide), by omega, lt_big (n := 61) m61 (by decide), fun E1 H1 s1 g1 g2 => ?_⟩
    obtain rfl := lg_eq X.b2 (by omega) g1 g2
    refine ⟨_, _, rfl, rfl, ?_⟩
    have x1 := x.same s1
    refine ⟨_, rfl, _, rfl, b, h - l, rfl, X.b2, lt_big bB (by decide), by omega, lt_big (n := 1000) hB (by decide), fun E2 H2 s2 g3 g4 => ?_⟩
    obtain rfl := lg_eq X.b2 (by omega) g3 g4
    have x2 := x1.same s2
    refine ⟨_, rfl, _, _, rfl, rfl, _, rfl, _, _, rfl, rfl, ?_⟩
    refine ⟨_, rfl, lr, _, rfl, .inl (SqL.of x2.lr_), _, _, rfl, rfl, ?_, ?_⟩
    · have e1 := exp_lt X.b2 (Int.lt_of_le_of_lt g3 hB)
      have e2 := exp_lt (n := 61) X.b2 (Int.lt_of_le_of_lt g1 m61)
      refine wide_mul (a := 30) (b := 30) ?_ ?_ (by decide) (by decide) (by decide)
      · have : (2 : Nat) ^ 30 = 1073741824 := by decide
        have : (2 : Int) ^ 20 = 1048576 := by decide
        omega
      · rw [x.len, Int.natAbs_natCast]
        have : (2 : Nat) ^ 30 = 1073741824 := by decide
        omega
    · have e := q H2 (s1.trans s2)
      rw [x.len]
      exact e
end
end Ax

namespace Ax
/-! ### a common multiple added to both ends -/
section
variable {b : Int} {ms : List Int} {k : Kd} {n l h d m p s : Int}
theorem div_add (hs : 0 < s) (x c : Int) : (x + c * s) / s = x / s + c := Int.add_mul_ediv_right x c (by omega)
theorem ceil_add (hs : 0 < s) (x c : Int) : -(-(x + c * s) / s) = -(-x / s) + c := by
  have e : -(x + c * s) = -x + -c * s := by rw [Int.neg_mul]; omega
  rw [e, div_add hs]
  omega
theorem reach_shift (hs : 0 < s) (c : Int) : h + c * s ≤ reachZ k n (l + c * s) s ↔ h ≤ reachZ k n l s := by
  cases k with
  | len =>
    show h + c * s ≤ l + c * s + n * s ↔ h ≤ l + n * s
    omega
  | cov =>
    show h + c * s ≤ ((l + c * s) / s + n) * s ↔ h ≤ (l / s + n) * s
    rw [div_add hs, show l / s + c + n = l / s + n + c by omega, Int.add_mul (l / s + n)]
    omega
  | ins =>
    show h + c * s ≤ (-(-(l + c * s) / s) + n) * s - 1 ↔ h ≤ (-(-l / s) + n) * s - 1
    rw [ceil_add hs, show -(-l / s) + c + n = -(-l / s) + n + c by omega, Int.add_mul (-(-l / s) + n)]
    omega
theorem marks_shift (hs : 0 < s) (c : Int) : lstZ k (h + c * s) s - fstZ k (l + c * s) s = lstZ k h s - fstZ k l s := by
  unfold fstZ lstZ
  split
  · rw [div_add hs, ceil_add hs]
    omega
  · rw [div_add hs, ceil_add hs]
    omega
/-- the shift is a multiple of each step up to a power -/
structure Common (b : Int) (ms : List Int) (sh : Int) (W : Nat) : Prop where
  two : 2 ≤ b
  one : ∀ m ∈ ms, 1 ≤ m
  div : ∀ m ∈ ms, ∃ c : Int, sh = c * m * b ^ W
theorem Common.at {sh : Int} {W : Nat} (C : Common b ms sh W) (hm : m ∈ ms) {e : Int} (he : e ≤ W) : ∃ c : Int, sh * facZ b e = c * sizZ b m e := by
  obtain ⟨c, hc⟩ := C.div m hm
  unfold facZ sizZ
  by_cases z : 0 ≤ e
  · rw [if_pos z, if_pos z]
    refine ⟨c * b ^ (W - e.toNat), ?_⟩
    obtain ⟨u, hu⟩ : ∃ u : Nat, W = u + e.toNat := ⟨W - e.toNat, by omega⟩
    rw [hc, Int.mul_one, hu, pow_add', Nat.add_sub_cancel]
    generalize b ^ u = x
    generalize b ^ e.toNat = y
    rw [Int.mul_assoc c m, Int.mul_assoc c x, Int.mul_left_comm m x y]
  · rw [if_neg z, if_neg z]
    refine ⟨c * b ^ W * b ^ (-e).toNat, ?_⟩
    rw [hc]
    generalize b ^ W = x
    generalize b ^ (-e).toNat = y
    rw [Int.mul_assoc c m x, Int.mul_comm m x, ← Int.mul_assoc c x m, Int.mul_assoc (c * x) m y, Int.mul_comm m y, ← Int.mul_assoc]
theorem big_fits {W : Nat} {most l h m e : Int} (hb : 2 ≤ b) (hm : 1 ≤ m) (h1 : 1 ≤ most) (h2 : k = .cov → 2 ≤ most) (hW : h - l < b ^ W) (he : (W : Int) ≤ e) : FitE b k most l h m e := by
  unfold FitE facZ sizZ
  rw [if_pos (by omega), if_pos (by omega), Int.mul_one, Int.mul_one]
  have p1 := pow_le' (b := b) (by omega) (show W ≤ e.toNat by omega)
  have p2 := Int.mul_le_mul_of_nonneg_right hm (show 0 ≤ b ^ e.toNat by have := pow_pos' (b := b) (by omega) e.toNat; omega)
  have p3 := pow_pos' (b := b) (by omega) e.toNat
  exact fit_big h1 h2 (by omega) (by omega)
theorem fitE_shift {sh : Int} {W : Nat} {most : Int} (C : Common b ms sh W) (hm : m ∈ ms) (h1 : 1 ≤ most) (h2 : k = .cov → 2 ≤ most) (hW : h - l < b ^ W) {e : Int} : FitE b k most (l + sh) (h + sh) m e ↔ FitE b k most l h m e := by
  have m1 := C.one m hm
  by_cases z : (W : Int) ≤ e
  · exact ⟨fun _ => big_fits C.two m1 h1 h2 hW z, fun _ => big_fits C.two m1 h1 h2 (by omega) z⟩
  · obtain ⟨c, hc⟩ := C.at hm (e := e) (by omega)
    unfold FitE
    rw [Int.add_mul, Int.add_mul, hc]
    have := siz_pos (e := e) (show 1 ≤ b by have := C.two; omega) m1
    exact reach_shift (by omega) c
theorem LeastFit.shift {sh : Int} {W : Nat} {most : Int} (C : Common b ms sh W) (h1 : 1 ≤ most) (h2 : k = .cov → 2 ≤ most) (hW : h - l < b ^ W) (L : LeastFit b ms k most l h d m p) : LeastFit b ms k most (l + sh) (h + sh) d m p :=
  ⟨L.mem, (fitE_shift C L.mem h1 h2 hW).mpr L.fit, fun m' hm' p' s q => L.least m' hm' p' s ((fitE_shift C hm' h1 h2 hW).mp q)⟩
theorem LeastFit.low {W : Nat} {most : Int} (hb : 2 ≤ b) (m1 : 1 ≤ m) (h1 : 1 ≤ most) (h2 : k = .cov → 2 ≤ most) (hW : h - l < b ^ W) (L : LeastFit b ms k most l h d m p) : p + d ≤ W := by
  apply Int.not_lt.mp
  intro c
  refine L.least m L.mem (p - 1) ⟨p.natAbs + 1, ?_, ?_, ?_⟩ (big_fits hb m1 h1 h2 hW (by omega))
  · show 0 ≤ (p.natAbs : Int) + 1 + (p - 1)
    omega
  · show 0 ≤ (p.natAbs : Int) + 1 + p
    omega
  · show m * b ^ ((p.natAbs : Int) + 1 + (p - 1)).toNat < m * b ^ ((p.natAbs : Int) + 1 + p).toNat
    rw [show ((p.natAbs : Int) + 1 + p).toNat = ((p.natAbs : Int) + 1 + (p - 1)).toNat + 1 by omega, Int.pow_succ]
    have p1 := pow_pos' (b := b) (by omega) ((p.natAbs : Int) + 1 + (p - 1)).toNat
    generalize b ^ ((p.natAbs : Int) + 1 + (p - 1)).toNat = x at p1 ⊢
    have q1 := Int.mul_lt_mul_of_pos_left (show 1 < b by omega) (show 0 < x by omega)
    rw [Int.mul_one] at q1
    exact Int.mul_lt_mul_of_pos_left q1 (by omega)
theorem count_shift {sh : Int} {W : Nat} {e : Int} (C : Common b ms sh W) (hm : m ∈ ms) (he : e ≤ W) : lstZ k ((h + sh) * facZ b e) (sizZ b m e) - fstZ k ((l + sh) * facZ b e) (sizZ b m e) = lstZ k (h * facZ b e) (sizZ b m e) - fstZ k (l * facZ b e) (sizZ b m e) := by
  obtain ⟨c, hc⟩ := C.at hm he
  have := siz_pos (e := e) (show 1 ≤ b by have := C.two; omega) (C.one m hm)
  rw [Int.add_mul, Int.add_mul, hc]
  exact marks_shift (by omega) c
end
end Ax

namespace Ax
/-! # rules of which each step divides the next greater one -/
theorem sorted_eq : ∀ {l₁ l₂ : List Int}, l₁.Perm l₂ → l₁.Pairwise (· ≤ ·) → l₂.Pairwise (· ≤ ·) → l₁ = l₂
  | [], _, p, _, _ => p.nil_eq
  | a :: r, [], p, _, _ => absurd p.length_eq (by simp)
  | a :: r, b :: s, p, s1, s2 => by
    have h1 := List.pairwise_cons.mp s1
    have h2 := List.pairwise_cons.mp s2
    have e : a = b := by
      rcases List.mem_cons.mp (p.mem_iff.mp (List.mem_cons_self ..)) with z | z
      · exact z
      · rcases List.mem_cons.mp (p.mem_iff.mpr (List.mem_cons_self ..)) with y | y
        · exact y.symm
        · have := h1.1 b y
          have := h2.1 a z
          omega
    subst e
    rw [sorted_eq (p.cons_inv) h1.2 h2.2]
def ins (a : Int) : List Int → List Int
  | [] => [a]
  | b :: r => if a ≤ b then a :: b :: r else b :: ins a r
def isort : List Int → List Int
  | [] => []
  | a :: r => ins a (isort r)
theorem ins_perm (a : Int) : ∀ l : List Int, (ins a l).Perm (a :: l)
  | [] => .refl _
  | b :: r => by
    unfold ins
    split
    · exact .refl _
    · exact ((ins_perm a r).cons b).trans (.swap a b r)
theorem isort_perm : ∀ l : List Int, (isort l).Perm l
  | [] => .refl _
  | a :: r => (ins_perm a (isort r)).trans ((isort_perm r).cons a)
theorem ins_sorted (a : Int) : ∀ {l : List Int}, l.Pairwise (· ≤ ·) → (ins a l).Pairwise (· ≤ ·)
  | [], _ => List.pairwise_singleton _ _
  | b :: r, h => by
    unfold ins
    have h2 := List.pairwise_cons.mp h
    split
    · rename_i c
      exact List.pairwise_cons.mpr ⟨fun x hx => by
        rcases List.mem_cons.mp hx with rfl | z
        · exact c
        · have := h2.1 x z
          omega, h⟩
    · rename_i c
      exact List.pairwise_cons.mpr ⟨fun x hx => by
        rcases List.mem_cons.mp ((ins_perm a r).mem_iff.mp hx) with rfl | z
        · omega
        · exact h2.1 x z, ins_sorted a h2.2⟩
theorem isort_sorted : ∀ l : List Int, (isort l).Pairwise (· ≤ ·)
  | [] => .nil
  | a :: r => ins_sorted a (isort_sorted r)
theorem eq_isort {l l' : List Int} (p : l'.Perm l) (s : l'.Pairwise (· ≤ ·)) : l' = isort l := sorted_eq (p.trans (isort_perm l).symm) s (isort_sorted l)
/-- of the steps of these mantissas one that is not greater divides, tried for a few powers -/
def DvT (b : Int) (ms : List Int) : Prop := ∀ m ∈ ms, ∀ n ∈ ms, ∀ j ∈ List.range 7, m * b ^ 3 ≤ n * b ^ j → n * b ^ j % (m * b ^ 3) = 0
instance {b : Int} {ms : List Int} : Decidable (DvT b ms) := inferInstanceAs (Decidable (∀ m ∈ ms, _))
theorem dvT_le {b : Int} {ms : List Int} (D : DvT b ms) (b2 : 2 ≤ b) (m7 : ∀ m ∈ ms, 1 ≤ m ∧ m ≤ 7) {m n : Int} (hm : m ∈ ms) (hn : n ∈ ms) {x y : Nat} (h : m * b ^ x ≤ n * b ^ y) : m * b ^ x ∣ n * b ^ y := by
  have pp : ∀ k : Nat, 1 ≤ b ^ k := fun k => pow_pos' (by omega) k
  have cube : (8 : Int) ≤ b ^ 3 := by
    have a1 : 2 * 2 ≤ b * b := Int.mul_le_mul b2 b2 (by decide) (by omega)
    have a2 : 2 * 2 * 2 ≤ b * b * b := Int.mul_le_mul a1 b2 (by decide) (by omega)
    have e : b ^ 3 = b * b * b := by rw [Int.pow_succ, Int.pow_succ, Int.pow_succ, Int.pow_zero, Int.one_mul]
    rw [e]
    exact a2
  obtain ⟨m1, m2⟩ := m7 m hm
  obtain ⟨n1, n2⟩ := m7 n hn
  have tab : ∀ j : Nat, j ≤ 6 → m * b ^ 3 ≤ n * b ^ j → m * b ^ 3 ∣ n * b ^ j := fun j hj hle => Int.dvd_of_emod_eq_zero (D m hm n hn j (List.mem_range.mpr (by omega)) hle)
  have p3 := pp 3
  rcases Nat.le_total x y with c | c
  · obtain ⟨k, rfl⟩ := Nat.exists_eq_add_of_le c
    have px := pp x
    have e1 : n * b ^ (x + k) = n * b ^ k * b ^ x := by rw [pow_add', Int.mul_comm (b ^ x), ← Int.mul_assoc]
    rw [e1] at h ⊢
    have hk : m ≤ n * b ^ k := Int.le_of_mul_le_mul_right h (by omega)
    have key : m ∣ n * b ^ k := by
      by_cases c3 : k ≤ 3
      · have e2 : n * b ^ (k + 3) = n * b ^ k * b ^ 3 := by rw [pow_add', ← Int.mul_assoc]
        have t := tab (k + 3) (by omega) (by rw [e2]; exact Int.mul_le_mul_of_nonneg_right hk (by omega))
        rw [e2] at t
        exact Int.dvd_of_mul_dvd_mul_right (by omega) t
      · have e2 : n * b ^ 6 = n * b ^ 3 * b ^ 3 := by rw [show (6 : Nat) = 3 + 3 by rfl, pow_add', ← Int.mul_assoc]
        have n3 : b ^ 3 ≤ n * b ^ 3 := by
          have := Int.mul_le_mul_of_nonneg_right n1 (show 0 ≤ b ^ 3 by omega)
          omega
        have t := tab 6 (by omega) (by rw [e2]; exact Int.mul_le_mul_of_nonneg_right (by omega) (by omega))
        rw [e2] at t
        have t2 := Int.dvd_of_mul_dvd_mul_right (by omega) t
        have e3 : n * b ^ k = n * b ^ 3 * b ^ (k - 3) := by
          rw [Int.mul_assoc, ← pow_add']
          congr 2
          omega
        rw [e3]
        exact Int.dvd_mul_of_dvd_left t2
    exact Int.mul_dvd_mul key (Int.dvd_refl _)
  · obtain ⟨k, rfl⟩ := Nat.exists_eq_add_of_le c
    have py := pp y
    have e1 : m * b ^ (y + k) = m * b ^ k * b ^ y := by rw [pow_add', Int.mul_comm (b ^ y), ← Int.mul_assoc]
    rw [e1] at h ⊢
    have hk : m * b ^ k ≤ n := Int.le_of_mul_le_mul_right h (by omega)
    have key : m * b ^ k ∣ n := by
      by_cases c3 : k ≤ 3
      · have e2 : m * b ^ 3 = m * b ^ k * b ^ (3 - k) := by
          rw [Int.mul_assoc, ← pow_add']
          congr 2
          omega
        have p4 := pp (3 - k)
        have t := tab (3 - k) (by omega) (by rw [e2]; exact Int.mul_le_mul_of_nonneg_right hk (by omega))
        rw [e2] at t
        exact Int.dvd_of_mul_dvd_mul_right (by omega) t
      · have e2 : b ^ k = b ^ 3 * b ^ (k - 3) := by
          rw [← pow_add']
          congr 1
          omega
        have p4 := pp (k - 3)
        have a1 : b ^ 3 * 1 ≤ b ^ 3 * b ^ (k - 3) := Int.mul_le_mul_of_nonneg_left p4 (by omega)
        have a2 : 1 * b ^ k ≤ m * b ^ k := Int.mul_le_mul_of_nonneg_right m1 (by have := pp k; omega)
        omega
    exact Int.mul_dvd_mul key (Int.dvd_refl _)
end Ax

namespace Ax
/-! # the same range told with more digits -/
theorem fac_siz {b m p : Int} (x : Nat) (b1 : 1 ≤ b) : ∃ c : Int, 1 ≤ c ∧ facZ b (p + x) * b ^ x = facZ b p * c ∧ sizZ b m (p + x) = sizZ b m p * c := by
  unfold facZ sizZ
  by_cases h : 0 ≤ p
  · refine ⟨b ^ x, pow_pos' b1 x, ?_, ?_⟩
    · rw [if_pos h, if_pos (by omega)]
    · rw [if_pos h, if_pos (by omega), Int.mul_assoc, ← pow_add']
      congr 2
      omega
  · by_cases h2 : 0 ≤ p + x
    · refine ⟨b ^ (p + x).toNat, pow_pos' b1 _, ?_, ?_⟩
      · rw [if_neg h, if_pos h2, Int.one_mul, ← pow_add']
        congr 1
        omega
      · rw [if_neg h, if_pos h2]
    · refine ⟨1, Int.le_refl _, ?_, ?_⟩
      · rw [if_neg h, if_neg h2, Int.mul_one, ← pow_add']
        congr 1
        omega
      · rw [if_neg h, if_neg h2, Int.mul_one]
theorem fst_scale {k : Kd} {l s c : Int} (hc : 1 ≤ c) (hs : 1 ≤ s) : fstZ k (l * c) (s * c) = fstZ k l s := by
  have d : ∀ x : Int, x * c / (s * c) = x / s := fun x => Int.mul_ediv_mul_of_pos_left x s (by omega)
  unfold fstZ
  rw [d, ← Int.neg_mul, d]
theorem lst_scale {k : Kd} {h s c : Int} (hc : 1 ≤ c) (hs : 1 ≤ s) : lstZ k (h * c) (s * c) = lstZ k h s := by
  have d : ∀ x : Int, x * c / (s * c) = x / s := fun x => Int.mul_ediv_mul_of_pos_left x s (by omega)
  unfold lstZ
  rw [d, ← Int.neg_mul, d]
theorem marks_wide {k : Kd} {b l h m p : Int} (x : Nat) (b1 : 1 ≤ b) (m1 : 1 ≤ m) : fstZ k (l * b ^ x * facZ b (p + x)) (sizZ b m (p + x)) = fstZ k (l * facZ b p) (sizZ b m p) ∧ lstZ k (h * b ^ x * facZ b (p + x)) (sizZ b m (p + x)) = lstZ k (h * facZ b p) (sizZ b m p) := by
  obtain ⟨c, c1, e1, e2⟩ := fac_siz (m := m) (p := p) x b1
  have z1 := siz_pos (b := b) (m := m) (e := p) b1 m1
  have r : ∀ y : Int, y * b ^ x * facZ b (p + x) = y * facZ b p * c := fun y => by
    rw [Int.mul_assoc, Int.mul_comm (b ^ x), e1, ← Int.mul_assoc]
  rw [r, r, e2, fst_scale c1 z1, lst_scale c1 z1]
  exact ⟨rfl, rfl⟩
theorem fitE_pow {b m n l h : Int} {k : Kd} (b1 : 1 ≤ b) (m1 : 1 ≤ m) : ∀ (x : Nat) {e : Int}, FitE b k n (l * b ^ x) (h * b ^ x) m (e + x) ↔ FitE b k n l h m e
  | 0, e => by rw [Int.pow_zero, Int.mul_one, Int.mul_one, Int.natCast_zero, Int.add_zero]
  | x + 1, e => by
    rw [Int.pow_succ, ← Int.mul_assoc, ← Int.mul_assoc, show (e + ((x + 1 : Nat) : Int)) = (e + x) + 1 by omega, fitE_base b1 m1]
    exact fitE_pow b1 m1 x
theorem LeastFit.wide {b : Int} {ms : List Int} {k : Kd} {n l h d m p : Int} (L : LeastFit b ms k n l h d m p) (x : Nat) (b1 : 1 ≤ b) (hall : ∀ m ∈ ms, 1 ≤ m) : LeastFit b ms k n (l * b ^ x) (h * b ^ x) (d + x) m p := by
  refine ⟨L.mem, ?_, fun m' hm p' hs => ?_⟩
  · rw [← Int.add_assoc]
    exact (fitE_pow b1 (hall m L.mem) x).mpr L.fit
  · rw [← Int.add_assoc]
    exact fun z => L.least m' hm p' hs ((fitE_pow b1 (hall m' hm) x).mp z)
theorem LeastFit.at0 {b : Int} {ms : List Int} {k : Kd} {n l h d m p : Int} (L : LeastFit b ms k n l h d m p) : LeastFit b ms k n l h 0 m (p + d) := by
  refine ⟨L.mem, by rw [Int.add_zero]; exact L.fit, fun m' hm p' hs hf => ?_⟩
  rw [Int.add_zero] at hf
  obtain ⟨N, h1, h2, h3⟩ := hs
  have e : p' = (p' - d) + d := by omega
  rw [e] at hf
  refine L.least m' hm (p' - d) ⟨N + d, by omega, by show 0 ≤ N + d + p; have h2 : 0 ≤ N + (p + d) := h2; omega, ?_⟩ hf
  unfold szN at h3 ⊢
  have h3 : m' * b ^ (N + p').toNat < m * b ^ (N + (p + d)).toNat := h3
  show m' * b ^ (N + d + (p' - d)).toNat < m * b ^ (N + d + p).toNat
  rw [show N + d + (p' - d) = N + p' by omega, show N + d + p = N + (p + d) by omega]
  exact h3
theorem log_small {x : Int} {n : Nat} (h : x.natAbs < 2 ^ n) (hn : n ≤ 1920) (n0 : 0 < n) : x.natAbs.log2 < 1920 := by
  by_cases c : x.natAbs = 0
  · rw [c]
    decide
  · have := (Nat.log2_lt c).mpr h
    omega
theorem marks_small {k : Kd} {l s : Int} {n : Nat} (h : l.natAbs < 2 ^ n) : (fstZ k l s).natAbs < 2 ^ n ∧ (lstZ k l s).natAbs < 2 ^ n := by
  have d : ∀ x : Int, (x / s).natAbs ≤ x.natAbs := fun x => Int.natAbs_ediv_le_natAbs x s
  have d1 := d l
  have d2 := d (-l)
  rw [Int.natAbs_neg] at d2
  unfold fstZ lstZ
  constructor <;> split <;> omega
end Ax

namespace Ax
/-! # formulas of sets of ranges -/
abbrev Ky := Kd × List Int × Int
inductive Fm where
  | all
  | not (f : Fm)
  | and (f g : Fm)
  | or (f g : Fm)
  | xor (f g : Fm)
  | counted (k : Ky) (lst : Int) (mst : Option Int)
  | taken (k : Ky) (m : Int)
  | coarser (k k2 : Ky) (n o : Int)
  | touched (k : Ky) (low : Bool)
/-- how many marks a range has whose step has this mantissa and power -/
def cntZ (b : Int) (k : Kd) (l h m q : Int) : Int := lstZ k (h * facZ b q) (sizZ b m q) - fstZ k (l * facZ b q) (sizZ b m q) + 1
/-- whether the first step is greater than n / o times the other -/
def moreZ (b m1 q1 m2 q2 n o : Int) : Bool := decide (m1 * b ^ (q1 - min q1 q2).toNat * o > n * (m2 * b ^ (q2 - min q1 q2).toNat))
/-- what a formula says of the range from l to h -/
def Val (b : Int) : Fm → Int → Int → Bool → Prop
  | .all, _, _, r => r = true
  | .not f, l, h, r => ∃ x, Val b f l h x ∧ r = !x
  | .and f g, l, h, r => ∃ x y, Val b f l h x ∧ Val b g l h y ∧ r = (x && y)
  | .or f g, l, h, r => ∃ x y, Val b f l h x ∧ Val b g l h y ∧ r = (x || y)
  | .xor f g, l, h, r => ∃ x y, Val b f l h x ∧ Val b g l h y ∧ r = (x != y)
  | .counted k lst mst, l, h, r => ∃ m q, LeastFit b k.2.1 k.1 k.2.2 l h 0 m q ∧ r = (decide (lst ≤ cntZ b k.1 l h m q) && mst.all fun z => decide (cntZ b k.1 l h m q ≤ z))
  | .taken k m0, l, h, r => ∃ m q, LeastFit b k.2.1 k.1 k.2.2 l h 0 m q ∧ r = decide (m = m0)
  | .coarser k k2 n o, l, h, r => ∃ m q m2 q2, LeastFit b k.2.1 k.1 k.2.2 l h 0 m q ∧ LeastFit b k2.2.1 k2.1 k2.2.2 l h 0 m2 q2 ∧ r = moreZ b m q m2 q2 n o
  | .touched k low, l, h, r => ∃ m q, LeastFit b k.2.1 k.1 k.2.2 l h 0 m q ∧ r = decide ((if low then l else h) * facZ b q % sizZ b m q = 0)
structure KyOk (b : Int) (k : Ky) : Prop where
  all : ∀ m ∈ k.2.1, 1 ≤ m ∧ m % b ≠ 0
  m1 : 1 ≤ k.2.2
  mC : k.1 = .cov → 2 ≤ k.2.2
def FmOk (b : Int) : Fm → Prop
  | .all => True
  | .not f => FmOk b f
  | .and f g => FmOk b f ∧ FmOk b g
  | .or f g => FmOk b f ∧ FmOk b g
  | .xor f g => FmOk b f ∧ FmOk b g
  | .counted k _ _ => KyOk b k
  | .taken k _ => KyOk b k
  | .coarser k k2 _ _ => KyOk b k ∧ KyOk b k2
  | .touched k _ => KyOk b k
section
variable {b l h : Int}
theorem LeastFit.one' {ms : List Int} {k : Kd} {n l h m1 p1 m2 p2 : Int} (hb : 2 ≤ b) (hm : ∀ m ∈ ms, 1 ≤ m ∧ m % b ≠ 0) (L1 : LeastFit b ms k n l h 0 m1 p1) (L2 : LeastFit b ms k n l h 0 m2 p2) : m1 = m2 ∧ p1 = p2 := least_one hb hm L1 L2
theorem Val.det (b2 : 2 ≤ b) : ∀ {f : Fm} {r r' : Bool}, FmOk b f → Val b f l h r → Val b f l h r' → r = r'
  | .all, _, _, _, h1, h2 => h1.trans h2.symm
  | .not f, _, _, ok, ⟨x, h1, e1⟩, ⟨y, h2, e2⟩ => by rw [e1, e2, Val.det b2 (f := f) ok h1 h2]
  | .and f g, _, _, ok, ⟨x, y, h1, h1', e1⟩, ⟨z, w, h2, h2', e2⟩ => by rw [e1, e2, Val.det b2 (f := f) ok.1 h1 h2, Val.det b2 (f := g) ok.2 h1' h2']
  | .or f g, _, _, ok, ⟨x, y, h1, h1', e1⟩, ⟨z, w, h2, h2', e2⟩ => by rw [e1, e2, Val.det b2 (f := f) ok.1 h1 h2, Val.det b2 (f := g) ok.2 h1' h2']
  | .xor f g, _, _, ok, ⟨x, y, h1, h1', e1⟩, ⟨z, w, h2, h2', e2⟩ => by rw [e1, e2, Val.det b2 (f := f) ok.1 h1 h2, Val.det b2 (f := g) ok.2 h1' h2']
  | .counted k _ _, _, _, ok, ⟨m, q, h1, e1⟩, ⟨m', q', h2, e2⟩ => by
    obtain ⟨rfl, rfl⟩ := h1.one' b2 ok.all h2
    rw [e1, e2]
  | .taken k _, _, _, ok, ⟨m, q, h1, e1⟩, ⟨m', q', h2, e2⟩ => by
    obtain ⟨rfl, rfl⟩ := h1.one' b2 ok.all h2
    rw [e1, e2]
  | .coarser k k2 _ _, _, _, ok, ⟨m, q, m2, q2, h1, g1, e1⟩, ⟨m', q', m2', q2', h2, g2, e2⟩ => by
    obtain ⟨rfl, rfl⟩ := h1.one' b2 ok.1.all h2
    obtain ⟨rfl, rfl⟩ := g1.one' b2 ok.2.all g2
    rw [e1, e2]
  | .touched k _, _, _, ok, ⟨m, q, h1, e1⟩, ⟨m', q', h2, e2⟩ => by
    obtain ⟨rfl, rfl⟩ := h1.one' b2 ok.all h2
    rw [e1, e2]
/-! ### the base times a range -/
theorem fac_siz1 {m q : Int} (b1 : 1 ≤ b) : ∃ c : Int, 1 ≤ c ∧ (∀ x : Int, x * b * facZ b (q + 1) = x * facZ b q * c) ∧ sizZ b m (q + 1) = sizZ b m q * c := by
  obtain ⟨c, c1, e1, e2⟩ := fac_siz (b := b) (m := m) (p := q) 1 b1
  refine ⟨c, c1, fun x => ?_, e2⟩
  have e1 : facZ b (q + 1) * b = facZ b q * c := by
    have := e1
    rw [Int.pow_succ, Int.pow_zero, Int.one_mul] at this
    exact this
  rw [Int.mul_assoc, Int.mul_comm b, e1, ← Int.mul_assoc]
theorem mark_mul {k : Kd} {l h s c : Int} (c0 : 0 < c) : lstZ k (h * c) (s * c) = lstZ k h s ∧ fstZ k (l * c) (s * c) = fstZ k l s := by
  have d : ∀ x : Int, x * c / (s * c) = x / s := fun x => Int.mul_ediv_mul_of_pos_left x s c0
  have d2 : ∀ x : Int, -(x * c) / (s * c) = -x / s := fun x => by rw [← Int.neg_mul]; exact d (-x)
  unfold lstZ fstZ
  exact ⟨by split <;> simp only [d, d2], by split <;> simp only [d, d2]⟩
theorem cnt_base {k : Kd} {m q : Int} (b1 : 1 ≤ b) : cntZ b k (l * b) (h * b) m (q + 1) = cntZ b k l h m q := by
  obtain ⟨c, c1, e1, e2⟩ := fac_siz1 (b := b) (m := m) (q := q) b1
  unfold cntZ
  rw [e1, e1, e2, (mark_mul (l := l * facZ b q) (h := h * facZ b q) (k := k) (s := sizZ b m q) (show 0 < c by omega)).1, (mark_mul (l := l * facZ b q) (h := h * facZ b q) (k := k) (s := sizZ b m q) (show 0 < c by omega)).2]
theorem Val.base (b2 : 2 ≤ b) : ∀ {f : Fm} {r : Bool}, FmOk b f → Val b f l h r → Val b f (l * b) (h * b) r
  | .all, _, _, h1 => h1
  | .not f, _, ok, ⟨x, h1, e1⟩ => ⟨x, Val.base b2 (f := f) ok h1, e1⟩
  | .and f g, _, ok, ⟨x, y, h1, h2, e⟩ => ⟨x, y, Val.base b2 (f := f) ok.1 h1, Val.base b2 (f := g) ok.2 h2, e⟩
  | .or f g, _, ok, ⟨x, y, h1, h2, e⟩ => ⟨x, y, Val.base b2 (f := f) ok.1 h1, Val.base b2 (f := g) ok.2 h2, e⟩
  | .xor f g, _, ok, ⟨x, y, h1, h2, e⟩ => ⟨x, y, Val.base b2 (f := f) ok.1 h1, Val.base b2 (f := g) ok.2 h2, e⟩
  | .counted k _ _, _, ok, ⟨m, q, h1, e1⟩ => ⟨m, q + 1, h1.base (by omega) fun m hm => (ok.all m hm).1, by rw [cnt_base (by omega)]; exact e1⟩
  | .taken k _, _, ok, ⟨m, q, h1, e1⟩ => ⟨m, q + 1, h1.base (by omega) fun m hm => (ok.all m hm).1, e1⟩
  | .coarser k k2 _ _, _, ok, ⟨m, q, m2, q2, h1, g1, e1⟩ => by
    refine ⟨m, q + 1, m2, q2 + 1, h1.base (by omega) fun m hm => (ok.1.all m hm).1, g1.base (by omega) fun m hm => (ok.2.all m hm).1, ?_⟩
    rw [e1]
    unfold moreZ
    rw [show q + 1 - min (q + 1) (q2 + 1) = q - min q q2 by omega, show q2 + 1 - min (q + 1) (q2 + 1) = q2 - min q q2 by omega]
  | .touched k low, _, ok, ⟨m, q, h1, e1⟩ => by
    refine ⟨m, q + 1, h1.base (by omega) fun m hm => (ok.all m hm).1, ?_⟩
    obtain ⟨c, c1, f1, f2⟩ := fac_siz1 (b := b) (m := m) (q := q) (show 1 ≤ b by omega)
    have e : ∀ x : Int, (x * b * facZ b (q + 1) % sizZ b m (q + 1) = 0) ↔ (x * facZ b q % sizZ b m q = 0) := fun x => by
      rw [f1, f2]
      constructor
      · intro z
        obtain ⟨t, ht⟩ := Int.dvd_of_emod_eq_zero z
        refine Int.emod_eq_zero_of_dvd ⟨t, Int.eq_of_mul_eq_mul_right (show c ≠ 0 by omega) ?_⟩
        rw [ht, Int.mul_assoc, Int.mul_comm c, ← Int.mul_assoc]
      · intro z
        obtain ⟨t, ht⟩ := Int.dvd_of_emod_eq_zero z
        refine Int.emod_eq_zero_of_dvd ⟨t, ?_⟩
        rw [ht, Int.mul_assoc (sizZ b m q) c, Int.mul_comm c, ← Int.mul_assoc]
    rw [e1]
    cases low
    · exact decide_eq_decide.mpr (e h).symm
    · exact decide_eq_decide.mpr (e l).symm
/-! ### a common multiple added -/
def ComF (b sh : Int) (W : Nat) : Fm → Prop
  | .all => True
  | .not f => ComF b sh W f
  | .and f g => ComF b sh W f ∧ ComF b sh W g
  | .or f g => ComF b sh W f ∧ ComF b sh W g
  | .xor f g => ComF b sh W f ∧ ComF b sh W g
  | .counted k _ _ => Common b k.2.1 sh W
  | .taken k _ => Common b k.2.1 sh W
  | .coarser k k2 _ _ => Common b k.2.1 sh W ∧ Common b k2.2.1 sh W
  | .touched k _ => Common b k.2.1 sh W
theorem Val.shift {sh : Int} {W : Nat} (b2 : 2 ≤ b) (hW : h - l < b ^ W) : ∀ {f : Fm} {r : Bool}, FmOk b f → ComF b sh W f → Val b f l h r → Val b f (l + sh) (h + sh) r
  | .all, _, _, _, h1 => h1
  | .not f, _, ok, C, ⟨x, h1, e1⟩ => ⟨x, Val.shift b2 hW (f := f) ok C h1, e1⟩
  | .and f g, _, ok, C, ⟨x, y, h1, h2, e⟩ => ⟨x, y, Val.shift b2 hW (f := f) ok.1 C.1 h1, Val.shift b2 hW (f := g) ok.2 C.2 h2, e⟩
  | .or f g, _, ok, C, ⟨x, y, h1, h2, e⟩ => ⟨x, y, Val.shift b2 hW (f := f) ok.1 C.1 h1, Val.shift b2 hW (f := g) ok.2 C.2 h2, e⟩
  | .xor f g, _, ok, C, ⟨x, y, h1, h2, e⟩ => ⟨x, y, Val.shift b2 hW (f := f) ok.1 C.1 h1, Val.shift b2 hW (f := g) ok.2 C.2 h2, e⟩
  | .counted k _ _, _, ok, C, ⟨m, q, h1, e1⟩ => by
    have lw := h1.low b2 (ok.all m h1.mem).1 ok.m1 ok.mC hW
    refine ⟨m, q, h1.shift C ok.m1 ok.mC hW, ?_⟩
    have e : cntZ b k.1 (l + sh) (h + sh) m q = cntZ b k.1 l h m q := by
      unfold cntZ
      rw [count_shift C h1.mem (by omega)]
    rw [e]
    exact e1
  | .taken k _, _, ok, C, ⟨m, q, h1, e1⟩ => ⟨m, q, h1.shift C ok.m1 ok.mC hW, e1⟩
  | .coarser k k2 _ _, _, ok, C, ⟨m, q, m2, q2, h1, g1, e1⟩ => ⟨m, q, m2, q2, h1.shift C.1 ok.1.m1 ok.1.mC hW, g1.shift C.2 ok.2.m1 ok.2.mC hW, e1⟩
  | .touched k low, _, ok, C, ⟨m, q, h1, e1⟩ => by
    have lw := h1.low b2 (ok.all m h1.mem).1 ok.m1 ok.mC hW
    refine ⟨m, q, h1.shift C ok.m1 ok.mC hW, ?_⟩
    obtain ⟨c, hc⟩ := C.at h1.mem (e := q) (by omega)
    have e : ∀ x : Int, (x + sh) * facZ b q % sizZ b m q = x * facZ b q % sizZ b m q := fun x => by
      rw [Int.add_mul, hc, Int.add_mul_emod_self_right]
    rw [e1]
    cases low
    · exact decide_eq_decide.mpr (by rw [if_neg (by decide), if_neg (by decide), e])
    · exact decide_eq_decide.mpr (by rw [if_pos rfl, if_pos rfl, e])
end
end Ax

namespace Ax
/-! # Which steps come into question at a length -/
def nevZ (k : Kd) (n s L : Int) : Bool := match k with
  | .ins => decide ((n + 1) * s ≤ L)
  | _ => decide (n * s < L)
def alwZ (k : Kd) (n s L : Int) : Bool := match k with
  | .ins => decide (L < n * s)
  | .cov => decide (L ≤ (n - 1) * s)
  | .len => decide (L ≤ n * s)
section
variable {k : Kd} {n l h s L : Int}
/-- a step that never fits at a length fits no range that is as long or longer -/
theorem nev_no (hs : 0 < s) (q : nevZ k n s L = true) (hL : L ≤ h - l) : ¬ h ≤ reachZ k n l s := by
  obtain ⟨d1, d2⟩ := div_facts l hs
  obtain ⟨d3, d4⟩ := div_facts (-l) hs
  cases k with
  | len =>
    have q := of_decide_eq_true (show decide (n * s < L) = true from q)
    show ¬ h ≤ l + n * s
    omega
  | cov =>
    have q := of_decide_eq_true (show decide (n * s < L) = true from q)
    show ¬ h ≤ (l / s + n) * s
    rw [Int.add_mul, Int.mul_comm (l / s)]
    omega
  | ins =>
    have q := of_decide_eq_true (show decide ((n + 1) * s ≤ L) = true from q)
    rw [Int.add_mul, Int.one_mul] at q
    show ¬ h ≤ (-(-l / s) + n) * s - 1
    rw [Int.add_mul, Int.neg_mul, Int.mul_comm (-l / s)]
    omega
/-- one that always fits at a length fits each range that is as long or shorter -/
theorem alw_yes (hs : 0 < s) (q : alwZ k n s L = true) (hL : h - l ≤ L) : h ≤ reachZ k n l s := by
  obtain ⟨d1, d2⟩ := div_facts l hs
  obtain ⟨d3, d4⟩ := div_facts (-l) hs
  cases k with
  | len =>
    have q := of_decide_eq_true (show decide (L ≤ n * s) = true from q)
    show h ≤ l + n * s
    omega
  | cov =>
    have q := of_decide_eq_true (show decide (L ≤ (n - 1) * s) = true from q)
    rw [Int.sub_mul, Int.one_mul] at q
    show h ≤ (l / s + n) * s
    rw [Int.add_mul, Int.mul_comm (l / s)]
    omega
  | ins =>
    have q := of_decide_eq_true (show decide (L < n * s) = true from q)
    show h ≤ (-(-l / s) + n) * s - 1
    rw [Int.add_mul, Int.neg_mul, Int.mul_comm (-l / s)]
    omega
theorem alw_big (hn : 1 ≤ n) (hc : k = .cov → 2 ≤ n) (hs : L < s) (hp : 0 < s) : alwZ k n s L = true := by
  have h1 : s ≤ n * s := by
    have := Int.mul_le_mul_of_nonneg_right hn (show 0 ≤ s by omega)
    omega
  cases k with
  | len => exact decide_eq_true (by omega)
  | ins => exact decide_eq_true (by omega)
  | cov =>
    have := Int.mul_le_mul_of_nonneg_right (show 1 ≤ n - 1 by have := hc rfl; omega) (show 0 ≤ s by omega)
    exact decide_eq_true (by omega)
theorem nev_alw (hn : 1 ≤ n) (hs : 0 < s) (q : alwZ k n s L = true) : nevZ k n s L = false := by
  have h1 : 0 ≤ n * s := Int.mul_nonneg (by omega) (by omega)
  cases k with
  | len => exact decide_eq_false (by have := of_decide_eq_true (show decide (L ≤ n * s) = true from q); omega)
  | ins =>
    have := of_decide_eq_true (show decide (L < n * s) = true from q)
    exact decide_eq_false (by rw [Int.add_mul, Int.one_mul]; omega)
  | cov =>
    have := of_decide_eq_true (show decide (L ≤ (n - 1) * s) = true from q)
    rw [Int.sub_mul, Int.one_mul] at this
    exact decide_eq_false (by omega)
end
/-! ### masks: bit q of a whole number -/
def IsM (W : Nat) (φ : Nat → Bool) (M : Int) : Prop := ∃ m : Nat, M = (m : Int) ∧ ∀ q, m.testBit q = (decide (q < W) && φ q)
theorem IsM.nn {W : Nat} {φ : Nat → Bool} {M : Int} (h : IsM W φ M) : 0 ≤ M := by
  obtain ⟨m, rfl, _⟩ := h
  exact Int.natCast_nonneg _
theorem IsM.congr {W : Nat} {φ ψ : Nat → Bool} {M : Int} (h : IsM W φ M) (e : ∀ q, q < W → φ q = ψ q) : IsM W ψ M := by
  obtain ⟨m, rfl, hb⟩ := h
  refine ⟨m, rfl, fun q => ?_⟩
  rw [hb]
  by_cases c : q < W
  · rw [e q c]
  · rw [decide_eq_false c]
    rfl
theorem IsM.zero_iff {W : Nat} {φ : Nat → Bool} {M : Int} (h : IsM W φ M) : M = 0 ↔ ∀ q, q < W → φ q = false := by
  obtain ⟨m, rfl, hb⟩ := h
  constructor
  · intro e q c
    have e : m = 0 := by omega
    have z := hb q
    rw [e, Nat.zero_testBit, decide_eq_true c, Bool.true_and] at z
    exact z.symm
  · intro e
    have : m = 0 := Nat.eq_of_testBit_eq fun q => by
      rw [hb, Nat.zero_testBit]
      by_cases c : q < W
      · rw [e q c, Bool.and_false]
      · rw [decide_eq_false c]
        rfl
    omega
theorem IsM.zero (W : Nat) : IsM W (fun _ => false) 0 := ⟨0, rfl, fun q => by rw [Nat.zero_testBit, Bool.and_false]⟩
theorem IsM.full (W : Nat) : IsM W (fun _ => true) (2 ^ W - 1) := by
  refine ⟨2 ^ W - 1, ?_, fun q => ?_⟩
  · have h := Nat.one_le_two_pow (n := W)
    rw [Int.natCast_sub h, Int.natCast_pow]
    rfl
  · rw [Nat.testBit_two_pow_sub_one, Bool.and_true]
theorem IsM.and {W : Nat} {φ ψ : Nat → Bool} {m n : Nat} (h1 : ∀ q, m.testBit q = (decide (q < W) && φ q)) (h2 : ∀ q, n.testBit q = (decide (q < W) && ψ q)) (q : Nat) : (m &&& n).testBit q = (decide (q < W) && (φ q && ψ q)) := by
  rw [Nat.testBit_and, h1, h2]
  cases decide (q < W) <;> simp
theorem IsM.lt {W : Nat} {φ : Nat → Bool} {M : Int} (h : IsM W φ M) : M < 2 ^ W := by
  obtain ⟨m, rfl, hb⟩ := h
  have : m < 2 ^ W := Nat.lt_pow_two_of_testBit m fun i hi => by
    rw [hb, decide_eq_false (by omega)]
    rfl
  have := Int.ofNat_lt.mpr this
  rwa [Int.natCast_pow] at this
end Ax
namespace Ax
/-- the steps that are told for the lengths between two: what the program's loop does -/
structure CandR (b : Int) (k : Ky) (least greatest : Int) (rs : List Int) (top : Nat) (i0 : Int) (n : Nat) (ss : List (Int × Int)) : Prop where
  R : Rungs b rs top
  pr : rs.Perm k.2.1
  i0_ : i0 = lowQ b k.2.2 0 least 0 * rs.length
  ss_ : ss = ((List.range n).map fun j => sAt b rs (i0 + (j : Nat))).filter fun s => !nevZ k.1 k.2.2 (sizZ b s.1 s.2) (least * facZ b s.2)
  few : ∀ j : Nat, j + 1 < n → alwZ k.1 k.2.2 (sizZ b (sAt b rs (i0 + (j : Nat))).1 (sAt b rs (i0 + (j : Nat))).2) (greatest * facZ b (sAt b rs (i0 + (j : Nat))).2) = false
  hi : i0 + n ≤ (lg b greatest + 1) * rs.length + 1
def Cand (b : Int) (k : Ky) (least greatest : Int) (ss : List (Int × Int)) : Prop := ∃ rs top i0 n, CandR b k least greatest rs top i0 (n + 1) ss ∧
  alwZ k.1 k.2.2 (sizZ b (sAt b rs (i0 + (n : Nat))).1 (sAt b rs (i0 + (n : Nat))).2) (greatest * facZ b (sAt b rs (i0 + (n : Nat))).2) = true
/-- at the end of all rungs that may come, a step always fits -/
theorem alw_high {b : Int} {rs : List Int} {top : Nat} {k : Kd} {n greatest i : Int} (R : Rungs b rs top) (g1 : 1 ≤ greatest) (hn : 1 ≤ n) (hc : k = .cov → 2 ≤ n) (hi : (lg b greatest + 1) * rs.length ≤ i) :
    alwZ k n (sizZ b (sAt b rs i).1 (sAt b rs i).2) (greatest * facZ b (sAt b rs i).2) = true := by
  have b2 := R.b2
  have hnl : 0 < (rs.length : Int) := by have := R.ne; omega
  have q1 : (lg b greatest + 1 : Int) ≤ i / rs.length := (Int.le_ediv_iff_mul_le hnl).mpr hi
  have tm := R.top_ _ (R.mem i)
  have mp := R.pos _ (R.mem i)
  obtain ⟨g2, g3⟩ := lg_spec b2 g1
  obtain ⟨m1, m2⟩ := lg_spec b2 mp
  have ep : (sAt b rs i).2 = i / rs.length - lg b (sAt b rs i).1 := rfl
  refine alw_big hn hc ?_ (siz_pos (by omega) mp)
  generalize (sAt b rs i).1 = m at *
  generalize (sAt b rs i).2 = p at *
  unfold facZ sizZ
  by_cases c : 0 ≤ p
  · rw [if_pos c, if_pos c, Int.mul_one]
    have h1 : b ^ lg b m * b ^ p.toNat ≤ m * b ^ p.toNat := Int.mul_le_mul_of_nonneg_right m1 (by have := pow_pos' (b := b) (by omega) p.toNat; omega)
    rw [← pow_add'] at h1
    have h2 := pow_le' (b := b) (by omega) (show lg b greatest + 1 ≤ lg b m + p.toNat by omega)
    omega
  · rw [if_neg c, if_neg c]
    have p0 := pow_pos' (b := b) (by omega) (-p).toNat
    have h1 : greatest * b ^ (-p).toNat < b ^ (lg b greatest + 1) * b ^ (-p).toNat := Int.mul_lt_mul_of_pos_right g3 (by omega)
    rw [← pow_add'] at h1
    have h2 := pow_le' (b := b) (by omega) (show lg b greatest + 1 + (-p).toNat ≤ lg b m by omega)
    omega
end Ax
namespace Ax
/-- how far the power of a step that comes into question lies from 0 -/
theorem exp_bound2 {b : Int} {rs : List Int} {top : Nat} {le gr most i : Int} (R : Rungs b rs top) (hb : b < 2 ^ 64) (l1 : 1 ≤ le) (lg0 : le ≤ gr) (gB : gr < 2 ^ 1000) (hm : 1 ≤ most) (hmB : most < 2 ^ 60) (hrB : ∀ m ∈ rs, m < 2 ^ 64)
    (h1 : lowQ b most 0 le 0 * rs.length ≤ i) (h2 : i ≤ (lg b gr + 1) * rs.length) : b ^ ((sAt b rs i).2).natAbs < 2 ^ 2000 := by
  have hn : 0 < (rs.length : Int) := by have := R.ne; omega
  have q1 : lowQ b most 0 le 0 ≤ i / rs.length := (Int.le_ediv_iff_mul_le hn).mpr h1
  have q2 : i / rs.length ≤ (lg b gr + 1 : Int) := Int.ediv_le_of_le_mul hn h2
  unfold lowQ at q1
  have hb2 := R.b2
  have mp := R.pos _ (R.mem i)
  have mB := hrB _ (R.mem i)
  have g1 := (lg_spec (b := b) (m := gr) hb2 (by omega)).1
  have g2 := (lg_spec (b := b) (m := most + 1) hb2 (by omega)).1
  have g3 := (lg_spec (b := b) (m := (sAt b rs i).1) hb2 mp).1
  have e1 : ((sAt b rs i).2).natAbs ≤ lg b gr + (lg b (most + 1) + (lg b (sAt b rs i).1 + (1 + 1))) := by
    show (i / rs.length - lg b (sAt b rs i).1).natAbs ≤ _
    omega
  refine Int.lt_of_le_of_lt (pow_le' (by omega) e1) ?_
  rw [pow_add', pow_add', pow_add', pow_add', Int.pow_succ, Int.pow_zero, Int.one_mul]
  have p1 := pow_pos' (b := b) (by omega) (lg b gr)
  have p2 := pow_pos' (b := b) (by omega) (lg b (most + 1))
  have p3 := pow_pos' (b := b) (by omega) (lg b (sAt b rs i).1)
  have c0 : b * b ≤ 2 ^ 64 * 2 ^ 64 := Int.mul_le_mul (by omega) (by omega) (by omega) (by decide)
  have z0 : 0 ≤ b * b := Int.mul_nonneg (by omega) (by omega)
  have c1 : b ^ lg b (sAt b rs i).1 * (b * b) ≤ 2 ^ 64 * (2 ^ 64 * 2 ^ 64) := Int.mul_le_mul (by omega) c0 z0 (by decide)
  have z1 : 0 ≤ b ^ lg b (sAt b rs i).1 * (b * b) := Int.mul_nonneg (by omega) z0
  have c2 : b ^ lg b (most + 1) * (b ^ lg b (sAt b rs i).1 * (b * b)) ≤ 2 ^ 61 * (2 ^ 64 * (2 ^ 64 * 2 ^ 64)) := Int.mul_le_mul (by
    have : (2 : Int) ^ 60 + 1 ≤ 2 ^ 61 := by decide
    omega) c1 z1 (by decide)
  have z2 : 0 ≤ b ^ lg b (most + 1) * (b ^ lg b (sAt b rs i).1 * (b * b)) := Int.mul_nonneg (by omega) z1
  have c3 : b ^ lg b gr * (b ^ lg b (most + 1) * (b ^ lg b (sAt b rs i).1 * (b * b))) ≤ 2 ^ 1000 * (2 ^ 61 * (2 ^ 64 * (2 ^ 64 * 2 ^ 64))) := Int.mul_le_mul (by omega) c2 z2 (by have := pow_pos' (b := 2) (by decide) 1000; omega)
  refine Int.lt_of_le_of_lt c3 ?_
  rw [← pow_add', ← pow_add', ← pow_add', ← pow_add']
  exact pow_lt' (b := 2) (by decide) (by decide)
end Ax

namespace Ax
open PySem L2
section
variable {P : Program} {w : World} {K : PySem.W.Frag} {mg : Str → Option Value} {base : Heap} {A : Adr}
/-! ### never_fits, always_fits -/
def spNev : Sp := fun vs H Q _ => ∃ (k : Kd) (n s L : Int), vs = [.str k.s, .int n, .int s, .int L] ∧ 0 ≤ n ∧ n < 2 ^ 60 ∧ 0 ≤ s ∧ s < BIG ∧ Q (.bl (nevZ k n s L)) H
def spAlw : Sp := fun vs H Q _ => ∃ (k : Kd) (n s L : Int), vs = [.str k.s, .int n, .int s, .int L] ∧ 1 ≤ n ∧ n < 2 ^ 60 ∧ 0 ≤ s ∧ s < BIG ∧ Q (.bl (alwZ k n s L)) H
theorem mul_sB {n s : Int} (h0 : 0 ≤ n) (h1 : n < 2 ^ 61) (h2 : 0 ≤ s) (h3 : s < BIG) : CMulW n s := mulBig (by omega) (big_le (lt_big (n := 61) h1 (by decide))) h2 (big_le h3)
abbrev nm_never_fits : List Str := ["kind", "most", "size", "length"]
theorem sc_never_fits : FnScope ["kind", "most", "size", "length"] ["kind", "most", "size", "length"] (defScope s_never_fits) := ⟨rfl, rfl, rfl, by decide +kernel, rfl, by decide +kernel, by decide +kernel⟩
theorem ok_nev (T : Txt K mg A w) : FnOk P w K mg base CX0 1 A.a_never_fits A.d_never_fits ["kind", "most", "size", "length"] spNev := by
  refine T.F_never_fits.ok sc_never_fits (fun vs H Q E h => ?_) (fun cdv A0 outer s H vs Q E hr h => ?_)
  · obtain ⟨k, a, b, c, rfl, _⟩ := h
    rfl
  · obtain ⟨k, n, s, L, rfl, n0, nB, s0, sB, q⟩ := h
    refine ⟨_, (pss_cons (ps_if (pt_cmpR op_eq (pv 0) pe_str (nomark _)) (pss_one (ps_ret (pe_cmpR op_ge (pv 3) (pe_op op_mulW (pe_op op_add (pv 1) pe_int) (pv 2)) (nomark _)))) pss_nil)
  (pss_one (ps_ret (pe_cmpR op_gt (pv 3) (pe_op op_mulW (pv 1) (pv 2)) (nomark _))))), ?_⟩
    have n61 : n + 1 < 2 ^ 61 := by
      have : (2 : Int) ^ 60 + 1 ≤ 2 ^ 61 := by decide
      omega
    refine ⟨_, rfl, rfl, _, rfl, ?_⟩
    show if (decide (V.str k.s = V.str Kd.ins.s)) = true then _ else _
    rw [kd_is]
    cases k with
    | ins =>
      refine iteT ?_
      exact ⟨_, rfl, _, rfl, _, _, rfl, rfl, _, rfl, _, _, rfl, rfl, mul_sB (by omega) n61 s0 sB, _, _, rfl, rfl, q⟩
    | cov =>
      refine iteF ?_
      exact ⟨_, rfl, _, rfl, _, rfl, _, _, rfl, rfl, mul_sB n0 (by omega) s0 sB, _, _, rfl, rfl, q⟩
    | len =>
      refine iteF ?_
      exact ⟨_, rfl, _, rfl, _, rfl, _, _, rfl, rfl, mul_sB n0 (by omega) s0 sB, _, _, rfl, rfl, q⟩
abbrev nm_always_fits : List Str := ["kind", "most", "size", "length"]
theorem sc_always_fits : FnScope ["kind", "most", "size", "length"] ["kind", "most", "size", "length"] (defScope s_always_fits) := ⟨rfl, rfl, rfl, by decide +kernel, rfl, by decide +kernel, by decide +kernel⟩
theorem ok_alw (T : Txt K mg A w) : FnOk P w K mg base CX0 1 A.a_always_fits A.d_always_fits ["kind", "most", "size", "length"] spAlw := by
  refine T.F_always_fits.ok sc_always_fits (fun vs H Q E h => ?_) (fun cdv A0 outer s H vs Q E hr h => ?_)
  · obtain ⟨k, a, b, c, rfl, _⟩ := h
    rfl
  · obtain ⟨k, n, s, L, rfl, n0, nB, s0, sB, q⟩ := h
    refine ⟨_, (pss_cons (ps_if (pt_cmpR op_eq (pv 0) pe_str (nomark _)) (pss_one (ps_ret (pe_cmpR op_lt (pv 3) (pe_op op_mulW (pv 1) (pv 2)) (nomark _)))) pss_nil)
  (pss_cons (ps_if (pt_cmpR op_eq (pv 0) pe_str (nomark _)) (pss_one (ps_ret (pe_cmpR op_le (pv 3) (pe_op op_mulW (pe_op op_sub (pv 1) pe_int) (pv 2)) (nomark _)))) pss_nil)
  (pss_one (ps_ret (pe_cmpR op_le (pv 3) (pe_op op_mulW (pv 1) (pv 2)) (nomark _)))))), ?_⟩
    have n61 : n < 2 ^ 61 := by
      have : (2 : Int) ^ 60 + 1 ≤ 2 ^ 61 := by decide
      omega
    refine ⟨_, rfl, rfl, _, rfl, ?_⟩
    show if (decide (V.str k.s = V.str Kd.ins.s)) = true then _ else _
    rw [kd_is]
    cases k with
    | ins =>
      refine iteT ?_
      exact ⟨_, rfl, _, rfl, _, rfl, _, _, rfl, rfl, mul_sB (by omega) n61 s0 sB, _, _, rfl, rfl, q⟩
    | cov =>
      refine iteF ?_
      refine ⟨_, rfl, rfl, _, rfl, ?_⟩
      show if (decide (V.str Kd.cov.s = V.str Kd.cov.s)) = true then _ else _
      rw [kd_is]
      refine iteT ?_
      exact ⟨_, rfl, _, rfl, _, _, rfl, rfl, _, rfl, _, _, rfl, rfl, mul_sB (by omega) (by omega) s0 sB, _, _, rfl, rfl, q⟩
    | len =>
      refine iteF ?_
      refine ⟨_, rfl, rfl, _, rfl, ?_⟩
      show if (decide (V.str Kd.len.s = V.str Kd.cov.s)) = true then _ else _
      rw [kd_is]
      refine iteF ?_
      exact ⟨_, rfl, _, rfl, _, rfl, _, _, rfl, rfl, mul_sB (by omega) n61 s0 sB, _, _, rfl, rfl, q⟩
end
end Ax

namespace L2
open PySem PySem.Spec PyProof.Rows
/-! ### operators of an own class: x & y, x in c, ~x -/
section
variable {X : Cx} {CX : CXT} {n : Nat} {C f : Addr} {fd : FuncData} {ps : List Str} {sp : Sp} {E : XK}
/-- x op y, both of the class at C -/
def rBinO (C : Addr) (sp : Sp) (E : XK) : R2 := fun x y H Q => ∃ a dx fs c dy gs, x = .ref a ∧ y = .ref c ∧ H a = some (.ins C dx fs) ∧ H c = some (.ins C dy gs) ∧ sp [x, y] H (fun v H' => ∃ q, v = .ref q ∧ Q v H') E
theorem op_binO {op : Operator} (F : FnOk X.prog X.w X.K X.mg X.base CX n f fd ps sp) (hr : Room n X.A) (hc : PySem.W.selfFirst X.K C = true)
    (hs : PySem.W.findIn X.K (.ref C) (PySem.dunder op.info.2) = some (some (.ref f))) (hf : PySem.W.isFn X.K (.ref f) = true) (hb : Binds X.K fd ps []) (hx : Passes CX X E) : OpR X (binaryOp op) (rBinO C sp E) := by
  intro pins s σ H x y v u Q I rx ry hq
  obtain ⟨a, dx, fs, c, dy, gs, rfl, rfl, ha, hcc, q⟩ := hq
  cases rx
  cases ry
  obtain ⟨mA, J, _⟩ := ins_get I.hok ha
  obtain ⟨mB, J', _⟩ := ins_get I.hok hcc
  obtain ⟨od, J, _⟩ := J.look
  obtain ⟨od', J', _⟩ := J'.look
  obtain ⟨m, hF⟩ := I.fr
  refine PySem.W.binop_K hF I.ok.mod.kin J J'.type hc hs hf ?_
  have hl := F.len _ _ _ _ q
  have r2 : Vals [V.ref a, V.ref c] [Value.ref a, Value.ref c] := .cons rfl (.cons rfl .nil)
  refine wpAny_call (codeAny_mono (F.run X.A X.stack s H ⟨[.ref a, .ref c], []⟩ [.ref a, .ref c] [.ref a, .ref c] _ E hr I.env0 (by
    have := hb s [.ref a, .ref c] I.kIn (by simpa using hl)
    simpa using this) r2 q) fun r s' hq => ?_)
  cases r with
  | error e => exact hx pins σ H s e s' I hq
  | ok fl =>
    cases fl with
    | ret w =>
      obtain ⟨z, H', I', rz, b, ez, qz⟩ := I.after hq
      subst ez
      cases rz
      exact ⟨.ref b, H', I', rfl, qz⟩
    | next => exact False.elim hq
    | brk => exact False.elim hq
    | cont => exact False.elim hq
/-- v in x, x of the class at C with an own __contains__ that tells a Boolean -/
def rInO (C : Addr) (sp : Sp) (E : XK) : R2 := fun y x H Q => ∃ a dx fs, x = .ref a ∧ H a = some (.ins C dx fs) ∧ sp [x, y] H (fun v H' => ∃ b, v = .bl b ∧ Q v H') E
theorem op_inO (F : FnOk X.prog X.w X.K X.mg X.base CX n f fd ps sp) (hr : Room n X.A)
    (hs : PySem.W.findIn X.K (.ref C) "__contains__" = some (some (.ref f))) (hf : PySem.W.isFn X.K (.ref f) = true) (hb : Binds X.K fd ps []) (hx : Passes CX X E) : OpR X (compareOp .In) (rInO C sp E) := by
  intro pins s σ H y x v u Q I ry rx hq
  obtain ⟨a, dx, fs, rfl, ha, q⟩ := hq
  cases rx
  obtain ⟨mA, J, _⟩ := ins_get I.hok ha
  obtain ⟨od, J, _⟩ := J.look
  obtain ⟨m, hF⟩ := I.fr
  refine PySem.W.in_K hF I.ok.mod.kin J hs hf ?_
  have hl := F.len _ _ _ _ q
  have r2 : Vals [V.ref a, y] [Value.ref a, v] := .cons rfl (.cons ry .nil)
  refine wpAny_call (codeAny_mono (F.run X.A X.stack s H ⟨[.ref a, v], []⟩ [.ref a, v] [.ref a, y] _ E hr I.env0 (by
    have := hb s [.ref a, v] I.kIn (by simpa using hl)
    simpa using this) r2 q) fun r s' hq => ?_)
  cases r with
  | error e => exact hx pins σ H s e s' I hq
  | ok fl =>
    cases fl with
    | ret w =>
      obtain ⟨z, H', I', rz, b, ez, qz⟩ := I.after hq
      subst ez
      cases rz
      exact wpAny_pure ⟨.bl b, H', I', rfl, qz⟩
    | next => exact False.elim hq
    | brk => exact False.elim hq
    | cont => exact False.elim hq
/-- ~x of an instance of the class at C -/
def rInvO (C : Addr) (sp : Sp) (E : XK) : V → Hp → VK → Prop := fun x H Q => ∃ a dx fs, x = .ref a ∧ H a = some (.ins C dx fs) ∧ sp [x] H Q E
theorem un_invO (F : FnOk X.prog X.w X.K X.mg X.base CX n f fd ps sp) (hr : Room n X.A)
    (hs : PySem.W.findIn X.K (.ref C) "__invert__" = some (some (.ref f))) (hf : PySem.W.isFn X.K (.ref f) = true) (hb : Binds X.K fd ps []) (hx : Passes CX X E) : UnR X (unaryOp .Invert) (rInvO C sp E) := by
  intro pins s σ H x v Q I rx hq
  obtain ⟨a, dx, fs, rfl, ha, q⟩ := hq
  cases rx
  obtain ⟨mA, J, _⟩ := ins_get I.hok ha
  obtain ⟨od, J, _⟩ := J.look
  unfold unaryOp
  refine wpAny_holding ?_
  have hl := F.len _ _ _ _ q
  have r2 : Vals [V.ref a] [Value.ref a] := .cons rfl .nil
  refine wpAny_bind (PySem.W.special_fn I.kIn J hs (beq_iff_eq.mp hf) ?_)
  refine wpAny_call (codeAny_mono (F.run X.A X.stack s H ⟨[.ref a], []⟩ [.ref a] [.ref a] _ E hr I.env0 (by
    have := hb s [.ref a] I.kIn (by simpa using hl)
    simpa using this) r2 q) fun r s' hq => ?_)
  cases r with
  | error e => exact hx pins σ H s e s' I hq
  | ok fl =>
    cases fl with
    | ret w =>
      obtain ⟨z, H', I', rz, qz⟩ := I.after hq
      exact wpAny_pure ⟨z, H', I', rz, qz⟩
    | next => exact False.elim hq
    | brk => exact False.elim hq
    | cont => exact False.elim hq
end
/-! ### a class that a local holds, called -/
def tMakeL (i : Nat) (C : Addr) (sp : Sp) (dvs : List V) (E : XK) (t : TA) : TE := fun σ H Q => σ[i]? = some (some (.ref C)) ∧ tMake C sp dvs E t σ H Q
section
variable {X : Cx} {CX : CXT} {k i : Nat} {C f : Addr} {fd : FuncData} {ps : List Str} {sp : Sp} {dvs : List V} {ds : List Value} {E : XK} {x : Str} {p pos : Pos} {e : Expr} {es : List Expr} {t : TA}
theorem pe_makeL (M : Mk X.K C f) (F : FnOk X.prog X.w X.K X.mg X.base CX k f fd ps sp) (hr : Room (k + 1) X.A) (hN : X.N[i]? = some x) (hv : Vis X.env.scope x) (hb : Binds X.K fd ps ds) (hd : Vals dvs ds) (hx : Passes CX X E)
    (ha : PA X (e :: es) t) (hdb : (x == ("__debug__" : Str)) = false := by decide) (hcd : (x == ("__classdict__" : Str)) = false := by decide)
    (he : starEach (e :: es) X.env = (false, eval e X.env) :: starEach es X.env := by rfl) (hpl : (backTo pos (starEach es X.env)).any (·.1) = false := by rfl) : PE X (.Call (.Name x p) (e :: es) [] pos) (tMakeL i C sp dvs E t) := by
  refine ⟨fun pins s σ H Q I h => ?_⟩
  obtain ⟨hs, ht⟩ := h
  refine wpAny_Call_Name_kw (thn ((pe_var (pos := p) hN hv hdb hcd).run pins s σ H (fun v H1 => v = .ref C ∧ H1 = H) I ⟨.ref C, hs, rfl, rfl⟩) fun u s1 ⟨v, H1, I1, r1, q1⟩ => ?_)
  obtain ⟨rfl, rfl⟩ := q1
  cases r1
  refine PySem.W.callWith_K (h₀ := X.base) I.ok.mod.kin M.kp (thn (ha.run pos pins s1 σ _ _ I1 ht) fun us s2 ⟨vs, H2, I2, r, q⟩ => ⟨I2.kIn, ?_⟩) he hpl
  exact run_make M F hr hb hd hx I2 r q
end
end L2

namespace Ax
open PySem L2
/-! ### lists of tuples of three numbers -/
abbrev Tr := Int × Int × Int
def trV (z : Tr) : HO := .tup [.int z.1, .int z.2.1, .int z.2.2]
abbrev TrAt (H : Hp) : List Tr → List Addr → Prop := Paired fun z a => H a = some (trV z)
theorem TrAt.same {H H' : Hp} (s : ∀ c xs, H c = some (.tup xs) → H' c = some (.tup xs)) : ∀ {zs : List Tr} {as : List Addr}, TrAt H zs as → TrAt H' zs as
  | _, _, .nil => .nil
  | _, _, .cons h r => .cons (s _ _ h) (TrAt.same s r)
theorem TrAt.snoc {H : Hp} {z : Tr} {a : Addr} : ∀ {zs : List Tr} {as : List Addr}, TrAt H zs as → H a = some (trV z) → TrAt H (zs ++ [z]) (as ++ [a])
  | _, _, .nil, h => .cons h .nil
  | _, _, .cons h r, q => .cons h (TrAt.snoc r q)
theorem TrAt.app {H : Hp} : ∀ {zs ys : List Tr} {as bs : List Addr}, TrAt H zs as → TrAt H ys bs → TrAt H (zs ++ ys) (as ++ bs)
  | _, _, _, _, .nil, q => q
  | _, _, _, _, .cons h r, q => .cons h (TrAt.app r q)
theorem TrAt.len {H : Hp} {zs : List Tr} {as : List Addr} (h : TrAt H zs as) : zs.length = as.length := Paired.length h
theorem TrAt.get {H : Hp} : ∀ {zs : List Tr} {as : List Addr} {i : Nat} {a : Addr}, TrAt H zs as → as[i]? = some a → ∃ z, zs[i]? = some z ∧ H a = some (trV z)
  | _, _, _, _, .nil, h => nomatch h
  | _, _, 0, _, .cons h _, e => by
    obtain rfl := Option.some.inj e
    exact ⟨_, rfl, h⟩
  | _, _, i + 1, _, .cons _ r, e => TrAt.get (i := i) r e
theorem blkOk_eq {N N' : List Str} {sc sc' scope : Scope} {own : List (Str × Nat)} (h1 : N = N') (h2 : sc = sc') (h : blkC N' sc' scope own = true) : BlkOk N sc scope own := by
  subst h1
  subst h2
  exact blkOk_by h
theorem ixT (K : PySem.W.Frag) {X : Cx} (h : X.K = K := by rfl) : IxR X (rIxT K) := h ▸ ix_tup
theorem piL (K : PySem.W.Frag) {X : Cx} {tg l : Expr} {tl : TE} (hl : PE X l tl) (h : X.K = K := by rfl) : PI X tg l (iList K tl) := h ▸ pi_list hl
def lcSc : Expr → Scope
  | .ListComp _ _ sc _ => sc
  | _ => { kind := .function, names := [], isGenerator := false, isCoroutine := false }
def asVal : Stmt → Expr
  | .Assign _ v _ => v
  | _ => .Constant .none 0 ⟨0, 0, 0, 0⟩
def subBase : Expr → Expr
  | .Subscript a _ _ => a
  | e => e
def cellSc (s : Scope) : Scope := { s with names := s.names.map fun p => if p.2 == NameKind.free then (p.1, NameKind.cell) else p }
theorem min_ex : ∀ {l : List Int}, l ≠ [] → ∃ M ∈ l, ∀ y ∈ l, M ≤ y
  | [], h => absurd rfl h
  | [x], _ => ⟨x, List.mem_cons_self .., fun y hy => by
    rw [List.mem_singleton] at hy
    omega⟩
  | x :: y :: r, _ => by
    obtain ⟨M, h1, h2⟩ := min_ex (l := y :: r) (by simp)
    by_cases c : M ≤ x
    · exact ⟨M, List.mem_cons_of_mem _ h1, fun z hz => by
        rcases List.mem_cons.mp hz with rfl | hz
        · exact c
        · exact h2 z hz⟩
    · exact ⟨x, List.mem_cons_self .., fun z hz => by
        rcases List.mem_cons.mp hz with rfl | hz
        · omega
        · have := h2 z hz
          omega⟩
theorem filter_snoc {p : Tr → Bool} {l : List Tr} {z : Tr} : (l ++ [z]).filter p = if p z = true then l.filter p ++ [z] else l.filter p := by
  rw [List.filter_append, List.filter_cons]
  by_cases c : p z = true
  · rw [if_pos c, if_pos c, List.filter_nil]
  · rw [if_neg c, if_neg c, List.filter_nil, List.append_nil]
theorem take_tr {zs : List Tr} {i : Nat} {z : Tr} (h : zs[i]? = some z) : zs.take (i + 1) = zs.take i ++ [z] := by
  rw [List.take_add_one, h]
  rfl
theorem kd_ins (k : Kd) : decide (V.str k.s = V.str "inside") = decide (k = .ins) := kd_is k .ins
end Ax

/-! # Promises of defs that are called where no guard stands below: they may tell texts of data (repr). -/
namespace Ax
open PySem PySem.Spec PyProof.Rows L2
structure FnG (P : Program) (w : World) (K : PySem.W.Frag) (mg : Str → Option Value) (base : Heap) (k : Nat) (f : Addr) (fd : FuncData) (ps : List Str) (sp : Sp) : Prop where
  many : ∀ vs H Q E, sp vs H Q E → vs.length = ps.length
  go : ∀ {A : Around} {callers : List Env} {st : Shared} {H : Hp} {ar : Args} {us : List Value} {vs : List V} {Q : VK} {E : XK}, A.guards = some [] → Room k A →
    Env0 P w K mg base A callers st H → BindsTo st fd ar (ps.zip us) → Vals vs us → sp vs H Q E →
    codeAny (model P w) A (.call (.ref f) ar) (CR CX0 callers P w H st Q E) st
section
variable {P : Program} {w : World} {K : PySem.W.Frag} {mg : Str → Option Value} {base : Heap} {k : Nat} {f : Addr} {fd : FuncData} {ps N : List Str} {sp : Sp}
/-- by its body -/
theorem fnG {x qual : Str} {d : Stmt} (F : Fun K x qual d f fd) (S : FnScope N ps (defScope d)) (many : ∀ vs H Q E, sp vs H Q E → vs.length = ps.length)
    (body : ∀ (cd : Value) (A : Around) (callers : List Env) (st : Shared) (H : Hp) (vs : List V) (Q : VK) (E : XK), A.guards = some [] → Room k (A.deeper (envOfC qual (defScope d) st.heap.objs.size f cd)) → sp vs H Q E →
      ∃ t, PSs (cxOf CX0 P w K mg base N qual (defScope d) f cd A callers st H E).nox (defBody d) t ∧ t ⟨fun _ H' => Q .non H', Q, fun _ _ => False, fun _ _ => False⟩ (L2.start N vs) H) :
    FnG P w K mg base (k + 1) f fd ps sp := by
  obtain ⟨_, _, _, _, _, _, cd, _, _, rfl, look, isCode⟩ := F.ex
  constructor
  · exact many
  · intro A callers st H ar us vs Q E hg room en bi rel hsp
    have old : ∀ b o, base.get? b = some o → st.heap.get? b = some o := fun b o e => (en.bs b o e).1
    have inK := en.mod.kin.keeps old
    have free := en.mod.nolimit.keeps old
    have kinds : ∀ y ∈ ps.zip us, (defScope d).names.lookup y.1 = some .local ∨ (defScope d).names.lookup y.1 = some .cell ∧ ((cellsFrom (st.heap.objs.size + 1) (defScope d).names []).lookup y.1).isSome = true := by
      rintro ⟨n, u⟩ hy
      exact (S.par n (List.of_mem_zip hy).1).imp id fun z => ⟨z, PySem.W.cellsFrom_some _ _ _ (.inl z)⟩
    refine codeAny_call_function room.depth (inK _ _ look) rfl S.co S.gen rfl (PySem.W.codeRec_of inK isCode) (bi _ _ _ _ (wpAny_newFunctionEnv_cells S.kind kinds ?_))
    rintro _ rfl s1 fresh
    refine ⟨free.keeps fresh.toInCall.keep, codeAny_func ?_⟩
    obtain ⟨t, read, now⟩ := body cd A callers st H vs Q E hg (room.deeper _) hsp
    have start := inv_start (CX := CX0) (E := E) S room.hd en (many _ _ _ _ hsp) rel fresh
    refine wpAny_mono (read.nox.run [] s1 (L2.start N vs) H _ start now) ?_ fun _ _ z => z
    intro fl s2 hs
    have out : ∀ {σ' : L2.St} {H' : Hp} {v : V} {u : Value}, Inv (cxOf CX0 P w K mg base N qual (defScope d) f cd A callers st H E) [] σ' H' s2 → RelV v u → Q v H' → CE callers P w H st Q u s2 :=
      fun J r q => ⟨_, _, J.os, J.bare, J.base, J.hok, r, q⟩
    match fl, hs with
    | .ret u, ⟨v, σ', H', J, r, q⟩ => exact out J r q
    | .next, ⟨σ', H', J, q⟩ => exact out (v := .non) (u := .none) J rfl q
    | .brk, ⟨_, _, _, q⟩ => exact q.elim
    | .cont, ⟨_, _, _, q⟩ => exact q.elim
end
/-! ### its call -/
section
variable {X : Cx} {k : Nat} {f : Addr} {fd : FuncData} {ps : List Str} {sp : Sp} {E : XK} {x : Str} {p pos : Pos} {e : Expr} {es : List Expr} {t : TA}
theorem pe_callG (F : FnG X.prog X.w X.K X.mg X.base k f fd ps sp) (gu : X.A.guards = some []) (room : Room k X.A) (gl : Gl X x) (hm : X.mg x = some (.ref f)) (kp : PySem.W.keepIn X.K (.ref f) = true) (bi : Binds X.K fd ps []) (ps0 : Passes CX0 X E)
    (args : PA X (e :: es) t) (nd : (x == ("__debug__" : Str)) = false := by decide) (st1 : starEach (e :: es) X.env = (false, eval e X.env) :: starEach es X.env := by rfl)
    (st2 : (backTo pos (starEach es X.env)).any (·.1) = false := by rfl) : PE X (.Call (.Name x p) (e :: es) [] pos) (tCall sp [] E t) := by
  constructor
  intro pins s σ H Q I h
  refine wpAny_Call_Name_kw (ld_glob I gl hm (PySem.W.callWith_K (h₀ := X.base) I.ok.mod.kin kp (thn (args.run pos pins s σ H _ I h) ?_) st1 st2) nd)
  rintro us s1 ⟨vs, H1, I1, rel, now⟩
  refine ⟨I1.kIn, ?_⟩
  have rel' : Vals (vs ++ []) (us ++ []) := rel.append .nil
  have len : (us ++ []).length = ps.length := rel'.length.symm.trans (F.many _ _ _ _ now)
  refine wpAny_call (codeAny_mono (F.go gu room I1.env0 (bi s1 us I1.kIn len) rel' now) ?_)
  rintro (er | fl) s2 z
  · exact ps0 pins σ H1 s1 er s2 I1 z
  · match fl, z with
    | .ret u, z => exact I1.after z
    | .next, z => exact z.elim
    | .brk, z => exact z.elim
    | .cont, z => exact z.elim
end
/-! ### the law's call -/
theorem lawG {P : Program} {w : World} {K : PySem.W.Frag} {mg mb : Str → Option Value} {k : Nat} {fa a : Addr} {fd : FuncData} {x : Str} {sp : Sp} {st : Shared} {vs : List Value} {ns : List Int}
    (inK : K.In st.heap) (gl : st.heap.Ns mainGlobals mg) (bl : st.heap.Ns builtinsNs mb) (bb : ∀ y : Str, y ≠ "__name__" → mb y = bootBuiltins y) (free : st.heap.NoLimit) (gens : st.gens = #[])
    (at_ : st.heap.get? a = some { cls := .type "list", data := .seq vs.toArray }) (isI : IntsAre vs ns) (few : ns.length ≤ sizeLine) (room : Room k callerA)
    (F : ∀ base : Heap, K.In base → base.Ns mainGlobals mg → FnG P w K mg base k fa fd [x] sp) (bi : ∀ (s : Shared) (u : Value), BindsTo s fd ⟨[u], []⟩ [(x, u)])
    (hsp : ∀ H : Hp, SqL K H a (ns.map V.int) → sp [.ref a] H (fun v _ => v = .bl true) fun _ _ _ => False) :
    codeAny (model P w) callerA (.call (.ref fa) ⟨[.ref a], []⟩) (fun r s' => r = .ok (.ret (.bool true)) ∧ OldK st.heap s'.heap ∧ s'.os = st.os ∧ AllBare s'.gens) st := by
  have rel := vals_ints isI
  obtain ⟨ob, eob⟩ : ∃ ob : Obj, ob = { cls := .type "list", data := .seq vs.toArray } := ⟨_, rfl⟩
  obtain ⟨H, eH⟩ : ∃ H : Hp, H = fun b => if b = a ∧ K.lookup a = none then some (.frz ob (.lst (ns.map V.int))) else none := ⟨_, rfl⟩
  have only : ∀ {b u}, H b = some u → b = a ∧ K.lookup a = none ∧ u = .frz ob (.lst (ns.map V.int)) := fun {b u} z => by
    rw [eH] at z
    by_cases c : b = a ∧ K.lookup a = none
    · exact ⟨c.1, c.2, (Option.some.inj ((if_pos c).symm.trans z)).symm⟩
    · cases (if_neg c).symm.trans z
  have sizes : vs.length = ns.length := isI.length
  have hS : SqL K H a (ns.map V.int) := by
    cases look : K.lookup a with
    | some o =>
      have same := inK a o look
      rw [at_] at same
      cases same
      exact .inr ⟨_, vs.toArray, _, look, rfl, rfl, rfl, by rw [List.size_toArray, sizes]; exact few, by simpa using rel⟩
    | none => exact .inl (.inr ⟨ob, by rw [eH]; exact if_pos ⟨rfl, look⟩⟩)
  have ok : HOk P w H st.heap := fun b u z => by
    obtain ⟨rfl, _, rfl⟩ := only z
    subst eob
    exact ⟨at_, by rw [List.length_map]; exact few, vs, _, rel, at_⟩
  have shown : ∀ {b o}, st.heap.get? b = some o → (b = a → K.lookup a ≠ none) → (hidT st.heap H).get? b = some o := fun {b o} e n => hidT_get e (by
    cases z : H b with
    | none => rfl
    | some u => exact absurd (only z).2.1 (n (only z).1))
  have names : ∀ {b m}, st.heap.Ns b m → (hidT st.heap H).Ns b m := by
    rintro b m ⟨o, es, ep, e, dd, r⟩
    refine ⟨o, es, ep, shown e (fun z => ?_), dd, r⟩
    rw [z, at_] at e
    cases e
    cases dd
  have inB : K.In (hidT st.heap H) := by
    intro b o e
    refine shown (inK b o e) (fun z n => ?_)
    rw [z, n] at e
    cases e
  have nolim : (hidT st.heap H).NoLimit := by
    obtain ⟨mc, h1, h2⟩ := free
    exact ⟨mc, names h1, h2⟩
  have en : Env0 P w K mg (hidT st.heap H) callerA [] st H :=
    { frames := rfl, mod := ⟨inB, names gl, ⟨mb, names bl, bb⟩, nolim⟩, bs := fun b o e => of_hidT e, bsz := Nat.le_of_eq (hidT_size _ _), funs := trivial,
      frf := fun b hb => (List.not_mem_nil hb).elim, hok := ok, bare := .of_eq gens }
  refine codeAny_mono ((F _ inB (names gl)).go rfl room en (us := [.ref a]) (vs := [V.ref a]) (bi st (.ref a)) (.cons rfl .nil) (hsp H hS)) ?_
  rintro (er | fl) s' z
  · exact (show False from z).elim
  · match fl, z with
    | .next, z => exact z.elim
    | .brk, z => exact z.elim
    | .cont, z => exact z.elim
    | .ret u, ⟨v, H', os, bare, un, ok', r, q⟩ =>
      cases (show v = .bl true from q)
      cases (show u = Value.bool true from r)
      refine ⟨rfl, OldK.of_keep fun b o e => ?_, os, bare⟩
      cases z : H b with
      | none => exact un.keep b o e z (fun y => (List.not_mem_nil y).elim) (fun y => (List.not_mem_nil y).elim)
      | some u =>
        obtain ⟨rfl, _, rfl⟩ := only z
        have e1 := (ok _ _ z).1
        have e2 := (ok' _ _ (un.frzs _ _ _ z)).1
        rw [e] at e1
        cases e1
        exact e2
theorem walkG {l : PySem.W.OpenLaw} {q : Program} {loose : List Str} {XP : (Str → Option Value) → Heap → Prop} {YP : World → Heap → Prop} {d : DefRec} {K : Params → PySem.W.Frag} {k : Nat} {x : Str} {sp : World → Sp}
    (most : l.most = some 63) (nodef : d.params.defaults = []) (room : Room k callerA) (inK : ∀ (w : World) (h : Heap), YP w h → (K w.params).In h)
    (F : ∀ (w : World) (mg : Str → Option Value) (fa : Addr) (h : Heap), (K w.params).In h → h.Ns mainGlobals mg → mg d.name = some (.ref fa) →
      ∃ fd : FuncData, (∀ (s : Shared) (u : Value), BindsTo s fd ⟨[u], []⟩ [(x, u)]) ∧ ∀ base : Heap, (K w.params).In base → base.Ns mainGlobals mg → FnG l.prog w (K w.params) mg base k fa fd [x] (sp w))
    (hsp : ∀ (w : World) (H : Hp) (a : Addr) (ns : List Int), ns.length ≤ 63 → SqL (K w.params) H a (ns.map V.int) → sp w [.ref a] H (fun v _ => v = .bl true) fun _ _ _ => False) :
    PySem.W.WalkO q loose XP YP l.row.toRowW d [] (fun f vs => PySem.call f vs) := by
  refine Att.attach_call most nodef ?_
  intro w s0 st mg mb fa o pm cd doc a vs ns G Y _ _ _ hm at_ isI few gens
  obtain ⟨fd, bi, hF⟩ := F w mg fa _ (inK w _ Y) G.T.g hm
  exact lawG (inK w _ Y) G.T.g G.T.b G.T.builtins G.T.nolimit gens at_ isI (Nat.le_trans few (by decide)) room hF bi fun H hS => hsp w H a ns few hS
/-! ### texts of data -/
/-- repr of data that holds no dict, where no guard stands below -/
def rRepr (K : PySem.W.Frag) (A : Around) : List V → Hp → VK → Prop := fun xs H Q => ∃ (a : Addr) (d : PyData), xs = [.ref a] ∧ Dp K H (.ref a) d ∧ d.showable = true ∧ d.hasDict = false ∧ d.shown.length ≤ sizeLine ∧ A.units + (d.depth + 1) < cLine ∧ Q (.str d.shown) H
theorem call_reprD {X : Cx} (gu : X.A.guards = some []) : CallR X (.builtin "repr") (rRepr X.K X.A) := by
  intro pins s σ H xs us Q I rel h
  obtain ⟨a, d, rfl, dp, s1, s2, s3, s4, q⟩ := h
  obtain ⟨u, rfl, ru⟩ : ∃ u, us = [u] ∧ RelV (.ref a) u := by
    cases rel with
    | cons h t =>
      cases t
      exact ⟨_, rfl, h⟩
  cases ru
  obtain ⟨as, rd⟩ := Dp.reads I d _ _ dp rfl
  refine repr_of_reads' rd s1 (PyData.noDict_hsm s2) gu s4 (fun _ _ e => e) (fun h' u tk kept => ?_) s3
  exact ⟨.str d.shown, H, I.kept kept, ⟨u, rfl⟩, q⟩
theorem shown2 {a b : Int} (h1 : a.natAbs.log2 < 1920) (h2 : b.natAbs.log2 < 1920) : (PyData.tuple [.int a, .int b]).showable = true ∧ (PyData.tuple [.int a, .int b]).hasDict = false ∧ (PyData.tuple [.int a, .int b]).shown.length ≤ sizeLine ∧ (PyData.tuple [.int a, .int b]).depth ≤ 8 := by
  refine ⟨?_, ?_, ?_, ?_⟩
  · simp [PyData.showable, PyData.showableAll, h1, h2]
  · simp [PyData.hasDict, PyData.hasDictAll]
  · have l1 := PyProof.Rows.int_text_len_1921 h1
    have l2 := PyProof.Rows.int_text_len_1921 h2
    simp only [PyData.shown, PyData.shownAll]
    unfold tupleText
    rw [strLen_append, strLen_append]
    have j := join_length_add [Str.ofString (toString a), Str.ofString (toString b)] (by simp)
    simp only [piled] at j
    simp only [List.map_cons, List.map_nil, List.sum_cons, List.sum_nil] at j
    have e1 : (Str.ofString "(").length = 1 := rfl
    have e2 : (Str.ofString (if ([Str.ofString (toString a), Str.ofString (toString b)].length == 1) = true then ",)" else ")")).length ≤ 2 := by
      rw [if_neg (by simp)]
      decide
    rw [sizeLine_eq]
    omega
  · simp [PyData.depth, PyData.depthAll]
end Ax

namespace Ax
open PySem L2
theorem gN {i : Nat} {v : V} {σ σ' : L2.St} {H : Hp} {Q : L2.St → Hp → Prop} (e : σ.set i (some v) = σ') (h : Q σ' H) : gName i v σ H Q := by
  subst e
  exact h
theorem norm2 {F : L2.St → Hp → Prop} {σ σ' : L2.St} {H : Hp} (e : σ = σ') (h : F σ' H) : F σ H := by
  subst e
  exact h
theorem norm3 {F : L2.St → Hp → Prop} {σ σ' : L2.St} {H H' : Hp} (e : σ = σ') (e2 : H = H') (h : F σ' H') : F σ H := by
  subst e e2
  exact h
/-! ### formulas and sets on the heap -/
def KyAt (H : Hp) (k : Ky) (a : Addr) : Prop := ∃ tm, H a = some (.tup [.str k.1.s, .ref tm, .int k.2.2]) ∧ H tm = some (.tup (k.2.1.map V.int))
def optV : Option Int → V
  | none => .non
  | some n => .int n
def FmAt (H : Hp) : Fm → Addr → Prop
  | .all, a => H a = some (.tup [.str "all"])
  | .not f, a => ∃ c, H a = some (.tup [.str "not", .ref c]) ∧ FmAt H f c
  | .and f g, a => ∃ c d, H a = some (.tup [.str "and", .ref c, .ref d]) ∧ FmAt H f c ∧ FmAt H g d
  | .or f g, a => ∃ c d, H a = some (.tup [.str "or", .ref c, .ref d]) ∧ FmAt H f c ∧ FmAt H g d
  | .xor f g, a => ∃ c d, H a = some (.tup [.str "xor", .ref c, .ref d]) ∧ FmAt H f c ∧ FmAt H g d
  | .counted k l m, a => ∃ c, H a = some (.tup [.str "counted", .ref c, .int l, optV m]) ∧ KyAt H k c
  | .taken k m, a => ∃ c, H a = some (.tup [.str "taken", .ref c, .int m]) ∧ KyAt H k c
  | .coarser k k2 n o, a => ∃ c d, H a = some (.tup [.str "coarser", .ref c, .ref d, .int n, .int o]) ∧ KyAt H k c ∧ KyAt H k2 d
  | .touched k low, a => ∃ c, H a = some (.tup [.str "touched", .ref c, .str (if low then "low" else "high")]) ∧ KyAt H k c
theorem KyAt.same {H H' : Hp} {k : Ky} {a : Addr} (h : KyAt H k a) (s : Same H H') : KyAt H' k a :=
  let ⟨tm, h1, h2⟩ := h
  ⟨tm, s _ _ h1, s _ _ h2⟩
theorem FmAt.same {H H' : Hp} (s : Same H H') : ∀ {f : Fm} {a : Addr}, FmAt H f a → FmAt H' f a
  | .all, _, h => s _ _ h
  | .not f, _, ⟨c, h, h1⟩ => ⟨c, s _ _ h, FmAt.same s (f := f) h1⟩
  | .and f g, _, ⟨c, d, h, h1, h2⟩ => ⟨c, d, s _ _ h, FmAt.same s (f := f) h1, FmAt.same s (f := g) h2⟩
  | .or f g, _, ⟨c, d, h, h1, h2⟩ => ⟨c, d, s _ _ h, FmAt.same s (f := f) h1, FmAt.same s (f := g) h2⟩
  | .xor f g, _, ⟨c, d, h, h1, h2⟩ => ⟨c, d, s _ _ h, FmAt.same s (f := f) h1, FmAt.same s (f := g) h2⟩
  | .counted _ _ _, _, ⟨c, h, h1⟩ => ⟨c, s _ _ h, h1.same s⟩
  | .taken _ _, _, ⟨c, h, h1⟩ => ⟨c, s _ _ h, h1.same s⟩
  | .coarser _ _ _ _, _, ⟨c, d, h, h1, h2⟩ => ⟨c, d, s _ _ h, h1.same s, h2.same s⟩
  | .touched _ _, _, ⟨c, h, h1⟩ => ⟨c, s _ _ h, h1.same s⟩
/-- what a key must have that a rule can be made of it -/
def KyR (b : Int) (k : Ky) : Prop := RArgs b k.1 k.2.1 k.2.2
def FmR (b : Int) : Fm → Prop
  | .all => True
  | .not f => FmR b f
  | .and f g => FmR b f ∧ FmR b g
  | .or f g => FmR b f ∧ FmR b g
  | .xor f g => FmR b f ∧ FmR b g
  | .counted k l m => KyR b k ∧ l.natAbs < 2 ^ 60 ∧ m.all fun z => decide (z.natAbs < 2 ^ 60)
  | .taken k _ => KyR b k
  | .coarser k k2 n o => KyR b k ∧ KyR b k2 ∧ 1 ≤ n ∧ n < 2 ^ 60 ∧ 1 ≤ o ∧ o < 2 ^ 60
  | .touched k _ => KyR b k
theorem KyR.ok {b : Int} {k : Ky} (h : KyR b k) : KyOk b k := ⟨fun m hm => ⟨(h.all m hm).1, (h.all m hm).2.2⟩, h.m1, h.mC⟩
theorem FmR.ok {b : Int} : ∀ {f : Fm}, FmR b f → FmOk b f
  | .all, _ => trivial
  | .not f, h => FmR.ok (f := f) h
  | .and f g, h => ⟨FmR.ok (f := f) h.1, FmR.ok (f := g) h.2⟩
  | .or f g, h => ⟨FmR.ok (f := f) h.1, FmR.ok (f := g) h.2⟩
  | .xor f g, h => ⟨FmR.ok (f := f) h.1, FmR.ok (f := g) h.2⟩
  | .counted _ _ _, h => KyR.ok h.1
  | .taken _ _, h => KyR.ok h
  | .coarser _ _ _ _, h => ⟨KyR.ok h.1, KyR.ok h.2.1⟩
  | .touched _ _, h => KyR.ok h
/-- a set's object -/
def sf1 (b : Int) : List (Str × V) := putF "_base" (.int b) []
def sf (b : Int) (fa : Addr) : List (Str × V) := putF "_formula" (.ref fa) (sf1 b)
theorem sf_lookup (b : Int) (fa : Addr) (f : Str) : (sf b fa).lookup f = if f = "_formula" then some (.ref fa) else if f = "_base" then some (.int b) else none := by
  unfold sf sf1
  simp only [lookup_putF, List.lookup_nil]
theorem sf_formula (b : Int) (fa : Addr) : (sf b fa).lookup ("_formula" : Str) = some (.ref fa) := by rw [sf_lookup, if_pos rfl]
theorem sf_base (b : Int) (fa : Addr) : (sf b fa).lookup ("_base" : Str) = some (.int b) := by rw [sf_lookup, if_neg (by decide +kernel), if_pos rfl]
structure SetAt (C : Addr) (H : Hp) (a : Addr) (b : Int) (f : Fm) (dx fa : Addr) : Prop where
  at_ : H a = some (.ins C dx (sf b fa))
  fm : FmAt H f fa
theorem SetAt.same {C : Addr} {H H' : Hp} {a : Addr} {b : Int} {f : Fm} {dx fa : Addr} (x : SetAt C H a b f dx fa) (s : Same H H') : SetAt C H' a b f dx fa := ⟨s _ _ x.at_, FmAt.same s x.fm⟩
theorem FunD.okN {P : Program} {w : World} {K : PySem.W.Frag} {mg : Str → Option Value} {base : Heap} {x qual : Str} {params : Arguments} {body : List Stmt} {scope : Scope} {dvs : List V} {kws : List (Str × V)} {f : Addr} {fd : FuncData} {N ps : List Str} {k : Nat} {sp : Sp} (F : FunD K x qual params body scope dvs kws f fd) (S : FnScope N ps scope) (len : ∀ vs H Q E, sp vs H Q E → vs.length = ps.length)
    (hbody : ∀ (cdv : Value) (A : Around) (outer : List Env) (s : Shared) (H : Hp) (vs : List V) (Q : VK) (E : XK), Room k (A.deeper (PyProof.Rows.envOfC qual scope s.heap.objs.size f cdv)) → sp vs H Q E →
      ∃ t, PSs (cxOf CX0 P w K mg base N qual scope f cdv A outer s H E).nox body t ∧ t { nx := fun _ H' => Q .non H', rt := Q } (L2.start N vs) H) : FnOk P w K mg base CX0 (k + 1) f fd ps sp :=
  F.ok S len fun cdv A outer s H vs Q E hr h => let ⟨t, p, q⟩ := hbody cdv A outer s H vs Q E hr h
    ⟨t, p.nox, q⟩
section
variable {P : Program} {w : World} {K : PySem.W.Frag} {mg : Str → Option Value} {base : Heap} {A : Adr}
/-! ### RangeSet.__init__, base -/
def spRInit (A : Adr) : Sp := fun vs H Q _ => ∃ (r dx fa : Addr) (b : Int), vs = [.ref r, .int b, .ref fa] ∧ H r = some (.ins A.c_RangeSet dx []) ∧
  ∀ (H' : Hp), (∀ c o, c ≠ r → H c = some o → H' c = some o) → H' r = some (.ins A.c_RangeSet dx (sf b fa)) → Q .non H'
abbrev nm_RangeSet_init : List Str := ["self", "base", "formula"]
theorem sc_RangeSet_init : FnScope ["self", "base", "formula"] ["self", "base", "formula"] (defScope s_RangeSet_init) := ⟨rfl, rfl, rfl, by decide +kernel, rfl, by decide +kernel, by decide +kernel⟩
theorem ok_rinit (T : Txt K mg A w) : FnOk P w K mg base CX0 1 A.a_RangeSet_init A.d_RangeSet_init ["self", "base", "formula"] (spRInit A) := by
  refine T.F_RangeSet_init.ok sc_RangeSet_init (fun vs H Q E h => ?_) (fun cdv A0 outer s H vs Q E hr h => ?_)
  · obtain ⟨r, dx, fa, b, rfl, _⟩ := h
    rfl
  · obtain ⟨r, dx, fa, b, rfl, hR, q⟩ := h
    refine ⟨_, (pss_cons (ps_fld (pv 0) (pv 1) rfl)
  (pss_one (ps_fld (pv 0) (pv 2) rfl))), ?_⟩
    refine ⟨_, rfl, _, rfl, r, A.c_RangeSet, dx, [], rfl, hR, T.cl2, T.nb_base, (by decide), ?_⟩
    refine ⟨_, rfl, _, rfl, r, A.c_RangeSet, dx, sf1 b, rfl, upd_same, T.cl2, T.nb_formula, Nat.lt_of_le_of_lt (length_putF _ _ _) (by decide), ?_⟩
    refine q _ (fun c o n e => ?_) upd_same
    rw [upd_ne n, upd_ne n]
    exact e
/-- a set is made -/
theorem set_new {C y dx fa : Addr} {H H1 : Hp} {b : Int} {f : Fm} (nx : H y = none) (ndx : H dx = none) (nex : dx ≠ y) (F : FmAt H f fa) (kept : ∀ c o, c ≠ y → (upd (upd H dx (.own y)) y (.ins C dx [])) c = some o → H1 c = some o) (h : H1 y = some (.ins C dx (sf b fa))) : Same H H1 ∧ SetAt C H1 y b f dx fa := by
  have s : Same H H1 := fun c o e => kept c o (ne_of_none e nx) (by rw [upd_ne (ne_of_none e nx), upd_ne (ne_of_none e ndx)]; exact e)
  exact ⟨s, h, FmAt.same s F⟩
def spSB (A : Adr) : Sp := fun vs H Q _ => ∃ (a : Addr) (b : Int) (f : Fm) (dx fa : Addr), vs = [.ref a] ∧ SetAt A.c_RangeSet H a b f dx fa ∧ Q (.int b) H
abbrev nm_RangeSet_base : List Str := ["self"]
theorem sc_RangeSet_base : FnScope ["self"] ["self"] (defScope s_RangeSet_base) := ⟨rfl, rfl, rfl, by decide +kernel, rfl, by decide +kernel, by decide +kernel⟩
theorem ok_sb (T : Txt K mg A w) : FnOk P w K mg base CX0 1 A.a_RangeSet_base A.d_RangeSet_base ["self"] (spSB A) := by
  refine T.F_RangeSet_base.ok sc_RangeSet_base (fun vs H Q E h => ?_) (fun cdv A0 outer s H vs Q E hr h => ?_)
  · obtain ⟨a, b, f, dx, fa, rfl, _⟩ := h
    rfl
  · obtain ⟨a, b, f, dx, fa, rfl, x, q⟩ := h
    refine ⟨_, (pss_one (ps_ret (pe_fld (pv 0) rfl))), ?_⟩
    exact ⟨_, rfl, a, A.c_RangeSet, dx, _, _, rfl, x.at_, T.cl2, T.nb_base, sf_base _ _, q⟩
end
end Ax

namespace Ax
open PySem L2
theorem inV_ints {m : Int} {ms : List Int} (h : m ∈ ms) : inV (.int m) (ms.map V.int) = true :=
  List.any_eq_true.mpr ⟨.int m, List.mem_map.mpr ⟨m, h, rfl⟩, by simp [eqV]⟩
theorem flat_ints (ms : List Int) : (ms.map V.int).all flatV = true := by
  rw [List.all_eq_true]
  intro x hx
  obtain ⟨m, _, rfl⟩ := List.mem_map.mp hx
  rfl
section
variable {P : Program} {w : World} {K : PySem.W.Frag} {mg : Str → Option Value} {base : Heap} {A : Adr}
theorem clist (K : PySem.W.Frag) {X : Cx} (h : X.K = K := by rfl) : CallR X (.type "list") (fun xs H Q => ∃ p ys, xs = [V.ref p] ∧ (SqL K H p ys ∨ SqT K H p ys) ∧ ∀ (l : Addr), H l = none → Q (V.ref l) (upd H l (HO.lst ys))) := h ▸ call_list_of
/-! ### mantissas -/
def spPMs (A : Adr) : Sp := fun vs H Q _ => ∃ (r : Addr) (b : Int) (k : Kd) (ms : List Int) (most : Int) (D : RD), vs = [.ref r] ∧ RX A.c_Rule H r b k ms most D ∧ ∀ l, H l = none → Q (.ref l) (upd H l (.lst (D.ms'.map V.int)))
abbrev nm_Rule_mantissas : List Str := ["self"]
theorem sc_Rule_mantissas : FnScope ["self"] ["self"] (defScope s_Rule_mantissas) := ⟨rfl, rfl, rfl, by decide +kernel, rfl, by decide +kernel, by decide +kernel⟩
theorem ok_pms (T : Txt K mg A w) : FnOk P w K mg base CX0 1 A.a_Rule_mantissas A.d_Rule_mantissas ["self"] (spPMs A) := by
  refine T.F_Rule_mantissas.ok sc_Rule_mantissas (fun vs H Q E h => ?_) (fun cdv A0 outer s H vs Q E hr h => ?_)
  · obtain ⟨r, b, k, ms, most, D, rfl, _⟩ := h
    rfl
  · obtain ⟨r, b, k, ms, most, D, rfl, x, q⟩ := h
    refine ⟨_, (pss_one (ps_ret (pe_callTy (clist K) (by rfl) T.n_list (by decide +kernel) (pa_cons (pe_fld (pv 0) rfl) pa_nil)))), ?_⟩
    exact ⟨_, rfl, r, A.c_Rule, D.dx, _, _, rfl, x.at_, T.cl, T.na_mantissas, rf_mantissas _ _ _ _ _ _, D.lm, _, rfl, .inl (SqL.of x.lm_), fun l hl => q l hl⟩
/-! ### check_number, check_rules_of_one_base -/
def spCkN : Sp := fun vs H Q _ => ∃ (n least : Int), vs = [.int n, .int least] ∧ least ≤ n ∧ Q .non H
abbrev nm_check_number : List Str := ["number", "least"]
theorem sc_check_number : FnScope ["number", "least"] ["number", "least"] (defScope s_check_number) := ⟨rfl, rfl, rfl, by decide +kernel, rfl, by decide +kernel, by decide +kernel⟩
theorem ok_ckn (T : Txt K mg A w) : FnOk P w K mg base CX0 2 A.a_check_number A.d_check_number ["number", "least"] spCkN := by
  have G_is_whole : FnOk P w K mg base CX0 1 A.a_is_whole A.d_is_whole ["value"] (spWhole K) := ok_is_whole T
  refine T.F_check_number.ok sc_check_number (fun vs H Q E h => ?_) (fun cdv A0 outer s H vs Q E hr h => ?_)
  · obtain ⟨n, least, rfl, _⟩ := h
    rfl
  · obtain ⟨n, least, rfl, le, q⟩ := h
    refine ⟨_, (pss_one (ps_if (PW.pt (pw_or (pt_not (pt_val (pe_call G_is_whole (hr.mono (by decide)) (by rfl) T.m_is_whole T.F_is_whole.kp T.B_is_whole .nil pass0 (pa_cons (pv 0) pa_nil)))) (pw_or1 (pt_cmpR op_lt (pv 0) (pv 1) (nomark _))))) (pss_one ps_never) pss_nil)), ?_⟩
    refine ⟨_, rfl, .int n, .type "int", true, false, rfl, .base (.int n), kit_ty (by decide +kernel), fun _ => kit_ty (by decide +kernel), ?_⟩
    refine ⟨_, rfl, iteF ?_⟩
    refine ⟨_, rfl, _, rfl, _, _, rfl, rfl, _, rfl, ?_⟩
    exact ite2 (fun hc => absurd (of_decide_eq_true hc) (by omega)) (fun _ => q)
def spCk2 (A : Adr) : Sp := fun vs H Q _ => ∃ (r r2 : Addr) (b : Int) (k k2 : Kd) (ms ms2 : List Int) (most most2 : Int) (D D2 : RD), vs = [.ref r, .ref r2] ∧ RX A.c_Rule H r b k ms most D ∧ RX A.c_Rule H r2 b k2 ms2 most2 D2 ∧ Q .non H
abbrev nm_check_rules_of_one_base : List Str := ["one", "other"]
theorem sc_check_rules_of_one_base : FnScope ["one", "other"] ["one", "other"] (defScope s_check_rules_of_one_base) := ⟨rfl, rfl, rfl, by decide +kernel, rfl, by decide +kernel, by decide +kernel⟩
theorem ok_ck2 (T : Txt K mg A w) : FnOk P w K mg base CX0 3 A.a_check_rules_of_one_base A.d_check_rules_of_one_base ["one", "other"] (spCk2 A) := by
  have G_check_rule : FnOk P w K mg base CX0 1 A.a_check_rule A.d_check_rule ["rule"] (spCheck A) := ok_check T
  have G_Rule_base := ok_pb (P := P) (base := base) T
  refine T.F_check_rules_of_one_base.ok sc_check_rules_of_one_base (fun vs H Q E h => ?_) (fun cdv A0 outer s H vs Q E hr h => ?_)
  · obtain ⟨r, r2, b, k, k2, ms, ms2, most, most2, D, D2, rfl, _⟩ := h
    rfl
  · obtain ⟨r, r2, b, k, k2, ms, ms2, most, most2, D, D2, rfl, x, x2, q⟩ := h
    refine ⟨_, (pss_cons (ps_expr (pe_call G_check_rule (hr.mono (by decide)) (by rfl) T.m_check_rule T.F_check_rule.kp T.B_check_rule .nil pass0 (pa_cons (pv 0) pa_nil)))
  (pss_cons (ps_expr (pe_call G_check_rule (hr.mono (by decide)) (by rfl) T.m_check_rule T.F_check_rule.kp T.B_check_rule .nil pass0 (pa_cons (pv 1) pa_nil)))
  (pss_one (ps_if (pt_cmpR op_ne (pe_prop (pv 1) T.cl T.pr_Rule_base G_Rule_base (hr.mono (by decide)) T.B_Rule_base .nil pass0 rfl) (pe_prop (pv 0) T.cl T.pr_Rule_base G_Rule_base (hr.mono (by decide)) T.B_Rule_base .nil pass0 rfl) (nomark _)) (pss_one ps_never) pss_nil)))), ?_⟩
    refine ⟨_, rfl, r, b, k, ms, most, D, rfl, x, ?_⟩
    refine ⟨_, rfl, r2, b, k2, ms2, most2, D2, rfl, x2, ?_⟩
    refine ⟨_, rfl, r2, D2.dx, _, rfl, x2.at_, r2, b, k2, ms2, most2, D2, rfl, x2, ?_⟩
    refine ⟨_, rfl, r, D.dx, _, rfl, x.at_, r, b, k, ms, most, D, rfl, x, rfl, _, rfl, ?_⟩
    rw [decide_eq_true rfl]
    exact iteF q
/-! ### key_of, rule_of -/
def spKey (A : Adr) : Sp := fun vs H Q _ => ∃ (r : Addr) (b : Int) (k : Kd) (ms : List Int) (most : Int) (D : RD), vs = [.ref r] ∧ RX A.c_Rule H r b k ms most D ∧
  ∀ (H' : Hp) (q : Addr), Same H H' → H q = none → KyAt H' (k, D.ms', most) q → Q (.ref q) H'
abbrev nm_key_of : List Str := ["rule"]
theorem sc_key_of : FnScope ["rule"] ["rule"] (defScope s_key_of) := ⟨rfl, rfl, rfl, by decide +kernel, rfl, by decide +kernel, by decide +kernel⟩
theorem ok_key (T : Txt K mg A w) : FnOk P w K mg base CX0 3 A.a_key_of A.d_key_of ["rule"] (spKey A) := by
  have G_Rule_kind := ok_pk (P := P) (base := base) T
  have G_Rule_most := ok_pm (P := P) (base := base) T
  have G_Rule_mantissas := ok_pms (P := P) (base := base) T
  refine T.F_key_of.ok sc_key_of (fun vs H Q E h => ?_) (fun cdv A0 outer s H vs Q E hr h => ?_)
  · obtain ⟨r, b, k, ms, most, D, rfl, _⟩ := h
    rfl
  · obtain ⟨r, b, k, ms, most, D, rfl, x, q⟩ := h
    refine ⟨_, (pss_one (ps_ret (pe_tup (pa_cons (pe_prop (pv 0) T.cl T.pr_Rule_kind G_Rule_kind (hr.mono (by decide)) T.B_Rule_kind .nil pass0 rfl) (pa_cons (pe_callTy call_tuple_of (by rfl) T.n_tuple (by decide +kernel) (pa_cons (pe_prop (pv 0) T.cl T.pr_Rule_mantissas G_Rule_mantissas (hr.mono (by decide)) T.B_Rule_mantissas .nil pass0 rfl) pa_nil)) (pa_cons (pe_prop (pv 0) T.cl T.pr_Rule_most G_Rule_most (hr.mono (by decide)) T.B_Rule_most .nil pass0 rfl) pa_nil)))))), ?_⟩
    refine ⟨_, rfl, r, D.dx, _, rfl, x.at_, r, b, k, ms, most, D, rfl, x, ?_⟩
    refine ⟨_, rfl, r, D.dx, _, rfl, x.at_, r, b, k, ms, most, D, rfl, x, fun l hl => ?_⟩
    have a1 := same_new (o := .lst (D.ms'.map V.int)) hl
    refine ⟨l, _, rfl, .inl ⟨SqL.of upd_same, fun t ht => ?_⟩⟩
    have a2 := same_new (o := .tup (D.ms'.map V.int)) ht
    have x2 := x.same (a1.trans a2)
    refine ⟨_, rfl, r, D.dx, _, rfl, x2.at_, r, b, k, ms, most, D, rfl, x2, ?_⟩
    refine ⟨(by show 3 ≤ sizeLine; decide), fun q1 hq1 => ?_⟩
    have a3 := same_new (o := .tup [.str k.s, .ref t, .int most]) hq1
    exact q _ q1 ((a1.trans a2).trans a3) ((a1.trans a2).free hq1) ⟨t, upd_same, a3 _ _ upd_same⟩
def spRuleOf (A : Adr) : Sp := fun vs H Q _ => ∃ (a : Addr) (b : Int) (k : Ky), vs = [.int b, .ref a] ∧ KyAt H k a ∧ KyR b k ∧
  ∀ (H' : Hp) (r : Addr) (D : RD), Same H H' → H r = none → RX A.c_Rule H' r b k.1 k.2.1 k.2.2 D → Q (.ref r) H'
abbrev nm_rule_of : List Str := ["base", "key", "kind", "mantissas", "most"]
theorem sc_rule_of : FnScope ["base", "key", "kind", "mantissas", "most"] ["base", "key"] (defScope s_rule_of) := ⟨rfl, rfl, rfl, by decide +kernel, rfl, by decide +kernel, by decide +kernel⟩
theorem ok_ruleof (T : Txt K mg A w) : FnOk P w K mg base CX0 6 A.a_rule_of A.d_rule_of ["base", "key"] (spRuleOf A) := by
  have G_Rule_init : FnOk P w K mg base CX0 4 A.a_Rule_init A.d_Rule_init ["self", "base", "kind", "mantissas", "most"] (spInit A) := ok_init T
  refine T.F_rule_of.ok sc_rule_of (fun vs H Q E h => ?_) (fun cdv A0 outer s H vs Q E hr h => ?_)
  · obtain ⟨a, b, k, rfl, _⟩ := h
    rfl
  · obtain ⟨a, b, k, rfl, ⟨tm, h1, h2⟩, R, q⟩ := h
    refine ⟨_, (pss_cons (ps_asg (pv 1) (pg_tup (by rfl) (pgs_cons (pg_name (i := 2) sc_rule_of.nd rfl (Or.inl rfl)) (pgs_cons (pg_name (i := 3) sc_rule_of.nd rfl (Or.inl rfl)) (pgs_cons (pg_name (i := 4) sc_rule_of.nd rfl (Or.inl rfl)) pgs_nil)))))
  (pss_one (ps_ret (pe_make T.mk_Rule G_Rule_init (hr.mono (by decide)) (by rfl) T.c_Rule T.B_Rule_init .nil pass0 (pa_cons (pv 0) (pa_cons (pv 2) (pa_cons (pe_callTy (clist K) (by rfl) T.n_list (by decide +kernel) (pa_cons (pv 3) pa_nil)) (pa_cons (pv 4) pa_nil)))))))), ?_⟩
    refine ⟨_, rfl, a, _, rfl, SqT.of h1, rfl, _, _, rfl, _, _, rfl, _, _, rfl, rfl, ?_⟩
    refine norm2 (σ' := [some (.int b), some (.ref a), some (.str k.1.s), some (.ref tm), some (.int k.2.2)]) rfl ?_
    refine ⟨_, rfl, _, rfl, _, rfl, tm, _, rfl, .inr (SqT.of h2), fun l9 hl9 => ?_⟩
    have s8 : Same H (upd H l9 (.lst (k.2.1.map V.int))) := same_new hl9
    refine ⟨_, rfl, fun x dx nx ndx nex => ?_⟩
    generalize hH8 : upd H l9 (.lst (k.2.1.map V.int)) = H8 at s8 nx ndx ⊢
    have l98 : H8 l9 = some (.lst (k.2.1.map V.int)) := by rw [← hH8]; exact upd_same
    have s9 : Same H8 (upd (upd H8 dx (.own x)) x (.ins A.c_Rule dx [])) := (same_new ndx).trans (same_new (by rw [upd_ne nex.symm]; exact nx))
    refine ⟨x, dx, l9, b, k.1, k.2.1, k.2.2, rfl, upd_same, s9 _ _ l98, R, fun H10 D kept X10 n1 n2 => ⟨rfl, ?_⟩⟩
    have s10 : Same H H10 := fun c o e => kept c o (ne_of_none (s8 _ _ e) nx) (s9 _ _ (s8 _ _ e))
    exact q H10 x D s10 (s8.free nx) X10
/-! ### compare_steps -/
def dgZ (p1 p2 : Int) : Int := if -(if p2 < p1 then p2 else p1) > 0 then -(if p2 < p1 then p2 else p1) else 0
def spCmpS : Sp := fun vs H Q _ => ∃ (s1 s2 : Addr) (b m1 p1 m2 p2 : Int), vs = [.int b, .ref s1, .ref s2] ∧ H s1 = some (.tup [.int m1, .int p1]) ∧ H s2 = some (.tup [.int m2, .int p2]) ∧ 1 ≤ b ∧ b < BIG ∧ 0 ≤ m1 ∧ m1 < BIG ∧ 0 ≤ m2 ∧ m2 < BIG ∧
  b ^ (p1 + dgZ p1 p2).natAbs < BIG ∧ b ^ (p2 + dgZ p1 p2).natAbs < BIG ∧
  ∀ (H' : Hp) (q : Addr), Same H H' → H q = none → H' q = some (.tup [.int (sizZ b m1 (p1 + dgZ p1 p2)), .int (sizZ b m2 (p2 + dgZ p1 p2))]) → Q (.ref q) H'
abbrev nm_compare_steps : List Str := ["base", "one", "other", "digits"]
theorem sc_compare_steps : FnScope ["base", "one", "other", "digits"] ["base", "one", "other"] (defScope s_compare_steps) := ⟨rfl, rfl, rfl, by decide +kernel, rfl, by decide +kernel, by decide +kernel⟩
theorem ok_cmps (T : Txt K mg A w) : FnOk P w K mg base CX0 3 A.a_compare_steps A.d_compare_steps ["base", "one", "other"] spCmpS := by
  have G_measure : FnOk P w K mg base CX0 2 A.a_measure A.d_measure ["base", "step", "digits"] (spMeasure K) := ok_measure T
  refine T.F_compare_steps.ok sc_compare_steps (fun vs H Q E h => ?_) (fun cdv A0 outer s H vs Q E hr h => ?_)
  · obtain ⟨s1, s2, b, m1, p1, m2, p2, rfl, _⟩ := h
    rfl
  · obtain ⟨s1, s2, b, m1, p1, m2, p2, rfl, h1, h2, b1, bB, m10, m1B, m20, m2B, B1, B2, q⟩ := h
    refine ⟨_, (pss_cons (ps_set (i := 3) sc_compare_steps.nd rfl (Or.inl rfl) (pe_callB (call_max2 rfl) (by rfl) T.n_max (by decide +kernel) (pa_cons pe_int (pa_cons (pe_un un_neg (pe_callB (call_min2 rfl) (by rfl) T.n_min (by decide +kernel) (pa_cons (pe_callTy call_int1 (by rfl) T.n_int (by decide +kernel) (pa_cons (pe_ix ix_tup (pv 1) pe_int (fun _ _ => rfl)) pa_nil)) (pa_cons (pe_ix ix_tup (pv 2) pe_int (fun _ _ => rfl)) pa_nil)))) pa_nil))))
  (pss_one (ps_ret (pe_tup (pa_cons (pe_ix ix_tup (pe_call G_measure (hr.mono (by decide)) (by rfl) T.m_measure T.F_measure.kp T.B_measure .nil pass0 (pa_cons (pv 0) (pa_cons (pv 1) (pa_cons (pv 3) pa_nil)))) pe_int (fun _ _ => rfl)) (pa_cons (pe_ix ix_tup (pe_call G_measure (hr.mono (by decide)) (by rfl) T.m_measure T.F_measure.kp T.B_measure .nil pass0 (pa_cons (pv 0) (pa_cons (pv 2) (pa_cons (pv 3) pa_nil)))) pe_int (fun _ _ => rfl)) pa_nil)))))), ?_⟩
    refine ⟨_, rfl, s1, _, _, _, rfl, rfl, SqT.of h1, atL (j := 1) rfl, .inl ⟨_, rfl, _, rfl, s2, _, _, _, rfl, rfl, SqT.of h2, atL (j := 1) rfl, _, _, rfl, _, rfl, _, _, rfl, ?_⟩⟩
    refine gN (σ' := [some (.int b), some (.ref s1), some (.ref s2), some (.int (dgZ p1 p2))]) rfl ?_
    refine ⟨_, rfl, _, rfl, _, rfl, b, m1, p1, dgZ p1 p2, s1, rfl, SqT.of h1, b1, bB, B1, m10, m1B, fun H1 q1 sm1 q10 e1 => ?_⟩
    have hq1 : H1 q1 = some (.tup [.int (facZ b (p1 + dgZ p1 p2)), .int (sizZ b m1 (p1 + dgZ p1 p2))]) := by rw [e1]; exact upd_same
    refine ⟨q1, _, _, _, rfl, rfl, SqT.of hq1, atL (j := 1) rfl, ?_⟩
    refine ⟨_, rfl, _, rfl, _, rfl, b, m2, p2, dgZ p1 p2, s2, rfl, SqT.of (sm1 _ _ h2), b1, bB, B2, m20, m2B, fun H2 q2 sm2 q20 e2 => ?_⟩
    have hq2 : H2 q2 = some (.tup [.int (facZ b (p2 + dgZ p1 p2)), .int (sizZ b m2 (p2 + dgZ p1 p2))]) := by rw [e2]; exact upd_same
    refine ⟨q2, _, _, _, rfl, rfl, SqT.of hq2, atL (j := 1) rfl, (by show 2 ≤ sizeLine; decide), fun q3 hq3 => ?_⟩
    have s12 := sm1.trans sm2
    exact q _ q3 (s12.trans (same_new hq3)) (s12.free hq3) upd_same
/-! ### the functions that make sets -/
def spCtd (A : Adr) : Sp := fun vs H Q _ => ∃ (r : Addr) (b : Int) (k : Kd) (ms : List Int) (most : Int) (D : RD) (lst : Int) (mst : Option Int), vs = [.ref r, .int lst, optV mst] ∧ RX A.c_Rule H r b k ms most D ∧ 0 ≤ lst ∧ (∀ z, mst = some z → 0 ≤ z) ∧
  ∀ (H' : Hp) (q dx fa : Addr), Same H H' → H q = none → SetAt A.c_RangeSet H' q b (.counted (k, D.ms', most) lst mst) dx fa → Q (.ref q) H'
abbrev nm_counted : List Str := ["rule", "least", "most"]
theorem sc_counted : FnScope ["rule", "least", "most"] ["rule", "least", "most"] (defScope s_counted) := ⟨rfl, rfl, rfl, by decide +kernel, rfl, by decide +kernel, by decide +kernel⟩
theorem ok_ctd (T : Txt K mg A w) : FnOk P w K mg base CX0 5 A.a_counted A.d_counted ["rule", "least", "most"] (spCtd A) := by
  have G_check_rule : FnOk P w K mg base CX0 1 A.a_check_rule A.d_check_rule ["rule"] (spCheck A) := ok_check T
  have G_check_number : FnOk P w K mg base CX0 2 A.a_check_number A.d_check_number ["number", "least"] spCkN := ok_ckn T
  have G_key_of : FnOk P w K mg base CX0 3 A.a_key_of A.d_key_of ["rule"] (spKey A) := ok_key T
  have G_RangeSet_init : FnOk P w K mg base CX0 1 A.a_RangeSet_init A.d_RangeSet_init ["self", "base", "formula"] (spRInit A) := ok_rinit T
  have G_Rule_base := ok_pb (P := P) (base := base) T
  refine FunD.okN T.F_counted sc_counted (fun vs H Q E h => ?_) (fun cdv A0 outer s H vs Q E hr h => ?_)
  · obtain ⟨r, b, k, ms, most, D, lst, mst, rfl, _⟩ := h
    rfl
  · obtain ⟨r, b, k, ms, most, D, lst, mst, rfl, x, l0, mz, q⟩ := h
    refine ⟨_, (pss_cons (ps_expr (pe_call G_check_rule (hr.mono (by decide)) (by rfl) T.m_check_rule T.F_check_rule.kp T.B_check_rule .nil pass0 (pa_cons (pv 0) pa_nil)))
  (pss_cons (ps_expr (pe_call G_check_number (hr.mono (by decide)) (by rfl) T.m_check_number T.F_check_number.kp T.B_check_number .nil pass0 (pa_cons (pv 1) (pa_cons pe_int pa_nil))))
  (Evl.pss_cut (ps_if (pt_cmpR op_notN (pv 2) pe_non (nomark _)) (pss_one (ps_expr (pe_call G_check_number (hr.mono (by decide)) (by rfl) T.m_check_number T.F_check_number.kp T.B_check_number .nil pass0 (pa_cons (pv 2) (pa_cons pe_int pa_nil))))) pss_nil)
  (pss_one (ps_ret (pe_make T.mk_RangeSet G_RangeSet_init (hr.mono (by decide)) (by rfl) T.c_RangeSet T.B_RangeSet_init .nil pass0 (pa_cons (pe_prop (pv 0) T.cl T.pr_Rule_base G_Rule_base (hr.mono (by decide)) T.B_Rule_base .nil pass0 rfl) (pa_cons (pe_tup (pa_cons pe_str (pa_cons (pe_call G_key_of (hr.mono (by decide)) (by rfl) T.m_key_of T.F_key_of.kp T.B_key_of .nil pass0 (pa_cons (pv 0) pa_nil)) (pa_cons (pv 1) (pa_cons (pv 2) pa_nil))))) pa_nil)))))))), ?_⟩
    refine ⟨_, rfl, r, b, k, ms, most, D, rfl, x, ?_⟩
    refine ⟨_, rfl, lst, 0, rfl, l0, ?_⟩
    refine ⟨fun σ H1 => σ = [some (.ref r), some (.int lst), some (optV mst)] ∧ H1 = H, ?_, ?_⟩
    · cases mst with
      | none =>
        refine ⟨_, rfl, rfl, _, rfl, ?_⟩
        refine iteF ⟨rfl, rfl⟩
      | some z =>
        refine ⟨_, rfl, rfl, _, rfl, ?_⟩
        refine iteT ⟨_, rfl, z, 0, rfl, mz z rfl, rfl, rfl⟩
    · rintro σ H1 ⟨rfl, rfl⟩
      refine ⟨_, rfl, r, D.dx, _, rfl, x.at_, r, b, k, ms, most, D, rfl, x, ?_⟩
      refine ⟨_, rfl, r, b, k, ms, most, D, rfl, x, fun H2 kq s2 _ hk => ?_⟩
      refine ⟨_, rfl, _, rfl, (by show 4 ≤ sizeLine; decide), fun fa hfa => ?_⟩
      have a3 := same_new (o := .tup [.str "counted", .ref kq, .int lst, optV mst]) hfa
      have F : FmAt (upd H2 fa (.tup [.str "counted", .ref kq, .int lst, optV mst])) (.counted (k, D.ms', most) lst mst) fa := ⟨kq, upd_same, hk.same a3⟩
      intro y dx nx ndx nex
      refine ⟨y, dx, fa, b, rfl, upd_same, fun H4 kept h4 => ⟨rfl, ?_⟩⟩
      obtain ⟨s4, S4⟩ := set_new nx ndx nex F kept h4
      exact q H4 y dx fa (s2.trans (a3.trans s4)) ((s2.trans a3).free nx) S4
def spTkn (A : Adr) : Sp := fun vs H Q _ => ∃ (r : Addr) (b : Int) (k : Kd) (ms : List Int) (most : Int) (D : RD) (m : Int), vs = [.ref r, .int m] ∧ RX A.c_Rule H r b k ms most D ∧ m ∈ ms ∧
  ∀ (H' : Hp) (q dx fa : Addr), Same H H' → H q = none → SetAt A.c_RangeSet H' q b (.taken (k, D.ms', most) m) dx fa → Q (.ref q) H'
abbrev nm_taken : List Str := ["rule", "mantissa"]
theorem sc_taken : FnScope ["rule", "mantissa"] ["rule", "mantissa"] (defScope s_taken) := ⟨rfl, rfl, rfl, by decide +kernel, rfl, by decide +kernel, by decide +kernel⟩
theorem ok_tkn (T : Txt K mg A w) : FnOk P w K mg base CX0 5 A.a_taken A.d_taken ["rule", "mantissa"] (spTkn A) := by
  have G_check_rule : FnOk P w K mg base CX0 1 A.a_check_rule A.d_check_rule ["rule"] (spCheck A) := ok_check T
  have G_is_whole : FnOk P w K mg base CX0 1 A.a_is_whole A.d_is_whole ["value"] (spWhole K) := ok_is_whole T
  have G_key_of : FnOk P w K mg base CX0 3 A.a_key_of A.d_key_of ["rule"] (spKey A) := ok_key T
  have G_RangeSet_init : FnOk P w K mg base CX0 1 A.a_RangeSet_init A.d_RangeSet_init ["self", "base", "formula"] (spRInit A) := ok_rinit T
  have G_Rule_base := ok_pb (P := P) (base := base) T
  have G_Rule_mantissas := ok_pms (P := P) (base := base) T
  refine T.F_taken.ok sc_taken (fun vs H Q E h => ?_) (fun cdv A0 outer s H vs Q E hr h => ?_)
  · obtain ⟨r, b, k, ms, most, D, m, rfl, _⟩ := h
    rfl
  · obtain ⟨r, b, k, ms, most, D, m, rfl, x, hm, q⟩ := h
    refine ⟨_, (pss_cons (ps_expr (pe_call G_check_rule (hr.mono (by decide)) (by rfl) T.m_check_rule T.F_check_rule.kp T.B_check_rule .nil pass0 (pa_cons (pv 0) pa_nil)))
  (pss_cons (ps_if (PW.pt (pw_or (pt_not (pt_val (pe_call G_is_whole (hr.mono (by decide)) (by rfl) T.m_is_whole T.F_is_whole.kp T.B_is_whole .nil pass0 (pa_cons (pv 1) pa_nil)))) (pw_or1 (pt_cmpR op_notIn_seq (pv 1) (pe_prop (pv 0) T.cl T.pr_Rule_mantissas G_Rule_mantissas (hr.mono (by decide)) T.B_Rule_mantissas .nil pass0 rfl) (by rfl))))) (pss_one ps_never) pss_nil)
  (pss_one (ps_ret (pe_make T.mk_RangeSet G_RangeSet_init (hr.mono (by decide)) (by rfl) T.c_RangeSet T.B_RangeSet_init .nil pass0 (pa_cons (pe_prop (pv 0) T.cl T.pr_Rule_base G_Rule_base (hr.mono (by decide)) T.B_Rule_base .nil pass0 rfl) (pa_cons (pe_tup (pa_cons pe_str (pa_cons (pe_call G_key_of (hr.mono (by decide)) (by rfl) T.m_key_of T.F_key_of.kp T.B_key_of .nil pass0 (pa_cons (pv 0) pa_nil)) (pa_cons (pv 1) pa_nil)))) pa_nil))))))), ?_⟩
    refine ⟨_, rfl, r, b, k, ms, most, D, rfl, x, ?_⟩
    refine ⟨_, rfl, .int m, .type "int", true, false, rfl, .base (.int m), kit_ty (by decide +kernel), fun _ => kit_ty (by decide +kernel), ?_⟩
    refine ⟨_, rfl, iteF ?_⟩
    refine ⟨_, rfl, _, rfl, r, D.dx, _, rfl, x.at_, r, b, k, ms, most, D, rfl, x, fun l hl => ?_⟩
    have a1 := same_new (o := .lst (D.ms'.map V.int)) hl
    refine ⟨l, _, rfl, .inl (SqL.of upd_same), rfl, flat_ints _, _, rfl, ?_⟩
    rw [if_pos rfl, inV_ints (x.pm.mem_iff.mpr hm)]
    refine iteF ?_
    have x1 := x.same a1
    refine ⟨_, rfl, r, D.dx, _, rfl, x1.at_, r, b, k, ms, most, D, rfl, x1, ?_⟩
    refine ⟨_, rfl, r, b, k, ms, most, D, rfl, x1, fun H2 kq s2 _ hk => ?_⟩
    refine ⟨_, rfl, (by show 3 ≤ sizeLine; decide), fun fa hfa => ?_⟩
    have a3 := same_new (o := .tup [.str "taken", .ref kq, .int m]) hfa
    have F : FmAt (upd H2 fa (.tup [.str "taken", .ref kq, .int m])) (.taken (k, D.ms', most) m) fa := ⟨kq, upd_same, hk.same a3⟩
    intro y dx nx ndx nex
    refine ⟨y, dx, fa, b, rfl, upd_same, fun H4 kept h4 => ⟨rfl, ?_⟩⟩
    obtain ⟨s4, S4⟩ := set_new nx ndx nex F kept h4
    exact q H4 y dx fa (a1.trans (s2.trans (a3.trans s4))) ((a1.trans (s2.trans a3)).free nx) S4
/-! ### coarser -/
/-- a tuple of the heap or of the written part -/
def Tp2 (K : PySem.W.Frag) (H : Hp) (t : Addr) (xs : List V) : Prop := H t = some (.tup xs) ∨ ∃ (o : Obj) (its : Array Value) (n : Nat), K.lookup t = some o ∧ o.cls = .type "tuple" ∧ o.data = .seq its n ∧ its.size ≤ sizeLine ∧ Vals xs its.toList
theorem Tp2.sq {K : PySem.W.Frag} {H : Hp} {t : Addr} {xs : List V} (h : Tp2 K H t xs) : SqT K H t xs := h.elim (fun e => SqT.of e) .inr
theorem Tp2.same {K : PySem.W.Frag} {H H' : Hp} {t : Addr} {xs : List V} (h : Tp2 K H t xs) (s : Same H H') : Tp2 K H' t xs := h.elim (fun e => .inl (s _ _ e)) .inr
theorem Tp2.ty {K : PySem.W.Frag} {H : Hp} {t : Addr} {xs : List V} (h : Tp2 K H t xs) : TyX K H (.ref t) (.type "tuple") := h.elim (fun e => .base (.tup e)) fun ⟨_, _, _, e, c, _⟩ => .kTuple e c
def spFac (K : PySem.W.Frag) : Sp := fun vs H Q _ => ∃ (t : Addr) (n o : Int), vs = [.ref t] ∧ Tp2 K H t [.int n, .int o] ∧ 1 ≤ n ∧ 1 ≤ o ∧ ∀ H', Same H H' → Q (.bl true) H'
abbrev nm_is_factor : List Str := ["times", "number"]
theorem sc_is_factor : FnScope ["times", "number"] ["times"] (defScope s_is_factor) := ⟨rfl, rfl, rfl, by decide +kernel, rfl, by decide +kernel, by decide +kernel⟩
theorem ok_fac (T : Txt K mg A w) : FnOk P w K mg base CX0 2 A.a_is_factor A.d_is_factor ["times"] (spFac K) := by
  have G_is_whole : FnOk P w K mg base CX0 1 A.a_is_whole A.d_is_whole ["value"] (spWhole K) := ok_is_whole T
  refine T.F_is_factor.ok sc_is_factor (fun vs H Q E h => ?_) (fun cdv A0 outer s H vs Q E hr h => ?_)
  · obtain ⟨t, n, o, rfl, _⟩ := h
    rfl
  · obtain ⟨t, n, o, rfl, ht, n1, o1, q⟩ := h
    refine ⟨_, (pss_cons (ps_if (PW.pt (pw_or (pt_not (pt_val (pe_callB call_isi (by rfl) T.n_isinstance (by decide +kernel) (pa_cons (pv 0) (pa_cons (pe_bltn (v := .ty "tuple") (by rfl) T.n_tuple (by decide +kernel) rfl) pa_nil))))) (pw_or1 (pt_cmpR op_ne (pe_callB call_len_seq (by rfl) T.n_len (by decide +kernel) (pa_cons (pv 0) pa_nil)) pe_int (nomark _))))) (pss_one (ps_ret pe_bl)) pss_nil)
  (pss_one (ps_ret (pe_callB (cr_all rfl) (by rfl) T.n_all (by decide +kernel) (pa_cons (pe_lc (own := [("number", 1)]) (g := gName 1) (tt := tYes) rfl sc_is_factor.nd (pi_tup (pv 0)) (blkOk_by (own := [("number", 1)]) (N := nm_is_factor) (sc := defScope s_is_factor) (by decide +kernel)) (fun _ _ _ _ _ => (pg_name (i := 1) sc_is_factor.nd rfl (Or.inl rfl))) (fun _ _ _ _ _ => pts_nil) (fun _ _ _ _ _ => (pe_and (pe_call G_is_whole (hr.mono (by decide)) (by rfl) T.m_is_whole T.F_is_whole.kp T.B_is_whole .nil pass0 (pa_cons (pv 1) pa_nil)) (pe_one (pe_cmpR op_ge (pv 1) pe_int (nomark _)))))) pa_nil))))), ?_⟩
    refine ⟨_, rfl, _, .ty "tuple", .type "tuple", .type "tuple", true, rfl, .ty _, ht.ty, kit_ty (by decide +kernel), true, rfl, ?_⟩
    refine iteF ?_
    refine ⟨_, rfl, t, _, rfl, .inr ht.sq, rfl, _, rfl, ?_⟩
    refine iteF ?_
    refine ⟨_, rfl, t, rfl, ⟨_, ht.sq⟩, fun D hD => lc_tup (K := K) (a := t) (xs := [.int n, .int o]) (fun i H' => H' = upd H D (.lst (List.replicate i (.bl true)))) rfl ?_ ?_ ?_⟩
    · rintro i H' _ rfl
      exact (ht.same fun c o e => by rw [upd_ne (ne_of_none e hD)]; exact e).sq
    · rintro i x H' hi rfl
      obtain ⟨z, rfl, z1⟩ : ∃ z, x = V.int z ∧ 1 ≤ z := by
        match i, hi with
        | 0, hi => exact ⟨n, (Option.some.inj hi).symm, n1⟩
        | 1, hi => exact ⟨o, (Option.some.inj hi).symm, o1⟩
      refine ⟨rfl, yes_of ?_⟩
      refine ⟨_, rfl, .int z, .type "int", true, false, rfl, .base (.int z), kit_ty (by decide +kernel), fun _ => kit_ty (by decide +kernel), ?_⟩
      refine ⟨true, rfl, iteT ?_⟩
      refine ⟨_, rfl, _, _, rfl, rfl, ?_⟩
      have hi3 : i < 2 := (List.getElem?_eq_some_iff.mp hi).1
      refine ⟨_, upd_same, ?_, ?_⟩
      · rw [List.length_replicate]
        exact small1000 (by omega)
      · show upd (upd H D (.lst (List.replicate i (.bl true)))) D (.lst (List.replicate i (.bl true) ++ [.bl (decide (1 ≤ z))])) = _
        rw [upd_upd, List.replicate_succ', decide_eq_true z1]
    · rintro H' rfl
      refine ⟨D, [true, true], rfl, SqL.of upd_same, ?_⟩
      exact q _ (same_new hD)
def spCrs (K : PySem.W.Frag) (A : Adr) : Sp := fun vs H Q _ => ∃ (r r2 t : Addr) (b : Int) (k k2 : Kd) (ms ms2 : List Int) (most most2 : Int) (D D2 : RD) (n o : Int), vs = [.ref r, .ref r2, .ref t] ∧ RX A.c_Rule H r b k ms most D ∧ RX A.c_Rule H r2 b k2 ms2 most2 D2 ∧ Tp2 K H t [.int n, .int o] ∧ 1 ≤ n ∧ 1 ≤ o ∧
  ∀ (H' : Hp) (q dx fa : Addr), Same H H' → H q = none → SetAt A.c_RangeSet H' q b (.coarser (k, D.ms', most) (k2, D2.ms', most2) n o) dx fa → Q (.ref q) H'
abbrev nm_coarser : List Str := ["one", "other", "times"]
theorem sc_coarser : FnScope ["one", "other", "times"] ["one", "other", "times"] (defScope s_coarser) := ⟨rfl, rfl, rfl, by decide +kernel, rfl, by decide +kernel, by decide +kernel⟩
theorem ok_crs (T : Txt K mg A w) : FnOk P w K mg base CX0 5 A.a_coarser A.d_coarser ["one", "other", "times"] (spCrs K A) := by
  have G_check_rules_of_one_base : FnOk P w K mg base CX0 3 A.a_check_rules_of_one_base A.d_check_rules_of_one_base ["one", "other"] (spCk2 A) := ok_ck2 T
  have G_is_factor : FnOk P w K mg base CX0 2 A.a_is_factor A.d_is_factor ["times"] (spFac K) := ok_fac T
  have G_key_of : FnOk P w K mg base CX0 3 A.a_key_of A.d_key_of ["rule"] (spKey A) := ok_key T
  have G_RangeSet_init : FnOk P w K mg base CX0 1 A.a_RangeSet_init A.d_RangeSet_init ["self", "base", "formula"] (spRInit A) := ok_rinit T
  have G_Rule_base := ok_pb (P := P) (base := base) T
  refine FunD.okN T.F_coarser sc_coarser (fun vs H Q E h => ?_) (fun cdv A0 outer s H vs Q E hr h => ?_)
  · obtain ⟨r, r2, t, b, k, k2, ms, ms2, most, most2, D, D2, n, o, rfl, _⟩ := h
    rfl
  · obtain ⟨r, r2, t, b, k, k2, ms, ms2, most, most2, D, D2, n, o, rfl, x, x2, ht, n1, o1, q⟩ := h
    refine ⟨_, (pss_cons (ps_expr (pe_call G_check_rules_of_one_base (hr.mono (by decide)) (by rfl) T.m_check_rules_of_one_base T.F_check_rules_of_one_base.kp T.B_check_rules_of_one_base .nil pass0 (pa_cons (pv 0) (pa_cons (pv 1) pa_nil))))
  (pss_cons (ps_if (pt_not (pt_val (pe_call G_is_factor (hr.mono (by decide)) (by rfl) T.m_is_factor T.F_is_factor.kp T.B_is_factor .nil pass0 (pa_cons (pv 2) pa_nil)))) (pss_one ps_never) pss_nil)
  (pss_one (ps_ret (pe_make T.mk_RangeSet G_RangeSet_init (hr.mono (by decide)) (by rfl) T.c_RangeSet T.B_RangeSet_init .nil pass0 (pa_cons (pe_prop (pv 0) T.cl T.pr_Rule_base G_Rule_base (hr.mono (by decide)) T.B_Rule_base .nil pass0 rfl) (pa_cons (pe_tup (pa_cons pe_str (pa_cons (pe_call G_key_of (hr.mono (by decide)) (by rfl) T.m_key_of T.F_key_of.kp T.B_key_of .nil pass0 (pa_cons (pv 0) pa_nil)) (pa_cons (pe_call G_key_of (hr.mono (by decide)) (by rfl) T.m_key_of T.F_key_of.kp T.B_key_of .nil pass0 (pa_cons (pv 1) pa_nil)) (pa_cons (pe_ix ix_tup (pv 2) pe_int (fun _ _ => rfl)) (pa_cons (pe_ix ix_tup (pv 2) pe_int (fun _ _ => rfl)) pa_nil)))))) pa_nil))))))), ?_⟩
    refine ⟨_, rfl, _, rfl, r, r2, b, k, k2, ms, ms2, most, most2, D, D2, rfl, x, x2, ?_⟩
    refine ⟨_, rfl, t, n, o, rfl, ht, n1, o1, fun H1 s1 => ⟨_, rfl, iteF ?_⟩⟩
    have y1 := x.same s1
    refine ⟨_, rfl, r, D.dx, _, rfl, y1.at_, r, b, k, ms, most, D, rfl, y1, ?_⟩
    refine ⟨_, rfl, r, b, k, ms, most, D, rfl, y1, fun H2 kq s2 _ hk => ?_⟩
    refine ⟨_, rfl, r2, b, k2, ms2, most2, D2, rfl, x2.same (s1.trans s2), fun H3 kq2 s3 _ hk2 => ?_⟩
    have ht3 := ht.same (s1.trans (s2.trans s3))
    refine ⟨_, rfl, t, _, _, _, rfl, rfl, ht3.sq, atL (j := 0) rfl, _, rfl, t, _, _, _, rfl, rfl, ht3.sq, atL (j := 1) rfl, (by show 5 ≤ sizeLine; decide), fun fa hfa => ?_⟩
    have a3 := same_new (o := .tup [.str "coarser", .ref kq, .ref kq2, .int n, .int o]) hfa
    have F : FmAt (upd H3 fa (.tup [.str "coarser", .ref kq, .ref kq2, .int n, .int o])) (.coarser (k, D.ms', most) (k2, D2.ms', most2) n o) fa := ⟨kq, kq2, upd_same, (hk.same s3).same a3, hk2.same a3⟩
    intro y dx nx ndx nex
    refine ⟨y, dx, fa, b, rfl, upd_same, fun H4 kept h4 => ⟨rfl, ?_⟩⟩
    obtain ⟨s4, S4⟩ := set_new nx ndx nex F kept h4
    have sA := s1.trans (s2.trans (s3.trans a3))
    exact q H4 y dx fa (sA.trans s4) (sA.free nx) S4
/-! ### touched -/
def spTch (A : Adr) : Sp := fun vs H Q _ => ∃ (r : Addr) (b : Int) (k : Kd) (ms : List Int) (most : Int) (D : RD) (low : Bool), vs = [.ref r, .str (if low then "low" else "high")] ∧ RX A.c_Rule H r b k ms most D ∧
  ∀ (H' : Hp) (q dx fa : Addr), Same H H' → H q = none → SetAt A.c_RangeSet H' q b (.touched (k, D.ms', most) low) dx fa → Q (.ref q) H'
end
end Ax

namespace Ax
open PySem L2
abbrev StepsAt (H : Hp) : List (Int × Int) → List Addr → Prop := Paired fun s t => H t = some (.tup [.int s.1, .int s.2])
theorem StepsAt.same {H H' : Hp} {ss : List (Int × Int)} {ts : List Addr} (x : StepsAt H ss ts) (s : Same H H') : StepsAt H' ss ts := Paired.mapP x fun _ _ e => s _ _ e
section
variable {P : Program} {w : World} {K : PySem.W.Frag} {mg : Str → Option Value} {base : Heap} {A : Adr}
/-- what stands behind n rungs -/
def CI (b : Int) (k : Ky) (le gr : Int) (rs : List Int) (top : Nat) (i0 : Int) (n : Nat) (en : Bool) (ss : List (Int × Int)) (us : List Addr) (H2 H' : Hp) (sl : Addr) : Prop :=
  (∀ c o, c ≠ sl → H2 c = some o → H' c = some o) ∧ H' sl = some (.lst (us.map V.ref)) ∧ StepsAt H' ss us ∧ us.length ≤ n ∧ CandR b k le gr rs top i0 n ss ∧
    (match en with
      | true => ∃ n', n = n' + 1 ∧ alwZ k.1 k.2.2 (sizZ b (sAt b rs (i0 + (n' : Nat))).1 (sAt b rs (i0 + (n' : Nat))).2) (gr * facZ b (sAt b rs (i0 + (n' : Nat))).2) = true
      | false => ∀ j : Nat, j < n → alwZ k.1 k.2.2 (sizZ b (sAt b rs (i0 + (j : Nat))).1 (sAt b rs (i0 + (j : Nat))).2) (gr * facZ b (sAt b rs (i0 + (j : Nat))).2) = false)
def spCand : Sp := fun vs H Q _ => ∃ (b : Int) (k : Ky) (a : Addr) (least greatest : Int), vs = [.int b, .ref a, .int least, .int greatest] ∧ KyAt H k a ∧ KyR b k ∧ 1 ≤ least ∧ least ≤ greatest ∧ greatest < 2 ^ 1000 ∧
  ∀ (H' : Hp) (L : Addr) (ss : List (Int × Int)) (us : List Addr), Same H H' → H L = none → H' L = some (.lst (us.map V.ref)) → StepsAt H' ss us → Cand b k least greatest ss → Q (.ref L) H'
abbrev nm_candidates : List Str := ["base", "key", "least", "greatest", "kind", "mantissas", "most", "rungs", "number", "steps", "enough", "step", "factor", "size"]
theorem sc_candidates : FnScope ["base", "key", "least", "greatest", "kind", "mantissas", "most", "rungs", "number", "steps", "enough", "step", "factor", "size"] ["base", "key", "least", "greatest"] (defScope s_candidates) := ⟨rfl, rfl, rfl, by decide +kernel, rfl, by decide +kernel, by decide +kernel⟩
theorem ok_cand (T : Txt K mg A w) : FnOk P w K mg base CX0 4 A.a_candidates A.d_candidates ["base", "key", "least", "greatest"] spCand := by
  have G_rungs_of : FnOk P w K mg base CX0 2 A.a_rungs_of A.d_rungs_of ["base", "mantissas"] spRungsT := ok_rungsT T
  have G_low_rung : FnOk P w K mg base CX0 2 A.a_low_rung A.d_low_rung ["base", "rungs", "most", "length", "digits"] spLowG := ok_lowG T
  have G_step_at : FnOk P w K mg base CX0 1 A.a_step_at A.d_step_at ["rungs", "number"] spAtG := ok_step_atG T
  have G_measure : FnOk P w K mg base CX0 2 A.a_measure A.d_measure ["base", "step", "digits"] (spMeasure K) := ok_measure T
  have G_never_fits : FnOk P w K mg base CX0 1 A.a_never_fits A.d_never_fits ["kind", "most", "size", "length"] spNev := ok_nev T
  have G_always_fits : FnOk P w K mg base CX0 1 A.a_always_fits A.d_always_fits ["kind", "most", "size", "length"] spAlw := ok_alw T
  refine T.F_candidates.ok sc_candidates (fun vs H Q E h => ?_) (fun cdv A0 outer s H vs Q E hr h => ?_)
  · obtain ⟨b, k, a, le, gr, rfl, _⟩ := h
    rfl
  · obtain ⟨b, k, a, le, gr, rfl, ⟨tm, ha, htm⟩, R, l1, lg0, gB, q⟩ := h
    refine ⟨_, (pss_cons (ps_asg (pv 1) (pg_tup (by rfl) (pgs_cons (pg_name (i := 4) sc_candidates.nd rfl (Or.inl rfl)) (pgs_cons (pg_name (i := 5) sc_candidates.nd rfl (Or.inl rfl)) (pgs_cons (pg_name (i := 6) sc_candidates.nd rfl (Or.inl rfl)) pgs_nil)))))
  (pss_cons (ps_set (i := 7) sc_candidates.nd rfl (Or.inl rfl) (pe_call G_rungs_of (hr.mono (by decide)) (by rfl) T.m_rungs_of T.F_rungs_of.kp T.B_rungs_of .nil pass0 (pa_cons (pv 0) (pa_cons (pv 5) pa_nil))))
  (pss_cons (ps_set (i := 8) sc_candidates.nd rfl (Or.inl rfl) (pe_call G_low_rung (hr.mono (by decide)) (by rfl) T.m_low_rung T.F_low_rung.kp T.B_low_rung .nil pass0 (pa_cons (pv 0) (pa_cons (pv 7) (pa_cons (pv 6) (pa_cons (pv 2) (pa_cons pe_int pa_nil)))))))
  (pss_cons (ps_set (i := 9) sc_candidates.nd rfl (Or.inl rfl) (pe_lst pa_nil))
  (pss_cons (ps_set (i := 10) sc_candidates.nd rfl (Or.inl rfl) pe_bl)
  (pss_cons (ps_while PassesOwn.never (pt_not (pt_val (pv 10)))
  (pss_cons (ps_set (i := 11) sc_candidates.nd rfl (Or.inl rfl) (pe_call G_step_at (hr.mono (by decide)) (by rfl) T.m_step_at T.F_step_at.kp T.B_step_at .nil pass0 (pa_cons (pv 7) (pa_cons (pv 8) pa_nil))))
  (pss_cons (ps_asg (pe_call G_measure (hr.mono (by decide)) (by rfl) T.m_measure T.F_measure.kp T.B_measure .nil pass0 (pa_cons (pv 0) (pa_cons (pv 11) (pa_cons pe_int pa_nil)))) (pg_tup (by rfl) (pgs_cons (pg_name (i := 12) sc_candidates.nd rfl (Or.inl rfl)) (pgs_cons (pg_name (i := 13) sc_candidates.nd rfl (Or.inl rfl)) pgs_nil))))
  (pss_cons (ps_if (pt_not (pt_val (pe_call G_never_fits (hr.mono (by decide)) (by rfl) T.m_never_fits T.F_never_fits.kp T.B_never_fits .nil pass0 (pa_cons (pv 4) (pa_cons (pv 6) (pa_cons (pv 13) (pa_cons (pe_op op_mulW (pv 2) (pv 12)) pa_nil))))))) (pss_one (ps_expr (pe_bm PySem.F.plainAttrs_list PySem.F.slot_list_append PySem.F.type_list_append mt_append (pv 9) (pa_cons (pv 11) pa_nil)))) pss_nil)
  (pss_cons (ps_set (i := 10) sc_candidates.nd rfl (Or.inl rfl) (pe_call G_always_fits (hr.mono (by decide)) (by rfl) T.m_always_fits T.F_always_fits.kp T.B_always_fits .nil pass0 (pa_cons (pv 4) (pa_cons (pv 6) (pa_cons (pv 13) (pa_cons (pe_op op_mulW (pv 3) (pv 12)) pa_nil))))))
  (pss_one (ps_set (i := 8) sc_candidates.nd rfl (Or.inl rfl) (pe_op op_add (pv 8) pe_int))))))))
  (pss_one (ps_ret (pv 9))))))))), ?_⟩
    refine ⟨_, rfl, a, _, rfl, SqT.of ha, rfl, _, _, rfl, _, _, rfl, _, _, rfl, rfl, ?_⟩
    refine ⟨_, rfl, _, rfl, k.1, b, k.2.2, k.2.1, tm, rfl, htm, R, fun H1 lr rs ts M s1 hlr hM hmax e1 tup pr pw => ?_⟩
    have b2 := R.b2
    have lgle : ∀ m ∈ rs, lg b m ≤ lg b M := fun m hm => lg_mono b2 (R.all m (pr.mem_iff.mp hm)).1 (hmax m (pr.mem_iff.mp hm))
    have X : Rungs b rs (lg b M) := ⟨b2, by rw [pr.length_eq]; exact List.length_pos_iff.mpr R.ne, fun m hm => (R.all m (pr.mem_iff.mp hm)).1, lgle, pw⟩
    have G1 : RG H1 lr b rs ts (lg b M) := ⟨e1, tup, X, by rw [pr.length_eq]; exact R.le⟩
    refine ⟨_, rfl, _, rfl, _, rfl, _, rfl, lr, 0, le, 0, b, k.2.2, rs, ts, lg b M, (by rw [Int.sub_zero]; rfl), G1, R.bB, R.m1, R.mB, by omega, by omega, by decide, by decide, fun H2 s2 => ?_⟩
    refine gN (σ' := [some (.int b), some (.ref a), some (.int le), some (.int gr), some (.str k.1.s), some (.ref tm), some (.int k.2.2), some (.ref lr), some (.int (lowQ b k.2.2 0 le 0 * (rs.length : Int))), none, none, none, none, none]) rfl ?_
    refine ⟨Nat.zero_le _, fun sl hsl => ?_⟩
    have s12 := s1.trans s2
    have hslH : H sl = none := s12.free hsl
    have aH : Same H (upd H2 sl (.lst [])) := s12.trans (same_new hsl)
    generalize ei0 : lowQ b k.2.2 0 le 0 * (rs.length : Int) = i0
    have hn : 0 < (rs.length : Int) := by have := X.ne; omega
    have i0le : i0 ≤ (lg b gr + 1) * rs.length := by
      rw [← ei0]
      refine Int.mul_le_mul_of_nonneg_right ?_ (by omega)
      unfold lowQ
      have := lg_mono b2 l1 lg0
      simp only [Int.sub_zero]
      omega
    refine ⟨fun m σ H' => ∃ (n : Nat) (en : Bool) (ss : List (Int × Int)) (us : List Addr) (v1 v2 v3 : Option V), σ = [some (.int b), some (.ref a), some (.int le), some (.int gr), some (.str k.1.s), some (.ref tm), some (.int k.2.2), some (.ref lr), some (.int (i0 + n)), some (.ref sl), some (.bl en), v1, v2, v3] ∧
        CI b k le gr rs (lg b M) i0 n en ss us H2 H' sl ∧ m = ((lg b gr + 1) * rs.length + 1 - (i0 + n)).toNat,
      ⟨_, 0, false, [], [], none, none, none, by rw [show ((0 : Nat) : Int) = 0 from rfl, Int.add_zero]; rfl, ⟨fun c o n e => ?_, upd_same, .nil, Nat.zero_le _, ⟨X, pr, ei0.symm, rfl, fun j h => absurd h (by omega), ?_⟩, fun j h => absurd h (Nat.not_lt_zero j)⟩, rfl⟩, ?_⟩
    · rw [upd_ne n]
      exact e
    · exact Int.le_trans (Int.le_of_eq (Int.add_zero _)) (Int.le_trans i0le (Int.le_add_one (Int.le_refl _)))
    rintro m σ H3 ⟨n, en, ss, us, v1, v2, v3, rfl, ⟨s3, h3, st3, lu, C, en3⟩, rfl⟩
    cases en with
    | true =>
      refine ⟨_, rfl, true, rfl, iteF ?_⟩
      obtain ⟨n', rfl, al⟩ := en3
      have sH : Same H H3 := fun c o e => s3 c o (ne_of_none e hslH) (s12 _ _ e)
      exact ⟨_, rfl, q H3 sl ss us sH hslH h3 st3 ⟨rs, lg b M, i0, n', C, al⟩⟩
    | false =>
      refine ⟨_, rfl, false, rfl, iteT ?_⟩
      have G3 : RG H3 lr b rs ts (lg b M) := by
        refine ⟨s3 _ _ (ne_of_none (s2 _ _ e1) hsl) (s2 _ _ e1), TupsAt.same (fun c xs e => s3 _ _ (ne_of_none e hsl) e) (tup.same fun c xs e => s2 _ _ e), X, by rw [pr.length_eq]; exact R.le⟩
      have ilt : i0 + n ≤ (lg b gr + 1) * rs.length := by
        refine Int.not_lt.mp fun c => ?_
        have h1 := C.hi
        by_cases n0 : n = 0
        · subst n0
          exact absurd c (Int.not_lt.mpr (Int.le_trans (Int.le_of_eq (Int.add_zero _)) i0le))
        · have := en3 (n - 1) (by omega)
          rw [alw_high X (by omega) R.m1 R.mC (by
            have e : ((n - 1 : Nat) : Int) = n - 1 := by omega
            rw [e]
            omega)] at this
          cases this
      have powB := exp_bound2 (most := k.2.2) X R.bB l1 lg0 gB R.m1 R.mB (fun m hm => (R.all m (pr.mem_iff.mp hm)).2.1) (i := i0 + n) (by rw [ei0]; omega) ilt
      have mp := X.pos _ (X.mem (i0 + n))
      have mB := (R.all _ (pr.mem_iff.mp (X.mem (i0 + n)))).2.1
      have b1 : 1 ≤ b := by omega
      refine ⟨fun σ' H' => ∃ (en : Bool) (ss : List (Int × Int)) (us : List Addr) (v1 v2 v3 : Option V), σ' = [some (.int b), some (.ref a), some (.int le), some (.int gr), some (.str k.1.s), some (.ref tm), some (.int k.2.2), some (.ref lr), some (.int (i0 + (n + 1 : Nat))), some (.ref sl), some (.bl en), v1, v2, v3] ∧
        CI b k le gr rs (lg b M) i0 (n + 1) en ss us H2 H' sl, ?_, ?_⟩
      · rintro σ' H' ⟨en, ss, us, v1, v2, v3, rfl, c⟩
        exact ⟨_, by omega, n + 1, en, ss, us, v1, v2, v3, rfl, c, rfl⟩
      refine ⟨_, rfl, _, rfl, lr, i0 + n, b, rs, ts, lg b M, rfl, G3, fun H4 t s4 ht e4 => ?_⟩
      generalize esz : sAt b rs (i0 + n) = sz at *
      obtain ⟨f1, f2⟩ := fac_bound b1 powB
      obtain ⟨z1, z2⟩ := siz_bound b1 mp mB powB
      refine ⟨_, rfl, _, rfl, b, sz.1, sz.2, 0, t, rfl, SqT.of e4, b1, lt_big R.bB (by decide), (by rw [Int.add_zero]; exact lt_big (n := 2000) powB (by decide)), by omega, lt_big mB (by decide), fun H5 q5 s5 hq5 e5 => ?_⟩
      have t5' := s5 _ _ e4
      subst e5
      rw [Int.add_zero] at t5' ⊢
      refine ⟨q5, _, rfl, SqT.of upd_same, rfl, _, _, rfl, _, _, rfl, rfl, ?_⟩
      generalize ef : facZ b sz.2 = fz at *
      generalize ez : sizZ b sz.1 sz.2 = zz at *
      refine norm2 (σ' := [some (.int b), some (.ref a), some (.int le), some (.int gr), some (.str k.1.s), some (.ref tm), some (.int k.2.2), some (.ref lr), some (.int (i0 + n)), some (.ref sl), some (.bl false), some (.ref t), some (.int fz), some (.int zz)]) rfl ?_
      have fB : fz < BIG := lt_big (n := 2000) f2 (by decide)
      have leB : le < BIG := lt_big (n := 1000) (by omega) (by decide)
      have grB : gr < BIG := lt_big (n := 1000) gB (by decide)
      have zB : zz < BIG := lt_big (n := 2064) z2 (by decide)
      have s35 : Same H3 (upd H4 q5 (.tup [.int fz, .int zz])) := s4.trans (same_new hq5)
      generalize upd H4 q5 (.tup [.int fz, .int zz]) = H5 at *
      have h5 := s35 _ _ h3
      have st5 := st3.same s35
      have s25 : ∀ c o, c ≠ sl → H2 c = some o → H5 c = some o := fun c o e1 e2 => s35 _ _ (s3 c o e1 e2)
      have t5 : H5 t = some (.tup [.int sz.1, .int sz.2]) := t5'
      have C1 : ∀ (ss' : List (Int × Int)), ss' = ((List.range (n + 1)).map fun j => sAt b rs (i0 + (j : Nat))).filter (fun s => !nevZ k.1 k.2.2 (sizZ b s.1 s.2) (le * facZ b s.2)) → CandR b k le gr rs (lg b M) i0 (n + 1) ss' := fun ss' e =>
        ⟨X, pr, ei0.symm, e, fun j hj => en3 j (by omega), by omega⟩
      refine ⟨_, rfl, _, rfl, _, rfl, _, rfl, _, rfl, _, _, rfl, rfl, mulBig (by omega) (big_le leB) (by omega) (big_le fB), k.1, k.2.2, zz, le * fz, rfl, by have := R.m1; omega, R.mB, by omega, zB, _, rfl, ?_⟩
      show if (!nevZ k.1 k.2.2 zz (le * fz)) = true then _ else _
      have nB : n ≤ 70000 := by
        have a1 := exp_lt (n := 1000) b2 (Int.lt_of_le_of_lt (lg_spec b2 (show 1 ≤ gr by omega)).1 gB)
        have a2 := exp_lt (n := 61) b2 (Int.lt_of_le_of_lt (lg_spec b2 (show 1 ≤ k.2.2 + 1 by have := R.m1; omega)).1 (by
          have : (2 : Int) ^ 60 + 1 ≤ 2 ^ 61 := by decide
          have := R.mB
          omega))
        have a3 : rs.length < 60 := G3.le
        have a4 : (lg b gr + 1 : Int) * rs.length ≤ 1000 * 60 := Int.mul_le_mul (by omega) (by omega) (by omega) (by decide)
        have a5 : (-62 : Int) * rs.length ≤ lowQ b k.2.2 0 le 0 * rs.length := Int.mul_le_mul_of_nonneg_right (by unfold lowQ; omega) (by omega)
        rw [ei0] at a5
        omega
      have fin : ∀ (v : Bool) (H6 : Hp) (ss6 : List (Int × Int)) (us6 : List Addr), (∀ c o, c ≠ sl → H2 c = some o → H6 c = some o) → H6 sl = some (.lst (us6.map V.ref)) → StepsAt H6 ss6 us6 → us6.length ≤ n + 1 → CandR b k le gr rs (lg b M) i0 (n + 1) ss6 → v = alwZ k.1 k.2.2 zz (gr * fz) →
          ∃ (en : Bool) (ss : List (Int × Int)) (us : List Addr) (v1 v2 v3 : Option V), [some (V.int b), some (.ref a), some (.int le), some (.int gr), some (.str k.1.s), some (.ref tm), some (.int k.2.2), some (.ref lr), some (.int (i0 + n + 1)), some (.ref sl), some (.bl v), some (.ref t), some (.int fz), some (.int zz)] = [some (.int b), some (.ref a), some (.int le), some (.int gr), some (.str k.1.s), some (.ref tm), some (.int k.2.2), some (.ref lr), some (.int (i0 + (n + 1 : Nat))), some (.ref sl), some (.bl en), v1, v2, v3] ∧
            CI b k le gr rs (lg b M) i0 (n + 1) en ss us H2 H6 sl := fun v H6 ss6 us6 a1 a2 a3 a4 a5 a6 => by
        refine ⟨v, ss6, us6, _, _, _, by rw [show i0 + (n : Int) + 1 = i0 + ((n + 1 : Nat) : Int) by omega], a1, a2, a3, a4, a5, ?_⟩
        cases v with
        | true => exact ⟨n, rfl, by rw [esz, ez, ef]; exact a6.symm⟩
        | false =>
          intro j hj
          by_cases c : j < n
          · exact en3 j c
          · obtain rfl : j = n := by omega
            rw [esz, ez, ef]
            exact a6.symm
      have fB2 : CMulW gr fz := mulBig (by omega) (big_le grB) (by omega) (big_le fB)
      cases ev : nevZ k.1 k.2.2 zz (le * fz) with
      | true =>
        refine iteF ?_
        refine ⟨_, rfl, _, rfl, _, rfl, _, rfl, _, rfl, _, _, rfl, rfl, fB2, k.1, k.2.2, zz, gr * fz, rfl, R.m1, R.mB, by omega, zB, ?_⟩
        refine ⟨_, rfl, _, _, rfl, rfl, ?_⟩
        refine fin _ H5 ss us s25 h5 st5 (by omega) (C1 _ ?_) rfl
        rw [C.ss_, List.range_succ, List.map_append, List.filter_append]
        have e0 : List.filter (fun s => !nevZ k.1 k.2.2 (sizZ b s.1 s.2) (le * facZ b s.2)) [sAt b rs (i0 + n)] = [] := by
          rw [List.filter_cons, if_neg (by rw [esz, ez, ef, ev]; decide)]
          rfl
        show _ = _ ++ List.filter _ [sAt b rs (i0 + n)]
        rw [e0, List.append_nil]
      | false =>
        refine iteT ?_
        refine ⟨_, rfl, .inl ⟨rfl, _, SqL.of h5⟩, _, rfl, sl, _, _, rfl, rfl, h5, (by rw [List.length_map, PySem.sizeLine_eq]; omega), ?_⟩
        have h6 : upd H5 sl (.lst (us.map V.ref ++ [.ref t])) sl = some (.lst ((us ++ [t]).map V.ref)) := by
          rw [upd_same, List.map_append]
          rfl
        have nsl : ∀ {c : Addr} {ys : List V}, H5 c = some (.tup ys) → c ≠ sl := fun e => ne_of e h5 (by intro z; cases z)
        have st6 : StepsAt (upd H5 sl (.lst (us.map V.ref ++ [.ref t]))) (ss ++ [sz]) (us ++ [t]) := by
          refine Paired.snoc (Paired.mapP st5 fun x y e => ?_) ?_
          · rw [upd_ne (nsl e)]
            exact e
          · rw [upd_ne (nsl t5)]
            exact t5
        have s26 : ∀ c o, c ≠ sl → H2 c = some o → upd H5 sl (.lst (us.map V.ref ++ [.ref t])) c = some o := fun c o e1 e2 => by
          rw [upd_ne e1]
          exact s25 c o e1 e2
        generalize upd H5 sl (.lst (us.map V.ref ++ [.ref t])) = H6 at *
        refine ⟨_, rfl, _, rfl, _, rfl, _, rfl, _, rfl, _, _, rfl, rfl, fB2, k.1, k.2.2, zz, gr * fz, rfl, R.m1, R.mB, by omega, zB, ?_⟩
        refine ⟨_, rfl, _, _, rfl, rfl, ?_⟩
        refine fin _ H6 (ss ++ [sz]) (us ++ [t]) s26 h6 st6 (by rw [List.length_append]; show us.length + 1 ≤ n + 1; omega) (C1 _ ?_) rfl
        rw [C.ss_, List.range_succ, List.map_append, List.filter_append]
        have e0 : List.filter (fun s => !nevZ k.1 k.2.2 (sizZ b s.1 s.2) (le * facZ b s.2)) [sAt b rs (i0 + n)] = [sz] := by
          rw [List.filter_cons, if_pos (by rw [esz, ez, ef, ev]; decide), esz]
          rfl
        show _ = _ ++ List.filter _ [sAt b rs (i0 + n)]
        rw [e0]
end
end Ax

namespace Ax
open PySem L2
/-! ### keys of rules as keys of dicts -/
def kyN (k : Ky) : NestedKey := .tup [.text k.1.s, .tup (k.2.1.map .num), .num k.2.2]
theorem num_inj : ∀ {a b : List Int}, a.map NestedKey.num = b.map NestedKey.num → a = b
  | [], [], _ => rfl
  | [], _ :: _, e => nomatch e
  | _ :: _, [], e => nomatch e
  | x :: a, y :: b, e => by
    rw [List.map_cons, List.map_cons] at e
    injection e with e1 e2
    injection e1 with e1
    rw [e1, num_inj e2]
theorem kyN_inj {k l : Ky} (h : kyN k = kyN l) : k = l := by
  obtain ⟨k1, k2, k3⟩ := k
  obtain ⟨l1, l2, l3⟩ := l
  unfold kyN at h
  injection h with h
  injection h with h1 h
  injection h with h2 h
  injection h with h3 h
  injection h1 with h1
  injection h2 with h2
  injection h3 with h3
  have e1 : k1 = l1 := by
    have z := kd_is k1 l1
    rw [show V.str k1.s = V.str l1.s from congrArg V.str h1, decide_eq_true rfl] at z
    exact of_decide_eq_true z.symm
  have h2 : k2 = l2 := num_inj h2
  have h3 : k3 = l3 := h3
  rw [e1, h2, h3]
theorem num_depth : ∀ ms : List Int, NestedKey.depthAll (ms.map .num) = 0
  | [] => rfl
  | m :: ms => by
    rw [List.map_cons]
    unfold NestedKey.depthAll
    rw [num_depth ms]
    rfl
theorem kyN_depth (k : Ky) : (kyN k).depth ≤ 8 := by
  unfold kyN
  simp only [NestedKey.depth, NestedKey.depthAll, num_depth]
  decide
theorem nks_ints (H : Hp) : ∀ ms : List Int, ND.NKs H (ms.map .num) (ms.map V.int)
  | [] => by
    unfold ND.NKs
    rfl
  | m :: ms => by
    rw [List.map_cons, List.map_cons]
    unfold ND.NKs
    refine ⟨_, _, rfl, ?_, nks_ints H ms⟩
    unfold ND.NK
    exact .inl rfl
theorem KyAt.nk {H : Hp} {k : Ky} {a : Addr} (h : KyAt H k a) : ND.NK H (kyN k) (.ref a) := by
  obtain ⟨tm, h1, h2⟩ := h
  unfold kyN ND.NK
  refine ⟨a, _, rfl, h1, ?_⟩
  unfold ND.NKs
  refine ⟨_, _, rfl, by unfold ND.NK; rfl, ?_⟩
  unfold ND.NKs
  refine ⟨_, _, rfl, by unfold ND.NK; exact ⟨tm, _, rfl, h2, nks_ints H _⟩, ?_⟩
  unfold ND.NKs
  refine ⟨_, _, rfl, by unfold ND.NK; exact .inl rfl, ?_⟩
  unfold ND.NKs
  rfl
/-! ### what stays but for tables that are written -/
def Kx (H H' : Hp) : Prop := ∀ c o, (∀ φ, o ≠ HO.ext φ) → H c = some o → H' c = some o
theorem Kx.of {H H' : Hp} (s : Same H H') : Kx H H' := fun c o _ e => s c o e
theorem Kx.trans {H1 H2 H3 : Hp} (a : Kx H1 H2) (b : Kx H2 H3) : Kx H1 H3 := fun c o n e => b c o n (a c o n e)
theorem Kx.put {H : Hp} {D : Addr} {φ : Heap → Prop} {u : HO} (h : H D = some (.ext φ)) : Kx H (upd H D u) := fun c o n e => by
  rw [upd_ne (fun z => by rw [z, h] at e; exact n φ (Option.some.inj e).symm)]
  exact e
theorem KyAt.kp {H H' : Hp} {k : Ky} {a : Addr} (h : KyAt H k a) (s : Kx H H') : KyAt H' k a :=
  let ⟨tm, h1, h2⟩ := h
  ⟨tm, s _ _ (fun _ z => nomatch z) h1, s _ _ (fun _ z => nomatch z) h2⟩
abbrev KeysAt (H : Hp) : List Ky → List Addr → Prop := Paired fun k a => KyAt H k a
/-- an entry of a dict is this one of a table -/
def EnR {α : Type} (PK : Hp → V → α → Prop) (H : Hp) (t : Ky × α) (e : ND.Ent) : Prop := e.1 = kyN t.1 ∧ KyAt H t.1 e.2.1 ∧ PK H e.2.2 t.2
/-- a table: keys of rules, what is told of each -/
structure TabAt {α : Type} (w : World) (PK : Hp → V → α → Prop) (H : Hp) (d : Addr) (tab : List (Ky × α)) (od : Obj) (kvs : List ND.Ent) : Prop where
  at_ : H d = some (.frz od (ND.dnO w kvs d))
  dn : ND.DN w H d kvs
  tb : Paired (EnR PK H) tab kvs
/-- what is told of a key stays -/
def MonoK {α : Type} (PK : Hp → V → α → Prop) : Prop := ∀ {H H' : Hp} {v : V} {x : α}, Kx H H' → PK H v x → PK H' v x
theorem EnR.mono {α : Type} {PK : Hp → V → α → Prop} (mo : MonoK PK) {H H' : Hp} {t : Ky × α} {e : ND.Ent} (h : EnR PK H t e) (k : Kx H H') : EnR PK H' t e := ⟨h.1, h.2.1.kp k, mo k h.2.2⟩
theorem EnR.mp {α : Type} {PK : Hp → V → α → Prop} (mo : MonoK PK) {H H' : Hp} {tab : List (Ky × α)} {kvs : List ND.Ent} (h : Paired (EnR PK H) tab kvs) (k : Kx H H') : Paired (EnR PK H') tab kvs := Paired.mapP h fun _ _ z => z.mono mo k
theorem TabAt.same {α : Type} {w : World} {PK : Hp → V → α → Prop} {H H' : Hp} {d : Addr} {tab : List (Ky × α)} {od : Obj} {kvs : List ND.Ent} (mo : MonoK PK) (x : TabAt w PK H d tab od kvs) (s : Same H H') : TabAt w PK H' d tab od kvs :=
  ⟨s _ _ x.at_, x.dn.more s, EnR.mp (PK := PK) mo x.tb (.of s)⟩
/-- .. of a sealed dict -/
theorem TabAt.sealed {α : Type} {w : World} {PK : Hp → V → α → Prop} (mo : MonoK PK) {H : Hp} {D : Addr} {kvs : List ND.Ent} {tab : List (Ky × α)} {od : Obj} (eD : H D = some (ND.dnO w kvs D)) (dn : ND.DN w H D kvs) (pr : Paired (EnR PK H) tab kvs) : TabAt w PK (upd H D (.frz od (ND.dnO w kvs D))) D tab od kvs :=
  ⟨upd_same, dn.seal eD, EnR.mp (PK := PK) mo pr (Kx.put eD)⟩
end Ax
namespace Ax
open PySem L2
theorem paired_at {α β : Type} {G : α → β → Prop} {l1 : List α} {l2 : List β} (h : Paired G l1 l2) {i : Nat} {y : β} (e : l2[i]? = some y) : ∃ x, l1[i]? = some x ∧ G x y := by
  have hl := Paired.length h
  have lt : i < l2.length := (List.getElem?_eq_some_iff.mp e).1
  obtain ⟨z, hz, g⟩ := paired_get h (i := i) (a := l1[i]'(by omega)) (List.getElem?_eq_getElem _)
  rw [e] at hz
  cases hz
  exact ⟨_, List.getElem?_eq_getElem _, g⟩
theorem paired_mem {α β : Type} {G : α → β → Prop} {l1 : List α} {l2 : List β} (h : Paired G l1 l2) {y : β} (e : y ∈ l2) : ∃ x ∈ l1, G x y := by
  obtain ⟨i, hi⟩ := List.mem_iff_getElem?.mp e
  obtain ⟨x, hx, g⟩ := paired_at h hi
  exact ⟨x, List.mem_of_getElem? hx, g⟩
/-- a comprehension over keys: what the dict is -/
theorem dcK {w : World} {as : List Addr} {ks : List Ky} {j : Nat} {tv : TE} {σ : L2.St} {H1 : Hp} {D : Addr} {α : Type} {PK : Hp → V → α → Prop} {R : Ky → α → Prop} {Qd : Hp → Prop} {J : It} {n : Nat} {G : Hp → Prop}
    (wk : Walk J n G (fun i H x H' => H' = H ∧ ∃ a, as[i]? = some a ∧ x = .ref a)) (hn : n = ks.length) (hG : ∀ H', (∀ c o, H1 c = some o → H' c = some o) → G H')
    (hD : H1 D = none) (sys : (D == sysModules) = false) (hk : KeysAt H1 ks as) (nd : ks.Nodup) (le : ks.length ≤ 1000) (mo : MonoK PK) (hj : j < σ.length)
    (hv : ∀ (H4 : Hp) (k : Ky) (a : Addr) (Qc : VK), (∀ c o, H1 c = some o → H4 c = some o) → KyAt H4 k a → k ∈ ks → (∀ z H5 x, Same H4 H5 → PK H5 z x → R k x → Qc z H5) → tv ((wipe σ [j]).set j (some (.ref a))) H4 Qc)
    (hd : ∀ (H' : Hp) (kvs : List ND.Ent) (tab : List (Ky × α)), (∀ c o, H1 c = some o → H' c = some o) → H' D = some (ND.dnO w kvs D) → ND.DN w H' D kvs → Paired (EnR PK H') tab kvs → tab.map (·.1) = ks → (∀ t ∈ tab, R t.1 t.2) → Qd H') :
    ∃ W : Nat → Nat → Hp → Prop, (∃ m, W 0 m (upd H1 D (ND.dnO w [] D))) ∧ ∀ i m H, W i m H → (J.stop i H ∧ Qd H) ∨
      (J.go i H ∧ ∃ Nx : Hp → Prop, (∀ H', Nx H' → ∃ m', m' < m ∧ W (i + 1) m' H') ∧ ∀ x H', J.yld i H x H' → gName j x (wipe σ [j]) H' fun σ2 H2 => wipe σ2 [j] = wipe σ [j] ∧ tYes σ2 H2 fun c H3 =>
        if c = true then tVar j σ2 H3 fun y H4 => tv σ2 H4 fun z H5 => ∃ kvs k b, y = .ref b ∧ H5 D = some (ND.dnO w kvs D) ∧ ND.DN w H5 D kvs ∧ ND.NK H5 k (.ref b) ∧ k.depth ≤ 8 ∧ Nx (upd H5 D (ND.dnO w (ND.putN kvs k b z) D)) else Nx H3) := by
  subst hn
  let I : Nat → Hp → Prop := fun i H => ∃ (kvs : List ND.Ent) (tab : List (Ky × α)), (∀ c o, H1 c = some o → H c = some o) ∧ H D = some (ND.dnO w kvs D) ∧ ND.DN w H D kvs ∧ Paired (EnR PK H) tab kvs ∧ tab.map (·.1) = ks.take i ∧ ∀ t ∈ tab, R t.1 t.2
  refine ⟨fun i m H => m = ks.length - i ∧ i ≤ ks.length ∧ I i H, ⟨ks.length, by simp, Nat.zero_le _, [], [], fun c o e => by rw [upd_ne (ne_of_none e hD)]; exact e, upd_same, ND.DN.nil sys, .nil, rfl, fun _ h => nomatch h⟩, ?_⟩
  rintro i m H ⟨rfl, hi, kvs, tab, kp, eD, dn, pr, tk, rr⟩
  have g := hG H kp
  by_cases lt : i < ks.length
  · refine .inr ⟨wk.goes i H lt g, I (i + 1), fun H' p => ⟨ks.length - (i + 1), by omega, rfl, lt, p⟩, fun x H' y => ?_⟩
    obtain ⟨rfl, a, ha, rfl⟩ := wk.yields i H x H' lt g y
    obtain ⟨k, hki, hka⟩ := paired_at hk ha
    have hmem : k ∈ ks := List.mem_of_getElem? hki
    have hka' : KyAt H' k a := hka.same kp
    refine ⟨?_, ?_⟩
    · show ((σ.set j none).set j (some (.ref a))).set j none = σ.set j none
      rw [List.set_set, List.set_set]
    · refine yes_of ?_
      refine ⟨.ref a, ?_, hv H' k a _ kp hka' hmem fun z H5 x s5 pz r => ?_⟩
      · show ((σ.set j none).set j (some (V.ref a)))[j]? = some (some (V.ref a))
        rw [List.getElem?_set_self (by rw [List.length_set]; exact hj)]
      · have eD5 := s5 _ _ eD
        have dn5 := dn.more s5
        have q5 := (hka'.same s5).nk
        refine ⟨kvs, kyN k, a, rfl, eD5, dn5, q5, kyN_depth k, ?_⟩
        have no : ND.atN kvs (kyN k) = none := ND.atN_none fun e he z => by
          obtain ⟨t, ht, e1, _⟩ := paired_mem pr he
          have e2 : t.1 = k := kyN_inj (e1.symm.trans z)
          have m1 : t.1 ∈ ks.take i := by rw [← tk]; exact List.mem_map_of_mem (f := fun t : Ky × α => t.1) ht
          rw [e2] at m1
          obtain ⟨j', hj', ej⟩ := List.getElem_of_mem m1
          rw [List.length_take] at hj'
          rw [List.getElem_take] at ej
          have := (List.getElem_inj nd).mp (ej.trans ((List.getElem?_eq_some_iff.mp hki).2).symm)
          omega
        have kx : Kx H5 (upd H5 D (ND.dnO w (ND.putN kvs (kyN k) a z) D)) := Kx.put eD5
        refine ⟨_, tab ++ [(k, x)], fun c o e => ?_, upd_same, dn5.put eD5 q5 (kyN_depth k) ?_, ?_, ?_, ?_⟩
        · rw [upd_ne (ne_of_none e hD)]
          exact s5 _ _ (kp c o e)
        · have l1 := Paired.length pr
          have l2 : tab.length = i := by
            have := congrArg List.length tk
            rw [List.length_map, List.length_take] at this
            omega
          rw [PySem.sizeLine_eq]
          omega
        · rw [ND.putN_new no]
          rw [ND.putN_new no] at kx
          exact Paired.snoc (EnR.mp (PK := PK) mo pr ((Kx.of s5).trans kx)) ⟨rfl, (hka'.same s5).kp kx, mo kx pz⟩
        · rw [List.map_append, tk, List.take_add_one, hki]
          rfl
        · intro t ht
          rcases List.mem_append.mp ht with h | h
          · exact rr t h
          · rw [List.mem_singleton.mp h]
            exact r
  · have e : i = ks.length := by omega
    subst e
    refine .inl ⟨wk.stops H g, hd H kvs tab kp eD dn pr ?_ rr⟩
    rw [tk, List.take_length]
end Ax

namespace Ax
/-! # Masks that repeat with a step -/
/-- multiples of s, n of them -/
def combN (s : Nat) : Nat → Nat
  | 0 => 0
  | n + 1 => 2 ^ (s * n) * 1 + combN s n
/-- from f up to below p above a multiple -/
def resN (s f p : Nat) : Nat → Nat
  | 0 => 0
  | n + 1 => 2 ^ (s * n) * (2 ^ p - 2 ^ f) + resN s f p n
theorem one_bit (j : Nat) : (1 : Nat).testBit j = decide (j = 0) := by
  rw [show (1 : Nat) = 2 ^ 0 from rfl, Nat.testBit_two_pow]
  exact decide_eq_decide.mpr ⟨fun h => h.symm, fun h => h.symm⟩
theorem diff_bit {f p : Nat} (h : f ≤ p) (j : Nat) : (2 ^ p - 2 ^ f).testBit j = (decide (f ≤ j) && decide (j < p)) := by
  have e : 2 ^ p - 2 ^ f = 2 ^ f * (2 ^ (p - f) - 1) + 0 := by
    rw [Nat.mul_sub, ← Nat.pow_add, Nat.mul_one, Nat.add_zero, show f + (p - f) = p by omega]
  rw [e, Nat.testBit_two_pow_mul_add _ (Nat.two_pow_pos f), Nat.testBit_two_pow_sub_one]
  by_cases c : j < f
  · rw [if_pos c, Nat.zero_testBit, decide_eq_false (by omega)]
    rfl
  · rw [if_neg c, decide_eq_true (show f ≤ j by omega), Bool.true_and]
    exact decide_eq_decide.mpr (by omega)
theorem block {s n j : Nat} (hs : 0 < s) (h1 : s * n ≤ j) (h2 : j < s * (n + 1)) : j - s * n < s ∧ j % s = j - s * n := by
  rw [Nat.mul_succ] at h2
  have e : j = (j - s * n) + s * n := by omega
  refine ⟨by omega, ?_⟩
  conv => lhs; rw [e]
  rw [Nat.add_mul_mod_self_left]
  exact Nat.mod_eq_of_lt (by omega)
theorem combN_lt {s : Nat} (hs : 0 < s) : ∀ n, combN s n < 2 ^ (s * n)
  | 0 => by
    show 0 < 2 ^ (s * 0)
    exact Nat.two_pow_pos _
  | n + 1 => by
    have ih := combN_lt hs n
    show 2 ^ (s * n) * 1 + combN s n < 2 ^ (s * (n + 1))
    have h : 2 ^ (s * n) * 2 ≤ 2 ^ (s * (n + 1)) := by
      rw [← Nat.pow_succ]
      exact Nat.pow_le_pow_right (by decide) (by rw [Nat.mul_succ]; omega)
    omega
theorem resN_lt {s f p : Nat} (hs : 0 < s) (hp : p ≤ s) : ∀ n, resN s f p n < 2 ^ (s * n)
  | 0 => by
    show 0 < 2 ^ (s * 0)
    exact Nat.two_pow_pos _
  | n + 1 => by
    have ih := resN_lt (f := f) hs hp n
    show 2 ^ (s * n) * (2 ^ p - 2 ^ f) + resN s f p n < 2 ^ (s * (n + 1))
    have h1 : 2 ^ p - 2 ^ f + 1 ≤ 2 ^ s := by
      have a := Nat.pow_le_pow_right (n := 2) (by decide) hp
      have b := Nat.two_pow_pos f
      have c := Nat.two_pow_pos p
      omega
    have h2 := Nat.mul_le_mul_left (2 ^ (s * n)) h1
    rw [← Nat.pow_add, Nat.mul_add, Nat.mul_one] at h2
    rw [Nat.mul_succ]
    omega
theorem combN_bit {s : Nat} (hs : 0 < s) : ∀ (n j : Nat), (combN s n).testBit j = (decide (j < s * n) && decide (j % s = 0))
  | 0, j => by
    show (0 : Nat).testBit j = _
    rw [Nat.zero_testBit, decide_eq_false (by omega)]
    rfl
  | n + 1, j => by
    show (2 ^ (s * n) * 1 + combN s n).testBit j = _
    rw [Nat.testBit_two_pow_mul_add _ (combN_lt hs n), combN_bit hs n j]
    have e : s * (n + 1) = s * n + s := Nat.mul_succ s n
    by_cases c : j < s * n
    · rw [if_pos c, decide_eq_true c, decide_eq_true (show j < s * (n + 1) by omega)]
    · rw [if_neg c, one_bit]
      by_cases d : j < s * (n + 1)
      · obtain ⟨h1, h2⟩ := block hs (by omega) d
        rw [decide_eq_true d, Bool.true_and, h2]
      · rw [decide_eq_false d, decide_eq_false (show ¬ j - s * n = 0 by omega)]
        rfl
theorem resN_bit {s f p : Nat} (hs : 0 < s) (hf : f ≤ p) (hp : p ≤ s) : ∀ (n j : Nat), (resN s f p n).testBit j = (decide (j < s * n) && (decide (f ≤ j % s) && decide (j % s < p)))
  | 0, j => by
    show (0 : Nat).testBit j = _
    rw [Nat.zero_testBit, decide_eq_false (by omega)]
    rfl
  | n + 1, j => by
    show (2 ^ (s * n) * (2 ^ p - 2 ^ f) + resN s f p n).testBit j = _
    rw [Nat.testBit_two_pow_mul_add _ (resN_lt hs hp n), resN_bit hs hf hp n j]
    have e : s * (n + 1) = s * n + s := Nat.mul_succ s n
    by_cases c : j < s * n
    · rw [if_pos c, decide_eq_true c, decide_eq_true (show j < s * (n + 1) by omega)]
    · rw [if_neg c, diff_bit hf]
      by_cases d : j < s * (n + 1)
      · obtain ⟨h1, h2⟩ := block hs (by omega) d
        rw [decide_eq_true d, Bool.true_and, h2]
      · rw [decide_eq_false d, decide_eq_false (show ¬ j - s * n < p by omega), Bool.and_false]
        rfl
theorem res_comb {s f p : Nat} (hf : f ≤ p) : ∀ n, combN s n * 2 ^ f + resN s f p n = combN s n * 2 ^ p
  | 0 => by
    show 0 * 2 ^ f + 0 = 0 * 2 ^ p
    rw [Nat.zero_mul, Nat.zero_mul]
  | n + 1 => by
    have ih := res_comb (s := s) hf n
    show (2 ^ (s * n) * 1 + combN s n) * 2 ^ f + (2 ^ (s * n) * (2 ^ p - 2 ^ f) + resN s f p n) = (2 ^ (s * n) * 1 + combN s n) * 2 ^ p
    have h := Nat.pow_le_pow_right (n := 2) (by decide) hf
    have e : 2 ^ (s * n) * (2 ^ p - 2 ^ f) + 2 ^ (s * n) * 2 ^ f = 2 ^ (s * n) * 2 ^ p := by
      rw [← Nat.mul_add]
      congr 1
      omega
    rw [Nat.mul_one, Nat.add_mul, Nat.add_mul]
    omega
theorem IsM.uniq {W : Nat} {φ : Nat → Bool} {M N : Int} (h1 : IsM W φ M) (h2 : IsM W φ N) : M = N := by
  obtain ⟨m, rfl, a⟩ := h1
  obtain ⟨n, rfl, b⟩ := h2
  rw [Nat.eq_of_testBit_eq fun q => (a q).trans (b q).symm]
/-- the multiples of s below W, which s divides -/
def isC (s : Nat) : Nat → Bool := fun q => decide (q % s = 0)
theorem comb_is {s n : Nat} (hs : 0 < s) : IsM (s * n) (isC s) (combN s n) := ⟨_, rfl, combN_bit hs n⟩
theorem res_is {s f p n : Nat} (hs : 0 < s) (hf : f ≤ p) (hp : p ≤ s) {C : Int} (hC : IsM (s * n) (isC s) C) : IsM (s * n) (fun q => decide (f ≤ q % s) && decide (q % s < p)) (C * 2 ^ p - C * 2 ^ f) := by
  rw [hC.uniq (comb_is hs)]
  refine ⟨resN s f p n, ?_, resN_bit hs hf hp n⟩
  have h := res_comb (s := s) hf n
  have h2 : ((combN s n * 2 ^ f + resN s f p n : Nat) : Int) = ((combN s n * 2 ^ p : Nat) : Int) := by rw [h]
  rw [Int.natCast_add, Int.natCast_mul, Int.natCast_mul, Int.natCast_pow, Int.natCast_pow] at h2
  have e : ((2 : Nat) : Int) = 2 := rfl
  rw [e] at h2
  omega
/-- a comb of twice as many -/
theorem comb_dbl {s n : Nat} (hs : 0 < s) : combN s n ||| combN s n <<< (s * n) = combN s (2 * n) := by
  refine Nat.eq_of_testBit_eq fun q => ?_
  rw [Nat.testBit_or, Nat.testBit_shiftLeft, combN_bit hs, combN_bit hs, combN_bit hs]
  have e : s * (2 * n) = s * n + s * n := by rw [Nat.two_mul, Nat.mul_add]
  rw [e]
  by_cases c : q < s * n
  · rw [decide_eq_true c, decide_eq_true (show q < s * n + s * n by omega), decide_eq_false (show ¬ q ≥ s * n by omega)]
    simp
  · have e2 : (q - s * n) % s = q % s := by
      have : q = (q - s * n) + s * n := by omega
      conv => rhs; rw [this]
      rw [Nat.add_mul_mod_self_left]
    rw [decide_eq_false c, decide_eq_true (show q ≥ s * n by omega), e2, Bool.false_and, Bool.false_or, Bool.true_and]
    congr 1
    exact decide_eq_decide.mpr (by omega)
theorem comb_cut {s n W m : Nat} (hs : 0 < s) (hW : W = s * m) (h : W ≤ s * n) : combN s n % 2 ^ W = combN s m := by
  refine Nat.eq_of_testBit_eq fun q => ?_
  rw [Nat.testBit_mod_two_pow, combN_bit hs, combN_bit hs, hW]
  by_cases c : q < s * m
  · rw [decide_eq_true c, decide_eq_true (show q < s * n by omega)]
    rfl
  · rw [decide_eq_false c]
    rfl
/-! ### which low ends a step fits -/
theorem nat_div_facts {s q : Nat} (hs : 0 < s) : ((q : Int) / s) * s + ((q % s : Nat) : Int) = q ∧ q % s < s := by
  refine ⟨?_, Nat.mod_lt q hs⟩
  have h := Int.emod_add_mul_ediv (q : Int) s
  rw [← Int.natCast_emod, Int.mul_comm] at h
  omega
theorem fit_cov {s q : Nat} {n L : Int} (hs : 0 < s) : (q : Int) + L ≤ reachZ .cov n q s ↔ ((q % s : Nat) : Int) < n * s - L + 1 := by
  obtain ⟨h1, h2⟩ := nat_div_facts (q := q) hs
  show (q : Int) + L ≤ ((q : Int) / s + n) * s ↔ _
  rw [Int.add_mul]
  omega
theorem fit_len {s q : Nat} {n L : Int} : (q : Int) + L ≤ reachZ .len n q s ↔ 0 ≤ n * s - L := by
  show (q : Int) + L ≤ q + n * s ↔ _
  omega
theorem ceil_nat {s q : Nat} (hs : 0 < s) : -(-(q : Int) / s) = if q % s = 0 then (q : Int) / s else (q : Int) / s + 1 := by
  obtain ⟨h1, h2⟩ := nat_div_facts (q := q) hs
  obtain ⟨c1, c2⟩ := ceil_facts (q : Int) (show (0 : Int) < s by omega)
  have s1 : (0 : Int) < s := by omega
  rw [Int.mul_comm] at c1 c2
  generalize -(-(q : Int) / s) = c at *
  generalize (q : Int) / s = d at *
  by_cases z : q % s = 0
  · rw [if_pos z]
    have a1 : d * s ≤ c * s := by omega
    have a2 : c * s < (d + 1) * s := by rw [Int.add_mul]; omega
    have := Int.le_of_mul_le_mul_right a1 s1
    have := Int.lt_of_mul_lt_mul_right a2 (Int.le_of_lt s1)
    omega
  · rw [if_neg z]
    have a1 : d * s < c * s := by omega
    have a2 : c * s < (d + 2) * s := by rw [Int.add_mul]; omega
    have := Int.lt_of_mul_lt_mul_right a1 (Int.le_of_lt s1)
    have := Int.lt_of_mul_lt_mul_right a2 (Int.le_of_lt s1)
    omega
theorem fit_ins {s q : Nat} {n L : Int} (hs : 0 < s) : (q : Int) + L ≤ reachZ .ins n q s ↔ 0 < n * s - L ∨ (1 ≤ q % s ∧ ((q % s : Nat) : Int) < s + (n * s - L)) := by
  obtain ⟨h1, h2⟩ := nat_div_facts (q := q) hs
  show (q : Int) + L ≤ (-(-(q : Int) / s) + n) * s - 1 ↔ _
  rw [ceil_nat hs]
  by_cases z : q % s = 0
  · rw [if_pos z, Int.add_mul]
    omega
  · rw [if_neg z, Int.add_mul, Int.add_mul]
    omega
/-! ### how many marks -/
theorem div_sum {s q : Nat} {L : Int} (hs : 0 < s) (hL : 0 ≤ L) : ((q : Int) + L) / s = (q : Int) / s + L / s + (if (s : Int) ≤ ((q % s : Nat) : Int) + L % s then 1 else 0) := by
  obtain ⟨h1, h2⟩ := nat_div_facts (q := q) hs
  have s1 : (0 : Int) < s := by omega
  have d1 := Int.emod_add_mul_ediv L s
  have d2 := Int.emod_nonneg L (show (s : Int) ≠ 0 by omega)
  have d3 := Int.emod_lt_of_pos L s1
  rw [Int.mul_comm] at d1
  have e : (q : Int) + L = (((q % s : Nat) : Int) + L % s) + ((q : Int) / s + L / s) * s := by rw [Int.add_mul]; omega
  rw [e, Int.add_mul_ediv_right _ _ (by omega)]
  by_cases c : (s : Int) ≤ ((q % s : Nat) : Int) + L % s
  · rw [if_pos c]
    have : (((q % s : Nat) : Int) + L % s) / s = 1 := by
      refine Int.le_antisymm (Int.le_of_lt_add_one ((Int.ediv_lt_iff_lt_mul s1).mpr ?_)) ((Int.le_ediv_iff_mul_le s1).mpr ?_)
      · show _ < (2 : Int) * s
        omega
      · omega
    omega
  · rw [if_neg c, Int.ediv_eq_zero_of_lt (by omega) (by omega)]
    omega
theorem ceil_floor (x : Int) {s : Int} (hs : 0 < s) : -(-x / s) = if x % s = 0 then x / s else x / s + 1 := by
  have d1 := Int.emod_add_mul_ediv x s
  have d2 := Int.emod_nonneg x (show s ≠ 0 by omega)
  have d3 := Int.emod_lt_of_pos x hs
  obtain ⟨c1, c2⟩ := ceil_facts x hs
  rw [Int.mul_comm] at c1 c2 d1
  generalize -(-x / s) = c at *
  generalize x / s = d at *
  by_cases z : x % s = 0
  · rw [if_pos z]
    have a1 : d * s ≤ c * s := by omega
    have a2 : c * s < (d + 1) * s := by rw [Int.add_mul]; omega
    have := Int.le_of_mul_le_mul_right a1 hs
    have := Int.lt_of_mul_lt_mul_right a2 (Int.le_of_lt hs)
    omega
  · rw [if_neg z]
    have a1 : d * s < c * s := by omega
    have a2 : c * s < (d + 2) * s := by rw [Int.add_mul]; omega
    have := Int.lt_of_mul_lt_mul_right a1 (Int.le_of_lt hs)
    have := Int.lt_of_mul_lt_mul_right a2 (Int.le_of_lt hs)
    omega
theorem mod_sum {s q : Nat} {L : Int} (hs : 0 < s) : ((q : Int) + L) % s = (((q % s : Nat) : Int) + L % s) % s := by
  rw [Int.add_emod, Int.natCast_emod]
/-- the marks of the range of a length from q on, by the residue of q -/
theorem cnt_ins {k : Kd} {s q : Nat} {L : Int} (hk : k ≠ .cov) (hs : 0 < s) (hL : 0 ≤ L) : lstZ k (q + L) s - fstZ k q s + 1 = if q % s = 0 then L / s + 1 else if ((q % s : Nat) : Int) < s - L % s then L / s else L / s + 1 := by
  unfold lstZ fstZ
  rw [if_neg hk, if_neg hk, div_sum hs hL, ceil_nat hs]
  obtain ⟨h1, h2⟩ := nat_div_facts (q := q) hs
  have d2 := Int.emod_nonneg L (show (s : Int) ≠ 0 by omega)
  have d3 := Int.emod_lt_of_pos L (show (0 : Int) < s by omega)
  by_cases z : q % s = 0
  · rw [if_pos z, if_pos z, if_neg (by omega)]
    omega
  · rw [if_neg z, if_neg z]
    by_cases c : ((q % s : Nat) : Int) < s - L % s
    · rw [if_neg (by omega), if_pos c]
      omega
    · rw [if_pos (by omega), if_neg c]
      omega
theorem cnt_cov {s q : Nat} {L : Int} (hs : 0 < s) (hL : 0 ≤ L) : lstZ .cov (q + L) s - fstZ .cov q s + 1 = if q % s = 0 then (if L % s = 0 then L / s + 1 else L / s + 2) else if ((q % s : Nat) : Int) < s - L % s + 1 then L / s + 2 else L / s + 3 := by
  unfold lstZ fstZ
  rw [if_pos rfl, if_pos rfl, ceil_floor _ (show (0 : Int) < s by omega), div_sum hs hL, mod_sum hs]
  obtain ⟨h1, h2⟩ := nat_div_facts (q := q) hs
  have s1 : (0 : Int) < s := by omega
  have d2 := Int.emod_nonneg L (show (s : Int) ≠ 0 by omega)
  have d3 := Int.emod_lt_of_pos L s1
  by_cases c : (s : Int) ≤ ((q % s : Nat) : Int) + L % s
  · have em : (((q % s : Nat) : Int) + L % s) % s = ((q % s : Nat) : Int) + L % s - s := by
      rw [← Int.sub_emod_right, Int.emod_eq_of_lt (by omega) (by omega)]
    rw [em, if_pos c]
    by_cases z : q % s = 0
    · omega
    · rw [if_neg z]
      by_cases y : ((q % s : Nat) : Int) + L % s - s = 0
      · rw [if_pos y, if_pos (by omega)]
        omega
      · rw [if_neg y, if_neg (by omega)]
        omega
  · have em : (((q % s : Nat) : Int) + L % s) % s = ((q % s : Nat) : Int) + L % s := Int.emod_eq_of_lt (by omega) (by omega)
    rw [em, if_neg c]
    by_cases z : q % s = 0
    · rw [if_pos z, z]
      by_cases y : L % s = 0
      · rw [if_pos y, if_pos (by omega)]
        omega
      · rw [if_neg y, if_neg (by omega)]
        omega
    · rw [if_neg z, if_neg (by omega), if_pos (by omega)]
      omega
theorem touch_high {s q : Nat} {L : Int} (hs : 0 < s) : ((q : Int) + L) % s = 0 ↔ ((q % s : Nat) : Int) = -L % s := by
  have s1 : (0 : Int) < s := by omega
  obtain ⟨h1, h2⟩ := nat_div_facts (q := q) hs
  rw [mod_sum hs]
  have d2 := Int.emod_nonneg L (show (s : Int) ≠ 0 by omega)
  have d3 := Int.emod_lt_of_pos L s1
  have e1 := Int.emod_add_mul_ediv L s
  have en : -L % s = if L % s = 0 then 0 else s - L % s := by
    by_cases z : L % s = 0
    · rw [if_pos z, Int.neg_emod, if_pos (Int.dvd_of_emod_eq_zero z)]
    · rw [if_neg z, Int.neg_emod, if_neg fun d => z (Int.emod_eq_zero_of_dvd d), Int.natAbs_natCast]
  rw [en]
  by_cases c : (s : Int) ≤ ((q % s : Nat) : Int) + L % s
  · have em : (((q % s : Nat) : Int) + L % s) % s = ((q % s : Nat) : Int) + L % s - s := by
      rw [← Int.sub_emod_right, Int.emod_eq_of_lt (by omega) (by omega)]
    rw [em]
    by_cases z : L % s = 0
    · omega
    · rw [if_neg z]
      omega
  · have em : (((q % s : Nat) : Int) + L % s) % s = ((q % s : Nat) : Int) + L % s := Int.emod_eq_of_lt (by omega) (by omega)
    rw [em]
    by_cases z : L % s = 0
    · rw [if_pos z]
      omega
    · rw [if_neg z]
      omega
end Ax

namespace Ax
open PySem L2
theorem shl_pow {C : Nat} {p n : Nat} (h : C < 2 ^ n) (hb : n + p ≤ 134217728) : CShl (C : Int) (p : Int) := shl_ok (n := n) (by rw [Int.natAbs_natCast]; exact h) hb
theorem IsM.shl {W : Nat} {φ : Nat → Bool} {C : Int} (h : IsM W φ C) {p : Nat} (hb : W + p ≤ 134217728) : CShl C (p : Int) := by
  obtain ⟨m, rfl, hm⟩ := h
  exact shl_pow (n := W) (Nat.lt_pow_two_of_testBit m fun i hi => by rw [hm, decide_eq_false (by omega)]; rfl) hb
theorem w30 {x : Nat} (h : x < 1073741824) : ((x : Nat) : Int).natAbs < 2 ^ 30 := by
  rw [Int.natAbs_natCast]
  exact Nat.lt_of_lt_of_le h (by decide)
section
variable {P : Program} {w : World} {K : PySem.W.Frag} {mg : Str → Option Value} {base : Heap} {A : Adr}
/-! ### comb_of -/
def spComb : Sp := fun vs H Q _ => ∃ s n : Nat, vs = [.int s, .int ((s * n : Nat) : Int)] ∧ 0 < s ∧ 0 < n ∧ s * n ≤ 2 ^ 26 ∧ ∀ C, IsM (s * n) (isC s) C → Q (.int C) H
abbrev nm_comb_of : List Str := ["size", "width", "comb", "have"]
theorem sc_comb_of : FnScope ["size", "width", "comb", "have"] ["size", "width"] (defScope s_comb_of) := ⟨rfl, rfl, rfl, by decide +kernel, rfl, by decide +kernel, by decide +kernel⟩
theorem ok_comb (T : Txt K mg A w) : FnOk P w K mg base CX0 1 A.a_comb_of A.d_comb_of ["size", "width"] spComb := by
  refine T.F_comb_of.ok sc_comb_of (fun vs H Q E h => ?_) (fun cdv A0 outer s H vs Q E hr h => ?_)
  · obtain ⟨s, n, rfl, _⟩ := h
    rfl
  · obtain ⟨z, n, rfl, z0, n0, wB, q⟩ := h
    refine ⟨_, (pss_cons (ps_set (i := 2) sc_comb_of.nd rfl (Or.inl rfl) pe_int)
  (pss_cons (ps_set (i := 3) sc_comb_of.nd rfl (Or.inl rfl) (pv 0))
  (pss_cons (ps_while PassesOwn.never (pt_cmpR op_lt (pv 3) (pv 1) (nomark _))
  (pss_cons (ps_set (i := 2) sc_comb_of.nd rfl (Or.inl rfl) (pe_op op_or (pv 2) (pe_op op_shlW (pv 2) (pv 3))))
  (pss_one (ps_set (i := 3) sc_comb_of.nd rfl (Or.inl rfl) (pe_op op_mulW pe_int (pv 3))))))
  (pss_one (ps_ret (pe_op op_andM (pv 2) (pe_op op_sub (pe_op op_shlW pe_int (pv 1)) pe_int))))))), ?_⟩
    have e26 : (2 : Nat) ^ 26 = 67108864 := by decide
    refine ⟨_, rfl, ?_⟩
    refine ⟨fun m σ H' => ∃ k : Nat, σ = [some (.int z), some (.int ((z * n : Nat) : Int)), some (.int ((combN z (2 ^ k) : Nat) : Int)), some (.int ((z * 2 ^ k : Nat) : Int))] ∧ H' = H ∧ (k = 0 ∨ z * 2 ^ k < 2 * (z * n)) ∧ m = 2 * (z * n) - z * 2 ^ k, ⟨_, 0, ?_, rfl, .inl rfl, rfl⟩, ?_⟩
    · show _ = [some (V.int z), some (.int ((z * n : Nat) : Int)), some (.int ((combN z 1 : Nat) : Int)), some (.int ((z * 1 : Nat) : Int))]
      have e : combN z 1 = 1 := by
        show 2 ^ (z * 0) * 1 + 0 = 1
        rw [Nat.mul_zero]
      rw [e, Nat.mul_one]
      rfl
    rintro m σ H' ⟨k, rfl, rfl, hk, rfl⟩
    have z1 : z * 2 ^ k ≤ 2 * (z * n) := by
      rcases hk with rfl | hk
      · have := Nat.le_mul_of_pos_right z n0
        omega
      · omega
    refine ⟨_, rfl, _, rfl, _, _, rfl, rfl, _, rfl, ?_⟩
    show if (decide (((z * 2 ^ k : Nat) : Int) < ((z * n : Nat) : Int))) = true then _ else _
    have cl := combN_lt z0 (2 ^ k)
    by_cases c : z * 2 ^ k < z * n
    · rw [decide_eq_true (show ((z * 2 ^ k : Nat) : Int) < ((z * n : Nat) : Int) by omega)]
      refine iteT ⟨fun σ' H2 => σ' = [some (.int z), some (.int ((z * n : Nat) : Int)), some (.int ((combN z (2 ^ (k + 1)) : Nat) : Int)), some (.int ((z * 2 ^ (k + 1) : Nat) : Int))] ∧ H2 = H', ?_, ?_⟩
      · rintro σ' _ ⟨rfl, rfl⟩
        have e : z * 2 ^ (k + 1) = 2 * (z * 2 ^ k) := by rw [Nat.pow_succ, ← Nat.mul_assoc, Nat.mul_comm]
        have p0 := Nat.mul_pos z0 (Nat.two_pow_pos k)
        exact ⟨_, by omega, k + 1, rfl, rfl, .inr (by omega), rfl⟩
      · refine ⟨_, rfl, _, rfl, _, rfl, _, _, rfl, rfl, shl_pow cl (by omega), _, _, rfl, rfl, ?_⟩
        have eo : Builtin.bitOr ((combN z (2 ^ k) : Nat) : Int) (((combN z (2 ^ k) : Nat) : Int) * 2 ^ (((z * 2 ^ k : Nat) : Int)).toNat) = ((combN z (2 ^ (k + 1)) : Nat) : Int) := by
          have e2 : ((combN z (2 ^ k) : Nat) : Int) * 2 ^ (((z * 2 ^ k : Nat) : Int)).toNat = ((combN z (2 ^ k) <<< (z * 2 ^ k) : Nat) : Int) := by
            rw [Int.toNat_natCast, Nat.shiftLeft_eq, Int.natCast_mul (combN z (2 ^ k)), Int.natCast_pow]
            rfl
          rw [e2, bitOr_nn (Int.natCast_nonneg _) (Int.natCast_nonneg _), Int.toNat_natCast, Int.toNat_natCast, comb_dbl z0, Nat.pow_succ, Nat.mul_comm 2]
        show gName 2 (V.int (Builtin.bitOr ((combN z (2 ^ k) : Nat) : Int) (((combN z (2 ^ k) : Nat) : Int) * 2 ^ (((z * 2 ^ k : Nat) : Int)).toNat))) _ _ _
        rw [eo]
        refine gN (σ' := [some (.int z), some (.int ((z * n : Nat) : Int)), some (.int ((combN z (2 ^ (k + 1)) : Nat) : Int)), some (.int ((z * 2 ^ k : Nat) : Int))]) rfl ?_
        refine ⟨_, rfl, _, _, rfl, rfl, wide_mul (a := 2) (b := 30) (by decide) (w30 (by omega)) (by decide) (by decide) (by decide), ?_⟩
        refine ⟨?_, rfl⟩
        have e3 : (2 : Int) * ((z * 2 ^ k : Nat) : Int) = ((z * 2 ^ (k + 1) : Nat) : Int) := by
          rw [Nat.pow_succ, ← Nat.mul_assoc]
          omega
        show [some (V.int z), some (V.int ((z * n : Nat) : Int)), some (V.int ((combN z (2 ^ (k + 1)) : Nat) : Int)), some (V.int ((2 : Int) * ((z * 2 ^ k : Nat) : Int)))] = _
        rw [e3]
    · rw [decide_eq_false (show ¬ ((z * 2 ^ k : Nat) : Int) < ((z * n : Nat) : Int) by omega)]
      refine iteF ?_
      refine ⟨_, rfl, _, rfl, _, _, rfl, rfl, shl_pow (C := 1) (n := 1) (by decide) (by omega), _, _, rfl, rfl, _, z * n, rfl, ?_, ?_⟩
      · show V.int (1 * 2 ^ (((z * n : Nat) : Int)).toNat - 1) = _
        rw [Int.one_mul, Int.toNat_natCast]
      · refine q _ ?_
        have e4 : ((combN z (2 ^ k) : Nat) : Int) % 2 ^ (z * n) = ((combN z (2 ^ k) % 2 ^ (z * n) : Nat) : Int) := by
          rw [Int.natCast_emod, Int.natCast_pow]
          rfl
        rw [e4, comb_cut z0 rfl (by omega)]
        exact comb_is z0
/-! ### residues -/
def spRes : Sp := fun vs H Q _ => ∃ (s n : Nat) (C f p : Int), vs = [.int C, .int f, .int p] ∧ IsM (s * n) (isC s) C ∧ 0 < s ∧ s * n ≤ 2 ^ 26 ∧ s ≤ s * n ∧ 0 ≤ f ∧ p ≤ s ∧
  ∀ M, IsM (s * n) (fun q => decide (f ≤ ((q % s : Nat) : Int)) && decide (((q % s : Nat) : Int) < p)) M → Q (.int M) H
abbrev nm_residues : List Str := ["comb", "first", "past"]
theorem sc_residues : FnScope ["comb", "first", "past"] ["comb", "first", "past"] (defScope s_residues) := ⟨rfl, rfl, rfl, by decide +kernel, rfl, by decide +kernel, by decide +kernel⟩
theorem ok_res (T : Txt K mg A w) : FnOk P w K mg base CX0 1 A.a_residues A.d_residues ["comb", "first", "past"] spRes := by
  refine T.F_residues.ok sc_residues (fun vs H Q E h => ?_) (fun cdv A0 outer s H vs Q E hr h => ?_)
  · obtain ⟨s, n, C, f, p, rfl, _⟩ := h
    rfl
  · obtain ⟨z, n, C, f, p, rfl, hC, z0, wB, zn, f0, pz, q⟩ := h
    refine ⟨_, (pss_cons (ps_if (pt_cmpR op_le (pv 2) (pv 1) (nomark _)) (pss_one (ps_ret pe_int)) pss_nil)
  (pss_one (ps_ret (pe_op op_sub (pe_op op_shlW (pv 0) (pv 2)) (pe_op op_shlW (pv 0) (pv 1)))))), ?_⟩
    have e26 : (2 : Nat) ^ 26 = 67108864 := by decide
    refine ⟨_, rfl, _, rfl, _, _, rfl, rfl, _, rfl, ?_⟩
    show if (decide (p ≤ f)) = true then _ else _
    by_cases c : p ≤ f
    · rw [decide_eq_true c]
      refine iteT (q 0 ((IsM.zero (z * n)).congr fun j _ => ?_))
      by_cases d : f ≤ ((j % z : Nat) : Int)
      · rw [decide_eq_false (show ¬ ((j % z : Nat) : Int) < p by omega), Bool.and_false]
      · rw [decide_eq_false d, Bool.false_and]
    · rw [decide_eq_false c]
      refine iteF ?_
      obtain ⟨f', rfl⟩ := Int.eq_ofNat_of_zero_le f0
      obtain ⟨p', rfl⟩ := Int.eq_ofNat_of_zero_le (show 0 ≤ p by omega)
      refine ⟨_, rfl, _, rfl, _, _, rfl, rfl, hC.shl (by omega), _, rfl, _, rfl, _, _, rfl, rfl, hC.shl (by omega), _, _, rfl, rfl, q _ ?_⟩
      rw [Int.toNat_natCast, Int.toNat_natCast]
      refine (res_is z0 (by omega) (by omega) hC).congr fun j _ => ?_
      congr 1 <;> exact decide_eq_decide.mpr (by omega)
/-! ### fitting_mask -/
/-- whether the step fits the range of a length from q on -/
def fitB (k : Kd) (n : Int) (s : Nat) (L : Int) (q : Nat) : Bool := decide ((q : Int) + L ≤ reachZ k n q s)
def spFitM : Sp := fun vs H Q _ => ∃ (k : Kd) (most C L : Int) (s n : Nat), vs = [.str k.s, .int most, .int s, .int C, .int L] ∧ IsM (s * n) (isC s) C ∧ 0 < s ∧ s * n ≤ 2 ^ 26 ∧ s ≤ s * n ∧ 0 ≤ most ∧ most < 2 ^ 60 ∧
  ∀ M, IsM (s * n) (fitB k most s L) M → Q (.int M) H
abbrev nm_fitting_mask : List Str := ["kind", "most", "size", "comb", "length", "room"]
theorem sc_fitting_mask : FnScope ["kind", "most", "size", "comb", "length", "room"] ["kind", "most", "size", "comb", "length"] (defScope s_fitting_mask) := ⟨rfl, rfl, rfl, by decide +kernel, rfl, by decide +kernel, by decide +kernel⟩
theorem ok_fitM (T : Txt K mg A w) : FnOk P w K mg base CX0 2 A.a_fitting_mask A.d_fitting_mask ["kind", "most", "size", "comb", "length"] spFitM := by
  have G_residues : FnOk P w K mg base CX0 1 A.a_residues A.d_residues ["comb", "first", "past"] spRes := ok_res T
  refine T.F_fitting_mask.ok sc_fitting_mask (fun vs H Q E h => ?_) (fun cdv A0 outer s H vs Q E hr h => ?_)
  · obtain ⟨k, m, C, L, s, n, rfl, _⟩ := h
    rfl
  · obtain ⟨k, most, C, L, z, n, rfl, hC, z0, wB, zn, m0, mB, q⟩ := h
    refine ⟨_, (pss_cons (ps_set (i := 5) sc_fitting_mask.nd rfl (Or.inl rfl) (pe_op op_sub (pe_op op_mulW (pv 1) (pv 2)) (pv 4)))
  (pss_cons (ps_if (pt_cmpR op_eq (pv 0) pe_str (nomark _)) (pss_one (ps_ret (pe_ifExp (pt_cmpR op_ge (pv 5) pe_int (nomark _)) (pe_call G_residues (hr.mono (by decide)) (by rfl) T.m_residues T.F_residues.kp T.B_residues .nil pass0 (pa_cons (pv 3) (pa_cons pe_int (pa_cons (pv 2) pa_nil)))) pe_int))) pss_nil)
  (pss_cons (ps_if (pt_cmpR op_eq (pv 0) pe_str (nomark _)) (pss_one (ps_ret (pe_call G_residues (hr.mono (by decide)) (by rfl) T.m_residues T.F_residues.kp T.B_residues .nil pass0 (pa_cons (pv 3) (pa_cons pe_int (pa_cons (pe_callB (call_min2 rfl) (by rfl) T.n_min (by decide +kernel) (pa_cons (pe_callTy call_int1 (by rfl) T.n_int (by decide +kernel) (pa_cons (pv 2) pa_nil)) (pa_cons (pe_op op_add (pv 5) pe_int) pa_nil))) pa_nil)))))) pss_nil)
  (pss_cons (ps_if (pt_cmpR op_gt (pv 5) pe_int (nomark _)) (pss_one (ps_ret (pe_call G_residues (hr.mono (by decide)) (by rfl) T.m_residues T.F_residues.kp T.B_residues .nil pass0 (pa_cons (pv 3) (pa_cons pe_int (pa_cons (pv 2) pa_nil)))))) pss_nil)
  (pss_one (ps_ret (pe_call G_residues (hr.mono (by decide)) (by rfl) T.m_residues T.F_residues.kp T.B_residues .nil pass0 (pa_cons (pv 3) (pa_cons pe_int (pa_cons (pe_op op_add (pv 2) (pv 5)) pa_nil)))))))))), ?_⟩
    have zB : (z : Int) < BIG := lt_big (n := 27) (by have : (2 : Int) ^ 27 = 134217728 := by decide
                                                      have e26 : (2 : Nat) ^ 26 = 67108864 := by decide
                                                      omega) (by decide)
    refine ⟨_, rfl, _, rfl, _, _, rfl, rfl, mul_sB m0 (by have : (2 : Int) ^ 60 + 1 ≤ 2 ^ 61 := by decide
                                                          omega) (by omega) zB, _, rfl, _, _, rfl, rfl, ?_⟩
    refine gN (σ' := [some (.str k.s), some (.int most), some (.int z), some (.int C), some (.int L), some (.int (most * z - L))]) rfl ?_
    refine ⟨_, rfl, rfl, _, rfl, ?_⟩
    show if (decide (V.str k.s = V.str Kd.len.s)) = true then _ else _
    rw [kd_is]
    have all : ∀ M, (∀ j, fitB k most z L j = true) → IsM (z * n) (fun q => decide ((0 : Int) ≤ ((q % z : Nat) : Int)) && decide (((q % z : Nat) : Int) < z)) M → IsM (z * n) (fitB k most z L) M := fun M a h => h.congr fun j _ => by
      rw [a j, decide_eq_true (by omega), decide_eq_true (by have := Nat.mod_lt j z0; omega)]
      rfl
    cases k with
    | len =>
      refine iteT ?_
      refine ⟨_, rfl, _, _, rfl, rfl, _, rfl, ?_⟩
      show if (decide (0 ≤ most * z - L)) = true then _ else _
      by_cases c : 0 ≤ most * z - L
      · rw [decide_eq_true c]
        refine iteT ⟨_, rfl, _, rfl, z, n, C, 0, z, rfl, hC, z0, wB, zn, by omega, by omega, fun M hM => q M (all M (fun j => decide_eq_true (fit_len.mpr c)) hM)⟩
      · rw [decide_eq_false c]
        exact iteF (q 0 ((IsM.zero _).congr fun j _ => (decide_eq_false fun h => c (fit_len.mp h)).symm))
    | cov =>
      refine iteF ?_
      refine ⟨_, rfl, rfl, _, rfl, ?_⟩
      show if (decide (V.str Kd.cov.s = V.str Kd.cov.s)) = true then _ else _
      rw [kd_is]
      refine iteT ?_
      refine ⟨_, rfl, _, rfl, .inl ⟨_, rfl, ?_⟩⟩
      refine ⟨_, rfl, _, _, rfl, rfl, _, _, rfl, ?_⟩
      have key : ∀ p : Int, p = (if most * z - L + 1 < (z : Int) then most * z - L + 1 else (z : Int)) → ∀ M, IsM (z * n) (fun q => decide ((0 : Int) ≤ ((q % z : Nat) : Int)) && decide (((q % z : Nat) : Int) < p)) M → IsM (z * n) (fitB .cov most z L) M := fun p hp M h => h.congr fun j _ => by
        have lt := Nat.mod_lt j z0
        rw [decide_eq_true (show (0 : Int) ≤ ((j % z : Nat) : Int) by omega), Bool.true_and]
        unfold fitB
        refine decide_eq_decide.mpr (Iff.trans ?_ (fit_cov z0).symm)
        rw [hp]
        split <;> omega
      refine ⟨z, n, C, 0, _, rfl, hC, z0, wB, zn, by omega, ?_, fun M hM => q M (key _ rfl M hM)⟩
      split <;> omega
    | ins =>
      refine iteF ?_
      refine ⟨_, rfl, rfl, _, rfl, ?_⟩
      show if (decide (V.str Kd.ins.s = V.str Kd.cov.s)) = true then _ else _
      rw [kd_is]
      refine iteF ?_
      refine ⟨_, rfl, _, _, rfl, rfl, _, rfl, ?_⟩
      show if (decide (0 < most * z - L)) = true then _ else _
      by_cases c : 0 < most * z - L
      · rw [decide_eq_true c]
        refine iteT ⟨_, rfl, _, rfl, z, n, C, 0, z, rfl, hC, z0, wB, zn, by omega, by omega, fun M hM => q M (all M (fun j => decide_eq_true ((fit_ins z0).mpr (.inl c))) hM)⟩
      · rw [decide_eq_false c]
        refine iteF ⟨_, rfl, _, rfl, _, rfl, _, _, rfl, rfl, z, n, C, 1, _, rfl, hC, z0, wB, zn, by omega, by omega, fun M hM => q M (hM.congr fun j _ => ?_)⟩
        have lt := Nat.mod_lt j z0
        unfold fitB
        rw [← Bool.decide_and]
        refine decide_eq_decide.mpr (Iff.trans ?_ (fit_ins z0).symm)
        omega
end
end Ax

namespace Ax
open PySem L2
section
variable {P : Program} {w : World} {K : PySem.W.Frag} {mg : Str → Option Value} {base : Heap} {A : Adr}
/-! ### counts_by_residue -/
/-- the pieces: low ends from a first one up to below a past one, their number of marks -/
def pcs (k : Kd) (s L : Int) : List (Int × Int × Int) := match k with
  | .cov => [(0, 1, if L % s = 0 then L / s + 1 else L / s + 2), (1, s - L % s + 1, L / s + 2), (s - L % s + 1, s, L / s + 3)]
  | _ => [(0, 1, L / s + 1), (1, s - L % s, L / s), (s - L % s, s, L / s + 1)]
abbrev PcsAt (H : Hp) : List (Int × Int × Int) → List Addr → Prop := Paired fun p a => H a = some (.tup [.int p.1, .int p.2.1, .int p.2.2])
def spCbr : Sp := fun vs H Q _ => ∃ (k : Kd) (s L : Int), vs = [.str k.s, .int s, .int L] ∧ 0 < s ∧ s < 2 ^ 27 ∧ ∀ (H' : Hp) (l : Addr) (as : List Addr), Same H H' → H l = none → H' l = some (.lst (as.map V.ref)) → PcsAt H' (pcs k s L) as → Q (.ref l) H'
abbrev nm_counts_by_residue : List Str := ["kind", "size", "length", "whole", "rest", "at_mark"]
theorem sc_counts_by_residue : FnScope ["kind", "size", "length", "whole", "rest", "at_mark"] ["kind", "size", "length"] (defScope s_counts_by_residue) := ⟨rfl, rfl, rfl, by decide +kernel, rfl, by decide +kernel, by decide +kernel⟩
theorem ok_cbr (T : Txt K mg A w) : FnOk P w K mg base CX0 1 A.a_counts_by_residue A.d_counts_by_residue ["kind", "size", "length"] spCbr := by
  refine T.F_counts_by_residue.ok sc_counts_by_residue (fun vs H Q E h => ?_) (fun cdv A0 outer s H vs Q E hr h => ?_)
  · obtain ⟨k, s, L, rfl, _⟩ := h
    rfl
  · obtain ⟨k, z, L, rfl, z0, zB, q⟩ := h
    refine ⟨_, (pss_cons (ps_asg (pe_callB call_divmodW (by rfl) T.n_divmod (by decide +kernel) (pa_cons (pv 2) (pa_cons (pv 1) pa_nil))) (pg_tup (by rfl) (pgs_cons (pg_name (i := 3) sc_counts_by_residue.nd rfl (Or.inl rfl)) (pgs_cons (pg_name (i := 4) sc_counts_by_residue.nd rfl (Or.inl rfl)) pgs_nil))))
  (pss_cons (ps_if (pt_cmpR op_eq (pv 0) pe_str (nomark _)) (pss_cons (ps_set (i := 5) sc_counts_by_residue.nd rfl (Or.inl rfl) (pe_ifExp (pt_cmpR op_eq (pv 4) pe_int (nomark _)) (pe_op op_add (pv 3) pe_int) (pe_op op_add (pv 3) pe_int)))
  (pss_one (ps_ret (pe_lst (pa_cons (pe_tup (pa_cons pe_int (pa_cons pe_int (pa_cons (pv 5) pa_nil)))) (pa_cons (pe_tup (pa_cons pe_int (pa_cons (pe_op op_add (pe_op op_sub (pv 1) (pv 4)) pe_int) (pa_cons (pe_op op_add (pv 3) pe_int) pa_nil)))) (pa_cons (pe_tup (pa_cons (pe_op op_add (pe_op op_sub (pv 1) (pv 4)) pe_int) (pa_cons (pv 1) (pa_cons (pe_op op_add (pv 3) pe_int) pa_nil)))) pa_nil))))))) pss_nil)
  (pss_one (ps_ret (pe_lst (pa_cons (pe_tup (pa_cons pe_int (pa_cons pe_int (pa_cons (pe_op op_add (pv 3) pe_int) pa_nil)))) (pa_cons (pe_tup (pa_cons pe_int (pa_cons (pe_op op_sub (pv 1) (pv 4)) (pa_cons (pv 3) pa_nil)))) (pa_cons (pe_tup (pa_cons (pe_op op_sub (pv 1) (pv 4)) (pa_cons (pv 1) (pa_cons (pe_op op_add (pv 3) pe_int) pa_nil)))) pa_nil)))))))), ?_⟩
    refine ⟨_, rfl, _, rfl, _, _, rfl, ⟨by omega, PyProof.noPylong_of_log2 ?_⟩, fun p hp => ?_⟩
    · exact Nat.lt_of_lt_of_le (log_small (n := 27) (abs_lt_pow (by omega) zB) (by decide) (by decide)) (by decide)
    refine ⟨p, _, rfl, SqT.of upd_same, rfl, _, _, rfl, _, _, rfl, rfl, ?_⟩
    have s1 := same_new (o := .tup [.int (L / z), .int (L % z)]) hp
    generalize upd H p (.tup [.int (L / z), .int (L % z)]) = H1 at *
    refine norm2 (σ' := [some (.str k.s), some (.int z), some (.int L), some (.int (L / z)), some (.int (L % z)), none]) rfl ?_
    have fin : ∀ (x y u : Int × Int × Int), pcs k z L = [x, y, u] → ∀ a, H1 a = none → ∀ b, upd H1 a (.tup [.int x.1, .int x.2.1, .int x.2.2]) b = none → ∀ c, upd (upd H1 a (.tup [.int x.1, .int x.2.1, .int x.2.2])) b (.tup [.int y.1, .int y.2.1, .int y.2.2]) c = none → ∀ l, upd (upd (upd H1 a (.tup [.int x.1, .int x.2.1, .int x.2.2])) b (.tup [.int y.1, .int y.2.1, .int y.2.2])) c (.tup [.int u.1, .int u.2.1, .int u.2.2]) l = none →
        Q (.ref l) (upd (upd (upd (upd H1 a (.tup [.int x.1, .int x.2.1, .int x.2.2])) b (.tup [.int y.1, .int y.2.1, .int y.2.2])) c (.tup [.int u.1, .int u.2.1, .int u.2.2])) l (.lst [.ref a, .ref b, .ref c])) := fun x y u e a ha b hb c hc l hl => by
      have t1 := same_new (o := .tup [.int x.1, .int x.2.1, .int x.2.2]) ha
      have t2 := same_new (o := .tup [.int y.1, .int y.2.1, .int y.2.2]) hb
      have t3 := same_new (o := .tup [.int u.1, .int u.2.1, .int u.2.2]) hc
      have t4 := same_new (o := .lst [.ref a, .ref b, .ref c]) hl
      refine q _ l [a, b, c] (s1.trans (t1.trans (t2.trans (t3.trans t4)))) (s1.free (t1.free (t2.free (t3.free hl)))) upd_same ?_
      rw [e]
      exact .cons (t4 _ _ (t3 _ _ (t2 _ _ upd_same))) (.cons (t4 _ _ (t3 _ _ upd_same)) (.cons (t4 _ _ upd_same) .nil))
    refine ⟨_, rfl, rfl, _, rfl, ?_⟩
    show if (decide (V.str k.s = V.str Kd.cov.s)) = true then _ else _
    rw [kd_is]
    have sz3 : 3 ≤ sizeLine := by decide
    by_cases kc : k = .cov
    · subst kc
      rw [decide_eq_true rfl]
      refine iteT ?_
      refine ⟨_, rfl, rfl, _, rfl, ?_⟩
      show if (decide (V.int (L % z) = V.int 0)) = true then _ else _
      have e0 : decide (V.int (L % z) = V.int 0) = decide (L % z = 0) := decide_eq_decide.mpr ⟨fun e => V.int.inj e, fun e => by rw [e]⟩
      rw [e0]
      have go : ∀ at_ : Int, at_ = (if L % z = 0 then L / z + 1 else L / z + 2) → _ := fun at_ e => fin (0, 1, at_) (1, z - L % z + 1, L / z + 2) (z - L % z + 1, z, L / z + 3) (by rw [e]; rfl)
      by_cases c : L % z = 0
      · rw [decide_eq_true c]
        refine iteT ⟨_, rfl, _, _, rfl, rfl, ?_⟩
        refine ⟨_, rfl, sz3, fun a ha => ⟨_, rfl, _, rfl, _, _, rfl, rfl, _, _, rfl, rfl, _, rfl, _, _, rfl, rfl, sz3, fun b hb => ⟨_, rfl, _, rfl, _, _, rfl, rfl, _, _, rfl, rfl, _, rfl, _, rfl, _, _, rfl, rfl, sz3, fun d hd => ⟨sz3, fun l hl => ?_⟩⟩⟩⟩
        exact go _ (by rw [if_pos c]) a ha b hb d hd l hl
      · rw [decide_eq_false c]
        refine iteF ⟨_, rfl, _, _, rfl, rfl, ?_⟩
        refine ⟨_, rfl, sz3, fun a ha => ⟨_, rfl, _, rfl, _, _, rfl, rfl, _, _, rfl, rfl, _, rfl, _, _, rfl, rfl, sz3, fun b hb => ⟨_, rfl, _, rfl, _, _, rfl, rfl, _, _, rfl, rfl, _, rfl, _, rfl, _, _, rfl, rfl, sz3, fun d hd => ⟨sz3, fun l hl => ?_⟩⟩⟩⟩
        exact go _ (by rw [if_neg c]) a ha b hb d hd l hl
    · rw [decide_eq_false kc]
      refine iteF ?_
      have e : pcs k z L = [(0, 1, L / z + 1), (1, z - L % z, L / z), (z - L % z, z, L / z + 1)] := by
        cases k with
        | cov => exact absurd rfl kc
        | ins => rfl
        | len => rfl
      refine ⟨_, rfl, _, _, rfl, rfl, sz3, fun a ha => ⟨_, rfl, _, rfl, _, _, rfl, rfl, _, rfl, sz3, fun b hb => ⟨_, rfl, _, rfl, _, _, rfl, rfl, _, rfl, _, rfl, _, _, rfl, rfl, sz3, fun d hd => ⟨sz3, fun l hl => ?_⟩⟩⟩⟩
      exact fin _ _ _ e a ha b hb d hd l hl
/-! ### counted_mask -/
def inB (lo : Int) (hi : Option Int) (c : Int) : Bool := decide (lo ≤ c) && (match hi with
  | none => true
  | some h => decide (c ≤ h))
def cntB (k : Kd) (s : Nat) (L lo : Int) (hi : Option Int) (q : Nat) : Bool := inB lo hi (lstZ k ((q : Int) + L) s - fstZ k q s + 1)
theorem pcs_nn {k : Kd} {z L : Int} (z0 : 0 < z) {p : Int × Int × Int} (h : p ∈ pcs k z L) : 0 ≤ p.1 := by
  have d2 := Int.emod_lt_of_pos L z0
  have h2 : (k = .cov ∧ p ∈ [(0, 1, if L % z = 0 then L / z + 1 else L / z + 2), (1, z - L % z + 1, L / z + 2), (z - L % z + 1, z, L / z + 3)]) ∨ p ∈ [((0 : Int), (1 : Int), L / z + 1), (1, z - L % z, L / z), (z - L % z, z, L / z + 1)] := by
    cases k with
    | cov => exact .inl ⟨rfl, h⟩
    | ins => exact .inr h
    | len => exact .inr h
  rcases h2 with ⟨_, h⟩ | h <;> (simp only [List.mem_cons, List.not_mem_nil, or_false] at h; rcases h with rfl | rfl | rfl) <;> show (0 : Int) ≤ _ <;> omega
theorem pcs_any {k : Kd} {z : Nat} {L lo : Int} {hi : Option Int} (z0 : 0 < z) (L0 : 0 ≤ L) (j : Nat) :
    ((pcs k z L).any fun p => inB lo hi p.2.2 && (decide (p.1 ≤ ((j % z : Nat) : Int)) && decide (((j % z : Nat) : Int) < min (z : Int) p.2.1))) = cntB k z L lo hi j := by
  have zi : (0 : Int) < z := by omega
  have d1 := Int.emod_nonneg L (show (z : Int) ≠ 0 by omega)
  have d2 := Int.emod_lt_of_pos L zi
  have lt := Nat.mod_lt j z0
  have three : ∀ {x y u : Int × Int × Int} {c : Int}, (x.1 ≤ ((j % z : Nat) : Int) ∧ ((j % z : Nat) : Int) < min (z : Int) x.2.1 → x.2.2 = c) → (y.1 ≤ ((j % z : Nat) : Int) ∧ ((j % z : Nat) : Int) < min (z : Int) y.2.1 → y.2.2 = c) → (u.1 ≤ ((j % z : Nat) : Int) ∧ ((j % z : Nat) : Int) < min (z : Int) u.2.1 → u.2.2 = c) →
      ((x.1 ≤ ((j % z : Nat) : Int) ∧ ((j % z : Nat) : Int) < min (z : Int) x.2.1) ∨ (y.1 ≤ ((j % z : Nat) : Int) ∧ ((j % z : Nat) : Int) < min (z : Int) y.2.1) ∨ (u.1 ≤ ((j % z : Nat) : Int) ∧ ((j % z : Nat) : Int) < min (z : Int) u.2.1)) →
      ([x, y, u].any fun p => inB lo hi p.2.2 && (decide (p.1 ≤ ((j % z : Nat) : Int)) && decide (((j % z : Nat) : Int) < min (z : Int) p.2.1))) = inB lo hi c := fun {x y u c} hx hy hu hh => by
    have one : ∀ p : Int × Int × Int, (p.1 ≤ ((j % z : Nat) : Int) ∧ ((j % z : Nat) : Int) < min (z : Int) p.2.1 → p.2.2 = c) → (inB lo hi p.2.2 && (decide (p.1 ≤ ((j % z : Nat) : Int)) && decide (((j % z : Nat) : Int) < min (z : Int) p.2.1))) = (inB lo hi c && decide (p.1 ≤ ((j % z : Nat) : Int) ∧ ((j % z : Nat) : Int) < min (z : Int) p.2.1)) := fun p hp => by
      rw [← Bool.decide_and]
      by_cases e : p.1 ≤ ((j % z : Nat) : Int) ∧ ((j % z : Nat) : Int) < min (z : Int) p.2.1
      · rw [hp e]
      · rw [decide_eq_false e, Bool.and_false, Bool.and_false]
    rw [List.any_cons, List.any_cons, List.any_cons, List.any_nil, one x hx, one y hy, one u hu]
    cases inB lo hi c with
    | false => simp
    | true =>
      simp only [Bool.true_and, Bool.or_false]
      rcases hh with e | e | e
      · rw [decide_eq_true e, Bool.true_or]
      · rw [decide_eq_true e, Bool.true_or, Bool.or_true]
      · rw [decide_eq_true e, Bool.or_true, Bool.or_true]
  unfold cntB
  by_cases kc : k = .cov
  · subst kc
    rw [cnt_cov z0 L0]
    refine three (x := (0, 1, if L % z = 0 then L / z + 1 else L / z + 2)) (y := (1, z - L % z + 1, L / z + 2)) (u := (z - L % z + 1, z, L / z + 3)) ?_ ?_ ?_ ?_
    · rintro ⟨h1, h2⟩
      have h2 : ((j % z : Nat) : Int) < min (z : Int) 1 := h2
      rw [if_pos (show j % z = 0 by omega)]
    · rintro ⟨h1, h2⟩
      have h1 : (1 : Int) ≤ ((j % z : Nat) : Int) := h1
      have h2 : ((j % z : Nat) : Int) < min (z : Int) (z - L % z + 1) := h2
      rw [if_neg (show ¬ j % z = 0 by omega), if_pos (by omega)]
    · rintro ⟨h1, h2⟩
      have h1 : (z : Int) - L % z + 1 ≤ ((j % z : Nat) : Int) := h1
      rw [if_neg (show ¬ j % z = 0 by omega), if_neg (by omega)]
    · show ((0 : Int) ≤ _ ∧ _ < min (z : Int) 1) ∨ ((1 : Int) ≤ _ ∧ _ < min (z : Int) (z - L % z + 1)) ∨ ((z : Int) - L % z + 1 ≤ _ ∧ _ < min (z : Int) z)
      omega
  · have e : pcs k z L = [(0, 1, L / z + 1), (1, z - L % z, L / z), (z - L % z, z, L / z + 1)] := by
      cases k with
      | cov => exact absurd rfl kc
      | ins => rfl
      | len => rfl
    rw [e, cnt_ins kc z0 L0]
    refine three (x := (0, 1, L / z + 1)) (y := (1, z - L % z, L / z)) (u := (z - L % z, z, L / z + 1)) ?_ ?_ ?_ ?_
    · rintro ⟨h1, h2⟩
      have h2 : ((j % z : Nat) : Int) < min (z : Int) 1 := h2
      rw [if_pos (show j % z = 0 by omega)]
    · rintro ⟨h1, h2⟩
      have h1 : (1 : Int) ≤ ((j % z : Nat) : Int) := h1
      have h2 : ((j % z : Nat) : Int) < min (z : Int) (z - L % z) := h2
      rw [if_neg (show ¬ j % z = 0 by omega), if_pos (by omega)]
    · rintro ⟨h1, h2⟩
      have h1 : (z : Int) - L % z ≤ ((j % z : Nat) : Int) := h1
      rw [if_neg (show ¬ j % z = 0 by omega), if_neg (by omega)]
    · show ((0 : Int) ≤ _ ∧ _ < min (z : Int) 1) ∨ ((1 : Int) ≤ _ ∧ _ < min (z : Int) (z - L % z)) ∨ ((z : Int) - L % z ≤ _ ∧ _ < min (z : Int) z)
      omega
theorem IsM.or {W : Nat} {φ ψ : Nat → Bool} {M N : Int} (h1 : IsM W φ M) (h2 : IsM W ψ N) : IsM W (fun q => φ q || ψ q) (Builtin.bitOr M N) := by
  obtain ⟨m, rfl, a⟩ := h1
  obtain ⟨n, rfl, b⟩ := h2
  refine ⟨m ||| n, by rw [bitOr_nn (Int.natCast_nonneg _) (Int.natCast_nonneg _), Int.toNat_natCast, Int.toNat_natCast], fun q => ?_⟩
  rw [Nat.testBit_or, a, b]
  cases decide (q < W) <;> simp
def spCntM : Sp := fun vs H Q _ => ∃ (k : Kd) (C L lo : Int) (hi : Option Int) (s n : Nat), vs = [.str k.s, .int s, .int C, .int L, .int lo, optV hi] ∧ IsM (s * n) (isC s) C ∧ 0 < s ∧ s * n ≤ 2 ^ 26 ∧ s ≤ s * n ∧ 0 ≤ L ∧
  ∀ (H' : Hp) (M : Int), Same H H' → IsM (s * n) (cntB k s L lo hi) M → Q (.int M) H'
abbrev nm_counted_mask : List Str := ["kind", "size", "comb", "length", "least", "most", "mask", "first", "past", "count"]
theorem sc_counted_mask : FnScope ["kind", "size", "comb", "length", "least", "most", "mask", "first", "past", "count"] ["kind", "size", "comb", "length", "least", "most"] (defScope s_counted_mask) := ⟨rfl, rfl, rfl, by decide +kernel, rfl, by decide +kernel, by decide +kernel⟩
theorem ok_cntM (T : Txt K mg A w) : FnOk P w K mg base CX0 2 A.a_counted_mask A.d_counted_mask ["kind", "size", "comb", "length", "least", "most"] spCntM := by
  have G_residues : FnOk P w K mg base CX0 1 A.a_residues A.d_residues ["comb", "first", "past"] spRes := ok_res T
  have G_counts_by_residue : FnOk P w K mg base CX0 1 A.a_counts_by_residue A.d_counts_by_residue ["kind", "size", "length"] spCbr := ok_cbr T
  refine T.F_counted_mask.ok sc_counted_mask (fun vs H Q E h => ?_) (fun cdv A0 outer s H vs Q E hr h => ?_)
  · obtain ⟨k, C, L, lo, hi, s, n, rfl, _⟩ := h
    rfl
  · obtain ⟨k, C, L, lo, hi, z, n, rfl, hC, z0, wB, zn, L0, q⟩ := h
    refine ⟨_, (pss_cons (ps_set (i := 6) sc_counted_mask.nd rfl (Or.inl rfl) pe_int)
  (pss_cons (ps_for PassesOwn.never rfl (pi_list (pe_call G_counts_by_residue (hr.mono (by decide)) (by rfl) T.m_counts_by_residue T.F_counts_by_residue.kp T.B_counts_by_residue .nil pass0 (pa_cons (pv 0) (pa_cons (pv 1) (pa_cons (pv 3) pa_nil))))) (pg_tup (by rfl) (pgs_cons (pg_name (i := 7) sc_counted_mask.nd rfl (Or.inl rfl)) (pgs_cons (pg_name (i := 8) sc_counted_mask.nd rfl (Or.inl rfl)) (pgs_cons (pg_name (i := 9) sc_counted_mask.nd rfl (Or.inl rfl)) pgs_nil))))
  (pss_one (ps_if (PW.pt (pw_and (pt_cmpR op_ge (pv 9) (pv 4) (nomark _)) (pw_and1 (PW.pt (pw_or (pt_cmpR op_isN (pv 5) pe_non (nomark _)) (pw_or1 (pt_cmpR op_le (pv 9) (pv 5) (nomark _)))))))) (pss_one (ps_set (i := 6) sc_counted_mask.nd rfl (Or.inl rfl) (pe_op op_or (pv 6) (pe_call G_residues (hr.mono (by decide)) (by rfl) T.m_residues T.F_residues.kp T.B_residues .nil pass0 (pa_cons (pv 2) (pa_cons (pv 7) (pa_cons (pe_callB (call_min2 rfl) (by rfl) T.n_min (by decide +kernel) (pa_cons (pe_callTy call_int1 (by rfl) T.n_int (by decide +kernel) (pa_cons (pv 1) pa_nil)) (pa_cons (pv 8) pa_nil))) pa_nil))))))) pss_nil)))
  (pss_one (ps_ret (pv 6))))), ?_⟩
    have e26 : (2 : Nat) ^ 26 = 67108864 := by decide
    refine ⟨_, rfl, _, rfl, _, rfl, k, z, L, rfl, by omega, by have : (2 : Int) ^ 27 = 134217728 := by decide
                                                               omega, fun H1 l as s1 hl h1 pc => ?_⟩
    have lp : (pcs k z L).length = 3 := by cases k <;> rfl
    have la : as.length = 3 := by rw [← Paired.length pc]; exact lp
    refine ⟨l, rfl, ⟨_, SqL.of h1⟩, for_list (K := K) (a := l) (xs := as.map V.ref) (fun i σ H' => ∃ (M : Int) (v7 v8 v9 : Option V), σ = [some (.str k.s), some (.int z), some (.int C), some (.int L), some (.int lo), some (optV hi), some (.int M), v7, v8, v9] ∧ H' = H1 ∧
      IsM (z * n) (fun q => ((pcs k z L).take i).any fun p => inB lo hi p.2.2 && (decide (p.1 ≤ ((q % z : Nat) : Int)) && decide (((q % z : Nat) : Int) < min (z : Int) p.2.1))) M)
      ⟨0, none, none, none, rfl, rfl, IsM.zero _⟩ (fun i σ H' _ ⟨_, _, _, _, _, e, _⟩ => SqL.of (by rw [e]; exact h1)) ?_ ?_⟩
    · rintro i y σ H' hy ⟨M, v7, v8, v9, rfl, rfl, hM⟩
      obtain ⟨a, ha, rfl⟩ := ref_get hy
      obtain ⟨p, hp, hat⟩ := paired_at pc ha
      refine ⟨a, _, rfl, SqT.of hat, rfl, _, _, rfl, _, _, rfl, _, _, rfl, rfl, ?_⟩
      refine norm2 (σ' := [some (.str k.s), some (.int z), some (.int C), some (.int L), some (.int lo), some (optV hi), some (.int M), some (.int p.1), some (.int p.2.1), some (.int p.2.2)]) rfl ?_
      have p0 : 0 ≤ p.1 := pcs_nn (by omega) (List.mem_of_getElem? hp)
      have tk : (pcs k z L).take (i + 1) = (pcs k z L).take i ++ [p] := by
        rw [List.take_add_one, hp]
        rfl
      have done : inB lo hi p.2.2 = false → IsM (z * n) (fun q => ((pcs k z L).take (i + 1)).any fun p => inB lo hi p.2.2 && (decide (p.1 ≤ ((q % z : Nat) : Int)) && decide (((q % z : Nat) : Int) < min (z : Int) p.2.1))) M := fun e => hM.congr fun j _ => by
        rw [tk, List.any_append, List.any_cons, e, Bool.false_and, Bool.false_or, List.any_nil, Bool.or_false]
      have more : inB lo hi p.2.2 = true → ∀ N, IsM (z * n) (fun q => decide (p.1 ≤ ((q % z : Nat) : Int)) && decide (((q % z : Nat) : Int) < (if p.2.1 < (z : Int) then p.2.1 else (z : Int)))) N →
          IsM (z * n) (fun q => ((pcs k z L).take (i + 1)).any fun p => inB lo hi p.2.2 && (decide (p.1 ≤ ((q % z : Nat) : Int)) && decide (((q % z : Nat) : Int) < min (z : Int) p.2.1))) (Builtin.bitOr M N) := fun e N hN => by
        refine (hM.or hN).congr fun j _ => ?_
        rw [tk, List.any_append, List.any_cons, e, Bool.true_and, List.any_nil, Bool.or_false]
        congr 2
        refine decide_eq_decide.mpr ?_
        split <;> omega
      refine ⟨_, rfl, _, rfl, _, _, rfl, rfl, _, rfl, ?_⟩
      show if (decide (lo ≤ p.2.2)) = true then _ else _
      by_cases e1 : lo ≤ p.2.2
      · rw [decide_eq_true e1]
        refine iteT ?_
        refine ⟨_, rfl, rfl, _, rfl, ?_⟩
        cases hi with
        | none =>
          refine iteT (iteT ?_)
          have e : inB lo none p.2.2 = true := by
            unfold inB
            rw [decide_eq_true e1]
            rfl
          refine ⟨_, rfl, _, rfl, _, rfl, _, rfl, .inl ⟨_, rfl, ?_⟩⟩
          refine ⟨_, rfl, _, _, rfl, z, n, C, p.1, _, rfl, hC, z0, wB, zn, p0, ?_, fun N hN => ?_⟩
          · split <;> omega
          refine ⟨_, _, rfl, rfl, ?_⟩
          exact ⟨_, _, _, _, rfl, rfl, more e N hN⟩
        | some h =>
          refine iteF ?_
          refine ⟨_, rfl, _, rfl, _, _, rfl, rfl, _, rfl, ?_⟩
          show if (decide (p.2.2 ≤ h)) = true then _ else _
          by_cases e2 : p.2.2 ≤ h
          · rw [decide_eq_true e2]
            refine iteT ?_
            have e : inB lo (some h) p.2.2 = true := by
              unfold inB
              rw [decide_eq_true e1]
              exact decide_eq_true e2
            refine ⟨_, rfl, _, rfl, _, rfl, _, rfl, .inl ⟨_, rfl, ?_⟩⟩
            refine ⟨_, rfl, _, _, rfl, z, n, C, p.1, _, rfl, hC, z0, wB, zn, p0, ?_, fun N hN => ?_⟩
            · split <;> omega
            refine ⟨_, _, rfl, rfl, ?_⟩
            exact ⟨_, _, _, _, rfl, rfl, more e N hN⟩
          · rw [decide_eq_false e2]
            refine iteF ⟨_, _, _, _, rfl, rfl, done ?_⟩
            unfold inB
            rw [decide_eq_true e1]
            exact decide_eq_false e2
      · rw [decide_eq_false e1]
        refine iteF (iteF ⟨_, _, _, _, rfl, rfl, done ?_⟩)
        unfold inB
        rw [decide_eq_false e1]
        rfl
    · rintro σ H' ⟨M, v7, v8, v9, rfl, rfl, hM⟩
      rw [List.length_map, la] at hM
      refine ⟨_, rfl, q _ M s1 (hM.congr fun j _ => ?_)⟩
      rw [List.take_of_length_le (by omega)]
      exact pcs_any z0 L0 j
end
end Ax

namespace Ax
open PySem L2
theorem shl_is {s n t : Nat} (hs : 0 < s) (ht : t < s) {C : Int} (hC : IsM (s * n) (isC s) C) : IsM (s * n) (fun q => decide (q % s = t)) (C * 2 ^ t) := by
  rw [hC.uniq (comb_is hs)]
  refine ⟨combN s n <<< t, by rw [Nat.shiftLeft_eq, Int.natCast_mul, Int.natCast_pow]; rfl, fun q => ?_⟩
  show _ = (decide (q < s * n) && decide (q % s = t))
  rw [Nat.testBit_shiftLeft, combN_bit hs]
  have h1 := Nat.div_add_mod q s
  have lt := Nat.mod_lt q hs
  by_cases c : q % s = t
  · have e : q - t = s * (q / s) := by omega
    have le : q ≥ t := by omega
    rw [decide_eq_true c, decide_eq_true le, e, Nat.mul_mod_right, decide_eq_true (rfl : 0 = 0), Bool.true_and, Bool.and_true, Bool.and_true]
    refine decide_eq_decide.mpr ?_
    constructor
    · intro h
      have a : q / s < n := Nat.lt_of_mul_lt_mul_left h
      have b : s * (q / s + 1) ≤ s * n := Nat.mul_le_mul_left s a
      rw [Nat.mul_succ] at b
      omega
    · intro h
      omega
  · rw [decide_eq_false c, Bool.and_false]
    by_cases le : q ≥ t
    · rw [decide_eq_false (show ¬ (q - t) % s = 0 from fun z => c ?_), Bool.and_false, Bool.and_false]
      have h2 := Nat.div_add_mod (q - t) s
      rw [z] at h2
      have e : q = t + s * ((q - t) / s) := by omega
      rw [e, Nat.add_mul_mod_self_left]
      exact Nat.mod_eq_of_lt ht
    · rw [decide_eq_false le, Bool.false_and]
section
variable {P : Program} {w : World} {K : PySem.W.Frag} {mg : Str → Option Value} {base : Heap} {A : Adr}
/-! ### touching_mask -/
def tchB (s : Nat) (L : Int) (low : Bool) (q : Nat) : Bool := if low then decide (q % s = 0) else decide (((q : Int) + L) % s = 0)
def spTchM : Sp := fun vs H Q _ => ∃ (C L : Int) (low : Bool) (s n : Nat), vs = [.int s, .int C, .int L, .str (if low then "low" else "high")] ∧ IsM (s * n) (isC s) C ∧ 0 < s ∧ s * n ≤ 2 ^ 26 ∧ s ≤ s * n ∧
  ∀ M, IsM (s * n) (tchB s L low) M → Q (.int M) H
abbrev nm_touching_mask : List Str := ["size", "comb", "length", "end"]
theorem sc_touching_mask : FnScope ["size", "comb", "length", "end"] ["size", "comb", "length", "end"] (defScope s_touching_mask) := ⟨rfl, rfl, rfl, by decide +kernel, rfl, by decide +kernel, by decide +kernel⟩
theorem ok_tchM (T : Txt K mg A w) : FnOk P w K mg base CX0 1 A.a_touching_mask A.d_touching_mask ["size", "comb", "length", "end"] spTchM := by
  refine T.F_touching_mask.ok sc_touching_mask (fun vs H Q E h => ?_) (fun cdv A0 outer s H vs Q E hr h => ?_)
  · obtain ⟨C, L, low, s, n, rfl, _⟩ := h
    rfl
  · obtain ⟨C, L, low, z, n, rfl, hC, z0, wB, zn, q⟩ := h
    refine ⟨_, (pss_cons (ps_if (pt_cmpR op_eq (pv 3) pe_str (nomark _)) (pss_one (ps_ret (pv 1))) pss_nil)
  (pss_one (ps_ret (pe_op op_shlW (pv 1) (pe_op op_mod (pe_un un_neg (pv 2)) (pv 0)))))), ?_⟩
    have e26 : (2 : Nat) ^ 26 = 67108864 := by decide
    refine ⟨_, rfl, rfl, _, rfl, ?_⟩
    cases low with
    | true =>
      show if (decide (V.str "low" = V.str "low")) = true then _ else _
      rw [decide_eq_true rfl]
      exact iteT ⟨_, rfl, q C hC⟩
    | false =>
      show if (decide (V.str "high" = V.str "low")) = true then _ else _
      rw [decide_eq_false (by decide +kernel)]
      refine iteF ?_
      have zi : (0 : Int) < z := by omega
      have t0 := Int.emod_nonneg (-L) (show (z : Int) ≠ 0 by omega)
      have t1 := Int.emod_lt_of_pos (-L) zi
      obtain ⟨t, ht⟩ := Int.eq_ofNat_of_zero_le t0
      refine ⟨_, rfl, _, rfl, _, rfl, _, rfl, _, _, rfl, rfl, zi, ?_⟩
      refine ⟨C, (t : Int), rfl, congrArg V.int ht, hC.shl (by omega), q _ ?_⟩
      show IsM _ _ (C * 2 ^ (t : Int).toNat)
      rw [Int.toNat_natCast]
      refine (shl_is z0 (by omega) hC).congr fun j _ => ?_
      unfold tchB
      rw [if_neg (by decide)]
      refine decide_eq_decide.mpr (Iff.trans ?_ (touch_high z0).symm)
      rw [ht]
      show _ ↔ ((j % z : Nat) : Int) = (t : Int)
      omega
end
end Ax

namespace Ax
/-! # Ladders and who takes which step -/
/-- a step on a ladder: mantissa, power, size, comb, mask of those who take it -/
structure LE where
  m : Int
  p : Int
  s : Int
  c : Int := 0
  t : Int := 0
/-- the mask of a set below W -/
def mkN (φ : Nat → Bool) : Nat → Nat
  | 0 => 0
  | n + 1 => 2 ^ n * (if φ n = true then 1 else 0) + mkN φ n
theorem mkN_lt (φ : Nat → Bool) : ∀ n, mkN φ n < 2 ^ n
  | 0 => by
    show 0 < 2 ^ 0
    decide
  | n + 1 => by
    have ih := mkN_lt φ n
    show 2 ^ n * (if φ n = true then 1 else 0) + mkN φ n < 2 ^ (n + 1)
    rw [Nat.pow_succ]
    split <;> omega
theorem mkN_bit (φ : Nat → Bool) : ∀ n j, (mkN φ n).testBit j = (decide (j < n) && φ j)
  | 0, j => by
    show (0 : Nat).testBit j = _
    rw [Nat.zero_testBit, decide_eq_false (Nat.not_lt_zero j)]
    rfl
  | n + 1, j => by
    show (2 ^ n * (if φ n = true then 1 else 0) + mkN φ n).testBit j = _
    rw [Nat.testBit_two_pow_mul_add _ (mkN_lt φ n), mkN_bit φ n j]
    by_cases c : j < n
    · rw [if_pos c, decide_eq_true c, decide_eq_true (show j < n + 1 by omega)]
    · rw [if_neg c]
      by_cases d : j = n
      · subst d
        rw [Nat.sub_self, decide_eq_true (Nat.lt_succ_self j), Bool.true_and]
        cases φ j with
        | true => rfl
        | false => rfl
      · rw [decide_eq_false (show ¬ j < n + 1 by omega), Bool.false_and]
        split
        · rw [one_bit]
          exact decide_eq_false (by omega)
        · exact Nat.zero_testBit _
theorem mkN_is (φ : Nat → Bool) (W : Nat) : IsM W φ (mkN φ W) := ⟨_, rfl, mkN_bit φ W⟩
theorem IsM.mk {W : Nat} {φ : Nat → Bool} {M : Int} (h : IsM W φ M) : M = mkN φ W := h.uniq (mkN_is φ W)
/-- whether the step fits the range of a length from q on -/
def fitQ (k : Kd) (n L s : Int) (q : Nat) : Bool := decide ((q : Int) + L ≤ reachZ k n q s)
/-- the ladder behind it: those who take each step, steps that nobody takes left out -/
def shL (W : Nat) (k : Kd) (n L : Int) : (Nat → Bool) → List LE → List LE
  | _, [] => []
  | φ, e :: r => (if mkN (fun q => φ q && fitQ k n L e.s q) W = 0 then [] else [{ e with t := mkN (fun q => φ q && fitQ k n L e.s q) W }]) ++ shL W k n L (fun q => φ q && !fitQ k n L e.s q) r
/-- the low ends that no step of these fits -/
def leftB (k : Kd) (n L : Int) (es : List LE) (q : Nat) : Bool := es.all fun e => !fitQ k n L e.s q
theorem shL_snoc (W : Nat) (k : Kd) (n L : Int) (x : LE) : ∀ (es : List LE) (φ : Nat → Bool), shL W k n L φ (es ++ [x]) = shL W k n L φ es ++ (if mkN (fun q => (φ q && leftB k n L es q) && fitQ k n L x.s q) W = 0 then [] else [{ x with t := mkN (fun q => (φ q && leftB k n L es q) && fitQ k n L x.s q) W }])
  | [], φ => by
    show (if mkN (fun q => φ q && fitQ k n L x.s q) W = 0 then [] else _) ++ [] = [] ++ _
    have e : (fun q => (φ q && leftB k n L [] q) && fitQ k n L x.s q) = fun q => φ q && fitQ k n L x.s q := by
      funext q
      show ((φ q && true) && _) = _
      rw [Bool.and_true]
    rw [e, List.append_nil, List.nil_append]
  | e :: r, φ => by
    rw [List.cons_append]
    show _ ++ shL W k n L _ (r ++ [x]) = (_ ++ shL W k n L _ r) ++ _
    rw [shL_snoc W k n L x r, List.append_assoc]
    have e2 : (fun q => ((φ q && !fitQ k n L e.s q) && leftB k n L r q) && fitQ k n L x.s q) = fun q => (φ q && leftB k n L (e :: r) q) && fitQ k n L x.s q := by
      funext q
      show (((φ q && !fitQ k n L e.s q) && leftB k n L r q) && _) = ((φ q && (!fitQ k n L e.s q && leftB k n L r q)) && _)
      rw [Bool.and_assoc (φ q)]
    rw [e2]
/-- some of those who take a step are wanted just if the first step that fits is -/
theorem shL_any {W : Nat} {k : Kd} {n L : Int} {q : Nat} (hq : q < W) (want : LE → Bool) (hw : ∀ e : LE, ∀ t, want { e with t := t } = want e) : ∀ (es : List LE) (φ : Nat → Bool),
    ((shL W k n L φ es).any fun e => e.t.toNat.testBit q && want e) = (φ q && (match es.find? fun e => fitQ k n L e.s q with
      | some e => want e
      | none => false))
  | [], φ => by
    show false = (φ q && false)
    rw [Bool.and_false]
  | e :: r, φ => by
    show (((if mkN (fun q => φ q && fitQ k n L e.s q) W = 0 then [] else [{ e with t := mkN (fun q => φ q && fitQ k n L e.s q) W }]) ++ shL W k n L (fun q => φ q && !fitQ k n L e.s q) r).any _) = _
    rw [List.any_append, shL_any hq want hw r]
    have hb := mkN_bit (fun q => φ q && fitQ k n L e.s q) W q
    rw [decide_eq_true hq, Bool.true_and] at hb
    have h1 : ((if mkN (fun q => φ q && fitQ k n L e.s q) W = 0 then [] else [{ e with t := ((mkN (fun q => φ q && fitQ k n L e.s q) W : Nat) : Int) }] : List LE).any fun e => e.t.toNat.testBit q && want e) = ((φ q && fitQ k n L e.s q) && want e) := by
      by_cases z : mkN (fun q => φ q && fitQ k n L e.s q) W = 0
      · rw [if_pos z, List.any_nil]
        rw [z, Nat.zero_testBit] at hb
        rw [← hb, Bool.false_and]
      · rw [if_neg z, List.any_cons, List.any_nil, Bool.or_false, hw]
        show ((mkN (fun q => φ q && fitQ k n L e.s q) W).testBit q && _) = _
        rw [hb]
    rw [h1, List.find?_cons]
    cases fitQ k n L e.s q with
    | true => simp
    | false => simp
/-! ### formulas over ladders -/
abbrev Tb := List (Ky × List LE)
def ladOf (tab : Tb) (k : Ky) : List LE := ((tab.find? fun t => decide (t.1 = k)).map (·.2)).getD []
/-- the step that the range of a length from q on takes -/
def stepQ (tab : Tb) (L : Int) (k : Ky) (q : Nat) : Option LE := (ladOf tab k).find? fun e => fitQ k.1 k.2.2 L e.s q
def inZ (lo : Int) (hi : Option Int) (c : Int) : Bool := decide (lo ≤ c) && (match hi with
  | none => true
  | some h => decide (c ≤ h))
def cntQ (k : Kd) (s L : Int) (q : Nat) : Int := lstZ k ((q : Int) + L) s - fstZ k q s + 1
def tchQ (s L : Int) (low : Bool) (q : Nat) : Bool := if low then decide ((q : Int) % s = 0) else decide (((q : Int) + L) % s = 0)
/-- the value of a formula at the range of a length from q on, by the ladders -/
def ValQ (tab : Tb) (L : Int) : Fm → Nat → Bool
  | .all, _ => true
  | .not f, q => !ValQ tab L f q
  | .and f g, q => ValQ tab L f q && ValQ tab L g q
  | .or f g, q => ValQ tab L f q || ValQ tab L g q
  | .xor f g, q => ValQ tab L f q ^^ ValQ tab L g q
  | .counted k lo hi, q => (match stepQ tab L k q with
    | some e => inZ lo hi (cntQ k.1 e.s L q)
    | none => false)
  | .taken k m, q => (match stepQ tab L k q with
    | some e => decide (e.m = m)
    | none => false)
  | .coarser k k2 n o, q => (match stepQ tab L k q, stepQ tab L k2 q with
    | some e, some e2 => decide (n * e2.s < e.s * o)
    | _, _ => false)
  | .touched k low, q => (match stepQ tab L k q with
    | some e => tchQ e.s L low q
    | none => false)
end Ax

namespace Ax
open PySem L2
/-! ### what tables tell -/
/-- a list of steps -/
def StpK (H : Hp) (v : V) (ss : List (Int × Int)) : Prop := ∃ la us, v = .ref la ∧ H la = some (.lst (us.map V.ref)) ∧ StepsAt H ss us
def LEt (n : Nat) (sa : Addr) (e : LE) : List V := ([.ref sa, .int e.s, .int e.c, .int e.t] : List V).take n
abbrev LEsAt (n : Nat) (H : Hp) : List LE → List Addr → Prop := Paired fun e a => ∃ sa, H a = some (.tup (LEt n sa e)) ∧ H sa = some (.tup [.int e.m, .int e.p])
/-- a ladder -/
def LadK (n : Nat) (H : Hp) (v : V) (es : List LE) : Prop := ∃ la as, v = .ref la ∧ H la = some (.lst (as.map V.ref)) ∧ LEsAt n H es as
theorem StpK.mono : MonoK StpK := fun k ⟨la, us, e, h, st⟩ => ⟨la, us, e, k _ _ (fun _ z => nomatch z) h, Paired.mapP st fun _ _ q => k _ _ (fun _ z => nomatch z) q⟩
theorem LEsAt.kx {n : Nat} {H H' : Hp} {es : List LE} {as : List Addr} (x : LEsAt n H es as) (k : Kx H H') : LEsAt n H' es as := Paired.mapP x fun _ _ ⟨sa, h1, h2⟩ => ⟨sa, k _ _ (fun _ z => nomatch z) h1, k _ _ (fun _ z => nomatch z) h2⟩
theorem LadK.mono {n : Nat} : MonoK (LadK n) := fun k ⟨la, as, e, h, st⟩ => ⟨la, as, e, k _ _ (fun _ z => nomatch z) h, st.kx k⟩
/-- a ladder whose list is new -/
def LadN (H0 : Hp) (n : Nat) (H : Hp) (v : V) (es : List LE) : Prop := ∃ la as, v = .ref la ∧ H0 la = none ∧ H la = some (.lst (as.map V.ref)) ∧ LEsAt n H es as
theorem LadN.mono {H0 : Hp} {n : Nat} : MonoK (LadN H0 n) := fun k ⟨la, as, e, z, h, st⟩ => ⟨la, as, e, z, k _ _ (fun _ z => nomatch z) h, st.kx k⟩
theorem paired_at1 {α β : Type} {G : α → β → Prop} {l1 : List α} {l2 : List β} (h : Paired G l1 l2) {i : Nat} {x : α} (e : l1[i]? = some x) : ∃ y, l2[i]? = some y ∧ G x y := paired_get h e
/-- a table is read at a key -/
theorem TabAt.get {α : Type} {w : World} {PK : Hp → V → α → Prop} {H : Hp} {d : Addr} {tab : List (Ky × α)} {od : Obj} {kvs : List ND.Ent} (x : TabAt w PK H d tab od kvs) {k : Ky} {y : α} (h : (k, y) ∈ tab) : ∃ v, ND.atN kvs (kyN k) = some v ∧ PK H v y := by
  obtain ⟨i, hi⟩ := List.mem_iff_getElem?.mp h
  obtain ⟨e, he, e1, _, p⟩ := paired_at1 x.tb hi
  refine ⟨e.2.2, ND.atN_of x.dn.nd (a := e.2.1) ?_, p⟩
  rw [← e1]
  exact List.mem_of_getElem? he
/-- the key at a place of a table: its tuple -/
theorem TabAt.key {α : Type} {w : World} {PK : Hp → V → α → Prop} {H : Hp} {d : Addr} {tab : List (Ky × α)} {od : Obj} {kvs : List ND.Ent} (x : TabAt w PK H d tab od kvs) {i : Nat} {e : ND.Ent} (h : kvs[i]? = some e) : ∃ t, tab[i]? = some t ∧ ND.NK H (kyN t.1) (.ref e.2.1) ∧ ND.atN kvs (kyN t.1) = some e.2.2 ∧ PK H e.2.2 t.2 := by
  obtain ⟨t, ht, e1, _, p⟩ := paired_at x.tb h
  have m := List.mem_of_getElem? h
  have nk := (x.dn.keys e m).1
  rw [e1] at nk
  refine ⟨t, ht, nk, ND.atN_of x.dn.nd (a := e.2.1) ?_, p⟩
  rw [← e1]
  exact m
theorem TabAt.keys {α : Type} {w : World} {PK : Hp → V → α → Prop} {H : Hp} {d : Addr} {tab : List (Ky × α)} {od : Obj} {kvs : List ND.Ent} (x : TabAt w PK H d tab od kvs) : KeysAt H (tab.map (·.1)) (kvs.map (·.2.1)) := by
  have h := x.tb
  generalize tab = l1 at h
  generalize kvs = l2 at h
  induction h with
  | nil => exact .nil
  | cons a t ih => exact .cons a.2.1 ih
theorem TabAt.len {α : Type} {w : World} {PK : Hp → V → α → Prop} {H : Hp} {d : Addr} {tab : List (Ky × α)} {od : Obj} {kvs : List ND.Ent} (x : TabAt w PK H d tab od kvs) : kvs.length = tab.length := (Paired.length x.tb).symm
section
variable {P : Program} {w : World} {K : PySem.W.Frag} {mg : Str → Option Value} {base : Heap} {A : Adr}
/-! ### digits_of -/
def DgOf (tab : List (Ky × List (Int × Int))) (d : Int) : Prop := 0 ≤ d ∧ (∀ t ∈ tab, ∀ s ∈ t.2, -s.2 ≤ d) ∧ (d = 0 ∨ ∃ t ∈ tab, ∃ s ∈ t.2, d = -s.2)
def spDig (w : World) : Sp := fun vs H Q _ => ∃ (d : Addr) (tab : List (Ky × List (Int × Int))) (od : Obj) (kvs : List ND.Ent), vs = [.ref d] ∧ TabAt w StpK H d tab od kvs ∧ ∀ dg, DgOf tab dg → Q (.int dg) H
abbrev nm_digits_of : List Str := ["ladders", "digits", "key", "_", "power"]
theorem sc_digits_of : FnScope ["ladders", "digits", "key", "_", "power"] ["ladders"] (defScope s_digits_of) := ⟨rfl, rfl, rfl, by decide +kernel, rfl, by decide +kernel, by decide +kernel⟩
theorem ok_dig (T : Txt K mg A w) : FnOk P w K mg base CX0 1 A.a_digits_of A.d_digits_of ["ladders"] (spDig w) := by
  refine T.F_digits_of.ok sc_digits_of (fun vs H Q E h => ?_) (fun cdv A0 outer s H vs Q E hr h => ?_)
  · obtain ⟨d, tab, od, kvs, rfl, _⟩ := h
    rfl
  · obtain ⟨d, tab, od, kvs, rfl, TA, q⟩ := h
    have hu := ND.room9 hr
    refine ⟨_, (pss_cons (ps_set (i := 1) sc_digits_of.nd rfl (Or.inl rfl) pe_int)
  (pss_cons (ps_for PassesOwn.never rfl (ND.pi_keysN (pv 0)) (pg_name (i := 2) sc_digits_of.nd rfl (Or.inl rfl))
  (pss_one (ps_for PassesOwn.never rfl (pi_list (ND.pe_get hu (pv 0) (pv 2) (fun _ _ => rfl))) (pg_tup (by rfl) (pgs_cons (pg_name (i := 3) sc_digits_of.nd rfl (Or.inl rfl)) (pgs_cons (pg_name (i := 4) sc_digits_of.nd rfl (Or.inl rfl)) pgs_nil)))
  (pss_one (ps_if (pt_cmpR op_gt (pe_un un_neg (pv 4)) (pv 1) (nomark _)) (pss_one (ps_set (i := 1) sc_digits_of.nd rfl (Or.inl rfl) (pe_un un_neg (pv 4)))) pss_nil)))))
  (pss_one (ps_ret (pv 1))))), ?_⟩
    have hl := TA.len
    refine ⟨_, rfl, d, od, kvs, rfl, TA.at_, TA.dn.sys, for_it ND.walk_n (fun i σ H' => ∃ (dg : Int) (v2 v3 v4 : Option V), σ = [some (.ref d), some (.int dg), v2, v3, v4] ∧ H' = H ∧ DgOf (tab.take i) dg)
      ⟨0, none, none, none, rfl, rfl, Int.le_refl _, fun t ht => (by simp at ht), .inl rfl⟩ (fun i σ H' _ ⟨_, _, _, _, _, e, _⟩ => by rw [e]; exact TA.at_) ?_ ?_⟩
    · rintro i x σ H0 H' hi ⟨dg, v2, v3, v4, rfl, rfl, D⟩ ⟨rfl, e, he, rfl⟩
      obtain ⟨t, ht, nk, at_, la, us, ev, hla, st⟩ := TA.key he
      have tk : tab.take (i + 1) = tab.take i ++ [t] := by
        rw [List.take_add_one, ht]
        rfl
      refine ⟨_, rfl, _, rfl, d, e.2.1, kvs, kyN t.1, .ref la, rfl, rfl, TA.dn, nk, kyN_depth _, (by rw [at_, ev]), ?_⟩
      refine ⟨la, rfl, ⟨_, SqL.of hla⟩, for_list (K := K) (a := la) (xs := us.map V.ref) (fun j σ H2 => ∃ (dg : Int) (v3 v4 : Option V), σ = [some (.ref d), some (.int dg), some (.ref e.2.1), v3, v4] ∧ H2 = H' ∧ DgOf (tab.take i ++ [(t.1, t.2.take j)]) dg)
        ⟨dg, v3, v4, rfl, rfl, D.1, fun u hu s hs => ?_, ?_⟩ (fun j σ H2 _ ⟨_, _, _, _, e, _⟩ => by rw [e]; exact SqL.of hla) ?_ ?_⟩
      · rcases List.mem_append.mp hu with h | h
        · exact D.2.1 u h s hs
        · rw [List.mem_singleton.mp h] at hs
          simp at hs
      · rcases D.2.2 with h | ⟨u, hu, s, hs, h⟩
        · exact .inl h
        · exact .inr ⟨u, List.mem_append_left _ hu, s, hs, h⟩
      · rintro j y σ H2 hy ⟨dg, v3, v4, rfl, rfl, D⟩
        obtain ⟨a, ha, rfl⟩ := ref_get hy
        obtain ⟨z, hz, hat⟩ := paired_at st ha
        have tz : t.2.take (j + 1) = t.2.take j ++ [z] := by
          rw [List.take_add_one, hz]
          rfl
        refine ⟨a, _, rfl, SqT.of hat, rfl, _, _, rfl, _, _, rfl, rfl, ?_⟩
        refine norm2 (σ' := [some (.ref d), some (.int dg), some (.ref e.2.1), some (.int z.1), some (.int z.2)]) rfl ?_
        refine ⟨_, rfl, _, rfl, _, rfl, _, _, rfl, rfl, _, rfl, ?_⟩
        show if (decide (dg < -z.2)) = true then _ else _
        have old : ∀ u ∈ tab.take i ++ [(t.1, t.2.take (j + 1))], ∀ s ∈ u.2, (∃ u' ∈ tab.take i ++ [(t.1, t.2.take j)], s ∈ u'.2) ∨ s = z := fun u hu s hs => by
          rcases List.mem_append.mp hu with h | h
          · exact .inl ⟨u, List.mem_append_left _ h, hs⟩
          · rw [List.mem_singleton.mp h] at hs
            have hs : s ∈ t.2.take (j + 1) := hs
            rw [tz] at hs
            rcases List.mem_append.mp hs with h' | h'
            · exact .inl ⟨_, List.mem_append_right _ (List.mem_singleton.mpr rfl), h'⟩
            · exact .inr (List.mem_singleton.mp h')
        have new : (t.1, t.2.take (j + 1)) ∈ tab.take i ++ [(t.1, t.2.take (j + 1))] := List.mem_append_right _ (List.mem_singleton.mpr rfl)
        have zin : z ∈ t.2.take (j + 1) := by
          rw [tz]
          exact List.mem_append_right _ (List.mem_singleton.mpr rfl)
        by_cases c : dg < -z.2
        · rw [decide_eq_true c]
          refine iteT ⟨_, rfl, _, rfl, ?_⟩
          refine ⟨-z.2, _, _, rfl, rfl, by have := D.1; omega, fun u hu s hs => ?_, .inr ⟨_, new, z, zin, rfl⟩⟩
          rcases old u hu s hs with ⟨u', h1, h2⟩ | h
          · have := D.2.1 u' h1 s h2
            omega
          · rw [h]
            exact Int.le_refl _
        · rw [decide_eq_false c]
          refine iteF ⟨dg, _, _, rfl, rfl, D.1, fun u hu s hs => ?_, ?_⟩
          · rcases old u hu s hs with ⟨u', h1, h2⟩ | h
            · exact D.2.1 u' h1 s h2
            · rw [h]
              omega
          · rcases D.2.2 with h | ⟨u, hu, s, hs, h⟩
            · exact .inl h
            · refine .inr ?_
              rcases List.mem_append.mp hu with h1 | h1
              · exact ⟨u, List.mem_append_left _ h1, s, hs, h⟩
              · rw [List.mem_singleton.mp h1] at hs
                refine ⟨_, new, s, ?_, h⟩
                rw [tz]
                exact List.mem_append_left _ hs
      · rintro σ H2 ⟨dg, v3, v4, rfl, rfl, D⟩
        rw [List.length_map, ← Paired.length st, List.take_length] at D
        refine ⟨dg, _, _, _, rfl, rfl, ?_⟩
        rw [tk]
        exact D
    · rintro σ H' ⟨dg, v2, v3, v4, rfl, rfl, D⟩
      rw [hl, List.take_length] at D
      exact ⟨_, rfl, q dg D⟩
/-! ### sized -/
def szL (b d : Int) (ss : List (Int × Int)) : List LE := ss.map fun s => { m := s.1, p := s.2, s := szN b d s.1 s.2 }
def spSized : Sp := fun vs H Q _ => ∃ (b d : Int) (la : Addr) (us : List Addr) (ss : List (Int × Int)), vs = [.int b, .ref la, .int d] ∧ H la = some (.lst (us.map V.ref)) ∧ StepsAt H ss us ∧ 1 ≤ b ∧ b < BIG ∧ ss.length < sizeLine ∧
  (∀ s ∈ ss, 0 ≤ s.2 + d ∧ 1 ≤ s.1 ∧ s.1 < BIG ∧ b ^ (s.2 + d).natAbs < BIG) ∧ ∀ (H' : Hp) (L : Addr), Same H H' → H L = none → LadK 2 H' (.ref L) (szL b d ss) → Q (.ref L) H'
abbrev nm_sized : List Str := ["base", "steps", "digits", "step"]
theorem sc_sized : FnScope ["base", "steps", "digits", "step"] ["base", "steps", "digits"] (defScope s_sized) := ⟨rfl, rfl, rfl, by decide +kernel, rfl, by decide +kernel, by decide +kernel⟩
theorem ok_sized (T : Txt K mg A w) : FnOk P w K mg base CX0 3 A.a_sized A.d_sized ["base", "steps", "digits"] spSized := by
  have G_measure : FnOk P w K mg base CX0 2 A.a_measure A.d_measure ["base", "step", "digits"] (spMeasure K) := ok_measure T
  refine T.F_sized.ok sc_sized (fun vs H Q E h => ?_) (fun cdv A0 outer s H vs Q E hr h => ?_)
  · obtain ⟨b, d, la, us, ss, rfl, _⟩ := h
    rfl
  · obtain ⟨b, d, la, us, ss, rfl, hla, st, b1, bB, lB, ok, q⟩ := h
    refine ⟨_, (pss_one (ps_ret (pe_lc (own := [("step", 3)]) (g := gName 3) (tt := tYes) rfl sc_sized.nd (pi_list (pv 1)) (blkOk_by (own := [("step", 3)]) (N := nm_sized) (sc := defScope s_sized) (by decide +kernel)) (fun _ _ _ _ _ => (pg_name (i := 3) sc_sized.nd rfl (Or.inl rfl))) (fun _ _ _ _ _ => pts_nil) (fun _ _ _ _ _ => (pe_tup (pa_cons (pv 3) (pa_cons (pe_ix (ND.ixT K) (pe_call G_measure (hr.mono (by decide)) (by rfl) T.m_measure T.F_measure.kp T.B_measure .nil pass0 (pa_cons (pv 0) (pa_cons (pv 3) (pa_cons (pv 2) pa_nil)))) pe_int (fun _ _ => rfl)) pa_nil))))))), ?_⟩
    have ll := Paired.length st
    refine ⟨_, rfl, la, rfl, ⟨_, SqL.of hla⟩, fun D hD => lc_list (K := K) (a := la) (xs := us.map V.ref) (fun i H' => ∃ as : List Addr, as.length = i ∧ (∀ c o, H c = some o → H' c = some o) ∧ H' D = some (.lst (as.map V.ref)) ∧ LEsAt 2 H' (szL b d (ss.take i)) as)
      ⟨[], rfl, fun c o e => by rw [upd_ne (ne_of_none e hD)]; exact e, upd_same, .nil⟩ (fun i H' _ ⟨_, _, kp, _⟩ => SqL.of (kp _ _ hla)) ?_ ?_⟩
    · rintro i y H1 hy ⟨as, al, kp, eD, le⟩
      obtain ⟨a, ha, rfl⟩ := ref_get hy
      obtain ⟨z, hz, hat⟩ := paired_at st ha
      obtain ⟨z0, z1, z2, z3⟩ := ok z (List.mem_of_getElem? hz)
      refine ⟨rfl, yes_of ?_⟩
      refine ⟨_, rfl, _, rfl, _, rfl, _, rfl, b, z.1, z.2, d, a, rfl, SqT.of (kp _ _ hat), b1, bB, z3, by omega, z2, fun H2 p s2 hp e2 => ?_⟩
      subst e2
      have s12 : ∀ c o, H c = some o → upd H1 p (.tup [.int (facZ b (z.2 + d)), .int (sizZ b z.1 (z.2 + d))]) c = some o := fun c o e => s2 _ _ (kp _ _ e)
      have eD2 := s2 _ _ eD
      have le2 := le.kx (.of s2)
      have pz : upd H1 p (.tup [.int (facZ b (z.2 + d)), .int (sizZ b z.1 (z.2 + d))]) p = some (.tup [.int (facZ b (z.2 + d)), .int (sizZ b z.1 (z.2 + d))]) := upd_same
      generalize upd H1 p (.tup [.int (facZ b (z.2 + d)), .int (sizZ b z.1 (z.2 + d))]) = H2 at *
      refine ⟨p, _, 1, _, rfl, rfl, SqT.of pz, rfl, (by show 2 ≤ sizeLine; decide), fun t ht => ?_⟩
      have s3 := same_new (o := .tup [.ref a, .int (sizZ b z.1 (z.2 + d))]) ht
      have iB : i < ss.length := (List.getElem?_eq_some_iff.mp hz).1
      refine ⟨_, s3 _ _ eD2, by rw [List.length_map, al]; omega, as ++ [t], by rw [List.length_append, al]; rfl, fun c o e => ?_, by rw [upd_same, List.map_append]; rfl, ?_⟩
      · rw [upd_ne (ne_of_none e hD)]
        exact s3 _ _ (s12 c o e)
      · have tz : szL b d (ss.take (i + 1)) = szL b d (ss.take i) ++ [{ m := z.1, p := z.2, s := szN b d z.1 z.2 }] := by
          unfold szL
          rw [List.take_add_one, hz, List.map_append]
          rfl
        rw [tz]
        have nD : ∀ {c : Addr} {ys : List V}, H2 c = some (.tup ys) → c ≠ D := fun e => ne_of e eD2 (by intro z; cases z)
        have ntD : t ≠ D := fun e => by
          rw [e, eD2] at ht
          cases ht
        refine Paired.snoc (Paired.mapP le2 fun x y ⟨sa, h1, h2⟩ => ⟨sa, ?_, ?_⟩) ⟨a, ?_, ?_⟩
        · rw [upd_ne (nD h1)]
          exact s3 _ _ h1
        · rw [upd_ne (nD h2)]
          exact s3 _ _ h2
        · rw [upd_ne ntD, upd_same]
          have e : szN b d z.1 z.2 = sizZ b z.1 (z.2 + d) := by
            unfold szN sizZ
            rw [if_pos z0, Int.add_comm d]
          show _ = some (HO.tup [.ref a, .int (szN b d z.1 z.2)])
          rw [e]
        · rw [upd_ne (nD (s12 _ _ hat))]
          exact s3 _ _ (s12 _ _ hat)
    · rintro H1 ⟨as, al, kp, eD, le⟩
      rw [List.length_map, ← ll, List.take_length] at le
      exact q H1 D kp hD ⟨D, as, rfl, eD, le⟩
end
end Ax

namespace Ax
open PySem L2
/-- a ladder in quarters of a unit, with combs -/
def qtr (unit s : Int) : Int := 4 * s / unit
def combE (W : Nat) (unit : Int) (e : LE) : LE := { e with s := qtr unit e.s, c := mkN (isC (qtr unit e.s).toNat) W }
def combT (W : Nat) (unit : Int) (tab : Tb) : Tb := tab.map fun t => (t.1, t.2.map (combE W unit))
/-- what a width is -/
structure WdOk (W X : Nat) (unit stride : Int) (es : LE → Prop) : Prop where
  pos : 0 < W
  dvd : W ∣ X
  st : stride.toNat ∣ W
  all : ∀ e, es e → (qtr unit e.s).toNat ∣ W
theorem fresh_at {α : Type} {PK : Hp → V → α → Prop} {H : Hp} {l : List (Ky × α)} {kc : List ND.Ent} (pr : Paired (EnR PK H) l kc) {k : Ky} (h : ∀ t ∈ l, t.1 ≠ k) : ND.atN kc (kyN k) = none := ND.atN_none fun e he z => by
  obtain ⟨t, ht, e1, _⟩ := paired_mem pr he
  exact h t ht (kyN_inj (e1.symm.trans z))
theorem keys_map {α : Type} {PK : Hp → V → α → Prop} {H : Hp} {l : List (Ky × α)} {kc : List ND.Ent} (pr : Paired (EnR PK H) l kc) : kc.map (·.1) = (l.map (·.1)).map kyN := by
  induction pr with
  | nil => rfl
  | cons h t ih => rw [List.map_cons, List.map_cons, List.map_cons, ih, h.1]
theorem TabAt.nd {α : Type} {w : World} {PK : Hp → V → α → Prop} {H : Hp} {d : Addr} {tab : List (Ky × α)} {od : Obj} {kvs : List ND.Ent} (x : TabAt w PK H d tab od kvs) : (tab.map (·.1)).Nodup := by
  have h := x.dn.nd
  rw [keys_map x.tb] at h
  exact (List.pairwise_map.mp h).imp fun q e => q (congrArg kyN e)
theorem take_ne {α : Type} {tab : List (Ky × α)} (nd : (tab.map (·.1)).Nodup) {i : Nat} {t : Ky × α} (ht : tab[i]? = some t) : ∀ u ∈ tab.take i, u.1 ≠ t.1 := fun u hu e => by
  obtain ⟨j, hj, ej⟩ := List.getElem_of_mem hu
  rw [List.length_take] at hj
  rw [List.getElem_take] at ej
  obtain ⟨hi, hi2⟩ := List.getElem?_eq_some_iff.mp ht
  have a : (tab.map (·.1))[j]'(by rw [List.length_map]; omega) = (tab.map (·.1))[i]'(by rw [List.length_map]; omega) := by
    rw [List.getElem_map, List.getElem_map, ej, hi2]
    exact e
  have := (List.getElem_inj nd).mp a
  omega
section
variable {P : Program} {w : World} {K : PySem.W.Frag} {mg : Str → Option Value} {base : Heap} {A : Adr}
def spQtr (w : World) : Sp := fun vs H Q _ => ∃ (d : Addr) (unit stride : Int) (tab : Tb) (od : Obj) (kvs : List ND.Ent) (X : Nat), vs = [.ref d, .int unit, .int stride] ∧ TabAt w (LadK 2) H d tab od kvs ∧ 0 < unit ∧ unit < 2 ^ 60 ∧ 0 < stride ∧ 0 < X ∧ X ≤ 2 ^ 26 ∧ stride.toNat ∣ X ∧ tab.length ≤ 1000 ∧
  (∀ t ∈ tab, t.2.length < sizeLine ∧ ∀ e ∈ t.2, 1 ≤ e.s ∧ e.s < 2 ^ 60 ∧ e.s % unit = 0 ∧ (qtr unit e.s).toNat ∣ X) ∧
  ∀ (H' : Hp) (q D : Addr) (W : Nat) (od' : Obj) (kvs' : List ND.Ent), Same H H' → H q = none → H' q = some (.tup [.int W, .ref D]) → TabAt w (LadN H 3) H' D (combT W unit tab) od' kvs' → WdOk W X unit stride (fun e => ∃ t ∈ tab, e ∈ t.2) → Q (.ref q) H'
abbrev nm_quartered : List Str := ["ladders", "unit", "stride", "width", "key", "_", "size", "combed", "step"]
theorem sc_quartered : FnScope ["ladders", "unit", "stride", "width", "key", "_", "size", "combed", "step"] ["ladders", "unit", "stride"] (defScope s_quartered) := ⟨rfl, rfl, rfl, by decide +kernel, rfl, by decide +kernel, by decide +kernel⟩
theorem qtr_pos {unit s : Int} (hu : 0 < unit) (hs : 1 ≤ s) (hd : s % unit = 0) : 4 ≤ qtr unit s ∧ qtr unit s ≤ 4 * s := by
  unfold qtr
  obtain ⟨c, rfl⟩ := Int.dvd_of_emod_eq_zero hd
  have e : 4 * (unit * c) / unit = 4 * c := by
    rw [← Int.mul_assoc, Int.mul_comm 4, Int.mul_assoc]
    exact Int.mul_ediv_cancel_left _ (by omega)
  rw [e]
  have c1 : 1 ≤ c := by
    refine Int.not_lt.mp fun h => ?_
    have := Int.mul_le_mul_of_nonneg_left (show c ≤ 0 by omega) (show 0 ≤ unit by omega)
    rw [Int.mul_zero] at this
    omega
  have : c ≤ unit * c := by
    have := Int.mul_le_mul_of_nonneg_right (show 1 ≤ unit by omega) (show 0 ≤ c by omega)
    omega
  omega
theorem ok_qtr (T : Txt K mg A w) : FnOk P w K mg base CX0 2 A.a_quartered A.d_quartered ["ladders", "unit", "stride"] (spQtr w) := by
  have G_comb_of : FnOk P w K mg base CX0 1 A.a_comb_of A.d_comb_of ["size", "width"] spComb := ok_comb T
  obtain ⟨tU, hU⟩ := T.m_UNIT
  refine T.F_quartered.ok sc_quartered (fun vs H Q E h => ?_) (fun cdv A0 outer s H vs Q E hr h => ?_)
  · obtain ⟨d, unit, stride, tab, od, kvs, X, rfl, _⟩ := h
    rfl
  · obtain ⟨d, unit, stride, tab, od, kvs, X, rfl, TA, u0, uB, st0, X0, XB, stX, tl, ok, q⟩ := h
    have hu := ND.room9 hr
    refine ⟨_, (pss_cons (ps_set (i := 3) sc_quartered.nd rfl (Or.inr rfl) (pv 2))
  (pss_cons (ps_for PassesOwn.never rfl (ND.pi_keysN (pv 0)) (pg_name (i := 4) sc_quartered.nd rfl (Or.inl rfl))
  (pss_one (ps_for PassesOwn.never rfl (pi_list (ND.pe_get hu (pv 0) (pv 4) (fun _ _ => rfl))) (pg_tup (by rfl) (pgs_cons (pg_name (i := 5) sc_quartered.nd rfl (Or.inl rfl)) (pgs_cons (pg_name (i := 6) sc_quartered.nd rfl (Or.inl rfl)) pgs_nil)))
  (pss_one (ps_set (i := 3) sc_quartered.nd rfl (Or.inr rfl) (pe_callBfun ND.cr_lcm (by rfl) T.g_lcm (pa_cons (pv 3) (pa_cons (pe_op op_fdivW (pe_op op_mulW (pe_glob (v := .int 4) rfl hU ⟨_, rfl⟩) (pv 6)) (pv 1)) pa_nil))))))))
  (pss_cons (ps_set (i := 7) sc_quartered.nd rfl (Or.inl rfl) ND.pe_new)
  (pss_cons (ps_for PassesOwn.never rfl (ND.pi_keysN (pv 0)) (pg_name (i := 4) sc_quartered.nd rfl (Or.inl rfl))
  (pss_one (ND.ps_put hu (pv 7) (pv 4) (pe_lc (own := [("step", 8), ("size", 6)]) (g := gTup K 2 (gCons (gName 8) (gCons (gName 6) gNil))) (tt := tYes) rfl sc_quartered.nd (pi_list (ND.pe_get hu (pv 0) (pv 4) (fun _ _ => rfl))) (blkOk_by (own := [("step", 8), ("size", 6)]) (N := nm_quartered) (sc := defScope s_quartered) (by decide +kernel)) (fun _ _ _ _ _ => (pg_tup (by rfl) (pgs_cons (pg_name (i := 8) sc_quartered.nd rfl (Or.inl rfl)) (pgs_cons (pg_name (i := 6) sc_quartered.nd rfl (Or.inl rfl)) pgs_nil)))) (fun _ _ _ _ _ => pts_nil) (fun _ _ _ _ _ => (pe_tup (pa_cons (pv 8) (pa_cons (pe_op op_fdivW (pe_op op_mulW (pe_glob (v := .int 4) rfl hU ⟨_, rfl⟩) (pv 6)) (pv 1)) (pa_cons (pe_call G_comb_of (hr.mono (by decide)) (by rfl) T.m_comb_of T.F_comb_of.kp T.B_comb_of .nil pass0 (pa_cons (pe_op op_fdivW (pe_op op_mulW (pe_glob (v := .int 4) rfl hU ⟨_, rfl⟩) (pv 6)) (pv 1)) (pa_cons (pv 3) pa_nil))) pa_nil)))))) rfl)))
  (pss_one (ps_ret (pe_tup (pa_cons (pv 3) (pa_cons (ND.pe_seal (pv 7)) pa_nil))))))))), ?_⟩
    have hl := TA.len
    have e26 : (2 : Nat) ^ 26 = 67108864 := by decide
    have e60 : (2 : Int) ^ 60 = 1152921504606846976 := by decide
    refine ⟨_, rfl, ?_⟩
    refine ⟨_, rfl, d, od, kvs, rfl, TA.at_, TA.dn.sys, for_it ND.walk_n (fun i σ H' => ∃ (W : Nat) (v4 v5 v6 : Option V), σ = [some (.ref d), some (.int unit), some (.int stride), some (.int W), v4, v5, v6, none, none] ∧ H' = H ∧ WdOk W X unit stride (fun e => ∃ t ∈ tab.take i, e ∈ t.2))
      ⟨stride.toNat, none, none, none, ?_, rfl, ⟨by omega, stX, Nat.dvd_refl _, fun e ⟨t, ht, _⟩ => (by simp at ht)⟩⟩ (fun i σ H' _ ⟨_, _, _, _, _, e, _⟩ => by rw [e]; exact TA.at_) ?_ ?_⟩
    · have e : ((stride.toNat : Nat) : Int) = stride := by omega
      rw [e]
      rfl
    · rintro i x σ H0 H' hi ⟨W, v4, v5, v6, rfl, rfl, D⟩ ⟨rfl, e, he, rfl⟩
      obtain ⟨t, ht, nk, at_, la, as, ev, hla, les⟩ := TA.key he
      obtain ⟨tB, tok⟩ := ok t (List.mem_of_getElem? ht)
      have tk : tab.take (i + 1) = tab.take i ++ [t] := by
        rw [List.take_add_one, ht]
        rfl
      refine ⟨_, rfl, _, rfl, d, e.2.1, kvs, kyN t.1, .ref la, rfl, rfl, TA.dn, nk, kyN_depth _, (by rw [at_, ev]), ?_⟩
      refine ⟨la, rfl, ⟨_, SqL.of hla⟩, for_list (K := K) (a := la) (xs := as.map V.ref) (fun j σ H2 => ∃ (W : Nat) (v5 v6 : Option V), σ = [some (.ref d), some (.int unit), some (.int stride), some (.int W), some (.ref e.2.1), v5, v6, none, none] ∧ H2 = H' ∧ WdOk W X unit stride (fun y => (∃ t ∈ tab.take i, y ∈ t.2) ∨ y ∈ t.2.take j))
        ⟨W, v5, v6, rfl, rfl, D.pos, D.dvd, D.st, fun y hy => hy.elim (fun h => D.all y h) fun h => (by simp at h)⟩ (fun j σ H2 _ ⟨_, _, _, _, e, _⟩ => by rw [e]; exact SqL.of hla) ?_ ?_⟩
      · rintro j y σ H2 hy ⟨W, v5, v6, rfl, rfl, D⟩
        obtain ⟨a, ha, rfl⟩ := ref_get hy
        obtain ⟨z, hz, sa, hat, hsa⟩ := paired_at les ha
        have tz : t.2.take (j + 1) = t.2.take j ++ [z] := by
          rw [List.take_add_one, hz]
          rfl
        obtain ⟨z1, z2, z3, z4⟩ := tok z (List.mem_of_getElem? hz)
        obtain ⟨r1, r2⟩ := qtr_pos u0 z1 z3
        refine ⟨a, _, rfl, SqT.of hat, rfl, _, _, rfl, _, _, rfl, rfl, ?_⟩
        refine norm2 (σ' := [some (.ref d), some (.int unit), some (.int stride), some (.int W), some (.ref e.2.1), some (.ref sa), some (.int z.s), none, none]) rfl ?_
        have wX := Nat.le_of_dvd X0 D.dvd
        refine ⟨_, rfl, _, rfl, _, _, rfl, rfl, wide_mul (a := 3) (b := 61) (by decide) (Nat.lt_trans (abs_lt_pow (k := 60) (by omega) z2) (by decide)) (by decide) (by decide) (by decide), _, rfl, _, _, rfl, rfl, wide_div (b := 60) u0 (abs_lt_pow (by omega) uB) (by decide) (by decide), ?_⟩
        refine ⟨(W : Int), qtr unit z.s, rfl, ?_, ?_, ?_⟩
        · rw [Int.natAbs_natCast]
          exact Nat.lt_of_le_of_lt wX (Nat.lt_of_le_of_lt XB (by decide))
        · have e64 : (2 : Nat) ^ 64 = 18446744073709551616 := by decide
          omega
        · have en : (W : Int).natAbs.lcm (qtr unit z.s).natAbs = W.lcm (qtr unit z.s).toNat := by
            rw [Int.natAbs_natCast]
            congr 1
            omega
          refine ⟨W.lcm (qtr unit z.s).toNat, some (.ref sa), some (.int z.s), ?_, rfl, Nat.lcm_pos D.pos (by omega), Nat.lcm_dvd D.dvd z4, Nat.dvd_trans D.st (Nat.dvd_lcm_left _ _), fun y hy => ?_⟩
          · rw [en]
            rfl
          · rcases hy with h | h
            · exact Nat.dvd_trans (D.all y (.inl h)) (Nat.dvd_lcm_left _ _)
            · rw [tz] at h
              rcases List.mem_append.mp h with h | h
              · exact Nat.dvd_trans (D.all y (.inr h)) (Nat.dvd_lcm_left _ _)
              · rw [List.mem_singleton.mp h]
                exact Nat.dvd_lcm_right _ _
      · rintro σ H2 ⟨W, v5, v6, rfl, rfl, D⟩
        rw [List.length_map, ← Paired.length les, List.take_length] at D
        refine ⟨W, _, _, _, rfl, rfl, D.pos, D.dvd, D.st, fun y ⟨u, hu1, hu2⟩ => ?_⟩
        rw [tk] at hu1
        rcases List.mem_append.mp hu1 with h | h
        · exact D.all y (.inl ⟨u, h, hu2⟩)
        · rw [List.mem_singleton.mp h] at hu2
          exact D.all y (.inr hu2)
    · rintro σ H0 ⟨W, v4, v5, v6, rfl, rfl, D⟩
      rw [hl, List.take_length] at D
      intro p hp sy
      refine gN (σ' := [some (.ref d), some (.int unit), some (.int stride), some (.int W), v4, v5, v6, some (.ref p), none]) rfl ?_
      have s1 := same_new (o := ND.dnO w [] p) hp
      have TA1 : TabAt w (LadK 2) (upd H0 p (ND.dnO w [] p)) d tab od kvs := TA.same LadK.mono s1
      refine ⟨_, rfl, d, od, kvs, rfl, TA1.at_, TA1.dn.sys, for_it ND.walk_n (fun i σ H' => ∃ (v4 v5 v6 v8 : Option V) (kc : List ND.Ent), σ = [some (.ref d), some (.int unit), some (.int stride), some (.int W), v4, v5, v6, some (.ref p), v8] ∧ (∀ c o, H0 c = some o → H' c = some o) ∧ H' p = some (ND.dnO w kc p) ∧ ND.DN w H' p kc ∧
          Paired (EnR (LadN H0 3) H') (combT W unit (tab.take i)) kc)
        ⟨v4, v5, v6, none, [], rfl, fun c o e => s1 _ _ e, upd_same, ND.DN.nil sy, .nil⟩ (fun i σ H' _ ⟨_, _, _, _, _, _, kp, _⟩ => kp _ _ TA.at_) ?_ ?_⟩
      · rintro i x σ H1 H' hi ⟨v4, v5, v6, v8, kc, rfl, kp, eD, dn, pr⟩ ⟨rfl, e, he, rfl⟩
        have TA2 : TabAt w (LadK 2) H' d tab od kvs := TA.same LadK.mono kp
        obtain ⟨t, ht, nk, at_, la, as, ev, hla, les⟩ := TA2.key he
        have kya : KyAt H' t.1 e.2.1 := by
          obtain ⟨t2, ht2, _, kz, _⟩ := paired_at TA2.tb he
          rw [ht] at ht2
          cases ht2
          exact kz
        obtain ⟨tB, tok⟩ := ok t (List.mem_of_getElem? ht)
        have tk : tab.take (i + 1) = tab.take i ++ [t] := by
          rw [List.take_add_one, ht]
          rfl
        refine ⟨_, rfl, _, rfl, d, e.2.1, kvs, kyN t.1, .ref la, rfl, rfl, TA2.dn, nk, kyN_depth _, (by rw [at_, ev]), ?_⟩
        refine ⟨la, rfl, ⟨_, SqL.of hla⟩, fun L hL => lc_list (K := K) (a := la) (xs := as.map V.ref) (fun j H2 => ∃ as2 : List Addr, as2.length = j ∧ (∀ c o, H' c = some o → H2 c = some o) ∧ H2 L = some (.lst (as2.map V.ref)) ∧ LEsAt 3 H2 ((t.2.take j).map (combE W unit)) as2)
          ⟨[], rfl, fun c o e => by rw [upd_ne (ne_of_none e hL)]; exact e, upd_same, .nil⟩ (fun j H2 _ ⟨_, _, kp2, _⟩ => SqL.of (kp2 _ _ hla)) ?_ ?_⟩
        · rintro j y H2 hy ⟨as2, al, kp2, eL, le2⟩
          obtain ⟨a, ha, rfl⟩ := ref_get hy
          obtain ⟨z, hz, sa, hat, hsa⟩ := paired_at les ha
          obtain ⟨z1, z2, z3, z4⟩ := tok z (List.mem_of_getElem? hz)
          obtain ⟨r1, r2⟩ := qtr_pos u0 z1 z3
          obtain ⟨n, hn⟩ := D.all z ⟨t, List.mem_of_getElem? ht, List.mem_of_getElem? hz⟩
          have es : (((qtr unit z.s).toNat : Nat) : Int) = qtr unit z.s := by omega
          have wX := Nat.le_of_dvd X0 D.dvd
          have mW : CMulW 4 z.s := wide_mul (a := 3) (b := 61) (by decide) (Nat.lt_trans (abs_lt_pow (k := 60) (by omega) z2) (by decide)) (by decide) (by decide) (by decide)
          have dW : CDivW (4 * z.s) unit := wide_div (b := 60) u0 (abs_lt_pow (by omega) uB) (by decide) (by decide)
          refine ⟨a, _, rfl, SqT.of (kp2 _ _ hat), rfl, _, _, rfl, _, _, rfl, rfl, rfl, yes_of ?_⟩
          refine ⟨_, rfl, _, rfl, _, _, rfl, rfl, mW, _, rfl, _, _, rfl, rfl, dW, _, rfl, _, _, rfl, rfl, mW, _, rfl, _, _, rfl, rfl, dW, _, rfl, (qtr unit z.s).toNat, n, ?_, by omega, ?_, by rw [← hn]; omega, fun C hC => ?_⟩
          · show [V.int (qtr unit z.s), V.int (W : Int)] = [V.int (((qtr unit z.s).toNat : Nat) : Int), V.int (((qtr unit z.s).toNat * n : Nat) : Int)]
            rw [← hn, es]
          · refine Nat.pos_of_ne_zero fun z0 => ?_
            rw [z0, Nat.mul_zero] at hn
            have := D.pos
            omega
          rw [← hn] at hC
          have eC := hC.mk
          subst eC
          refine ⟨(by show 3 ≤ sizeLine; decide), fun u hu2 => ?_⟩
          have s3 := same_new (o := .tup [.ref sa, .int (qtr unit z.s), .int (mkN (isC (qtr unit z.s).toNat) W)]) hu2
          have jB : j < t.2.length := (List.getElem?_eq_some_iff.mp hz).1
          refine ⟨_, s3 _ _ eL, by rw [List.length_map, al]; omega, as2 ++ [u], by rw [List.length_append, al]; rfl, fun c o e => ?_, by rw [upd_same, List.map_append]; rfl, ?_⟩
          · rw [upd_ne (ne_of_none e hL)]
            exact s3 _ _ (kp2 c o e)
          · rw [List.take_add_one, hz, Option.toList_some, List.map_append, List.map_singleton]
            have nL : ∀ {c : Addr} {ys : List V}, H2 c = some (.tup ys) → c ≠ L := fun e => ne_of e eL (by intro z; cases z)
            have nuL : u ≠ L := fun e => by
              rw [e, eL] at hu2
              cases hu2
            refine Paired.snoc (Paired.mapP le2 fun x y ⟨sb, h1, h2⟩ => ⟨sb, ?_, ?_⟩) ⟨sa, ?_, ?_⟩
            · rw [upd_ne (nL h1)]
              exact s3 _ _ h1
            · rw [upd_ne (nL h2)]
              exact s3 _ _ h2
            · rw [upd_ne nuL, upd_same]
              rfl
            · rw [upd_ne (nL (kp2 _ _ hsa))]
              exact s3 _ _ (kp2 _ _ hsa)
        · rintro H2 ⟨as2, al, kp2, eL, le2⟩
          rw [List.length_map, ← Paired.length les, List.take_length] at le2
          refine ⟨_, rfl, _, rfl, p, e.2.1, kc, kyN t.1, rfl, rfl, kp2 _ _ eD, dn.more kp2, ND.NK.more (fun c xs q => kp2 _ _ q) _ _ nk, kyN_depth _, ?_⟩
          have no : ND.atN kc (kyN t.1) = none := fresh_at pr fun u hu => by
            unfold combT at hu
            obtain ⟨u', h1, rfl⟩ := List.mem_map.mp hu
            exact take_ne TA.nd ht u' h1
          have eD2 := kp2 _ _ eD
          have kx : Kx H2 (upd H2 p (ND.dnO w (ND.putN kc (kyN t.1) e.2.1 (.ref L)) p)) := Kx.put eD2
          have lp := Paired.length pr
          unfold combT at lp
          rw [List.length_map, List.length_take] at lp
          refine ⟨_, _, _, _, ND.putN kc (kyN t.1) e.2.1 (.ref L), rfl, fun c o h => ?_, upd_same, (dn.more kp2).put eD2 (ND.NK.more (fun c xs q => kp2 _ _ q) _ _ nk) (kyN_depth _) (by rw [PySem.sizeLine_eq]; omega), ?_⟩
          · rw [upd_ne (ne_of_none h hp)]
            exact kp2 _ _ (kp c o h)
          · rw [ND.putN_new no] at kx ⊢
            have ec : combT W unit (tab.take (i + 1)) = combT W unit (tab.take i) ++ [(t.1, t.2.map (combE W unit))] := by
              rw [tk]
              unfold combT
              rw [List.map_append]
              rfl
            rw [ec]
            exact Paired.snoc (EnR.mp (PK := LadN H0 3) LadN.mono pr ((Kx.of kp2).trans kx)) ⟨rfl, ((kya.same kp2).kp kx), LadN.mono kx ⟨L, as2, rfl, (show Same H0 H' from kp).free hL, eL, le2⟩⟩
      · rintro σ H1 ⟨v4, v5, v6, v8, kc, rfl, kp, eD, dn, pr⟩
        rw [hl, List.take_length] at pr
        refine ⟨_, rfl, _, rfl, p, _, rfl, eD, trivial, fun od2 => ?_⟩
        have kx : Kx H1 (upd H1 p (.frz od2 (ND.dnO w kc p))) := Kx.put eD
        refine ⟨(by show 2 ≤ sizeLine; decide), fun r hr2 => ?_⟩
        have s5 := same_new (o := .tup [.int (W : Nat), .ref p]) hr2
        have TA3 : TabAt w (LadN H0 3) (upd H1 p (.frz od2 (ND.dnO w kc p))) p (combT W unit tab) od2 kc := TabAt.sealed (PK := LadN H0 3) LadN.mono eD dn pr
        have kq : Same H0 (upd H1 p (.frz od2 (ND.dnO w kc p))) := fun c o e => by
          rw [upd_ne (ne_of_none e hp)]
          exact kp c o e
        exact q _ r p W od2 kc (kq.trans s5) (kq.free hr2) upd_same (TabAt.same (PK := LadN H0 3) LadN.mono TA3 s5) D
end
end Ax

namespace Ax
open PySem L2
theorem bitAnd_nn {x y : Int} (hx : 0 ≤ x) (hy : 0 ≤ y) : Builtin.bitAnd x y = ((x.toNat &&& y.toNat : Nat) : Int) := by
  obtain ⟨a, rfl⟩ := Int.eq_ofNat_of_zero_le hx
  obtain ⟨b, rfl⟩ := Int.eq_ofNat_of_zero_le hy
  rfl
theorem mk_and (φ ψ : Nat → Bool) (W : Nat) : Builtin.bitAnd (mkN φ W) (mkN ψ W) = (mkN (fun q => φ q && ψ q) W : Int) := by
  rw [bitAnd_nn (Int.natCast_nonneg _) (Int.natCast_nonneg _), Int.toNat_natCast, Int.toNat_natCast]
  congr 1
  refine Nat.eq_of_testBit_eq fun q => ?_
  rw [Nat.testBit_and, mkN_bit, mkN_bit, mkN_bit]
  cases decide (q < W) <;> simp
theorem mk_or (φ ψ : Nat → Bool) (W : Nat) : Builtin.bitOr (mkN φ W) (mkN ψ W) = (mkN (fun q => φ q || ψ q) W : Int) := by
  rw [bitOr_nn (Int.natCast_nonneg _) (Int.natCast_nonneg _), Int.toNat_natCast, Int.toNat_natCast]
  congr 1
  refine Nat.eq_of_testBit_eq fun q => ?_
  rw [Nat.testBit_or, mkN_bit, mkN_bit, mkN_bit]
  cases decide (q < W) <;> simp
theorem mk_xor (φ ψ : Nat → Bool) (W : Nat) : Builtin.bitXor (mkN φ W) (mkN ψ W) = (mkN (fun q => φ q ^^ ψ q) W : Int) := by
  rw [Bits.bitXor_pp (Int.natCast_nonneg _) (Int.natCast_nonneg _), Int.toNat_natCast, Int.toNat_natCast]
  congr 1
  refine Nat.eq_of_testBit_eq fun q => ?_
  rw [Nat.testBit_xor, mkN_bit, mkN_bit, mkN_bit]
  cases decide (q < W) <;> simp
theorem mkN_congr {φ ψ : Nat → Bool} {W : Nat} (h : ∀ q, q < W → φ q = ψ q) : mkN φ W = mkN ψ W := Nat.eq_of_testBit_eq fun q => by
  rw [mkN_bit, mkN_bit]
  by_cases c : q < W
  · rw [h q c]
  · rw [decide_eq_false c]
    rfl
theorem full_mk (W : Nat) : (2 : Int) ^ W - 1 = mkN (fun _ => true) W := (IsM.full W).mk
theorem mkN_zero {W : Nat} : mkN (fun _ => false) W = 0 := Nat.eq_of_testBit_eq fun q => by rw [mkN_bit, Nat.zero_testBit, Bool.and_false]
section
variable {P : Program} {w : World} {K : PySem.W.Frag} {mg : Str → Option Value} {base : Heap} {A : Adr}
/-! ### _shares -/
/-- a ladder with combs -/
def CombOk (W : Nat) (es : List LE) : Prop := es.length < sizeLine ∧ ∀ e ∈ es, 1 ≤ e.s ∧ e.s.toNat ∣ W ∧ e.c = mkN (isC e.s.toNat) W
def spShr : Sp := fun vs H Q _ => ∃ (k : Ky) (ka la : Addr) (L : Int) (W : Nat) (es : List LE), vs = [.ref ka, .ref la, .int L, .int ((mkN (fun _ => true) W : Nat) : Int)] ∧ KyAt H k ka ∧ LadK 3 H (.ref la) es ∧ CombOk W es ∧ 0 < W ∧ W ≤ 2 ^ 26 ∧ 0 ≤ k.2.2 ∧ k.2.2 < 2 ^ 60 ∧
  ∀ (H' : Hp) (l : Addr), Same H H' → H l = none → LadK 4 H' (.ref l) (shL W k.1 k.2.2 L (fun _ => true) es) → Q (.ref l) H'
abbrev nm_shares : List Str := ["key", "ladder", "length", "full", "kind", "_", "most", "left", "shares", "step", "size", "comb", "taken"]
theorem sc_shares : FnScope ["key", "ladder", "length", "full", "kind", "_", "most", "left", "shares", "step", "size", "comb", "taken"] ["key", "ladder", "length", "full"] (defScope s_shares) := ⟨rfl, rfl, rfl, by decide +kernel, rfl, by decide +kernel, by decide +kernel⟩
theorem ok_shr (T : Txt K mg A w) : FnOk P w K mg base CX0 3 A.a_shares A.d_shares ["key", "ladder", "length", "full"] spShr := by
  have G_fitting_mask : FnOk P w K mg base CX0 2 A.a_fitting_mask A.d_fitting_mask ["kind", "most", "size", "comb", "length"] spFitM := ok_fitM T
  refine T.F_shares.ok sc_shares (fun vs H Q E h => ?_) (fun cdv A0 outer s H vs Q E hr h => ?_)
  · obtain ⟨k, ka, la, L, W, es, rfl, _⟩ := h
    rfl
  · obtain ⟨k, ka, la, L, W, es, rfl, ⟨tm, hka, htm⟩, ⟨la', as, e1, hla, les⟩, ⟨eB, ok⟩, W0, WB, m0, mB, q⟩ := h
    cases e1
    refine ⟨_, (pss_cons (ps_asg (pv 0) (pg_tup (by rfl) (pgs_cons (pg_name (i := 4) sc_shares.nd rfl (Or.inl rfl)) (pgs_cons (pg_name (i := 5) sc_shares.nd rfl (Or.inl rfl)) (pgs_cons (pg_name (i := 6) sc_shares.nd rfl (Or.inl rfl)) pgs_nil)))))
  (pss_cons (ps_set (i := 7) sc_shares.nd rfl (Or.inl rfl) (pv 3))
  (pss_cons (ps_set (i := 8) sc_shares.nd rfl (Or.inl rfl) (pe_lst pa_nil))
  (pss_cons (ps_for PassesOwn.never rfl (pi_list (pv 1)) (pg_tup (by rfl) (pgs_cons (pg_name (i := 9) sc_shares.nd rfl (Or.inl rfl)) (pgs_cons (pg_name (i := 10) sc_shares.nd rfl (Or.inl rfl)) (pgs_cons (pg_name (i := 11) sc_shares.nd rfl (Or.inl rfl)) pgs_nil))))
  (pss_cons (ps_set (i := 12) sc_shares.nd rfl (Or.inl rfl) (pe_op op_and (pv 7) (pe_call G_fitting_mask (hr.mono (by decide)) (by rfl) T.m_fitting_mask T.F_fitting_mask.kp T.B_fitting_mask .nil pass0 (pa_cons (pv 4) (pa_cons (pv 6) (pa_cons (pv 10) (pa_cons (pv 11) (pa_cons (pv 2) pa_nil))))))))
  (pss_one (ps_if (pt_cmpR op_ne (pv 12) pe_int (nomark _)) (pss_cons (ps_expr (pe_bm PySem.F.plainAttrs_list PySem.F.slot_list_append PySem.F.type_list_append mt_append (pv 8) (pa_cons (pe_tup (pa_cons (pv 9) (pa_cons (pv 10) (pa_cons (pv 11) (pa_cons (pv 12) pa_nil))))) pa_nil)))
  (pss_one (ps_set (i := 7) sc_shares.nd rfl (Or.inl rfl) (pe_op op_xor (pv 7) (pv 12))))) pss_nil))))
  (pss_one (ps_ret (pv 8))))))), ?_⟩
    refine ⟨_, rfl, ka, _, rfl, SqT.of hka, rfl, _, _, rfl, _, _, rfl, _, _, rfl, rfl, ?_⟩
    refine ⟨_, rfl, ?_⟩
    refine ⟨Nat.zero_le _, fun sl hsl => ?_⟩
    refine gN (σ' := [some (.ref ka), some (.ref la), some (.int L), some (.int ((mkN (fun _ => true) W : Nat) : Int)), some (.str k.1.s), some (.ref tm), some (.int k.2.2), some (.int ((mkN (fun _ => true) W : Nat) : Int)), some (.ref sl), none, none, none, none]) rfl ?_
    have s1 := same_new (o := .lst []) hsl
    refine ⟨_, rfl, la, rfl, ⟨_, SqL.of (s1 _ _ hla)⟩, for_list (K := K) (a := la) (xs := as.map V.ref) (fun i σ H' => ∃ (v9 v10 v11 v12 : Option V) (us : List Addr), σ = [some (.ref ka), some (.ref la), some (.int L), some (.int ((mkN (fun _ => true) W : Nat) : Int)), some (.str k.1.s), some (.ref tm), some (.int k.2.2), some (.int ((mkN (leftB k.1 k.2.2 L (es.take i)) W : Nat) : Int)), some (.ref sl), v9, v10, v11, v12] ∧
        (∀ c o, H c = some o → H' c = some o) ∧ H' sl = some (.lst (us.map V.ref)) ∧ us.length ≤ i ∧ LEsAt 4 H' (shL W k.1 k.2.2 L (fun _ => true) (es.take i)) us)
      ⟨none, none, none, none, [], rfl, fun c o e => s1 _ _ e, upd_same, Nat.le_refl _, .nil⟩ (fun i σ H' _ ⟨_, _, _, _, _, _, kp, _⟩ => SqL.of (kp _ _ hla)) ?_ ?_⟩
    · rintro i y σ H1 hy ⟨v9, v10, v11, v12, us, rfl, kp, eL, ul, us4⟩
      obtain ⟨a, ha, rfl⟩ := ref_get hy
      obtain ⟨z, hz, sa, hat, hsa⟩ := paired_at les ha
      have tz : es.take (i + 1) = es.take i ++ [z] := by
        rw [List.take_add_one, hz]
        rfl
      obtain ⟨z1, ⟨n, hn⟩, zc⟩ := ok z (List.mem_of_getElem? hz)
      have ez : ((z.s.toNat : Nat) : Int) = z.s := by omega
      refine ⟨a, _, rfl, SqT.of (kp _ _ hat), rfl, _, _, rfl, _, _, rfl, _, _, rfl, rfl, ?_⟩
      refine norm2 (σ' := [some (.ref ka), some (.ref la), some (.int L), some (.int ((mkN (fun _ => true) W : Nat) : Int)), some (.str k.1.s), some (.ref tm), some (.int k.2.2), some (.int ((mkN (leftB k.1 k.2.2 L (es.take i)) W : Nat) : Int)), some (.ref sl), some (.ref sa), some (.int z.s), some (.int z.c), v12]) rfl ?_
      have n0 : 0 < n := Nat.pos_of_ne_zero fun h => by
        rw [h, Nat.mul_zero] at hn
        omega
      refine ⟨_, rfl, _, rfl, _, rfl, _, rfl, _, rfl, _, rfl, k.1, k.2.2, z.c, L, z.s.toNat, n, by rw [ez]; rfl, ?_, by omega, by omega, ?_, m0, mB, fun M hM => ?_⟩
      · rw [← hn, zc]
        exact mkN_is _ _
      · exact Nat.le_mul_of_pos_right _ n0
      rw [← hn] at hM
      have eM := hM.mk
      subst eM
      have eF : fitB k.1 k.2.2 z.s.toNat L = fitQ k.1 k.2.2 L z.s := by
        funext q
        unfold fitB fitQ
        rw [ez]
      have ev : Builtin.bitAnd ((mkN (leftB k.1 k.2.2 L (es.take i)) W : Nat) : Int) ((mkN (fitB k.1 k.2.2 z.s.toNat L) W : Nat) : Int) = ((mkN (fun q => leftB k.1 k.2.2 L (es.take i) q && fitQ k.1 k.2.2 L z.s q) W : Nat) : Int) := by
        rw [eF]
        exact mk_and _ _ _
      refine ⟨_, _, rfl, rfl, ?_⟩
      show gName 12 (V.int (Builtin.bitAnd ((mkN (leftB k.1 k.2.2 L (es.take i)) W : Nat) : Int) ((mkN (fitB k.1 k.2.2 z.s.toNat L) W : Nat) : Int))) _ _ _
      rw [ev]
      have sn : shL W k.1 k.2.2 L (fun _ => true) (es.take (i + 1)) = shL W k.1 k.2.2 L (fun _ => true) (es.take i) ++ (if mkN (fun q => leftB k.1 k.2.2 L (es.take i) q && fitQ k.1 k.2.2 L z.s q) W = 0 then [] else [{ z with t := mkN (fun q => leftB k.1 k.2.2 L (es.take i) q && fitQ k.1 k.2.2 L z.s q) W }]) := by
        rw [tz, shL_snoc]
        simp only [Bool.true_and]
      have lf : ∀ q, leftB k.1 k.2.2 L (es.take (i + 1)) q = (leftB k.1 k.2.2 L (es.take i) q && !fitQ k.1 k.2.2 L z.s q) := fun q => by
        rw [tz]
        unfold leftB
        rw [List.all_append, List.all_cons, List.all_nil, Bool.and_true]
      generalize eG : (fun q => leftB k.1 k.2.2 L (es.take i) q && fitQ k.1 k.2.2 L z.s q) = G at *
      refine gN (σ' := [some (.ref ka), some (.ref la), some (.int L), some (.int ((mkN (fun _ => true) W : Nat) : Int)), some (.str k.1.s), some (.ref tm), some (.int k.2.2), some (.int ((mkN (leftB k.1 k.2.2 L (es.take i)) W : Nat) : Int)), some (.ref sl), some (.ref sa), some (.int z.s), some (.int z.c), some (.int ((mkN G W : Nat) : Int))]) rfl ?_
      refine ⟨_, rfl, rfl, _, rfl, ?_⟩
      show if (!decide (V.int ((mkN G W : Nat) : Int) = V.int 0)) = true then _ else _
      by_cases c : mkN G W = 0
      · rw [c, show (!decide (V.int ((0 : Nat) : Int) = V.int 0)) = false from by decide +kernel]
        refine iteF ⟨some (.ref sa), some (.int z.s), some (.int z.c), some (.int ((0 : Nat) : Int)), us, ?_, kp, eL, by omega, ?_⟩
        · have el : mkN (leftB k.1 k.2.2 L (es.take i)) W = mkN (leftB k.1 k.2.2 L (es.take (i + 1))) W := mkN_congr fun q hq => by
            rw [lf q]
            have z0 := mkN_bit G W q
            rw [c, Nat.zero_testBit, decide_eq_true hq, Bool.true_and, ← eG] at z0
            cases h1 : leftB k.1 k.2.2 L (es.take i) q
            · rfl
            · have z0 : false = (leftB k.1 k.2.2 L (es.take i) q && fitQ k.1 k.2.2 L z.s q) := z0
              rw [h1, Bool.true_and] at z0
              rw [← z0]
              rfl
          rw [el]
        · rw [sn, if_pos c, List.append_nil]
          exact us4
      · rw [show (!decide (V.int ((mkN G W : Nat) : Int) = V.int 0)) = true from by rw [decide_eq_false fun h => c (by have := V.int.inj h; omega)]; rfl]
        refine iteT ?_
        refine ⟨_, rfl, .inl ⟨rfl, _, SqL.of eL⟩, _, rfl, _, rfl, _, rfl, _, rfl, (by show 4 ≤ sizeLine; decide), fun u hu => ?_⟩
        have s3 := same_new (o := .tup [.ref sa, .int z.s, .int z.c, .int ((mkN G W : Nat) : Int)]) hu
        have iB : i < es.length := (List.getElem?_eq_some_iff.mp hz).1
        have eL3 := s3 _ _ eL
        refine ⟨sl, _, _, rfl, rfl, eL3, by rw [List.length_map]; omega, ?_⟩
        have ex : Builtin.bitXor ((mkN (leftB k.1 k.2.2 L (es.take i)) W : Nat) : Int) ((mkN G W : Nat) : Int) = ((mkN (leftB k.1 k.2.2 L (es.take (i + 1))) W : Nat) : Int) := by
          rw [mk_xor]
          congr 1
          refine mkN_congr fun q _ => ?_
          rw [lf q, ← eG]
          show (leftB k.1 k.2.2 L (es.take i) q ^^ (leftB k.1 k.2.2 L (es.take i) q && fitQ k.1 k.2.2 L z.s q)) = _
          cases leftB k.1 k.2.2 L (es.take i) q <;> cases fitQ k.1 k.2.2 L z.s q <;> rfl
        refine ⟨_, rfl, _, rfl, _, _, rfl, rfl, ?_⟩
        have nuL : u ≠ sl := fun e => by
          rw [e, eL] at hu
          cases hu
        refine ⟨some (.ref sa), some (.int z.s), some (.int z.c), some (.int ((mkN G W : Nat) : Int)), us ++ [u], ?_, fun c o e => ?_, by rw [upd_same, List.map_append]; rfl, by rw [List.length_append]; show us.length + 1 ≤ i + 1; omega, ?_⟩
        · rw [← ex]
          rfl
        · rw [upd_ne (ne_of_none e hsl)]
          exact s3 _ _ (kp c o e)
        · rw [sn, if_neg c]
          have nL : ∀ {c : Addr} {ys : List V}, H1 c = some (.tup ys) → c ≠ sl := fun e => ne_of e eL (by intro z; cases z)
          refine Paired.snoc (Paired.mapP us4 fun x y ⟨sb, h1, h2⟩ => ⟨sb, ?_, ?_⟩) ⟨sa, ?_, ?_⟩
          · rw [upd_ne (nL h1)]
            exact s3 _ _ h1
          · rw [upd_ne (nL h2)]
            exact s3 _ _ h2
          · rw [upd_ne nuL, upd_same]
            rfl
          · rw [upd_ne (nL (kp _ _ hsa))]
            exact s3 _ _ (kp _ _ hsa)
    · rintro σ H1 ⟨v9, v10, v11, v12, us, rfl, kp, eL, ul, us4⟩
      rw [List.length_map, ← Paired.length les, List.take_length] at us4
      exact ⟨_, rfl, q H1 sl kp hsl ⟨sl, us, rfl, eL, us4⟩⟩
/-! ### row_of -/
theorem tab_of {α : Type} {F : Ky → α} : ∀ {tab : List (Ky × α)} {ks : List Ky}, tab.map (·.1) = ks → (∀ t ∈ tab, t.2 = F t.1) → tab = ks.map fun k => (k, F k)
  | [], _, rfl, _ => rfl
  | (k, y) :: r, _, rfl, h => by
    have e : y = F k := h _ (List.mem_cons_self ..)
    rw [List.map_cons, List.map_cons, e, ← tab_of (tab := r) rfl fun t ht => h t (List.mem_cons_of_mem _ ht)]
theorem ladOf_mem : ∀ {tab : Tb} {t : Ky × List LE}, (tab.map (·.1)).Nodup → t ∈ tab → ladOf tab t.1 = t.2
  | u :: r, t, nd, h => by
    unfold ladOf
    rw [List.find?_cons]
    rw [List.map_cons, List.nodup_cons] at nd
    rcases List.mem_cons.mp h with e | m
    · rw [e, decide_eq_true rfl]
      rfl
    · have ne : u.1 ≠ t.1 := fun e => nd.1 (by rw [e]; exact List.mem_map_of_mem (f := fun t : Ky × List LE => t.1) m)
      rw [decide_eq_false ne]
      exact ladOf_mem nd.2 m
theorem walk_na {w : World} {d : Addr} {o : Obj} {kvs : List ND.Ent} : Walk (ND.Itn w d o kvs) kvs.length (fun H => H d = some (.frz o (ND.dnO w kvs d))) (fun i H x H' => H' = H ∧ ∃ a, (kvs.map (·.2.1))[i]? = some a ∧ x = .ref a) :=
  ⟨ND.walk_n.goes, ND.walk_n.stops, fun i H x H' hi g y => by
    obtain ⟨e, e1, he, ex⟩ := ND.walk_n.yields i H x H' hi g y
    exact ⟨e, e1.2.1, by rw [List.getElem?_map, he]; rfl, ex⟩⟩
def rowT (W : Nat) (L : Int) (tab : Tb) : Tb := tab.map fun t => (t.1, shL W t.1.1 t.1.2.2 L (fun _ => true) t.2)
def spRow (w : World) : Sp := fun vs H Q _ => ∃ (d : Addr) (L : Int) (W : Nat) (tab : Tb) (od : Obj) (kvs : List ND.Ent), vs = [.int L, .int (W : Nat), .ref d] ∧ TabAt w (LadK 3) H d tab od kvs ∧ 0 < W ∧ W ≤ 2 ^ 26 ∧ tab.length ≤ 1000 ∧
  (∀ t ∈ tab, CombOk W t.2 ∧ 0 ≤ t.1.2.2 ∧ t.1.2.2 < 2 ^ 60) ∧
  ∀ (H' : Hp) (q D : Addr) (od' : Obj) (kvs' : List ND.Ent), Same H H' → H q = none → H' q = some (.tup [.int L, .int ((mkN (fun _ => true) W : Nat) : Int), .ref D]) → TabAt w (LadK 4) H' D (rowT W L tab) od' kvs' → Q (.ref q) H'
abbrev nm_row_of : List Str := ["length", "width", "ladders", "full", "key"]
theorem sc_row_of : FnScope ["length", "width", "ladders", "full", "key"] ["length", "width", "ladders"] (defScope s_row_of) := ⟨rfl, rfl, rfl, by decide +kernel, rfl, by decide +kernel, by decide +kernel⟩
theorem ok_row (T : Txt K mg A w) : FnOk P w K mg base CX0 4 A.a_row_of A.d_row_of ["length", "width", "ladders"] (spRow w) := by
  have G_shares : FnOk P w K mg base CX0 3 A.a_shares A.d_shares ["key", "ladder", "length", "full"] spShr := ok_shr T
  refine T.F_row_of.ok sc_row_of (fun vs H Q E h => ?_) (fun cdv A0 outer s H vs Q E hr h => ?_)
  · obtain ⟨d, L, W, tab, od, kvs, rfl, _⟩ := h
    rfl
  · obtain ⟨d, L, W, tab, od, kvs, rfl, TA, W0, WB, tl, ok, q⟩ := h
    have hu := ND.room9 hr
    refine ⟨_, (pss_cons (ps_set (i := 3) sc_row_of.nd rfl (Or.inr rfl) (pe_op op_sub (pe_op op_shlW pe_int (pv 1)) pe_int))
  (pss_one (ps_ret (pe_tup (pa_cons (pv 0) (pa_cons (pv 3) (pa_cons (ND.pe_seal (ND.pe_dcN (own := [("key", 4)]) (g := gName 4) (tt := tYes) rfl sc_row_of.nd hu (ND.pi_keysN (pv 2)) (blkOk_by (own := [("key", 4)]) (N := nm_row_of) (sc := defScope s_row_of) (by decide +kernel)) (fun _ _ _ _ _ => (pg_name (i := 4) sc_row_of.nd rfl (Or.inl rfl))) (fun _ _ _ _ _ => pts_nil) (fun _ _ _ _ _ => (pv 4)) (fun _ _ _ _ _ => (pe_call G_shares (hr.mono (by decide)) (by rfl) T.m_shares T.F_shares.kp T.B_shares .nil pass0 (pa_cons (pv 4) (pa_cons (ND.pe_getW w hu (pv 2) (pv 4) (fun _ _ => rfl)) (pa_cons (pv 0) (pa_cons (pv 3) pa_nil)))))))) pa_nil))))))), ?_⟩
    have e26 : (2 : Nat) ^ 26 = 67108864 := by decide
    have eF : (V.int ((1 : Int) * 2 ^ ((W : Int)).toNat - 1)) = V.int ((mkN (fun _ => true) W : Nat) : Int) := by
      rw [Int.toNat_natCast, Int.one_mul, full_mk]
    have hb1 : Builtin.Int.intBits 1 = 1 := by decide
    refine ⟨_, rfl, 1, (W : Int), rfl, rfl, ⟨by omega, by rw [hb1]; have : (2 : Int) ^ 27 = 134217728 := by decide
                                                          omega⟩, _, _, rfl, rfl, ?_⟩
    show gName 3 (V.int (1 * 2 ^ ((W : Int)).toNat - 1)) _ _ _
    rw [eF]
    refine gN (σ' := [some (.int L), some (.int W), some (.ref d), some (.int ((mkN (fun _ => true) W : Nat) : Int)), none]) rfl ?_
    refine ⟨_, rfl, _, rfl, ⟨_, rfl, d, od, kvs, rfl, TA.at_, TA.dn.sys, fun D hD sys => ?_⟩⟩
    refine dcK (PK := LadK 4) (R := fun k x => x = shL W k.1 k.2.2 L (fun _ => true) (ladOf tab k)) (as := kvs.map (·.2.1)) (ks := tab.map (·.1)) walk_na ?_ (fun H' k => k _ _ TA.at_) hD sys TA.keys TA.nd ?_ LadK.mono (by show 4 < 5; decide) ?_ ?_
    · rw [List.length_map]
      exact TA.len
    · rw [List.length_map]
      exact tl
    · intro H4 k a Qc kp hk hmem fin
      obtain ⟨t, ht, rfl⟩ := List.mem_map.mp hmem
      have TA4 : TabAt w (LadK 3) H4 d tab od kvs := TA.same LadK.mono kp
      obtain ⟨v, hv, lv⟩ := TA4.get (k := t.1) (y := t.2) ht
      obtain ⟨ok1, ok2, ok3⟩ := ok t ht
      have lv' := lv
      obtain ⟨la, as, rfl, _⟩ := lv'
      refine ⟨_, rfl, _, rfl, _, rfl, d, a, kvs, kyN t.1, .ref la, rfl, rfl, TA4.dn, hk.nk, kyN_depth _, hv, _, rfl, _, rfl, t.1, a, la, L, W, t.2, rfl, hk, lv, ok1, W0, WB, ok2, ok3, fun H5 l s5 hl r5 => ?_⟩
      exact fin (.ref l) H5 _ s5 r5 (by rw [ladOf_mem TA.nd ht])
    · intro H' kv2 tab2 kp eD dn pr tk rr
      have et : tab2 = rowT W L tab := by
        rw [tab_of (F := fun k => shL W k.1 k.2.2 L (fun _ => true) (ladOf tab k)) tk rr]
        unfold rowT
        rw [List.map_map]
        refine List.map_congr_left fun t ht => ?_
        show (t.1, _) = (t.1, _)
        rw [ladOf_mem TA.nd ht]
      subst et
      refine ⟨D, _, rfl, eD, trivial, fun od2 => ?_⟩
      refine ⟨(by show 3 ≤ sizeLine; decide), fun r hr2 => ?_⟩
      have s5 := same_new (o := .tup [.int L, .int ((mkN (fun _ => true) W : Nat) : Int), .ref D]) hr2
      have TA3 := TabAt.sealed (PK := LadK 4) LadK.mono (od := od2) eD dn pr
      have kq : Same H (upd H' D (.frz od2 (ND.dnO w kv2 D))) := fun c o e => by
        rw [upd_ne (ne_of_none e hD)]
        exact kp c o e
      exact q _ r D od2 kv2 (kq.trans s5) (kq.free hr2) upd_same (TA3.same LadK.mono s5)
end
end Ax

namespace Ax
open PySem L2
theorem absH {F : Hp → Prop} {H : Hp} (P : Hp → Prop) (p : P H) (h : ∀ H', P H' → F H') : F H := h H p
/-- the steps that count between two bounds -/
def cntL (k : Kd) (n F p : Int) : List LE → List LE
  | [] => []
  | e :: r => (if nevZ k n e.s F = true then [] else [e]) ++ (if alwZ k n (2 * e.s) (2 * p - 1) = true then [] else cntL k n F p r)
theorem cntL_cons {k : Kd} {n F p : Int} {e : LE} {r : List LE} : cntL k n F p (e :: r) = (if nevZ k n e.s F = true then [] else [e]) ++ (if alwZ k n (2 * e.s) (2 * p - 1) = true then [] else cntL k n F p r) := rfl
theorem cntL_mem {k : Kd} {n F p : Int} : ∀ {es : List LE} {e : LE}, e ∈ cntL k n F p es → e ∈ es
  | x :: r, e, h => by
    unfold cntL at h
    rcases List.mem_append.mp h with h | h
    · split at h
      · nomatch h
      · exact List.mem_cons.mpr (.inl (List.mem_singleton.mp h))
    · split at h
      · nomatch h
      · exact List.mem_cons_of_mem _ (cntL_mem h)
theorem cntL_le {k : Kd} {n F p : Int} : ∀ es : List LE, (cntL k n F p es).length ≤ es.length
  | [] => Nat.le_refl _
  | x :: r => by
    unfold cntL
    have := cntL_le (k := k) (n := n) (F := F) (p := p) r
    rw [List.length_append, List.length_cons]
    split <;> split <;> simp <;> omega
section
variable {P : Program} {w : World} {K : PySem.W.Frag} {mg : Str → Option Value} {base : Heap} {A : Adr}
def spCnt : Sp := fun vs H Q _ => ∃ (k : Ky) (ka la : Addr) (F p : Int) (es : List LE), vs = [.ref ka, .ref la, .int F, .int p] ∧ KyAt H k ka ∧ LadK 2 H (.ref la) es ∧ es.length < sizeLine ∧ 1 ≤ k.2.2 ∧ k.2.2 < 2 ^ 60 ∧ (∀ e ∈ es, 0 ≤ e.s ∧ e.s < 2 ^ 60) ∧ 0 ≤ p ∧ p < 2 ^ 60 ∧
  ∀ (H' : Hp) (l : Addr), Same H H' → H l = none → LadK 2 H' (.ref l) (cntL k.1 k.2.2 F p es) → Q (.ref l) H'
abbrev nm_counting : List Str := ["key", "steps", "first", "past", "kind", "_", "most", "counting", "step", "size"]
theorem sc_counting : FnScope ["key", "steps", "first", "past", "kind", "_", "most", "counting", "step", "size"] ["key", "steps", "first", "past"] (defScope s_counting) := ⟨rfl, rfl, rfl, by decide +kernel, rfl, by decide +kernel, by decide +kernel⟩
theorem ok_cnt (T : Txt K mg A w) : FnOk P w K mg base CX0 3 A.a_counting A.d_counting ["key", "steps", "first", "past"] spCnt := by
  have G_never_fits : FnOk P w K mg base CX0 1 A.a_never_fits A.d_never_fits ["kind", "most", "size", "length"] spNev := ok_nev T
  have G_always_fits : FnOk P w K mg base CX0 1 A.a_always_fits A.d_always_fits ["kind", "most", "size", "length"] spAlw := ok_alw T
  refine T.F_counting.ok sc_counting (fun vs H Q E h => ?_) (fun cdv A0 outer s H vs Q E hr h => ?_)
  · obtain ⟨k, ka, la, F, p, es, rfl, _⟩ := h
    rfl
  · obtain ⟨k, ka, la, F, p, es, rfl, ⟨tm, hka, htm⟩, ⟨la', as, e1, hla, les⟩, eB, m1, mB, ok, p0, pB, q⟩ := h
    cases e1
    refine ⟨_, (pss_cons (ps_asg (pv 0) (pg_tup (by rfl) (pgs_cons (pg_name (i := 4) sc_counting.nd rfl (Or.inl rfl)) (pgs_cons (pg_name (i := 5) sc_counting.nd rfl (Or.inl rfl)) (pgs_cons (pg_name (i := 6) sc_counting.nd rfl (Or.inl rfl)) pgs_nil)))))
  (pss_cons (ps_set (i := 7) sc_counting.nd rfl (Or.inl rfl) (pe_lst pa_nil))
  (pss_cons (ps_for PassesOwn.never rfl (pi_list (pv 1)) (pg_tup (by rfl) (pgs_cons (pg_name (i := 8) sc_counting.nd rfl (Or.inl rfl)) (pgs_cons (pg_name (i := 9) sc_counting.nd rfl (Or.inl rfl)) pgs_nil)))
  (pss_cons (ps_if (pt_not (pt_val (pe_call G_never_fits (hr.mono (by decide)) (by rfl) T.m_never_fits T.F_never_fits.kp T.B_never_fits .nil pass0 (pa_cons (pv 4) (pa_cons (pv 6) (pa_cons (pv 9) (pa_cons (pv 2) pa_nil))))))) (pss_one (ps_expr (pe_bm PySem.F.plainAttrs_list PySem.F.slot_list_append PySem.F.type_list_append mt_append (pv 7) (pa_cons (pe_tup (pa_cons (pv 8) (pa_cons (pv 9) pa_nil))) pa_nil)))) pss_nil)
  (pss_one (ps_if (pt_val (pe_call G_always_fits (hr.mono (by decide)) (by rfl) T.m_always_fits T.F_always_fits.kp T.B_always_fits .nil pass0 (pa_cons (pv 4) (pa_cons (pv 6) (pa_cons (pe_op op_mulW pe_int (pv 9)) (pa_cons (pe_op op_sub (pe_op op_mulW pe_int (pv 3)) pe_int) pa_nil)))))) (pss_one (ps_ret (pv 7))) pss_nil))))
  (pss_one (ps_ret (pv 7)))))), ?_⟩
    have e60 : (2 : Int) ^ 60 = 1152921504606846976 := by decide
    refine ⟨_, rfl, ka, _, rfl, SqT.of hka, rfl, _, _, rfl, _, _, rfl, _, _, rfl, rfl, ?_⟩
    refine ⟨Nat.zero_le _, fun sl hsl => ?_⟩
    refine gN (σ' := [some (.ref ka), some (.ref la), some (.int F), some (.int p), some (.str k.1.s), some (.ref tm), some (.int k.2.2), some (.ref sl), none, none]) rfl ?_
    have s1 := same_new (o := .lst []) hsl
    refine ⟨_, rfl, la, rfl, ⟨_, SqL.of (s1 _ _ hla)⟩, for_list (K := K) (a := la) (xs := as.map V.ref) (fun i σ H' => ∃ (v8 v9 : Option V) (acc : List LE) (us : List Addr), σ = [some (.ref ka), some (.ref la), some (.int F), some (.int p), some (.str k.1.s), some (.ref tm), some (.int k.2.2), some (.ref sl), v8, v9] ∧
        (∀ c o, H c = some o → H' c = some o) ∧ H' sl = some (.lst (us.map V.ref)) ∧ acc.length ≤ i ∧ LEsAt 2 H' acc us ∧ cntL k.1 k.2.2 F p es = acc ++ cntL k.1 k.2.2 F p (es.drop i))
      ⟨none, none, [], [], rfl, fun c o e => s1 _ _ e, upd_same, Nat.le_refl _, .nil, rfl⟩ (fun i σ H' _ ⟨_, _, _, _, _, kp, _⟩ => SqL.of (kp _ _ hla)) ?_ ?_⟩
    · rintro i y σ H1 hy ⟨v8, v9, acc, us, rfl, kp, eL, ul, us2, ea⟩
      obtain ⟨a, ha, rfl⟩ := ref_get hy
      obtain ⟨z, hz, sa, hat, hsa⟩ := paired_at les ha
      obtain ⟨z0, zB⟩ := ok z (List.mem_of_getElem? hz)
      obtain ⟨iB, ez⟩ := List.getElem?_eq_some_iff.mp hz
      have dz : es.drop i = z :: es.drop (i + 1) := by rw [List.drop_eq_getElem_cons iB, ez]
      have lus := Paired.length us2
      refine ⟨a, _, rfl, SqT.of (kp _ _ hat), rfl, _, _, rfl, _, _, rfl, rfl, ?_⟩
      refine norm2 (σ' := [some (.ref ka), some (.ref la), some (.int F), some (.int p), some (.str k.1.s), some (.ref tm), some (.int k.2.2), some (.ref sl), some (.ref sa), some (.int z.s)]) rfl ?_
      have big1 : z.s < BIG := lt_big (n := 60) (i := z.s) (by omega) (by decide)
      have e61 : (2 : Int) ^ 61 = 2305843009213693952 := by decide
      have big2 : 2 * z.s < BIG := lt_big (n := 61) (i := 2 * z.s) (by omega) (by decide)
      have m2 : ∀ x : Int, 0 ≤ x → x < 2 ^ 60 → CMulW 2 x := fun x h0 h1 => wide_mul (a := 2) (b := 61) (by decide) (Nat.lt_trans (abs_lt_pow (k := 60) h0 h1) (by decide)) (by decide) (by decide) (by decide)
      refine ⟨_, rfl, _, rfl, _, rfl, _, rfl, k.1, k.2.2, z.s, F, rfl, by omega, mB, z0, big1, _, rfl, ?_⟩
      show if (!nevZ k.1 k.2.2 z.s F) = true then _ else _
      let P2 : Hp → Prop := fun H2 => ∃ (acc2 : List LE) (us3 : List Addr), (∀ c o, H c = some o → H2 c = some o) ∧ H2 sl = some (.lst (us3.map V.ref)) ∧ acc2.length ≤ i + 1 ∧ LEsAt 2 H2 acc2 us3 ∧ cntL k.1 k.2.2 F p es = acc2 ++ (if alwZ k.1 k.2.2 (2 * z.s) (2 * p - 1) = true then [] else cntL k.1 k.2.2 F p (es.drop (i + 1)))
      rw [dz, cntL_cons] at ea
      cases eN : nevZ k.1 k.2.2 z.s F
      case' false =>
        rw [eN] at ea
        refine iteT ?_
        refine ⟨_, rfl, .inl ⟨rfl, _, SqL.of eL⟩, _, rfl, _, rfl, (by show 2 ≤ sizeLine; decide), fun u hu => ?_⟩
        have s3 := same_new (o := .tup [.ref sa, .int z.s]) hu
        have eL3 := s3 _ _ eL
        refine ⟨sl, _, _, rfl, rfl, eL3, by rw [List.length_map]; omega, ?_⟩
        have nuL : u ≠ sl := fun e => by
          rw [e, eL] at hu
          cases hu
        have nL : ∀ {c : Addr} {ys : List V}, H1 c = some (.tup ys) → c ≠ sl := fun e => ne_of e eL (by intro z; cases z)
        refine absH P2 ⟨acc ++ [z], us ++ [u], fun c o e => ?_, by rw [upd_same, List.map_append]; rfl, by rw [List.length_append]; show acc.length + 1 ≤ i + 1; omega, Paired.snoc (Paired.mapP us2 fun x y ⟨sb, h1, h2⟩ => ⟨sb, ?_, ?_⟩) ⟨sa, ?_, ?_⟩, ?_⟩ ?_
        · rw [upd_ne (ne_of_none e hsl)]
          exact s3 _ _ (kp c o e)
        · rw [upd_ne (nL h1)]
          exact s3 _ _ h1
        · rw [upd_ne (nL h2)]
          exact s3 _ _ h2
        · rw [upd_ne nuL, upd_same]
          rfl
        · rw [upd_ne (nL (kp _ _ hsa))]
          exact s3 _ _ (kp _ _ hsa)
        · rw [ea, List.append_assoc]
          rfl
      case' true =>
        rw [eN] at ea
        refine iteF ?_
        refine absH P2 ⟨acc, us, kp, eL, by omega, us2, ?_⟩ ?_
        · rw [ea]
          rfl
      all_goals
        rintro H2 ⟨acc2, us3, kp2, eL2, al2, us4, ea2⟩
        refine ⟨_, rfl, _, rfl, _, rfl, _, _, rfl, rfl, m2 _ z0 zB, _, rfl, _, _, rfl, rfl, m2 _ p0 pB, _, _, rfl, rfl, k.1, k.2.2, 2 * z.s, 2 * p - 1, rfl, m1, mB, by omega, big2, _, rfl, ?_⟩
        show if alwZ k.1 k.2.2 (2 * z.s) (2 * p - 1) = true then _ else _
        by_cases c : alwZ k.1 k.2.2 (2 * z.s) (2 * p - 1) = true
        · rw [if_pos c] at ea2 ⊢
          rw [List.append_nil] at ea2
          exact ⟨_, rfl, q H2 sl kp2 hsl (by rw [ea2]; exact ⟨sl, us3, rfl, eL2, us4⟩)⟩
        · rw [if_neg c] at ea2 ⊢
          exact ⟨_, _, acc2, us3, rfl, kp2, eL2, al2, us4, ea2⟩
    · rintro σ H1 ⟨v8, v9, acc, us, rfl, kp, eL, ul, us2, ea⟩
      rw [List.length_map, ← Paired.length les, List.drop_length] at ea
      have ea : cntL k.1 k.2.2 F p es = acc ++ [] := ea
      rw [List.append_nil] at ea
      exact ⟨_, rfl, q H1 sl kp hsl (by rw [ea]; exact ⟨sl, us, rfl, eL, us2⟩)⟩
end
end Ax

/-! sorted of a dict of whole numbers with key=int, any length -/
namespace Ax
open PySem PySem.Spec PyProof.Rows L2
section
variable {prog : Program} {w : World} {A : Around} {E : Value → Shared → Prop} {s : Shared} {l D L : Addr} {m : Str → Option Value} {vs : List Value} {ns : List Int} {P : PySem.Fin → Shared → Prop}
theorem lsort_intA (atD : s.heap.get? D = some (seqObj "list" vs.toArray 0)) (allI : IntsAre vs ns) (few : vs.length ≤ sizeLine) (nsL : s.heap.Ns L m) (dif : D ≠ L)
    (fin : ∀ (h : Heap) (tk : Nat) (out : Array Value) (c : Nat) (ms : List Int), (∀ b o, b ≠ L → b ≠ D → s.heap.get? b = some o → h.get? b = some o) → h.Ns L m → h.get? D = some (seqObj "list" out c) → IntsAre out.toList ms → ms.Perm ns → ms.Pairwise (· ≤ ·) →
      P (.done (.ret .none)) { s with heap := h, toks := tk }) :
    wpAny (model prog w) A (Builtin.«list.sort» ⟨[.ref D], [(Str.ofString "key", .type "int")]⟩) P E s := by
  have e0 : Builtin.«list.sort» ⟨[.ref D], [(Str.ofString "key", .type "int")]⟩ = ksk_tree D (.type "int") false := rfl
  rw [e0]
  have none0 : ∀ b, ({ s.heap with objs := #[] } : Heap).get? b = none := fun b => Heap.get?_none_of_le (Nat.zero_le _)
  have ln := allI.length
  refine ksk_sortAny (h₀ := { s.heap with objs := #[] }) (L := L) (m := m) (news := rest2 s.heap L D) (kz := ns) (b := false) ⟨nsL, fun b o e => (by rw [none0] at e; cases e), Nat.zero_le _⟩ (fun p hp => ?_) atD dif (none0 D) (fun p hp => ?_) ln.symm few (fun i v k hv hk h tk own F N => ?_) fun h tk out c F N ko => ?_
  · obtain ⟨b, o⟩ := p
    obtain ⟨h1, _, h3⟩ := mem_rest2.mp hp
    exact ⟨h3, h1, none0 b⟩
  · obtain ⟨b, o⟩ := p
    exact (mem_rest2.mp hp).2.1
  · obtain ⟨t, ht⟩ := allI.get i k hk
    rw [ht] at hv
    obtain rfl := Option.some.inj hv
    exact call_int_int ⟨h, tk, t, rfl, rfl, F, N⟩
  · obtain ⟨ps, pp, po, pw⟩ := ko
    have all := zip_pairs allI
    refine fin h tk out c (ps.map Prod.fst) (fun b o h1 h2 h3 => ?_) F.ns (N (D, seqObj "list" out c) (List.mem_cons_self ..)).1 ?_ ?_ ?_
    · exact (N (b, o) (List.mem_cons_of_mem _ (mem_rest2.mpr ⟨h1, h2, h3⟩))).1
    · rw [po]
      exact ints_of_pairs fun p hp => all p (pp.mem_iff.mp hp)
    · have := pp.map Prod.fst
      rwa [List.map_fst_zip (by omega)] at this
    · rw [List.pairwise_map]
      exact pw
end
section
variable {X : Cx}
theorem sorted_tailA {pins : List (Addr × Obj)} {σ : L2.St} {H : Hp} {s : Shared} {ns : List Int} {vs : List Value} {Q : VK} {E : Value → Shared → Prop} (I : Inv X pins σ H s) (allI : IntsAre vs ns) (few : vs.length ≤ sizeLine)
    (q : ∀ (ms : List Int) (p : Addr), ms.Perm ns → ms.Pairwise (· ≤ ·) → H p = none → Q (.ref p) (upd H p (.lst (ms.map V.int)))) :
    wpAny (model X.prog X.w) X.A.in1 (do
      let l ← newList vs
      let _ ← holding [l] (call (.builtin "list.sort") [l] [(Str.ofString "key", .type "int")])
      (ret l : Sem PySem.Fin)) (fun f s' => ∃ v, f = .done (.ret v) ∧ EP X pins σ Q v s') E s := by
  obtain ⟨mL, nsL, _⟩ := I.loc
  have ltL : X.env.locals < s.heap.objs.size := nsL.lt
  refine wpAny_bind (wpAny_newList ?_ few)
  have at1 : (s.heap.push (seqObj "list" vs.toArray 0)).get? s.heap.objs.size = some (seqObj "list" vs.toArray 0) := Heap.get?_push_size _ rfl
  have k1 : ∀ b o, s.heap.get? b = some o → (s.heap.push (seqObj "list" vs.toArray 0)).get? b = some o := fun b o e => Heap.get?_push_of_some _ e
  have ns1 : (s.heap.push (seqObj "list" vs.toArray 0)).Ns X.env.locals mL := by
    obtain ⟨o, es, ep, e, r⟩ := nsL
    exact ⟨o, es, ep, k1 _ _ e, r⟩
  refine wpAny_bind (wpAny_holding (wpAny_call_entry_kw slot_list_sort ⟨_, at1, rfl⟩ entry_list_sort ?_ (ksk_l1 _ _)))
  refine lsort_intA (s := { s with heap := s.heap.push (seqObj "list" vs.toArray 0) }) at1 allI few ns1 (Nat.ne_of_gt ltL) fun h tk out c ms k n atD iO pm pw => ⟨_, rfl, ?_⟩
  have zl : (ms.map V.int).length ≤ sizeLine := by
    rw [List.length_map, pm.length_eq, ← allI.length]
    exact few
  have J : Inv X pins σ (upd H s.heap.objs.size (.lst (ms.map V.int))) { s with heap := h, toks := tk } :=
    Inv.laidL I (fun b o h1 e => k b o h1 (Nat.ne_of_lt (Heap.lt_size e)) (k1 b o e)) (fun m hm => by rw [ns_same nsL hm]; exact n) (Nat.le_refl _)
      (show ObjOk X.prog X.w _ _ _ (.lst (ms.map V.int)) from ⟨zl, out.toList, c, vals_of_ints iO, by rw [Array.toArray_toList]; exact atD⟩)
  exact wpAny_pure ⟨_, rfl, .ref s.heap.objs.size, _, J, rfl, q ms _ pm pw (I.hok.fresh (Nat.le_refl _))⟩
def rSortDIntA : List V → List V → Hp → VK → Prop := fun vs zs H Q => ∃ (a : Addr) (kvs : List (Key × V)) (ks : List Int), vs = [V.ref a] ∧ zs = [.ty "int"] ∧ Rd H a (.dK kvs) ∧ kvs.map (·.1) = ks.map Sum.inl ∧ ks.length ≤ sizeLine ∧
  ∀ (ms : List Int) (p : Addr), ms.Perm ks → ms.Pairwise (· ≤ ·) → H p = none → Q (.ref p) (upd H p (.lst (ms.map V.int)))
theorem cr_sortDIntA (calm : X.calm = true) : CallRK X (.builtin "sorted") [Str.ofString "key"] rSortDIntA := by
  intro pins s σ H vs zs us ws Q I r rz h
  obtain ⟨a, kvs, ks, rfl, rfl, hd, hks, few, q⟩ := h
  obtain rfl := Vals.ref1 r
  obtain ⟨w1, rfl, e1⟩ := vals1 rz
  obtain rfl : w1 = Value.type "int" := e1
  obtain ⟨z, lo, es, rel, dd⟩ := dk_rd I.hok hd
  obtain ⟨ep, atd⟩ := dd.dictAt
  have keys : es.map (·.1) = ks.map Sum.inl := rel.keys.symm.trans hks
  have ln : es.length = ks.length := by
    have e := congrArg List.length keys
    rwa [List.length_map, List.length_map] at e
  refine call_function_entry_kw kind_sorted plain_sorted entry_sorted (ksk_s1 _ _) ?_
  unfold Builtin.«sorted»
  refine wpAny_bind (m := checkCount "sorted" 1 1 _) (wpAny_pure (wpAny_bind (PySem.W.kdu_collect (A := X.A.in1) (PySem.W.kdl_dict (knd := mixKind X.prog X.w) (kvs := es) (ep := ep) lo) (I.ok.hd calm) atd (by rw [ln]; exact few) fun h1 tk acc hk hacc => ?_)))
  have la : acc.toList.length = ks.length := by rw [Array.length_toList, hacc.1, ln]
  have allI : IntsAre acc.toList ks := ints_each la fun j v e => by
    obtain ⟨k, x, e1, e2⟩ := hacc.2 j v (by rw [← Array.getElem?_toList]; exact e)
    have e3 : (es.map (·.1))[j]? = some k := by
      rw [List.getElem?_map, e1]
      rfl
    rw [keys, List.getElem?_map] at e3
    cases e4 : ks[j]? with
    | none =>
      rw [e4] at e3
      cases e3
    | some y =>
      rw [e4] at e3
      obtain rfl : Sum.inl y = k := Option.some.inj e3
      rcases keyIs_shape (show keyIs (Sum.inl y) v = true from e2) with ⟨i, t, ek, ev⟩ | ⟨z, t, ek, ev⟩
      · cases ek
        exact ⟨y, t, rfl, ev⟩
      · cases ek
  have I1 : Inv X pins σ H { s with heap := h1, toks := tk } := I.kept hk
  exact wpAny_mono (sorted_tailA I1 allI (by rw [la]; exact few) q) (fun f s' ⟨v, e, z⟩ => by rw [e]; exact ⟨v, rfl, z⟩) fun _ _ e => e
end
end Ax

namespace Ax
open PySem L2
/-- how often a kind counts at a bound -/
def timesL : Kd → Int → List Int
  | .ins, n => [n, n + 1]
  | .cov, n => [n - 1, n]
  | .len, n => [n]
theorem times_ok {σ : L2.St} {H : Hp} {Q : VK} (k : Kd) (n : Int) (h6 : σ[6]? = some (some (.str k.s))) (h8 : σ[8]? = some (some (.int n))) (q : ∀ (H' : Hp) (t : Addr), Same H H' → H' t = some (.tup ((timesL k n).map V.int)) → Q (.ref t) H') :
    tDGet (tDisp [(tC (V.str (Str.ofString "inside")), tTup (tCons (tVar 8) (tCons (tOp (rI0 fun i j => V.int (i + j)) (tVar 8) (tC (V.int 1))) tNil))),
      (tC (V.str (Str.ofString "cover")), tTup (tCons (tOp (rI0 fun i j => V.int (i - j)) (tVar 8) (tC (V.int 1))) (tCons (tVar 8) tNil))), (tC (V.str (Str.ofString "length")), tTup (tCons (tVar 8) tNil))]) (tVar 6) σ H Q := by
  intro p hp
  refine ⟨_, h8, _, h8, _, _, rfl, rfl, (by show 2 ≤ sizeLine; decide), fun t1 ht1 => ?_⟩
  refine ⟨_, h8, _, _, rfl, rfl, _, h8, (by show 2 ≤ sizeLine; decide), fun t2 ht2 => ?_⟩
  refine ⟨_, h8, (by show 1 ≤ sizeLine; decide), fun t3 ht3 => ?_⟩
  have n1 : p ≠ t1 := fun e => by rw [← e, upd_same] at ht1; cases ht1
  have n2 : p ≠ t2 := fun e => by rw [← e, upd_ne n1, upd_same] at ht2; cases ht2
  have n3 : p ≠ t3 := fun e => by rw [← e, upd_ne n2, upd_ne n1, upd_same] at ht3; cases ht3
  have s0 := same_new (o := .dK []) hp
  have s1 := same_new (o := .tup [.int n, .int (n + 1)]) ht1
  have s2 := same_new (o := .tup [.int (n - 1), .int n]) ht2
  have s3 := same_new (o := .tup [.int n]) ht3
  have eP := s3 _ _ (s2 _ _ (s1 _ _ (upd_same (H := H) (a := p) (o := .dK []))))
  refine ⟨eP, [(.inr "inside", .ref t1), (.inr "cover", .ref t2), (.inr "length", .ref t3)], rfl, (by show 3 ≤ 15; decide), ?_⟩
  have ic : ¬ ((.inr "inside" : Key) = .inr "cover") := by decide
  have il : ¬ ((.inr "inside" : Key) = .inr "length") := by decide
  have cl : ¬ ((.inr "cover" : Key) = .inr "length") := by decide
  have ci : ¬ ((.inr "cover" : Key) = .inr "inside") := by decide
  have em : mergeK [] [((.inr "inside" : Key), V.ref t1), (.inr "cover", .ref t2), (.inr "length", .ref t3)] = [(.inr "inside", .ref t1), (.inr "cover", .ref t2), (.inr "length", .ref t3)] := by
    have a1 : putK [] (.inr "inside" : Key) (V.ref t1) = [(.inr "inside", .ref t1)] := putK_new _ valV_nil
    have a2 : putK [((.inr "inside" : Key), V.ref t1)] (.inr "cover") (V.ref t2) = [(.inr "inside", .ref t1), (.inr "cover", .ref t2)] := putK_new _ (valV_neg (p := ((.inr "inside" : Key), V.ref t1)) ic)
    have a3 : putK [((.inr "inside" : Key), V.ref t1), (.inr "cover", V.ref t2)] (.inr "length") (V.ref t3) = [(.inr "inside", .ref t1), (.inr "cover", .ref t2), (.inr "length", .ref t3)] := putK_new _ ((valV_neg (p := ((.inr "inside" : Key), V.ref t1)) il).trans (valV_neg (p := ((.inr "cover" : Key), V.ref t2)) cl))
    have e0 : mergeK [] [((.inr "inside" : Key), V.ref t1), (.inr "cover", .ref t2), (.inr "length", .ref t3)] = putK (putK (putK [] (.inr "inside" : Key) (V.ref t1)) (.inr "cover") (V.ref t2)) (.inr "length") (V.ref t3) := rfl
    rw [e0, a1, a2, a3]
  have v1 : valV [((.inr "inside" : Key), V.ref t1), (.inr "cover", .ref t2), (.inr "length", .ref t3)] (.inr "inside") = some (.ref t1) := valV_pos (p := ((.inr "inside" : Key), V.ref t1)) rfl
  have v2 : valV [((.inr "inside" : Key), V.ref t1), (.inr "cover", .ref t2), (.inr "length", .ref t3)] (.inr "cover") = some (.ref t2) := (valV_neg (p := ((.inr "inside" : Key), V.ref t1)) ic).trans (valV_pos (p := ((.inr "cover" : Key), V.ref t2)) rfl)
  have v3 : valV [((.inr "inside" : Key), V.ref t1), (.inr "cover", .ref t2), (.inr "length", .ref t3)] (.inr "length") = some (.ref t3) := (valV_neg (p := ((.inr "inside" : Key), V.ref t1)) il).trans ((valV_neg (p := ((.inr "cover" : Key), V.ref t2)) cl).trans (valV_pos (p := ((.inr "length" : Key), V.ref t3)) rfl))
  rw [em]
  have kq : Same H (upd (upd (upd (upd (upd H p (.dK [])) t1 (.tup [.int n, .int (n + 1)])) t2 (.tup [.int (n - 1), .int n])) t3 (.tup [.int n])) p (.dK [(.inr "inside", .ref t1), (.inr "cover", .ref t2), (.inr "length", .ref t3)])) := fun c o e => by
    rw [upd_ne (ne_of_none e hp)]
    exact s3 _ _ (s2 _ _ (s1 _ _ (s0 _ _ e)))
  cases k with
  | ins => exact ⟨_, h6, p, .ref t1, rfl, .inl ⟨_, .inr "inside", .inl upd_same, rfl, v1.symm⟩, q _ t1 kq (by rw [upd_ne n1.symm]; exact s3 _ _ (s2 _ _ upd_same))⟩
  | cov => exact ⟨_, h6, p, .ref t2, rfl, .inl ⟨_, .inr "cover", .inl upd_same, rfl, v2.symm⟩, q _ t2 kq (by rw [upd_ne n2.symm]; exact s3 _ _ upd_same)⟩
  | len => exact ⟨_, h6, p, .ref t3, rfl, .inl ⟨_, .inr "length", .inl upd_same, rfl, v3.symm⟩, q _ t3 kq (by rw [upd_ne n3.symm]; exact upd_same)⟩
theorem times_len : ∀ (k : Kd) (n : Int), (timesL k n).length ≤ 2
  | .ins, _ => Nat.le_refl 2
  | .cov, _ => Nat.le_refl 2
  | .len, _ => (by decide : 1 ≤ 2)
theorem times_bnd {k : Kd} {n m : Int} (h1 : 1 ≤ n) (h2 : n < 2 ^ 60) (h : m ∈ timesL k n) : 0 ≤ m ∧ m < 2 ^ 61 := by
  have e60 : (2 : Int) ^ 60 = 1152921504606846976 := by decide
  have e61 : (2 : Int) ^ 61 = 2305843009213693952 := by decide
  cases k with
  | ins =>
    rcases List.mem_cons.mp h with e | h
    · omega
    · have := List.mem_singleton.mp h
      omega
  | cov =>
    rcases List.mem_cons.mp h with e | h
    · omega
    · have := List.mem_singleton.mp h
      omega
  | len =>
    have := List.mem_singleton.mp h
    omega
/-- the bounds that a step makes -/
def bndE (F b : Int) (k : Ky) (e : LE) : List Int := ((timesL k.1 k.2.2).map (· * e.s)).filter fun x => decide (F < x) && decide (x < b * F)
def bndT (F b : Int) (t : Ky × List LE) : List Int := t.2.flatMap (bndE F b t.1)
def bndL (F b : Int) (tab : Tb) : List Int := [F, b * F] ++ tab.flatMap (bndT F b)
theorem flat_len {α β : Type} {f : α → List β} {n : Nat} : ∀ {l : List α}, (∀ x ∈ l, (f x).length ≤ n) → (l.flatMap f).length ≤ n * l.length
  | [], _ => Nat.zero_le _
  | x :: r, h => by
    have h1 := h x (List.mem_cons_self ..)
    have h2 := flat_len (l := r) fun y hy => h y (List.mem_cons_of_mem _ hy)
    rw [List.flatMap_cons, List.length_append, List.length_cons, Nat.mul_succ]
    omega
theorem bndE_len (F b : Int) (k : Ky) (e : LE) : (bndE F b k e).length ≤ 2 := by
  refine Nat.le_trans (List.length_filter_le _ _) ?_
  rw [List.length_map]
  cases k.1
  · exact Nat.le_refl 2
  · exact Nat.le_refl 2
  · exact (by decide : 1 ≤ 2)
theorem bndT_len {F b : Int} {t : Ky × List LE} (h : t.2.length ≤ 1000) : (bndT F b t).length ≤ 2000 := by
  have := flat_len (f := bndE F b t.1) (n := 2) (l := t.2) fun e _ => bndE_len F b t.1 e
  unfold bndT
  omega
theorem keys_putK_in {kvs : List (Key × V)} {k : Key} {v : V} (c : ∃ x ∈ kvs, x.1 = k) : (putK kvs k v).map (·.1) = kvs.map (·.1) := by
  obtain ⟨x, h1, h2⟩ := c
  unfold putK
  rw [if_pos (List.any_eq_true.mpr ⟨x, h1, decide_eq_true h2⟩), List.map_map]
  refine List.map_congr_left fun x _ => ?_
  show (if x.1 = k then (x.1, v) else x).1 = x.1
  split <;> rfl
theorem keys_putK_new {kvs : List (Key × V)} {k : Key} {v : V} (c : ∀ x ∈ kvs, x.1 ≠ k) : (putK kvs k v).map (·.1) = kvs.map (·.1) ++ [k] := by
  unfold putK
  rw [if_neg (fun h => by obtain ⟨x, h1, h2⟩ := List.any_eq_true.mp h; exact c x h1 (of_decide_eq_true h2)), List.map_append]
  rfl
/-- a dict whose keys are these numbers -/
def BD (H : Hp) (p : Addr) (done : List Int) : Prop := ∃ (kvb : List (Key × V)) (xs : List Int), H p = some (.dK kvb) ∧ kvb.map (·.1) = xs.map Sum.inl ∧ xs.Nodup ∧ (∀ x, x ∈ xs ↔ x ∈ done) ∧ xs.length ≤ done.length
theorem BD.put {H : Hp} {p : Addr} {done : List Int} (h : BD H p done) (x : Int) (hl : done.length < sizeLine) : ∃ u, DPut H p (.int x) (.bl true) (upd H p u) ∧ BD (upd H p u) p (done ++ [x]) := by
  obtain ⟨kvb, xs, e, ek, nd, me, le⟩ := h
  have ll : kvb.length = xs.length := by
    have := congrArg List.length ek
    rwa [List.length_map, List.length_map] at this
  refine ⟨_, .inl ⟨kvb, .inl x, e, rfl, by omega, rfl⟩, _, if x ∈ xs then xs else xs ++ [x], upd_same, ?_, ?_, fun y => ?_, ?_⟩
  · by_cases c : x ∈ xs
    · have : (Sum.inl x : Key) ∈ kvb.map (·.1) := by rw [ek]; exact List.mem_map_of_mem c
      obtain ⟨z, h1, h2⟩ := List.mem_map.mp this
      rw [if_pos c, keys_putK_in ⟨z, h1, h2⟩, ek]
    · rw [if_neg c, List.map_append, ← ek]
      refine keys_putK_new fun z hz e => c ?_
      have : z.1 ∈ kvb.map (·.1) := List.mem_map_of_mem (f := fun kv : Key × V => kv.1) hz
      rw [e, ek] at this
      obtain ⟨y, h1, h2⟩ := List.mem_map.mp this
      cases h2
      exact h1
  · split
    · exact nd
    · rename_i c
      rw [List.nodup_append]
      exact ⟨nd, List.nodup_cons.mpr ⟨fun h => (nomatch h), List.nodup_nil⟩, fun a ha b hb e => c (by rw [← List.mem_singleton.mp hb, ← e]; exact ha)⟩
  · rw [List.mem_append, List.mem_singleton]
    split
    · rename_i c
      exact ⟨fun h => .inl ((me y).mp h), fun h => h.elim (me y).mpr fun e => by rw [e]; exact c⟩
    · rw [List.mem_append, List.mem_singleton, me y]
  · rw [List.length_append]
    split
    · exact Nat.le_trans le (Nat.le_add_right _ _)
    · rw [List.length_append]
      exact Nat.add_le_add_right le _
theorem BD.same {H H' : Hp} {p : Addr} {done : List Int} (h : BD H p done) (s : ∀ o, H p = some o → H' p = some o) : BD H' p done := by
  obtain ⟨kvb, xs, e, r⟩ := h
  exact ⟨kvb, xs, s _ e, r⟩
/-- the ascending bounds -/
def BndOf (F b : Int) (tab : Tb) (ms : List Int) : Prop := ms.Pairwise (· < ·) ∧ (∀ x, x ∈ ms ↔ x ∈ bndL F b tab) ∧ ms.length ≤ 2000002
section
variable {P : Program} {w : World} {K : PySem.W.Frag} {mg : Str → Option Value} {base : Heap} {A : Adr}
def spBnd (w : World) : Sp := fun vs H Q _ => ∃ (d : Addr) (b dg : Int) (tab : Tb) (od : Obj) (kvs : List ND.Ent), vs = [.int b, .ref d, .int dg] ∧ TabAt w (LadK 2) H d tab od kvs ∧ 2 ≤ b ∧ b < 2 ^ 60 ∧ 0 ≤ dg ∧ b * b ^ dg.toNat < 2 ^ 60 ∧ tab.length ≤ 1000 ∧
  (∀ t ∈ tab, t.2.length ≤ 1000 ∧ 1 ≤ t.1.2.2 ∧ t.1.2.2 < 2 ^ 60 ∧ ∀ e ∈ t.2, 0 ≤ e.s ∧ e.s < 2 ^ 60) ∧
  ∀ (H' : Hp) (l : Addr) (ms : List Int), Same H H' → H l = none → H' l = some (.lst (ms.map V.int)) → BndOf (b ^ dg.toNat) b tab ms → Q (.ref l) H'
abbrev nm_bounds : List Str := ["base", "ladders", "digits", "first", "bounds", "key", "kind", "_", "most", "times", "size", "many"]
theorem sc_bounds : FnScope ["base", "ladders", "digits", "first", "bounds", "key", "kind", "_", "most", "times", "size", "many"] ["base", "ladders", "digits"] (defScope s_bounds) := ⟨rfl, rfl, rfl, by decide +kernel, rfl, by decide +kernel, by decide +kernel⟩
theorem ok_bnd (T : Txt K mg A w) : FnOk P w K mg base CX0 3 A.a_bounds A.d_bounds ["base", "ladders", "digits"] (spBnd w) := by
  have G_power_of : FnOk P w K mg base CX0 1 A.a_power_of A.d_power_of ["base", "exponent"] spPow := ok_power_of T
  refine T.F_bounds.ok sc_bounds (fun vs H Q E h => ?_) (fun cdv A0 outer s H vs Q E hr h => ?_)
  · obtain ⟨d, b, dg, tab, od, kvs, rfl, _⟩ := h
    rfl
  · obtain ⟨d, b, dg, tab, od, kvs, rfl, TA, b2, bB, d0, bF, tl, ok, q⟩ := h
    have hu := ND.room9 hr
    have hu1 : (A0.deeper (PyProof.Rows.envOfC (Str.ofString "_bounds") (defScope s_bounds) s.heap.objs.size A.a_bounds cdv)).units + 1 < cLine := by omega
    refine ⟨_, (pss_cons (ps_set (i := 3) sc_bounds.nd rfl (Or.inl rfl) (pe_call G_power_of (hr.mono (by decide)) (by rfl) T.m_power_of T.F_power_of.kp T.B_power_of .nil pass0 (pa_cons (pv 0) (pa_cons (pv 2) pa_nil))))
  (pss_cons (ps_set (i := 4) sc_bounds.nd rfl (Or.inl rfl) (pe_disp (pps_cons (pv 3) pe_bl (pps_cons (pe_op op_mulW (pv 0) (pv 3)) pe_bl pps_nil)) rfl rfl (by simp) (by decide)))
  (pss_cons (ps_for PassesOwn.never rfl (ND.pi_keysN (pv 1)) (pg_name (i := 5) sc_bounds.nd rfl (Or.inl rfl))
  (pss_cons (ps_asg (pv 5) (pg_tup (by rfl) (pgs_cons (pg_name (i := 6) sc_bounds.nd rfl (Or.inl rfl)) (pgs_cons (pg_name (i := 7) sc_bounds.nd rfl (Or.inl rfl)) (pgs_cons (pg_name (i := 8) sc_bounds.nd rfl (Or.inl rfl)) pgs_nil)))))
  (pss_cons (ps_set (i := 9) sc_bounds.nd rfl (Or.inl rfl) (pe_dget hu1 (pe_disp (pps_cons pe_str (pe_tup (pa_cons (pv 8) (pa_cons (pe_op op_add (pv 8) pe_int) pa_nil))) (pps_cons pe_str (pe_tup (pa_cons (pe_op op_sub (pv 8) pe_int) (pa_cons (pv 8) pa_nil))) (pps_cons pe_str (pe_tup (pa_cons (pv 8) pa_nil)) pps_nil))) rfl rfl (by simp) (by decide)) (pv 6) (fun _ _ => rfl)))
  (pss_one (ps_for PassesOwn.never rfl (pi_list (ND.pe_get hu (pv 1) (pv 5) (fun _ _ => rfl))) (pg_tup (by rfl) (pgs_cons (pg_name (i := 7) sc_bounds.nd rfl (Or.inl rfl)) (pgs_cons (pg_name (i := 10) sc_bounds.nd rfl (Or.inl rfl)) pgs_nil)))
  (pss_one (ps_for PassesOwn.never rfl (pi_tup (pv 9)) (pg_name (i := 11) sc_bounds.nd rfl (Or.inl rfl))
  (pss_one (ps_if (pt_chain op_lt op_lt (pv 3) (pe_op op_mulW (pv 11) (pv 10)) (pe_op op_mulW (pv 0) (pv 3))) (pss_one (ps_dput hu1 (pv 4) (pe_op op_mulW (pv 11) (pv 10)) pe_bl rfl)) pss_nil)))))))))
  (pss_one (ps_ret (pe_callBK (cr_sortDIntA rfl) (by rfl) T.n_sorted (by decide +kernel) (pa_cons (pv 4) pa_nil) (pk_cons (pe_bltn (v := .ty "int") (by rfl) T.n_int (by decide +kernel) rfl) pk_nil))))))), ?_⟩
    have e60 : (2 : Int) ^ 60 = 1152921504606846976 := by decide
    have e61 : (2 : Int) ^ 61 = 2305843009213693952 := by decide
    generalize eF : b ^ dg.toNat = F at *
    have F1 : 1 ≤ F := by rw [← eF]; exact pow_pos' (by omega) _
    have FB : F ≤ b * F := by
      have := Int.mul_le_mul_of_nonneg_right (show 1 ≤ b by omega) (show 0 ≤ F by omega)
      omega
    have FlB : F < b * F := by
      have := Int.mul_le_mul_of_nonneg_right b2 (show 0 ≤ F by omega)
      omega
    have big : ∀ x : Int, x < 2 ^ 60 → x < BIG := fun x h => lt_big (n := 60) (i := x) h (by decide)
    refine ⟨_, rfl, _, rfl, b, dg, rfl, by omega, d0, by rw [eF]; exact big _ (by omega), big _ bB, ?_⟩
    rw [eF]
    refine gN (σ' := [some (.int b), some (.ref d), some (.int dg), some (.int F), none, none, none, none, none, none, none, none]) rfl ?_
    have mF : CMulW b F := mul_sB (by omega) (by omega) (by omega) (big _ (by omega))
    intro p hp
    refine ⟨_, rfl, _, rfl, _, rfl, _, _, rfl, rfl, mF, ?_⟩
    refine ⟨upd_same, [(.inl F, .bl true), (.inl (b * F), .bl true)], rfl, (by show 2 ≤ 15; decide), ?_⟩
    have FN : ¬ ((.inl F : Key) = .inl (b * F)) := fun e => by
      have := Sum.inl.inj e
      omega
    have em : mergeK [] [((.inl F : Key), V.bl true), (.inl (b * F), .bl true)] = [(.inl F, .bl true), (.inl (b * F), .bl true)] := by
      have a1 : putK [] (.inl F : Key) (V.bl true) = [(.inl F, .bl true)] := putK_new _ valV_nil
      have a2 : putK [((.inl F : Key), V.bl true)] (.inl (b * F)) (V.bl true) = [(.inl F, .bl true), (.inl (b * F), .bl true)] := putK_new _ (valV_neg (p := ((.inl F : Key), V.bl true)) FN)
      have e0 : mergeK [] [((.inl F : Key), V.bl true), (.inl (b * F), .bl true)] = putK (putK [] (.inl F : Key) (V.bl true)) (.inl (b * F)) (V.bl true) := rfl
      rw [e0, a1, a2]
    rw [em]
    refine absH (fun H' => (∀ c o, H c = some o → H' c = some o) ∧ BD H' p [F, b * F]) ⟨fun c o e => ?_, _, [F, b * F], upd_same, rfl, ?_, fun x => Iff.rfl, Nat.le_refl _⟩ ?_
    · rw [upd_ne (ne_of_none e hp), upd_ne (ne_of_none e hp)]
      exact e
    · exact List.nodup_cons.mpr ⟨fun h => by have := List.mem_singleton.mp h; omega, List.nodup_cons.mpr ⟨fun h => (nomatch h), List.nodup_nil⟩⟩
    rintro H0 ⟨k0, bd0⟩
    refine gN (σ' := [some (.int b), some (.ref d), some (.int dg), some (.int F), some (.ref p), none, none, none, none, none, none, none]) rfl ?_
    have hl := TA.len
    have sz : sizeLine = 16777216 := PySem.sizeLine_eq
    refine ⟨_, rfl, d, od, kvs, rfl, k0 _ _ TA.at_, TA.dn.sys, for_it ND.walk_n (fun i σ H' => ∃ (v5 v6 v7 v8 v9 v10 v11 : Option V), σ = [some (.int b), some (.ref d), some (.int dg), some (.int F), some (.ref p), v5, v6, v7, v8, v9, v10, v11] ∧ (∀ c o, H c = some o → H' c = some o) ∧ BD H' p (bndL F b (tab.take i)))
      ⟨none, none, none, none, none, none, none, rfl, k0, bd0⟩ (fun i σ H' _ ⟨_, _, _, _, _, _, _, _, kp, _⟩ => kp _ _ TA.at_) ?_ ?_⟩
    · rintro i x σ H1 H' hi ⟨v5, v6, v7, v8, v9, v10, v11, rfl, kp, bd⟩ ⟨rfl, e, he, rfl⟩
      have TA2 : TabAt w (LadK 2) H' d tab od kvs := TA.same LadK.mono kp
      obtain ⟨t, ht, nk, at_, la, as, ev, hla, les⟩ := TA2.key he
      obtain ⟨t2, ht2, _, ⟨tm, hka, htm⟩, _⟩ := paired_at TA2.tb he
      obtain rfl : t = t2 := by
        rw [ht] at ht2
        exact Option.some.inj ht2
      obtain ⟨tB, m1, mB, tok⟩ := ok t (List.mem_of_getElem? ht)
      have tk : tab.take (i + 1) = tab.take i ++ [t] := by
        rw [List.take_add_one, ht]
        rfl
      have len0 : (bndL F b (tab.take i)).length ≤ 2 + 2000 * i := by
        unfold bndL
        have := flat_len (f := bndT F b) (n := 2000) (l := tab.take i) fun u hu => bndT_len (ok u (List.mem_of_mem_take hu)).1
        rw [List.length_append]
        have h2 : (tab.take i).length ≤ i := List.length_take_le ..
        have h3 := Nat.mul_le_mul_left 2000 h2
        show 2 + _ ≤ _
        omega
      refine ⟨_, rfl, e.2.1, _, rfl, SqT.of hka, rfl, _, _, rfl, _, _, rfl, _, _, rfl, rfl, ?_⟩
      refine norm2 (σ' := [some (.int b), some (.ref d), some (.int dg), some (.int F), some (.ref p), some (.ref e.2.1), some (.str t.1.1.s), some (.ref tm), some (.int t.1.2.2), v9, v10, v11]) rfl ?_
      refine times_ok t.1.1 t.1.2.2 rfl rfl fun H2 tt s2 htt => ?_
      refine gN (σ' := [some (.int b), some (.ref d), some (.int dg), some (.int F), some (.ref p), some (.ref e.2.1), some (.str t.1.1.s), some (.ref tm), some (.int t.1.2.2), some (.ref tt), v10, v11]) rfl ?_
      have bdp := bd
      obtain ⟨kvp, xsp, eDp, _⟩ := bdp
      have nLp : ∀ {c : Addr} {ys : List V}, H' c = some (.lst ys) → c ≠ p := fun e => ne_of e eDp (by intro z; cases z)
      have nTp : ∀ {c : Addr} {ys : List V}, H' c = some (.tup ys) → c ≠ p := fun e => ne_of e eDp (by intro z; cases z)
      have ntt : tt ≠ p := ne_of htt (s2 _ _ eDp) (by intro z; cases z)
      have TA3 : TabAt w (LadK 2) H2 d tab od kvs := TA2.same LadK.mono s2
      refine ⟨_, rfl, _, rfl, d, e.2.1, kvs, kyN t.1, .ref la, rfl, rfl, TA3.dn, ND.NK.more (fun c xs q => s2 _ _ q) _ _ nk, kyN_depth _, (by rw [at_, ev]), ?_⟩
      refine ⟨la, rfl, ⟨_, SqL.of (s2 _ _ hla)⟩, for_list (K := K) (a := la) (xs := as.map V.ref) (fun j σ H3 => ∃ (v7 v10 v11 : Option V), σ = [some (.int b), some (.ref d), some (.int dg), some (.int F), some (.ref p), some (.ref e.2.1), some (.str t.1.1.s), v7, some (.int t.1.2.2), some (.ref tt), v10, v11] ∧ (∀ c o, c ≠ p → H2 c = some o → H3 c = some o) ∧ BD H3 p (bndL F b (tab.take i) ++ (t.2.take j).flatMap (bndE F b t.1)))
        ⟨_, _, _, rfl, fun c o _ e => e, by rw [List.take_zero, List.flatMap_nil, List.append_nil]; exact bd.same fun o e => s2 _ _ e⟩ (fun j σ H3 _ ⟨_, _, _, _, kp3, _⟩ => SqL.of (kp3 _ _ (nLp hla) (s2 _ _ hla))) ?_ ?_⟩
      · rintro j y σ H3 hy ⟨v7, v10, v11, rfl, kp3, bd3⟩
        obtain ⟨a, ha, rfl⟩ := ref_get hy
        obtain ⟨z, hz, sa, hat, hsa⟩ := paired_at les ha
        obtain ⟨z0, zB⟩ := tok z (List.mem_of_getElem? hz)
        have tz : t.2.take (j + 1) = t.2.take j ++ [z] := by
          rw [List.take_add_one, hz]
          rfl
        have len2 : (bndL F b (tab.take i) ++ (t.2.take j).flatMap (bndE F b t.1)).length ≤ 2 + 2000 * i + 2 * j := by
          rw [List.length_append]
          have h1 := flat_len (f := bndE F b t.1) (n := 2) (l := t.2.take j) fun e _ => bndE_len F b t.1 e
          have h2 : (t.2.take j).length ≤ j := List.length_take_le ..
          omega
        have iB : i < tab.length := (List.getElem?_eq_some_iff.mp ht).1
        have jB : j < t.2.length := (List.getElem?_eq_some_iff.mp hz).1
        refine ⟨a, _, rfl, SqT.of (kp3 _ _ (nTp hat) (s2 _ _ hat)), rfl, _, _, rfl, _, _, rfl, rfl, ?_⟩
        refine norm2 (σ' := [some (.int b), some (.ref d), some (.int dg), some (.int F), some (.ref p), some (.ref e.2.1), some (.str t.1.1.s), some (.ref sa), some (.int t.1.2.2), some (.ref tt), some (.int z.s), v11]) rfl ?_
        refine ⟨_, rfl, tt, rfl, ⟨_, SqT.of (kp3 _ _ ntt htt)⟩, for_tup (K := K) (a := tt) (xs := (timesL t.1.1 t.1.2.2).map V.int) (fun l σ H4 => ∃ (v11 : Option V), σ = [some (.int b), some (.ref d), some (.int dg), some (.int F), some (.ref p), some (.ref e.2.1), some (.str t.1.1.s), some (.ref sa), some (.int t.1.2.2), some (.ref tt), some (.int z.s), v11] ∧ (∀ c o, c ≠ p → H2 c = some o → H4 c = some o) ∧ BD H4 p ((bndL F b (tab.take i) ++ (t.2.take j).flatMap (bndE F b t.1)) ++ (((timesL t.1.1 t.1.2.2).take l).map (· * z.s)).filter fun x => decide (F < x) && decide (x < b * F)))
          ⟨v11, rfl, kp3, by rw [List.take_zero, List.map_nil, List.filter_nil, List.append_nil]; exact bd3⟩ (fun l σ H4 _ ⟨_, _, kp4, _⟩ => SqT.of (kp4 _ _ ntt htt)) ?_ ?_⟩
        · rintro l y σ H4 hy ⟨v11, rfl, kp4, bd4⟩
          rw [List.getElem?_map] at hy
          obtain ⟨m, hm, rfl⟩ := Option.map_eq_some_iff.mp hy
          have tm2 : (timesL t.1.1 t.1.2.2).take (l + 1) = (timesL t.1.1 t.1.2.2).take l ++ [m] := by
            rw [List.take_add_one, hm]
            rfl
          have mB2 : 0 ≤ m ∧ m < 2 ^ 61 := times_bnd m1 mB (List.mem_of_getElem? hm)
          have lB : l < 2 := Nat.lt_of_lt_of_le (List.getElem?_eq_some_iff.mp hm).1 (times_len _ _)
          have mm : CMulW m z.s := mul_sB mB2.1 mB2.2 z0 (big _ zB)
          have len3 : ((bndL F b (tab.take i) ++ (t.2.take j).flatMap (bndE F b t.1)) ++ (((timesL t.1.1 t.1.2.2).take l).map (· * z.s)).filter fun x => decide (F < x) && decide (x < b * F)).length < sizeLine := by
            rw [List.length_append]
            have h1 := List.length_filter_le (fun x => decide (F < x) && decide (x < b * F)) (((timesL t.1.1 t.1.2.2).take l).map (· * z.s))
            rw [List.length_map] at h1
            have h2 : ((timesL t.1.1 t.1.2.2).take l).length ≤ l := List.length_take_le ..
            omega
          rw [tm2, List.map_append, List.filter_append, List.map_singleton]
          refine gN (σ' := [some (.int b), some (.ref d), some (.int dg), some (.int F), some (.ref p), some (.ref e.2.1), some (.str t.1.1.s), some (.ref sa), some (.int t.1.2.2), some (.ref tt), some (.int z.s), some (.int m)]) rfl ?_
          refine ⟨_, rfl, _, rfl, _, rfl, _, _, rfl, rfl, mm, _, _, rfl, rfl, _, rfl, ?_⟩
          show if decide (F < m * z.s) = true then _ else _
          by_cases c1 : F < m * z.s
          · rw [if_pos (decide_eq_true c1)]
            refine ⟨_, rfl, _, rfl, _, _, rfl, rfl, mF, _, _, rfl, rfl, _, rfl, ?_⟩
            show if decide (m * z.s < b * F) = true then _ else _
            by_cases c2 : m * z.s < b * F
            · rw [if_pos (decide_eq_true c2)]
              obtain ⟨u, dp, bd5⟩ := bd4.put (m * z.s) len3
              refine ⟨_, rfl, _, rfl, _, rfl, _, _, rfl, rfl, mm, p, _, rfl, dp, _, rfl, fun c o n e => by rw [upd_ne n]; exact kp4 c o n e, ?_⟩
              have ef : [m * z.s].filter (fun x => decide (F < x) && decide (x < b * F)) = [m * z.s] := by
                rw [List.filter_cons, decide_eq_true c1, decide_eq_true c2]
                rfl
              rw [ef, ← List.append_assoc]
              exact bd5
            · rw [if_neg (fun h => c2 (of_decide_eq_true h))]
              refine ⟨_, rfl, kp4, ?_⟩
              have ef : [m * z.s].filter (fun x => decide (F < x) && decide (x < b * F)) = [] := by
                rw [List.filter_cons, decide_eq_false c2, Bool.and_false]
                rfl
              rw [ef, List.append_nil]
              exact bd4
          · rw [if_neg (fun h => c1 (of_decide_eq_true h))]
            refine ⟨_, rfl, _, rfl, kp4, ?_⟩
            have ef : [m * z.s].filter (fun x => decide (F < x) && decide (x < b * F)) = [] := by
              rw [List.filter_cons, decide_eq_false c1, Bool.false_and]
              rfl
            rw [ef, List.append_nil]
            exact bd4
        · rintro σ H4 ⟨v11, rfl, kp4, bd4⟩
          rw [List.length_map, List.take_length] at bd4
          refine ⟨_, _, _, rfl, kp4, ?_⟩
          rw [tz, List.flatMap_append, List.flatMap_singleton, ← List.append_assoc]
          exact bd4
      · rintro σ H3 ⟨v7, v10, v11, rfl, kp3, bd3⟩
        rw [List.length_map, ← Paired.length les, List.take_length] at bd3
        refine ⟨_, _, _, _, _, _, _, rfl, fun c o h => kp3 c o (ne_of_none h hp) (s2 _ _ (kp c o h)), ?_⟩
        have et : bndL F b (tab.take (i + 1)) = bndL F b (tab.take i) ++ t.2.flatMap (bndE F b t.1) := by
          unfold bndL
          rw [tk, List.flatMap_append, List.flatMap_singleton, List.append_assoc]
          rfl
        rw [et]
        exact bd3
    · rintro σ H1 ⟨v5, v6, v7, v8, v9, v10, v11, rfl, kp, kvb, xs, eD, ek, nd, me, le⟩
      rw [hl, List.take_length] at me le
      have len1 : (bndL F b tab).length ≤ 2000002 := by
        unfold bndL
        have := flat_len (f := bndT F b) (n := 2000) (l := tab) fun u hu => bndT_len (ok u hu).1
        rw [List.length_append]
        have h3 := Nat.mul_le_mul_left 2000 tl
        show 2 + _ ≤ _
        omega
      refine ⟨_, rfl, p, kvb, xs, rfl, rfl, .inl eD, ek, by omega, fun ms l pm pw hl1 => ?_⟩
      have s5 := same_new (o := .lst (ms.map V.int)) hl1
      refine q _ l ms (fun c o h => s5 _ _ (kp c o h)) (by
        cases e : H l with
        | none => rfl
        | some o => rw [kp _ _ e] at hl1; cases hl1) upd_same ⟨?_, fun x => (pm.mem_iff).trans (me x), by rw [pm.length_eq]; omega⟩
      have nd2 : ms.Nodup := pm.nodup_iff.mpr nd
      exact (List.pairwise_and_iff.mpr ⟨pw, nd2⟩).imp fun h => by
        have h1 := h.1
        have h2 := h.2
        omega
end
end Ax

namespace Ax
open PySem L2
/-- the keys of a formula -/
def Fm.keys : Fm → List Ky
  | .all => []
  | .not f => f.keys
  | .and f g => f.keys ++ g.keys
  | .or f g => f.keys ++ g.keys
  | .xor f g => f.keys ++ g.keys
  | .counted k _ _ => [k]
  | .taken k _ => [k]
  | .coarser k k2 _ _ => [k, k2]
  | .touched k _ => [k]
/-- a row of ranges of one length -/
def RowAt (w : World) (H : Hp) (r : Addr) (L : Int) (W : Nat) (tab : Tb) : Prop := ∃ (D : Addr) (od : Obj) (kvs : List ND.Ent), H r = some (.tup [.int L, .int ((mkN (fun _ => true) W : Nat) : Int), .ref D]) ∧ TabAt w (LadK 4) H D (rowT W L tab) od kvs
theorem RowAt.same {w : World} {H H' : Hp} {r : Addr} {L : Int} {W : Nat} {tab : Tb} (h : RowAt w H r L W tab) (s : Same H H') : RowAt w H' r L W tab :=
  let ⟨D, od, kvs, h1, h2⟩ := h
  ⟨D, od, kvs, s _ _ h1, h2.same LadK.mono s⟩
theorem shL_mem {W : Nat} {k : Kd} {n L : Int} : ∀ {es : List LE} {φ : Nat → Bool} {e : LE}, e ∈ shL W k n L φ es → ∃ e0 ∈ es, ∃ ψ : Nat → Bool, e = { e0 with t := mkN ψ W }
  | x :: r, φ, e, h => by
    have h : e ∈ (if mkN (fun q => φ q && fitQ k n L x.s q) W = 0 then [] else [{ x with t := ((mkN (fun q => φ q && fitQ k n L x.s q) W : Nat) : Int) }]) ++ shL W k n L (fun q => φ q && !fitQ k n L x.s q) r := h
    rcases List.mem_append.mp h with h | h
    · split at h
      · nomatch h
      · exact ⟨x, List.mem_cons_self .., _, List.mem_singleton.mp h⟩
    · obtain ⟨e0, h0, ψ, e1⟩ := shL_mem h
      exact ⟨e0, List.mem_cons_of_mem _ h0, ψ, e1⟩
/-- whom a key's steps take, all told -/
theorem shL_len {W : Nat} {k : Kd} {n L : Int} : ∀ (es : List LE) (φ : Nat → Bool), (shL W k n L φ es).length ≤ es.length
  | [], _ => Nat.le_refl _
  | x :: r, φ => by
    show ((if mkN (fun q => φ q && fitQ k n L x.s q) W = 0 then [] else [{ x with t := ((mkN (fun q => φ q && fitQ k n L x.s q) W : Nat) : Int) }]) ++ shL W k n L (fun q => φ q && !fitQ k n L x.s q) r).length ≤ r.length + 1
    have := shL_len (W := W) (k := k) (n := n) (L := L) r (fun q => φ q && !fitQ k n L x.s q)
    rw [List.length_append]
    split
    · show 0 + _ ≤ _
      omega
    · show 1 + _ ≤ _
      omega
theorem RowAt.get {w : World} {H : Hp} {D : Addr} {L : Int} {W : Nat} {tab : Tb} {od : Obj} {kvs : List ND.Ent} (h : TabAt w (LadK 4) H D (rowT W L tab) od kvs) {k : Ky} (hk : k ∈ tab.map (·.1)) :
    ∃ v, ND.atN kvs (kyN k) = some v ∧ LadK 4 H v (shL W k.1 k.2.2 L (fun _ => true) (ladOf tab k)) := by
  obtain ⟨t, ht, rfl⟩ := List.mem_map.mp hk
  have nd := h.nd
  unfold rowT at nd
  rw [List.map_map] at nd
  have nd : (tab.map (·.1)).Nodup := nd
  rw [ladOf_mem nd ht]
  refine h.get ?_
  unfold rowT
  exact List.mem_map_of_mem (f := fun t : Ky × List LE => (t.1, shL W t.1.1 t.1.2.2 L (fun _ => true) t.2)) ht
section
variable {P : Program} {w : World} {K : PySem.W.Frag} {mg : Str → Option Value} {base : Heap} {A : Adr}
/-- whether a bit of what is taken is set -/
def tbit (e : LE) (q : Nat) : Bool := e.t.toNat.testBit q
theorem mkN_tbit {e0 : LE} {ψ : Nat → Bool} {W q : Nat} (hq : q < W) : tbit { e0 with t := ((mkN ψ W : Nat) : Int) } q = ψ q := by
  show (mkN ψ W).testBit q = _
  rw [mkN_bit, decide_eq_true hq, Bool.true_and]
/-- what holds of a row's ladders -/
structure TabR (W : Nat) (tab : Tb) : Prop where
  pos : 0 < W
  le : W ≤ 2 ^ 26
  ok : ∀ t ∈ tab, CombOk W t.2
theorem ladOf_in {tab : Tb} {k : Ky} (nd : (tab.map (·.1)).Nodup) (hk : k ∈ tab.map (·.1)) : (k, ladOf tab k) ∈ tab := by
  obtain ⟨t, ht, rfl⟩ := List.mem_map.mp hk
  rw [ladOf_mem nd ht]
  exact ht
theorem TabR.mem {W : Nat} {tab : Tb} (R : TabR W tab) (nd : (tab.map (·.1)).Nodup) {k : Ky} {L : Int} (hk : k ∈ tab.map (·.1)) {e : LE} (he : e ∈ shL W k.1 k.2.2 L (fun _ => true) (ladOf tab k)) :
    1 ≤ e.s ∧ e.s.toNat ∣ W ∧ e.c = mkN (isC e.s.toNat) W ∧ e.s ≤ 2 ^ 26 ∧ ∃ ψ, e.t = mkN ψ W := by
  obtain ⟨e0, h0, ψ, rfl⟩ := shL_mem he
  obtain ⟨h1, h2, h3⟩ := (R.ok _ (ladOf_in nd hk)).2 e0 h0
  have := Nat.le_of_dvd R.pos h2
  have hW := R.le
  have e26 : (2 : Nat) ^ 26 = 67108864 := by decide
  have e26i : (2 : Int) ^ 26 = 67108864 := by decide
  refine ⟨h1, h2, h3, ?_, ψ, rfl⟩
  show e0.s ≤ _
  omega
theorem take_any {α : Type} {l : List α} {i : Nat} {z : α} (h : l[i]? = some z) (f : α → Bool) : (l.take (i + 1)).any f = ((l.take i).any f || f z) := by
  rw [List.take_add_one, h, List.any_append, Option.toList_some, List.any_cons, List.any_nil, Bool.or_false]
def spCoM (w : World) : Sp := fun vs H Q _ => ∃ (fa r c c2 : Addr) (k k2 : Ky) (n o L : Int) (W : Nat) (tab : Tb), vs = [.ref fa, .ref r] ∧ H fa = some (.tup [.str "coarser", .ref c, .ref c2, .int n, .int o]) ∧ KyAt H k c ∧ KyAt H k2 c2 ∧ RowAt w H r L W tab ∧ TabR W tab ∧
  k ∈ tab.map (·.1) ∧ k2 ∈ tab.map (·.1) ∧ 1 ≤ n ∧ n < 2 ^ 60 ∧ 1 ≤ o ∧ o < 2 ^ 60 ∧ Q (.int ((mkN (ValQ tab L (.coarser k k2 n o)) W : Nat) : Int)) H
abbrev nm_coarser_mask : List Str := ["formula", "row", "_", "one", "other", "number", "of", "shares", "mask", "size", "taken", "other_size", "other_taken"]
theorem sc_coarser_mask : FnScope ["formula", "row", "_", "one", "other", "number", "of", "shares", "mask", "size", "taken", "other_size", "other_taken"] ["formula", "row"] (defScope s_coarser_mask) := ⟨rfl, rfl, rfl, by decide +kernel, rfl, by decide +kernel, by decide +kernel⟩
theorem ok_coM (T : Txt K mg A w) : FnOk P w K mg base CX0 1 A.a_coarser_mask A.d_coarser_mask ["formula", "row"] (spCoM w) := by
  refine T.F_coarser_mask.ok sc_coarser_mask (fun vs H Q E h => ?_) (fun cdv A0 outer s H vs Q E hr h => ?_)
  · obtain ⟨fa, r, c, c2, k, k2, n, o, L, W, tab, rfl, _⟩ := h
    rfl
  · obtain ⟨fa, r, c, c2, k, k2, n, o, L, W, tab, rfl, hfa, hk, hk2, ⟨D, od, kvs, hr0, TA⟩, R, km, km2, n1, nB, o1, oB, q⟩ := h
    have hu := ND.room9 hr
    refine ⟨_, (pss_cons (ps_asg (pv 0) (pg_tup (by rfl) (pgs_cons (pg_name (i := 2) sc_coarser_mask.nd rfl (Or.inl rfl)) (pgs_cons (pg_name (i := 3) sc_coarser_mask.nd rfl (Or.inl rfl)) (pgs_cons (pg_name (i := 4) sc_coarser_mask.nd rfl (Or.inl rfl)) (pgs_cons (pg_name (i := 5) sc_coarser_mask.nd rfl (Or.inl rfl)) (pgs_cons (pg_name (i := 6) sc_coarser_mask.nd rfl (Or.inl rfl)) pgs_nil)))))))
  (pss_cons (ps_set (i := 7) sc_coarser_mask.nd rfl (Or.inl rfl) (pe_ix ix_tup (pv 1) pe_int (fun _ _ => rfl)))
  (pss_cons (ps_set (i := 8) sc_coarser_mask.nd rfl (Or.inl rfl) pe_int)
  (pss_cons (ps_for PassesOwn.never rfl (pi_list (ND.pe_get hu (pv 7) (pv 3) (fun _ _ => rfl))) (pg_tup (by rfl) (pgs_cons (pg_name (i := 2) sc_coarser_mask.nd rfl (Or.inl rfl)) (pgs_cons (pg_name (i := 9) sc_coarser_mask.nd rfl (Or.inl rfl)) (pgs_cons (pg_name (i := 2) sc_coarser_mask.nd rfl (Or.inl rfl)) (pgs_cons (pg_name (i := 10) sc_coarser_mask.nd rfl (Or.inl rfl)) pgs_nil)))))
  (pss_one (ps_for PassesOwn.never rfl (pi_list (ND.pe_get hu (pv 7) (pv 4) (fun _ _ => rfl))) (pg_tup (by rfl) (pgs_cons (pg_name (i := 2) sc_coarser_mask.nd rfl (Or.inl rfl)) (pgs_cons (pg_name (i := 11) sc_coarser_mask.nd rfl (Or.inl rfl)) (pgs_cons (pg_name (i := 2) sc_coarser_mask.nd rfl (Or.inl rfl)) (pgs_cons (pg_name (i := 12) sc_coarser_mask.nd rfl (Or.inl rfl)) pgs_nil)))))
  (pss_one (ps_if (pt_cmpR op_gt (pe_op op_mulW (pv 9) (pv 6)) (pe_op op_mulW (pv 5) (pv 11)) (nomark _)) (pss_one (ps_set (i := 8) sc_coarser_mask.nd rfl (Or.inl rfl) (pe_op op_or (pv 8) (pe_op op_and (pv 10) (pv 12))))) pss_nil)))))
  (pss_one (ps_ret (pv 8))))))), ?_⟩
    have nd : (tab.map (·.1)).Nodup := by
      have h := TA.nd
      unfold rowT at h
      rw [List.map_map] at h
      exact h
    obtain ⟨v, av, la, as, rfl, hla, les⟩ := RowAt.get TA km
    obtain ⟨v2, av2, la2, as2, rfl, hla2, les2⟩ := RowAt.get TA km2
    generalize e1 : shL W k.1 k.2.2 L (fun _ => true) (ladOf tab k) = S1 at les
    generalize e2 : shL W k2.1 k2.2.2 L (fun _ => true) (ladOf tab k2) = S2 at les2
    have m1 : ∀ e ∈ S1, 1 ≤ e.s ∧ e.s.toNat ∣ W ∧ e.c = mkN (isC e.s.toNat) W ∧ e.s ≤ 2 ^ 26 ∧ ∃ ψ, e.t = mkN ψ W := fun e he => by
      rw [← e1] at he
      exact R.mem nd km he
    have m2 : ∀ e ∈ S2, 1 ≤ e.s ∧ e.s.toNat ∣ W ∧ e.c = mkN (isC e.s.toNat) W ∧ e.s ≤ 2 ^ 26 ∧ ∃ ψ, e.t = mkN ψ W := fun e he => by
      rw [← e2] at he
      exact R.mem nd km2 he
    have e26 : (2 : Int) ^ 26 = 67108864 := by decide
    have e60 : (2 : Int) ^ 60 = 1152921504606846976 := by decide
    have cm : ∀ x y : Int, 0 ≤ x → x < 2 ^ 60 → 0 ≤ y → y < 2 ^ 60 → CMulW x y := fun x y h0 h1 h2 h3 => wide_mul (a := 60) (b := 60) (abs_lt_pow h0 h1) (abs_lt_pow h2 h3) (by decide) (by decide) (by decide)
    let wt : LE → LE → Bool := fun e e2 => decide (n * e2.s < e.s * o)
    let g1 : LE → Nat → Bool := fun e q => S2.any fun e2 => tbit e2 q && wt e e2
    have fin : mkN (fun q => S1.any fun e => tbit e q && g1 e q) W = mkN (ValQ tab L (.coarser k k2 n o)) W := mkN_congr fun q hq => by
      have h1 := shL_any (k := k.1) (n := k.2.2) (L := L) hq (fun e => g1 e q) (fun _ _ => rfl) (ladOf tab k) fun _ => true
      rw [e1, Bool.true_and] at h1
      refine h1.trans ?_
      show _ = (match stepQ tab L k q, stepQ tab L k2 q with
        | some e, some e2 => decide (n * e2.s < e.s * o)
        | _, _ => false)
      unfold stepQ
      cases (ladOf tab k).find? fun e => fitQ k.1 k.2.2 L e.s q with
      | none => rfl
      | some e =>
        have h2 := shL_any (k := k2.1) (n := k2.2.2) (L := L) hq (fun e2 => wt e e2) (fun _ _ => rfl) (ladOf tab k2) fun _ => true
        rw [e2, Bool.true_and] at h2
        refine h2.trans ?_
        cases (ladOf tab k2).find? fun e => fitQ k2.1 k2.2.2 L e.s q <;> rfl
    refine ⟨_, rfl, fa, _, rfl, SqT.of hfa, rfl, _, _, rfl, _, _, rfl, _, _, rfl, _, _, rfl, _, _, rfl, rfl, ?_⟩
    refine norm2 (σ' := [some (.ref fa), some (.ref r), some (.str "coarser"), some (.ref c), some (.ref c2), some (.int n), some (.int o), none, none, none, none, none, none]) rfl ?_
    refine ⟨_, rfl, r, _, _, _, rfl, rfl, SqT.of hr0, atL (j := 2) rfl, ?_⟩
    refine gN (σ' := [some (.ref fa), some (.ref r), some (.str "coarser"), some (.ref c), some (.ref c2), some (.int n), some (.int o), some (.ref D), none, none, none, none, none]) rfl ?_
    refine ⟨_, rfl, _, rfl, D, c, kvs, kyN k, .ref la, rfl, rfl, TA.dn, hk.nk, kyN_depth _, av, ?_⟩
    refine ⟨la, rfl, ⟨_, SqL.of hla⟩, for_list (K := K) (a := la) (xs := as.map V.ref) (fun i σ H' => ∃ (v2 v9 v10 v11 v12 : Option V), σ = [some (.ref fa), some (.ref r), v2, some (.ref c), some (.ref c2), some (.int n), some (.int o), some (.ref D), some (.int ((mkN (fun q => (S1.take i).any fun e => tbit e q && g1 e q) W : Nat) : Int)), v9, v10, v11, v12] ∧ H' = H)
      ⟨some (.str "coarser"), none, none, none, none, ?_, rfl⟩ (fun i σ H' _ ⟨_, _, _, _, _, _, e⟩ => by rw [e]; exact SqL.of hla) ?_ ?_⟩
    · have z : mkN (fun q => (S1.take 0).any fun e => tbit e q && g1 e q) W = 0 := by
        have : (fun q => (S1.take 0).any fun e => tbit e q && g1 e q) = fun _ => false := by
          funext q
          rw [List.take_zero, List.any_nil]
        rw [this, mkN_zero]
      rw [z]
      rfl
    · rintro i y σ H' hy ⟨v2, v9, v10, v11, v12, rfl, rfl⟩
      obtain ⟨a, ha, rfl⟩ := ref_get hy
      obtain ⟨z, hz, sa, hat, hsa⟩ := paired_at les ha
      obtain ⟨z1, _, _, zB, ψ, zt⟩ := m1 z (List.mem_of_getElem? hz)
      refine ⟨a, _, rfl, SqT.of hat, rfl, _, _, rfl, _, _, rfl, _, _, rfl, _, _, rfl, rfl, ?_⟩
      refine norm2 (σ' := [some (.ref fa), some (.ref r), some (.int z.c), some (.ref c), some (.ref c2), some (.int n), some (.int o), some (.ref D), some (.int ((mkN (fun q => (S1.take i).any fun e => tbit e q && g1 e q) W : Nat) : Int)), some (.int z.s), some (.int z.t), v11, v12]) rfl ?_
      refine ⟨_, rfl, _, rfl, D, c2, kvs, kyN k2, .ref la2, rfl, rfl, TA.dn, hk2.nk, kyN_depth _, av2, ?_⟩
      refine ⟨la2, rfl, ⟨_, SqL.of hla2⟩, for_list (K := K) (a := la2) (xs := as2.map V.ref) (fun j σ H2 => ∃ (v2 v11 v12 : Option V), σ = [some (.ref fa), some (.ref r), v2, some (.ref c), some (.ref c2), some (.int n), some (.int o), some (.ref D), some (.int ((mkN (fun q => ((S1.take i).any fun e => tbit e q && g1 e q) || (tbit z q && (S2.take j).any fun e2 => tbit e2 q && wt z e2)) W : Nat) : Int)), some (.int z.s), some (.int z.t), v11, v12] ∧ H2 = H')
        ⟨some (.int z.c), v11, v12, ?_, rfl⟩ (fun i σ H2 _ ⟨_, _, _, _, e⟩ => by rw [e]; exact SqL.of hla2) ?_ ?_⟩
      · have : (fun q => ((S1.take i).any fun e => tbit e q && g1 e q) || (tbit z q && (S2.take 0).any fun e2 => tbit e2 q && wt z e2)) = fun q => (S1.take i).any fun e => tbit e q && g1 e q := by
          funext q
          rw [List.take_zero, List.any_nil, Bool.and_false, Bool.or_false]
        rw [this]
      · rintro j y σ H2 hy ⟨v2, v11, v12, rfl, rfl⟩
        obtain ⟨a2, ha2, rfl⟩ := ref_get hy
        obtain ⟨x, hx, sx, hax, hsx⟩ := paired_at les2 ha2
        obtain ⟨x1, _, _, xB, χ, xt⟩ := m2 x (List.mem_of_getElem? hx)
        refine ⟨a2, _, rfl, SqT.of hax, rfl, _, _, rfl, _, _, rfl, _, _, rfl, _, _, rfl, rfl, ?_⟩
        refine norm2 (σ' := [some (.ref fa), some (.ref r), some (.int x.c), some (.ref c), some (.ref c2), some (.int n), some (.int o), some (.ref D), some (.int ((mkN (fun q => ((S1.take i).any fun e => tbit e q && g1 e q) || (tbit z q && (S2.take j).any fun e2 => tbit e2 q && wt z e2)) W : Nat) : Int)), some (.int z.s), some (.int z.t), some (.int x.s), some (.int x.t)]) rfl ?_
        refine ⟨_, rfl, _, rfl, _, _, rfl, rfl, cm _ _ (by omega) (by omega) (by omega) oB, _, rfl, _, rfl, _, _, rfl, rfl, cm _ _ (by omega) nB (by omega) (by omega), _, _, rfl, rfl, _, rfl, ?_⟩
        show if decide (n * x.s < z.s * o) = true then _ else _
        by_cases cc : n * x.s < z.s * o
        · rw [if_pos (decide_eq_true cc)]
          refine ⟨_, rfl, _, rfl, _, rfl, _, _, rfl, rfl, _, _, rfl, rfl, ?_⟩
          have ev : Builtin.bitOr ((mkN (fun q => ((S1.take i).any fun e => tbit e q && g1 e q) || (tbit z q && (S2.take j).any fun e2 => tbit e2 q && wt z e2)) W : Nat) : Int) (Builtin.bitAnd z.t x.t) = ((mkN (fun q => ((S1.take i).any fun e => tbit e q && g1 e q) || (tbit z q && (S2.take (j + 1)).any fun e2 => tbit e2 q && wt z e2)) W : Nat) : Int) := by
            rw [zt, xt, mk_and, mk_or]
            congr 1
            refine mkN_congr fun q hq => ?_
            rw [take_any hx]
            have h1 : tbit z q = ψ q := by
              unfold tbit
              rw [zt, Int.toNat_natCast, mkN_bit, decide_eq_true hq, Bool.true_and]
            have h2 : tbit x q = χ q := by
              unfold tbit
              rw [xt, Int.toNat_natCast, mkN_bit, decide_eq_true hq, Bool.true_and]
            have h3 : wt z x = true := decide_eq_true cc
            rw [h1, h2, h3]
            generalize ((S1.take i).any fun e => tbit e q && g1 e q) = A1
            generalize ((S2.take j).any fun e2 => tbit e2 q && wt z e2) = A2
            cases A1 <;> cases A2 <;> cases ψ q <;> cases χ q <;> rfl
          show gName 8 (V.int (Builtin.bitOr _ (Builtin.bitAnd z.t x.t))) _ _ _
          rw [ev]
          exact ⟨_, _, _, rfl, rfl⟩
        · rw [if_neg (fun h => cc (of_decide_eq_true h))]
          have ev : mkN (fun q => ((S1.take i).any fun e => tbit e q && g1 e q) || (tbit z q && (S2.take j).any fun e2 => tbit e2 q && wt z e2)) W = mkN (fun q => ((S1.take i).any fun e => tbit e q && g1 e q) || (tbit z q && (S2.take (j + 1)).any fun e2 => tbit e2 q && wt z e2)) W := mkN_congr fun q hq => by
            rw [take_any hx]
            have h3 : wt z x = false := decide_eq_false cc
            rw [h3, Bool.and_false, Bool.or_false]
          rw [ev]
          exact ⟨_, _, _, rfl, rfl⟩
      · rintro σ H2 ⟨v2, v11, v12, rfl, rfl⟩
        rw [List.length_map, ← Paired.length les2, List.take_length]
        have ev : (fun q => ((S1.take i).any fun e => tbit e q && g1 e q) || (tbit z q && S2.any fun e2 => tbit e2 q && wt z e2)) = fun q => (S1.take (i + 1)).any fun e => tbit e q && g1 e q := by
          funext q
          rw [take_any hz]
        rw [ev]
        exact ⟨_, _, _, _, _, rfl, rfl⟩
    · rintro σ H' ⟨v2, v9, v10, v11, v12, rfl, rfl⟩
      rw [List.length_map, ← Paired.length les, List.take_length, fin]
      exact ⟨_, rfl, q⟩
/-- about a rule -/
def Fm.stm : Fm → Bool
  | .counted .. | .taken .. | .coarser .. | .touched .. => true
  | _ => false
def spStM (w : World) : Sp := fun vs H Q _ => ∃ (fa r : Addr) (b : Int) (f : Fm) (L : Int) (W : Nat) (tab : Tb), vs = [.ref fa, .ref r] ∧ FmAt H f fa ∧ f.stm = true ∧ FmR b f ∧ RowAt w H r L W tab ∧ TabR W tab ∧ (∀ k ∈ f.keys, k ∈ tab.map (·.1)) ∧ 0 ≤ L ∧
  ∀ H', Same H H' → Q (.int ((mkN (ValQ tab L f) W : Nat) : Int)) H'
abbrev nm_statement_mask : List Str := ["formula", "row", "word", "length", "_", "shares", "mask", "step", "size", "comb", "taken", "wanted"]
theorem sc_statement_mask : FnScope ["formula", "row", "word", "length", "_", "shares", "mask", "step", "size", "comb", "taken", "wanted"] ["formula", "row"] (defScope s_statement_mask) := ⟨rfl, rfl, rfl, by decide +kernel, rfl, by decide +kernel, by decide +kernel⟩
theorem ok_stM (T : Txt K mg A w) : FnOk P w K mg base CX0 3 A.a_statement_mask A.d_statement_mask ["formula", "row"] (spStM w) := by
  have G_counted_mask : FnOk P w K mg base CX0 2 A.a_counted_mask A.d_counted_mask ["kind", "size", "comb", "length", "least", "most"] spCntM := ok_cntM T
  have G_touching_mask : FnOk P w K mg base CX0 1 A.a_touching_mask A.d_touching_mask ["size", "comb", "length", "end"] spTchM := ok_tchM T
  have G_coarser_mask : FnOk P w K mg base CX0 1 A.a_coarser_mask A.d_coarser_mask ["formula", "row"] (spCoM w) := ok_coM T
  refine T.F_statement_mask.ok sc_statement_mask (fun vs H Q E h => ?_) (fun cdv A0 outer s H vs Q E hr h => ?_)
  · obtain ⟨fa, r, b, f, L, W, tab, rfl, _⟩ := h
    rfl
  · obtain ⟨fa, r, b, f, L, W, tab, rfl, F, fs, FR, ra, R, ks, L0, q⟩ := h
    have hu := ND.room9 hr
    refine ⟨_, (pss_cons (ps_set (i := 2) sc_statement_mask.nd rfl (Or.inl rfl) (pe_ix ix_tup (pv 0) pe_int (fun _ _ => rfl)))
  (pss_cons (ps_if (pt_cmpR op_eq (pv 2) pe_str (nomark _)) (pss_one (ps_ret (pe_call G_coarser_mask (hr.mono (by decide)) (by rfl) T.m_coarser_mask T.F_coarser_mask.kp T.B_coarser_mask .nil pass0 (pa_cons (pv 0) (pa_cons (pv 1) pa_nil))))) pss_nil)
  (pss_cons (ps_asg (pv 1) (pg_tup (by rfl) (pgs_cons (pg_name (i := 3) sc_statement_mask.nd rfl (Or.inl rfl)) (pgs_cons (pg_name (i := 4) sc_statement_mask.nd rfl (Or.inl rfl)) (pgs_cons (pg_name (i := 5) sc_statement_mask.nd rfl (Or.inl rfl)) pgs_nil)))))
  (pss_cons (ps_set (i := 6) sc_statement_mask.nd rfl (Or.inl rfl) pe_int)
  (pss_cons (ps_for PassesOwn.never rfl (pi_list (ND.pe_get hu (pv 5) (pe_ix ix_tup (pv 0) pe_int (fun _ _ => rfl)) (fun _ _ => rfl))) (pg_tup (by rfl) (pgs_cons (pg_name (i := 7) sc_statement_mask.nd rfl (Or.inl rfl)) (pgs_cons (pg_name (i := 8) sc_statement_mask.nd rfl (Or.inl rfl)) (pgs_cons (pg_name (i := 9) sc_statement_mask.nd rfl (Or.inl rfl)) (pgs_cons (pg_name (i := 10) sc_statement_mask.nd rfl (Or.inl rfl)) pgs_nil)))))
  (pss_cons (ps_if (pt_cmpR op_eq (pv 2) pe_str (nomark _)) (pss_one (ps_set (i := 11) sc_statement_mask.nd rfl (Or.inl rfl) (pe_call G_counted_mask (hr.mono (by decide)) (by rfl) T.m_counted_mask T.F_counted_mask.kp T.B_counted_mask .nil pass0 (pa_cons (pe_ix ix_tup (pe_ix ix_tup (pv 0) pe_int (fun _ _ => rfl)) pe_int (fun _ _ => rfl)) (pa_cons (pv 8) (pa_cons (pv 9) (pa_cons (pv 3) (pa_cons (pe_ix ix_tup (pv 0) pe_int (fun _ _ => rfl)) (pa_cons (pe_ix ix_tup (pv 0) pe_int (fun _ _ => rfl)) pa_nil))))))))) (pss_one (ps_if (pt_cmpR op_eq (pv 2) pe_str (nomark _)) (pss_one (ps_set (i := 11) sc_statement_mask.nd rfl (Or.inl rfl) (pe_call G_touching_mask (hr.mono (by decide)) (by rfl) T.m_touching_mask T.F_touching_mask.kp T.B_touching_mask .nil pass0 (pa_cons (pv 8) (pa_cons (pv 9) (pa_cons (pv 3) (pa_cons (pe_ix ix_tup (pv 0) pe_int (fun _ _ => rfl)) pa_nil))))))) (pss_one (ps_set (i := 11) sc_statement_mask.nd rfl (Or.inl rfl) (pe_ifExp (pt_cmpR op_eq (pe_ix ix_tup (pv 7) pe_int (fun _ _ => rfl)) (pe_ix ix_tup (pv 0) pe_int (fun _ _ => rfl)) (nomark _)) (pv 10) pe_int))))))
  (pss_one (ps_set (i := 6) sc_statement_mask.nd rfl (Or.inl rfl) (pe_op op_or (pv 6) (pe_op op_and (pv 10) (pv 11)))))))
  (pss_one (ps_ret (pv 6)))))))), ?_⟩
    have ra' := ra
    obtain ⟨D, od, kvs, hr0, TA⟩ := ra'
    have nd : (tab.map (·.1)).Nodup := by
      have h := TA.nd
      unfold rowT at h
      rw [List.map_map] at h
      exact h
    cases f with
    | all => cases fs
    | not f => cases fs
    | and f g => cases fs
    | or f g => cases fs
    | xor f g => cases fs
    | coarser k k2 n o =>
      obtain ⟨c, c2, h1, hk, hk2⟩ := F
      refine ⟨_, rfl, fa, _, _, _, rfl, rfl, SqT.of h1, atL (j := 0) rfl, ?_⟩
      refine gN (σ' := [some (.ref fa), some (.ref r), some (.str "coarser"), none, none, none, none, none, none, none, none, none]) rfl ?_
      refine ⟨_, rfl, rfl, _, rfl, ?_⟩
      rw [decide_eq_true rfl]
      refine iteT ?_
      exact ⟨_, rfl, _, rfl, fa, r, c, c2, k, k2, n, o, L, W, tab, rfl, h1, hk, hk2, ra, R, ks k (List.mem_cons_self ..), ks k2 (List.mem_cons_of_mem _ (List.mem_cons_self ..)), FR.2.2.1, FR.2.2.2.1, FR.2.2.2.2.1, FR.2.2.2.2.2, q H (Same.refl _)⟩
    | counted k lo hi =>
      obtain ⟨c, h1, hk⟩ := F
      have km : k ∈ tab.map (·.1) := ks k (List.mem_cons_self ..)
      obtain ⟨v, av, la, as, rfl, hla, les⟩ := RowAt.get TA km
      generalize e1 : shL W k.1 k.2.2 L (fun _ => true) (ladOf tab k) = S1 at les
      have m1 : ∀ e ∈ S1, 1 ≤ e.s ∧ e.s.toNat ∣ W ∧ e.c = mkN (isC e.s.toNat) W ∧ e.s ≤ 2 ^ 26 ∧ ∃ ψ, e.t = mkN ψ W := fun e he => by
        rw [← e1] at he
        exact R.mem nd km he
      let wt : LE → Nat → Bool := fun e q => inZ lo hi (cntQ k.1 e.s L q)
      have fin : mkN (fun q => S1.any fun e => tbit e q && wt e q) W = mkN (ValQ tab L (.counted k lo hi)) W := mkN_congr fun q hq => by
        have h1 := shL_any (k := k.1) (n := k.2.2) (L := L) hq (fun e => wt e q) (fun _ _ => rfl) (ladOf tab k) fun _ => true
        rw [e1, Bool.true_and] at h1
        refine h1.trans ?_
        show _ = (match stepQ tab L k q with
          | some e => inZ lo hi (cntQ k.1 e.s L q)
          | none => false)
        unfold stepQ
        cases (ladOf tab k).find? fun e => fitQ k.1 k.2.2 L e.s q <;> rfl
      refine ⟨_, rfl, fa, _, _, _, rfl, rfl, SqT.of h1, atL (j := 0) rfl, ?_⟩
      refine gN (σ' := [some (.ref fa), some (.ref r), some (.str "counted"), none, none, none, none, none, none, none, none, none]) rfl ?_
      refine ⟨_, rfl, rfl, _, rfl, ?_⟩
      refine iteF ?_
      refine ⟨_, rfl, r, _, rfl, SqT.of hr0, rfl, _, _, rfl, _, _, rfl, _, _, rfl, rfl, ?_⟩
      refine norm2 (σ' := [some (.ref fa), some (.ref r), some (.str "counted"), some (.int L), some (.int ((mkN (fun _ => true) W : Nat) : Int)), some (.ref D), none, none, none, none, none, none]) rfl ?_
      obtain ⟨tm, hc, htm⟩ := hk
      have hk : KyAt H k c := ⟨tm, hc, htm⟩
      refine ⟨_, rfl, _, rfl, fa, _, _, _, rfl, rfl, SqT.of h1, atL (j := 1) rfl, D, c, kvs, kyN k, .ref la, rfl, rfl, TA.dn, hk.nk, kyN_depth _, av, ?_⟩
      refine ⟨la, rfl, ⟨_, SqL.of hla⟩, for_list (K := K) (a := la) (xs := as.map V.ref) (fun i σ H' => ∃ (v7 v8 v9 v10 v11 : Option V), σ = [some (.ref fa), some (.ref r), some (.str "counted"), some (.int L), some (.int ((mkN (fun _ => true) W : Nat) : Int)), some (.ref D), some (.int ((mkN (fun q => (S1.take i).any fun e => tbit e q && wt e q) W : Nat) : Int)), v7, v8, v9, v10, v11] ∧ Same H H')
        ⟨none, none, none, none, none, ?_, Same.refl _⟩ (fun i σ H' _ ⟨_, _, _, _, _, _, s1⟩ => SqL.of (s1 _ _ hla)) ?_ ?_⟩
      · have z : mkN (fun q => (S1.take 0).any fun e => tbit e q && wt e q) W = 0 := by
          have : (fun q => (S1.take 0).any fun e => tbit e q && wt e q) = fun _ => false := by
            funext q
            rw [List.take_zero, List.any_nil]
          rw [this, mkN_zero]
        rw [z]
        rfl
      · rintro i y σ H' hy ⟨v7, v8, v9, v10, v11, rfl, s1⟩
        obtain ⟨a, ha, rfl⟩ := ref_get hy
        obtain ⟨z, hz, sa, hat, hsa⟩ := paired_at les ha
        obtain ⟨z1, ⟨n, hn⟩, zc, zB, ψ, zt⟩ := m1 z (List.mem_of_getElem? hz)
        have ez : ((z.s.toNat : Nat) : Int) = z.s := by omega
        have n0 : 0 < n := Nat.pos_of_ne_zero fun h => by
          rw [h, Nat.mul_zero] at hn
          have := R.pos
          omega
        refine ⟨a, _, rfl, SqT.of (s1 _ _ hat), rfl, _, _, rfl, _, _, rfl, _, _, rfl, _, _, rfl, rfl, ?_⟩
        refine norm2 (σ' := [some (.ref fa), some (.ref r), some (.str "counted"), some (.int L), some (.int ((mkN (fun _ => true) W : Nat) : Int)), some (.ref D), some (.int ((mkN (fun q => (S1.take i).any fun e => tbit e q && wt e q) W : Nat) : Int)), some (.ref sa), some (.int z.s), some (.int z.c), some (.int z.t), v11]) rfl ?_
        -- behind the wanted ones
        have hC : IsM (z.s.toNat * n) (isC z.s.toNat) z.c := by
          rw [← hn, zc]
          exact mkN_is _ _
        have up : ∀ (M : Int) (ω : Nat → Bool), M = mkN ω W → (∀ q, q < W → (ψ q && ω q) = (ψ q && wt z q)) → Builtin.bitOr ((mkN (fun q => (S1.take i).any fun e => tbit e q && wt e q) W : Nat) : Int) (Builtin.bitAnd z.t M) = ((mkN (fun q => (S1.take (i + 1)).any fun e => tbit e q && wt e q) W : Nat) : Int) := fun M ω eM hω => by
          rw [zt, eM, mk_and, mk_or]
          congr 1
          refine mkN_congr fun q hq => ?_
          rw [take_any hz]
          have h1 : tbit z q = ψ q := by
            unfold tbit
            rw [zt, Int.toNat_natCast, mkN_bit, decide_eq_true hq, Bool.true_and]
          show (_ || (ψ q && ω q)) = _
          rw [h1, hω q hq]
        have h1' := s1 _ _ h1
        refine ⟨_, rfl, rfl, _, rfl, ?_⟩
        rw [decide_eq_true rfl]
        refine iteT ?_
        refine ⟨_, rfl, fa, _, _, _, rfl, rfl, SqT.of h1', atL (j := 1) rfl, c, _, _, _, rfl, rfl, SqT.of (s1 _ _ hc), atL (j := 0) rfl, _, rfl, _, rfl, _, rfl, _, rfl, fa, _, _, _, rfl, rfl, SqT.of h1', atL (j := 2) rfl, _, rfl, fa, _, _, _, rfl, rfl, SqT.of h1', atL (j := 3) rfl, ?_⟩
        refine ⟨k.1, z.c, L, lo, hi, z.s.toNat, n, by rw [ez]; rfl, hC, by omega, by rw [← hn]; exact R.le, Nat.le_mul_of_pos_right _ n0, L0, fun H2 M s2 hM => ?_⟩
        rw [← hn] at hM
        refine gN (σ' := [some (.ref fa), some (.ref r), some (.str "counted"), some (.int L), some (.int ((mkN (fun _ => true) W : Nat) : Int)), some (.ref D), some (.int ((mkN (fun q => (S1.take i).any fun e => tbit e q && wt e q) W : Nat) : Int)), some (.ref sa), some (.int z.s), some (.int z.c), some (.int z.t), some (.int M)]) rfl ?_
        refine ⟨_, rfl, _, rfl, _, rfl, _, _, rfl, rfl, _, _, rfl, rfl, ?_⟩
        show gName 6 (V.int (Builtin.bitOr _ (Builtin.bitAnd z.t M))) _ _ _
        rw [up M _ hM.mk fun q _ => by
          have e : cntB k.1 z.s.toNat L lo hi q = wt z q := by
            show inB lo hi _ = inZ lo hi (cntQ k.1 z.s L q)
            unfold cntQ
            rw [ez]
            cases hi <;> rfl
          rw [e]]
        exact ⟨_, _, _, _, _, rfl, s1.trans s2⟩
      · rintro σ H' ⟨v7, v8, v9, v10, v11, rfl, s1⟩
        rw [List.length_map, ← Paired.length les, List.take_length, fin]
        exact ⟨_, rfl, q H' s1⟩
    | taken k m =>
      obtain ⟨c, h1, hk⟩ := F
      have km : k ∈ tab.map (·.1) := ks k (List.mem_cons_self ..)
      obtain ⟨v, av, la, as, rfl, hla, les⟩ := RowAt.get TA km
      generalize e1 : shL W k.1 k.2.2 L (fun _ => true) (ladOf tab k) = S1 at les
      have m1 : ∀ e ∈ S1, 1 ≤ e.s ∧ e.s.toNat ∣ W ∧ e.c = mkN (isC e.s.toNat) W ∧ e.s ≤ 2 ^ 26 ∧ ∃ ψ, e.t = mkN ψ W := fun e he => by
        rw [← e1] at he
        exact R.mem nd km he
      let wt : LE → Nat → Bool := fun e q => decide (e.m = m)
      have fin : mkN (fun q => S1.any fun e => tbit e q && wt e q) W = mkN (ValQ tab L (.taken k m)) W := mkN_congr fun q hq => by
        have h1 := shL_any (k := k.1) (n := k.2.2) (L := L) hq (fun e => wt e q) (fun _ _ => rfl) (ladOf tab k) fun _ => true
        rw [e1, Bool.true_and] at h1
        refine h1.trans ?_
        show _ = (match stepQ tab L k q with
          | some e => decide (e.m = m)
          | none => false)
        unfold stepQ
        cases (ladOf tab k).find? fun e => fitQ k.1 k.2.2 L e.s q <;> rfl
      refine ⟨_, rfl, fa, _, _, _, rfl, rfl, SqT.of h1, atL (j := 0) rfl, ?_⟩
      refine gN (σ' := [some (.ref fa), some (.ref r), some (.str "taken"), none, none, none, none, none, none, none, none, none]) rfl ?_
      refine ⟨_, rfl, rfl, _, rfl, ?_⟩
      refine iteF ?_
      refine ⟨_, rfl, r, _, rfl, SqT.of hr0, rfl, _, _, rfl, _, _, rfl, _, _, rfl, rfl, ?_⟩
      refine norm2 (σ' := [some (.ref fa), some (.ref r), some (.str "taken"), some (.int L), some (.int ((mkN (fun _ => true) W : Nat) : Int)), some (.ref D), none, none, none, none, none, none]) rfl ?_
      obtain ⟨tm, hc, htm⟩ := hk
      have hk : KyAt H k c := ⟨tm, hc, htm⟩
      refine ⟨_, rfl, _, rfl, fa, _, _, _, rfl, rfl, SqT.of h1, atL (j := 1) rfl, D, c, kvs, kyN k, .ref la, rfl, rfl, TA.dn, hk.nk, kyN_depth _, av, ?_⟩
      refine ⟨la, rfl, ⟨_, SqL.of hla⟩, for_list (K := K) (a := la) (xs := as.map V.ref) (fun i σ H' => ∃ (v7 v8 v9 v10 v11 : Option V), σ = [some (.ref fa), some (.ref r), some (.str "taken"), some (.int L), some (.int ((mkN (fun _ => true) W : Nat) : Int)), some (.ref D), some (.int ((mkN (fun q => (S1.take i).any fun e => tbit e q && wt e q) W : Nat) : Int)), v7, v8, v9, v10, v11] ∧ Same H H')
        ⟨none, none, none, none, none, ?_, Same.refl _⟩ (fun i σ H' _ ⟨_, _, _, _, _, _, s1⟩ => SqL.of (s1 _ _ hla)) ?_ ?_⟩
      · have z : mkN (fun q => (S1.take 0).any fun e => tbit e q && wt e q) W = 0 := by
          have : (fun q => (S1.take 0).any fun e => tbit e q && wt e q) = fun _ => false := by
            funext q
            rw [List.take_zero, List.any_nil]
          rw [this, mkN_zero]
        rw [z]
        rfl
      · rintro i y σ H' hy ⟨v7, v8, v9, v10, v11, rfl, s1⟩
        obtain ⟨a, ha, rfl⟩ := ref_get hy
        obtain ⟨z, hz, sa, hat, hsa⟩ := paired_at les ha
        obtain ⟨z1, ⟨n, hn⟩, zc, zB, ψ, zt⟩ := m1 z (List.mem_of_getElem? hz)
        have ez : ((z.s.toNat : Nat) : Int) = z.s := by omega
        have n0 : 0 < n := Nat.pos_of_ne_zero fun h => by
          rw [h, Nat.mul_zero] at hn
          have := R.pos
          omega
        refine ⟨a, _, rfl, SqT.of (s1 _ _ hat), rfl, _, _, rfl, _, _, rfl, _, _, rfl, _, _, rfl, rfl, ?_⟩
        refine norm2 (σ' := [some (.ref fa), some (.ref r), some (.str "taken"), some (.int L), some (.int ((mkN (fun _ => true) W : Nat) : Int)), some (.ref D), some (.int ((mkN (fun q => (S1.take i).any fun e => tbit e q && wt e q) W : Nat) : Int)), some (.ref sa), some (.int z.s), some (.int z.c), some (.int z.t), v11]) rfl ?_
        -- behind the wanted ones
        have hC : IsM (z.s.toNat * n) (isC z.s.toNat) z.c := by
          rw [← hn, zc]
          exact mkN_is _ _
        have up : ∀ (M : Int) (ω : Nat → Bool), M = mkN ω W → (∀ q, q < W → (ψ q && ω q) = (ψ q && wt z q)) → Builtin.bitOr ((mkN (fun q => (S1.take i).any fun e => tbit e q && wt e q) W : Nat) : Int) (Builtin.bitAnd z.t M) = ((mkN (fun q => (S1.take (i + 1)).any fun e => tbit e q && wt e q) W : Nat) : Int) := fun M ω eM hω => by
          rw [zt, eM, mk_and, mk_or]
          congr 1
          refine mkN_congr fun q hq => ?_
          rw [take_any hz]
          have h1 : tbit z q = ψ q := by
            unfold tbit
            rw [zt, Int.toNat_natCast, mkN_bit, decide_eq_true hq, Bool.true_and]
          show (_ || (ψ q && ω q)) = _
          rw [h1, hω q hq]
        have h1' := s1 _ _ h1
        refine ⟨_, rfl, rfl, _, rfl, ?_⟩
        refine iteF ?_
        refine ⟨_, rfl, rfl, _, rfl, ?_⟩
        refine iteF ?_
        refine ⟨_, rfl, sa, _, _, _, rfl, rfl, SqT.of (s1 _ _ hsa), atL (j := 0) rfl, _, rfl, fa, _, _, _, rfl, rfl, SqT.of h1', atL (j := 2) rfl, rfl, _, rfl, ?_⟩
        have ed : decide (V.int z.m = V.int m) = decide (z.m = m) := decide_eq_decide.mpr ⟨V.int.inj, congrArg V.int⟩
        show if decide (V.int z.m = V.int m) = true then _ else _
        rw [ed]
        by_cases cc : z.m = m
        · rw [if_pos (decide_eq_true cc)]
          refine ⟨_, rfl, ?_⟩
          refine gN (σ' := [some (.ref fa), some (.ref r), some (.str "taken"), some (.int L), some (.int ((mkN (fun _ => true) W : Nat) : Int)), some (.ref D), some (.int ((mkN (fun q => (S1.take i).any fun e => tbit e q && wt e q) W : Nat) : Int)), some (.ref sa), some (.int z.s), some (.int z.c), some (.int z.t), some (.int z.t)]) rfl ?_
          refine ⟨_, rfl, _, rfl, _, rfl, _, _, rfl, rfl, _, _, rfl, rfl, ?_⟩
          show gName 6 (V.int (Builtin.bitOr _ (Builtin.bitAnd z.t z.t))) _ _ _
          rw [up z.t ψ zt fun q _ => by
            have e : wt z q = true := decide_eq_true cc
            rw [e, Bool.and_self, Bool.and_true]]
          exact ⟨_, _, _, _, _, rfl, s1⟩
        · rw [if_neg (fun h => cc (of_decide_eq_true h))]
          refine norm2 (σ' := [some (.ref fa), some (.ref r), some (.str "taken"), some (.int L), some (.int ((mkN (fun _ => true) W : Nat) : Int)), some (.ref D), some (.int ((mkN (fun q => (S1.take i).any fun e => tbit e q && wt e q) W : Nat) : Int)), some (.ref sa), some (.int z.s), some (.int z.c), some (.int z.t), some (.int 0)]) rfl ?_
          refine ⟨_, rfl, _, rfl, _, rfl, _, _, rfl, rfl, _, _, rfl, rfl, ?_⟩
          show gName 6 (V.int (Builtin.bitOr _ (Builtin.bitAnd z.t 0))) _ _ _
          rw [up 0 (fun _ => false) (by rw [mkN_zero]; rfl) fun q _ => by
            have e : wt z q = false := decide_eq_false cc
            rw [e]]
          exact ⟨_, _, _, _, _, rfl, s1⟩
      · rintro σ H' ⟨v7, v8, v9, v10, v11, rfl, s1⟩
        rw [List.length_map, ← Paired.length les, List.take_length, fin]
        exact ⟨_, rfl, q H' s1⟩
    | touched k low =>
      obtain ⟨c, h1, hk⟩ := F
      have km : k ∈ tab.map (·.1) := ks k (List.mem_cons_self ..)
      obtain ⟨v, av, la, as, rfl, hla, les⟩ := RowAt.get TA km
      generalize e1 : shL W k.1 k.2.2 L (fun _ => true) (ladOf tab k) = S1 at les
      have m1 : ∀ e ∈ S1, 1 ≤ e.s ∧ e.s.toNat ∣ W ∧ e.c = mkN (isC e.s.toNat) W ∧ e.s ≤ 2 ^ 26 ∧ ∃ ψ, e.t = mkN ψ W := fun e he => by
        rw [← e1] at he
        exact R.mem nd km he
      let wt : LE → Nat → Bool := fun e q => tchQ e.s L low q
      have fin : mkN (fun q => S1.any fun e => tbit e q && wt e q) W = mkN (ValQ tab L (.touched k low)) W := mkN_congr fun q hq => by
        have h1 := shL_any (k := k.1) (n := k.2.2) (L := L) hq (fun e => wt e q) (fun _ _ => rfl) (ladOf tab k) fun _ => true
        rw [e1, Bool.true_and] at h1
        refine h1.trans ?_
        show _ = (match stepQ tab L k q with
          | some e => tchQ e.s L low q
          | none => false)
        unfold stepQ
        cases (ladOf tab k).find? fun e => fitQ k.1 k.2.2 L e.s q <;> rfl
      refine ⟨_, rfl, fa, _, _, _, rfl, rfl, SqT.of h1, atL (j := 0) rfl, ?_⟩
      refine gN (σ' := [some (.ref fa), some (.ref r), some (.str "touched"), none, none, none, none, none, none, none, none, none]) rfl ?_
      refine ⟨_, rfl, rfl, _, rfl, ?_⟩
      refine iteF ?_
      refine ⟨_, rfl, r, _, rfl, SqT.of hr0, rfl, _, _, rfl, _, _, rfl, _, _, rfl, rfl, ?_⟩
      refine norm2 (σ' := [some (.ref fa), some (.ref r), some (.str "touched"), some (.int L), some (.int ((mkN (fun _ => true) W : Nat) : Int)), some (.ref D), none, none, none, none, none, none]) rfl ?_
      obtain ⟨tm, hc, htm⟩ := hk
      have hk : KyAt H k c := ⟨tm, hc, htm⟩
      refine ⟨_, rfl, _, rfl, fa, _, _, _, rfl, rfl, SqT.of h1, atL (j := 1) rfl, D, c, kvs, kyN k, .ref la, rfl, rfl, TA.dn, hk.nk, kyN_depth _, av, ?_⟩
      refine ⟨la, rfl, ⟨_, SqL.of hla⟩, for_list (K := K) (a := la) (xs := as.map V.ref) (fun i σ H' => ∃ (v7 v8 v9 v10 v11 : Option V), σ = [some (.ref fa), some (.ref r), some (.str "touched"), some (.int L), some (.int ((mkN (fun _ => true) W : Nat) : Int)), some (.ref D), some (.int ((mkN (fun q => (S1.take i).any fun e => tbit e q && wt e q) W : Nat) : Int)), v7, v8, v9, v10, v11] ∧ Same H H')
        ⟨none, none, none, none, none, ?_, Same.refl _⟩ (fun i σ H' _ ⟨_, _, _, _, _, _, s1⟩ => SqL.of (s1 _ _ hla)) ?_ ?_⟩
      · have z : mkN (fun q => (S1.take 0).any fun e => tbit e q && wt e q) W = 0 := by
          have : (fun q => (S1.take 0).any fun e => tbit e q && wt e q) = fun _ => false := by
            funext q
            rw [List.take_zero, List.any_nil]
          rw [this, mkN_zero]
        rw [z]
        rfl
      · rintro i y σ H' hy ⟨v7, v8, v9, v10, v11, rfl, s1⟩
        obtain ⟨a, ha, rfl⟩ := ref_get hy
        obtain ⟨z, hz, sa, hat, hsa⟩ := paired_at les ha
        obtain ⟨z1, ⟨n, hn⟩, zc, zB, ψ, zt⟩ := m1 z (List.mem_of_getElem? hz)
        have ez : ((z.s.toNat : Nat) : Int) = z.s := by omega
        have n0 : 0 < n := Nat.pos_of_ne_zero fun h => by
          rw [h, Nat.mul_zero] at hn
          have := R.pos
          omega
        refine ⟨a, _, rfl, SqT.of (s1 _ _ hat), rfl, _, _, rfl, _, _, rfl, _, _, rfl, _, _, rfl, rfl, ?_⟩
        refine norm2 (σ' := [some (.ref fa), some (.ref r), some (.str "touched"), some (.int L), some (.int ((mkN (fun _ => true) W : Nat) : Int)), some (.ref D), some (.int ((mkN (fun q => (S1.take i).any fun e => tbit e q && wt e q) W : Nat) : Int)), some (.ref sa), some (.int z.s), some (.int z.c), some (.int z.t), v11]) rfl ?_
        -- behind the wanted ones
        have hC : IsM (z.s.toNat * n) (isC z.s.toNat) z.c := by
          rw [← hn, zc]
          exact mkN_is _ _
        have up : ∀ (M : Int) (ω : Nat → Bool), M = mkN ω W → (∀ q, q < W → (ψ q && ω q) = (ψ q && wt z q)) → Builtin.bitOr ((mkN (fun q => (S1.take i).any fun e => tbit e q && wt e q) W : Nat) : Int) (Builtin.bitAnd z.t M) = ((mkN (fun q => (S1.take (i + 1)).any fun e => tbit e q && wt e q) W : Nat) : Int) := fun M ω eM hω => by
          rw [zt, eM, mk_and, mk_or]
          congr 1
          refine mkN_congr fun q hq => ?_
          rw [take_any hz]
          have h1 : tbit z q = ψ q := by
            unfold tbit
            rw [zt, Int.toNat_natCast, mkN_bit, decide_eq_true hq, Bool.true_and]
          show (_ || (ψ q && ω q)) = _
          rw [h1, hω q hq]
        have h1' := s1 _ _ h1
        refine ⟨_, rfl, rfl, _, rfl, ?_⟩
        refine iteF ?_
        refine ⟨_, rfl, rfl, _, rfl, ?_⟩
        rw [decide_eq_true rfl]
        refine iteT ?_
        refine ⟨_, rfl, _, rfl, _, rfl, _, rfl, fa, _, _, _, rfl, rfl, SqT.of h1', atL (j := 2) rfl, ?_⟩
        refine ⟨z.c, L, low, z.s.toNat, n, by rw [ez]; rfl, hC, by omega, by rw [← hn]; exact R.le, Nat.le_mul_of_pos_right _ n0, fun M hM => ?_⟩
        rw [← hn] at hM
        refine gN (σ' := [some (.ref fa), some (.ref r), some (.str "touched"), some (.int L), some (.int ((mkN (fun _ => true) W : Nat) : Int)), some (.ref D), some (.int ((mkN (fun q => (S1.take i).any fun e => tbit e q && wt e q) W : Nat) : Int)), some (.ref sa), some (.int z.s), some (.int z.c), some (.int z.t), some (.int M)]) rfl ?_
        refine ⟨_, rfl, _, rfl, _, rfl, _, _, rfl, rfl, _, _, rfl, rfl, ?_⟩
        show gName 6 (V.int (Builtin.bitOr _ (Builtin.bitAnd z.t M))) _ _ _
        rw [up M _ hM.mk fun q _ => by
          have e : tchB z.s.toNat L low q = wt z q := by
            show (if low then decide (q % z.s.toNat = 0) else decide (((q : Int) + L) % ((z.s.toNat : Nat) : Int) = 0)) = if low then decide ((q : Int) % z.s = 0) else decide (((q : Int) + L) % z.s = 0)
            have h9 : ((q % z.s.toNat : Nat) : Int) = (q : Int) % z.s := (Int.natCast_emod q z.s.toNat).trans (by rw [ez])
            have e3 : decide (q % z.s.toNat = 0) = decide ((q : Int) % z.s = 0) := decide_eq_decide.mpr (by rw [← h9]; exact Int.natCast_eq_zero.symm)
            rw [ez, e3]
          rw [e]]
        exact ⟨_, _, _, _, _, rfl, s1⟩
      · rintro σ H' ⟨v7, v8, v9, v10, v11, rfl, s1⟩
        rw [List.length_map, ← Paired.length les, List.take_length, fin]
        exact ⟨_, rfl, q H' s1⟩
end
end Ax

namespace Ax
open PySem L2
/-- how deep a formula is -/
def Fm.dep : Fm → Nat
  | .not f => f.dep + 1
  | .and f g | .or f g | .xor f g => max f.dep g.dep + 1
  | _ => 0
section
variable {P : Program} {w : World} {K : PySem.W.Frag} {mg : Str → Option Value} {base : Heap} {A : Adr}
def spMask (A : Adr) (w : World) : Nat → Sp
  | 0 => fun _ _ _ _ => False
  | n + 1 => fun vs H Q _ => ∃ (fa r : Addr) (b : Int) (f : Fm) (L : Int) (W : Nat) (tab : Tb), vs = [.ref fa, .ref r] ∧ FmAt H f fa ∧ f.dep ≤ n ∧ FmR b f ∧ RowAt w H r L W tab ∧ TabR W tab ∧ (∀ k ∈ f.keys, k ∈ tab.map (·.1)) ∧ 0 ≤ L ∧
    ∀ H', Same H H' → Q (.int ((mkN (ValQ tab L f) W : Nat) : Int)) H'
abbrev nm_mask_of : List Str := ["formula", "row", "word", "full", "one", "other"]
theorem sc_mask_of : FnScope ["formula", "row", "word", "full", "one", "other"] ["formula", "row"] (defScope s_mask_of) := ⟨rfl, rfl, rfl, by decide +kernel, rfl, by decide +kernel, by decide +kernel⟩
theorem ok_mask (T : Txt K mg A w) : ∀ n, FnOk P w K mg base CX0 (4 + n) A.a_mask_of A.d_mask_of ["formula", "row"] (spMask A w n)
  | 0 => T.F_mask_of.ok sc_mask_of (fun vs H Q E h => h.elim) (fun cdv A0 outer s H vs Q E hr h => h.elim)
  | n + 1 => by
    have G_mask_of := ok_mask T n
    have G_statement_mask : FnOk P w K mg base CX0 3 A.a_statement_mask A.d_statement_mask ["formula", "row"] (spStM w) := ok_stM T
    refine T.F_mask_of.ok (k := 4 + n) sc_mask_of (fun vs H Q E h => ?_) (fun cdv A0 outer s H vs Q E hr h => ?_)
    · obtain ⟨fa, r, b, f, L, W, tab, rfl, _⟩ := h
      rfl
    · obtain ⟨fa, r, b, f, L, W, tab, rfl, F, dp, FR, ra, R, ks, L0, q⟩ := h
      obtain ⟨esP, nP, D⟩ := T.kdP
      refine ⟨_, (pss_cons (ps_set (i := 2) sc_mask_of.nd rfl (Or.inl rfl) (pe_ix ix_tup (pv 0) pe_int (fun _ _ => rfl)))
  (pss_cons (ps_set (i := 3) sc_mask_of.nd rfl (Or.inl rfl) (pe_ix ix_tup (pv 1) pe_int (fun _ _ => rfl)))
  (pss_cons (ps_if (pt_cmpR op_eq (pv 2) pe_str (nomark _)) (pss_one (ps_ret (pv 3))) pss_nil)
  (pss_cons (ps_if (pt_cmpR op_eq (pv 2) pe_str (nomark _)) (pss_one (ps_ret (pe_op op_xor (pv 3) (pe_call G_mask_of (hr.mono (by omega)) (by rfl) T.m_mask_of T.F_mask_of.kp T.B_mask_of .nil pass0 (pa_cons (pe_ix ix_tup (pv 0) pe_int (fun _ _ => rfl)) (pa_cons (pv 1) pa_nil)))))) pss_nil)
  (pss_cons (ps_if (pt_cmpR (op_in_kd D) (pv 2) (pe_glob (v := .ref A.a_PARTS) rfl T.m_PARTS rfl) (by rfl)) (pss_cons (ps_set (i := 4) sc_mask_of.nd rfl (Or.inl rfl) (pe_call G_mask_of (hr.mono (by omega)) (by rfl) T.m_mask_of T.F_mask_of.kp T.B_mask_of .nil pass0 (pa_cons (pe_ix ix_tup (pv 0) pe_int (fun _ _ => rfl)) (pa_cons (pv 1) pa_nil))))
  (pss_cons (ps_set (i := 5) sc_mask_of.nd rfl (Or.inl rfl) (pe_call G_mask_of (hr.mono (by omega)) (by rfl) T.m_mask_of T.F_mask_of.kp T.B_mask_of .nil pass0 (pa_cons (pe_ix ix_tup (pv 0) pe_int (fun _ _ => rfl)) (pa_cons (pv 1) pa_nil))))
  (pss_cons (ps_if (pt_cmpR op_eq (pv 2) pe_str (nomark _)) (pss_one (ps_ret (pe_op op_and (pv 4) (pv 5)))) pss_nil)
  (pss_cons (ps_if (pt_cmpR op_eq (pv 2) pe_str (nomark _)) (pss_one (ps_ret (pe_op op_or (pv 4) (pv 5)))) pss_nil)
  (pss_one (ps_ret (pe_op op_xor (pv 4) (pv 5)))))))) pss_nil)
  (pss_one (ps_ret (pe_call G_statement_mask (hr.mono (by omega)) (by rfl) T.m_statement_mask T.F_statement_mask.kp T.B_statement_mask .nil pass0 (pa_cons (pv 0) (pa_cons (pv 1) pa_nil)))))))))), ?_⟩
      have ra' := ra
      obtain ⟨Dr, odr, kvsr, hr0, TA⟩ := ra'
      cases f with
      | all =>
        have h1 : H fa = some (.tup [.str "all"]) := F
        refine ⟨_, rfl, fa, _, _, _, rfl, rfl, SqT.of h1, atL (j := 0) rfl, ?_⟩
        refine ⟨_, rfl, r, _, _, _, rfl, rfl, SqT.of hr0, atL (j := 1) rfl, ?_⟩
        refine norm2 (σ' := [some (.ref fa), some (.ref r), some (.str "all"), some (.int ((mkN (fun _ => true) W : Nat) : Int)), none, none]) rfl ?_
        refine ⟨_, rfl, rfl, _, rfl, ?_⟩
        rw [decide_eq_true rfl]
        refine iteT ?_
        exact ⟨_, rfl, q H (Same.refl _)⟩
      | not f =>
        obtain ⟨c, h1, Fc⟩ := F
        have dp : f.dep + 1 ≤ n := dp
        obtain ⟨m, rfl⟩ : ∃ m, n = m + 1 := ⟨n - 1, by omega⟩
        refine ⟨_, rfl, fa, _, _, _, rfl, rfl, SqT.of h1, atL (j := 0) rfl, ?_⟩
        refine ⟨_, rfl, r, _, _, _, rfl, rfl, SqT.of hr0, atL (j := 1) rfl, ?_⟩
        refine norm2 (σ' := [some (.ref fa), some (.ref r), some (.str "not"), some (.int ((mkN (fun _ => true) W : Nat) : Int)), none, none]) rfl ?_
        refine ⟨_, rfl, rfl, _, rfl, ?_⟩
        refine iteF ?_
        refine ⟨_, rfl, rfl, _, rfl, ?_⟩
        rw [decide_eq_true rfl]
        refine iteT ?_
        refine ⟨_, rfl, _, rfl, fa, _, _, _, rfl, rfl, SqT.of h1, atL (j := 1) rfl, _, rfl, c, r, b, f, L, W, tab, rfl, Fc, by omega, FR, ra, R, ks, L0, fun H1 s1 => ?_⟩
        refine ⟨_, _, rfl, rfl, ?_⟩
        show Q (V.int (Builtin.bitXor _ _)) H1
        rw [mk_xor]
        have e : (fun q => true ^^ ValQ tab L f q) = ValQ tab L (.not f) := by
          funext q
          show (true ^^ ValQ tab L f q) = !ValQ tab L f q
          rw [Bool.true_xor]
        rw [e]
        exact q H1 s1
      | and f g =>
        obtain ⟨c, e, h1, Fc, Fe⟩ := F
        have dp : max f.dep g.dep + 1 ≤ n := dp
        obtain ⟨m, rfl⟩ : ∃ m, n = m + 1 := ⟨n - 1, by omega⟩
        refine ⟨_, rfl, fa, _, _, _, rfl, rfl, SqT.of h1, atL (j := 0) rfl, ?_⟩
        refine ⟨_, rfl, r, _, _, _, rfl, rfl, SqT.of hr0, atL (j := 1) rfl, ?_⟩
        refine norm2 (σ' := [some (.ref fa), some (.ref r), some (.str "and"), some (.int ((mkN (fun _ => true) W : Nat) : Int)), none, none]) rfl ?_
        refine ⟨_, rfl, rfl, _, rfl, ?_⟩
        refine iteF ?_
        refine ⟨_, rfl, rfl, _, rfl, ?_⟩
        refine iteF ?_
        obtain ⟨vp, hp⟩ := T.pa_and
        refine ⟨_, rfl, _, _, rfl, rfl, hp, _, rfl, ?_⟩
        refine iteT ?_
        refine ⟨_, rfl, fa, _, _, _, rfl, rfl, SqT.of h1, atL (j := 1) rfl, _, rfl, c, r, b, f, L, W, tab, rfl, Fc, by omega, FR.1, ra, R, (fun k hk => ks k (List.mem_append_left _ hk)), L0, fun H1 s1 => ?_⟩
        refine gN (σ' := [some (.ref fa), some (.ref r), some (.str "and"), some (.int ((mkN (fun _ => true) W : Nat) : Int)), some (.int ((mkN (ValQ tab L f) W : Nat) : Int)), none]) rfl ?_
        refine ⟨_, rfl, fa, _, _, _, rfl, rfl, SqT.of (s1 _ _ h1), atL (j := 2) rfl, _, rfl, e, r, b, g, L, W, tab, rfl, FmAt.same s1 Fe, by omega, FR.2, ra.same s1, R, (fun k hk => ks k (List.mem_append_right _ hk)), L0, fun H2 s2 => ?_⟩
        refine gN (σ' := [some (.ref fa), some (.ref r), some (.str "and"), some (.int ((mkN (fun _ => true) W : Nat) : Int)), some (.int ((mkN (ValQ tab L f) W : Nat) : Int)), some (.int ((mkN (ValQ tab L g) W : Nat) : Int))]) rfl ?_
        have s12 := s1.trans s2
        refine ⟨_, rfl, rfl, _, rfl, ?_⟩
        rw [decide_eq_true rfl]
        refine iteT ?_
        refine ⟨_, rfl, _, rfl, _, _, rfl, rfl, ?_⟩
        show Q (V.int (Builtin.bitAnd _ _)) H2
        rw [mk_and]
        exact q H2 s12
      | or f g =>
        obtain ⟨c, e, h1, Fc, Fe⟩ := F
        have dp : max f.dep g.dep + 1 ≤ n := dp
        obtain ⟨m, rfl⟩ : ∃ m, n = m + 1 := ⟨n - 1, by omega⟩
        refine ⟨_, rfl, fa, _, _, _, rfl, rfl, SqT.of h1, atL (j := 0) rfl, ?_⟩
        refine ⟨_, rfl, r, _, _, _, rfl, rfl, SqT.of hr0, atL (j := 1) rfl, ?_⟩
        refine norm2 (σ' := [some (.ref fa), some (.ref r), some (.str "or"), some (.int ((mkN (fun _ => true) W : Nat) : Int)), none, none]) rfl ?_
        refine ⟨_, rfl, rfl, _, rfl, ?_⟩
        refine iteF ?_
        refine ⟨_, rfl, rfl, _, rfl, ?_⟩
        refine iteF ?_
        obtain ⟨vp, hp⟩ := T.pa_or
        refine ⟨_, rfl, _, _, rfl, rfl, hp, _, rfl, ?_⟩
        refine iteT ?_
        refine ⟨_, rfl, fa, _, _, _, rfl, rfl, SqT.of h1, atL (j := 1) rfl, _, rfl, c, r, b, f, L, W, tab, rfl, Fc, by omega, FR.1, ra, R, (fun k hk => ks k (List.mem_append_left _ hk)), L0, fun H1 s1 => ?_⟩
        refine gN (σ' := [some (.ref fa), some (.ref r), some (.str "or"), some (.int ((mkN (fun _ => true) W : Nat) : Int)), some (.int ((mkN (ValQ tab L f) W : Nat) : Int)), none]) rfl ?_
        refine ⟨_, rfl, fa, _, _, _, rfl, rfl, SqT.of (s1 _ _ h1), atL (j := 2) rfl, _, rfl, e, r, b, g, L, W, tab, rfl, FmAt.same s1 Fe, by omega, FR.2, ra.same s1, R, (fun k hk => ks k (List.mem_append_right _ hk)), L0, fun H2 s2 => ?_⟩
        refine gN (σ' := [some (.ref fa), some (.ref r), some (.str "or"), some (.int ((mkN (fun _ => true) W : Nat) : Int)), some (.int ((mkN (ValQ tab L f) W : Nat) : Int)), some (.int ((mkN (ValQ tab L g) W : Nat) : Int))]) rfl ?_
        have s12 := s1.trans s2
        refine ⟨_, rfl, rfl, _, rfl, ?_⟩
        refine iteF ?_
        refine ⟨_, rfl, rfl, _, rfl, ?_⟩
        rw [decide_eq_true rfl]
        refine iteT ?_
        refine ⟨_, rfl, _, rfl, _, _, rfl, rfl, ?_⟩
        show Q (V.int (Builtin.bitOr _ _)) H2
        rw [mk_or]
        exact q H2 s12
      | xor f g =>
        obtain ⟨c, e, h1, Fc, Fe⟩ := F
        have dp : max f.dep g.dep + 1 ≤ n := dp
        obtain ⟨m, rfl⟩ : ∃ m, n = m + 1 := ⟨n - 1, by omega⟩
        refine ⟨_, rfl, fa, _, _, _, rfl, rfl, SqT.of h1, atL (j := 0) rfl, ?_⟩
        refine ⟨_, rfl, r, _, _, _, rfl, rfl, SqT.of hr0, atL (j := 1) rfl, ?_⟩
        refine norm2 (σ' := [some (.ref fa), some (.ref r), some (.str "xor"), some (.int ((mkN (fun _ => true) W : Nat) : Int)), none, none]) rfl ?_
        refine ⟨_, rfl, rfl, _, rfl, ?_⟩
        refine iteF ?_
        refine ⟨_, rfl, rfl, _, rfl, ?_⟩
        refine iteF ?_
        obtain ⟨vp, hp⟩ := T.pa_xor
        refine ⟨_, rfl, _, _, rfl, rfl, hp, _, rfl, ?_⟩
        refine iteT ?_
        refine ⟨_, rfl, fa, _, _, _, rfl, rfl, SqT.of h1, atL (j := 1) rfl, _, rfl, c, r, b, f, L, W, tab, rfl, Fc, by omega, FR.1, ra, R, (fun k hk => ks k (List.mem_append_left _ hk)), L0, fun H1 s1 => ?_⟩
        refine gN (σ' := [some (.ref fa), some (.ref r), some (.str "xor"), some (.int ((mkN (fun _ => true) W : Nat) : Int)), some (.int ((mkN (ValQ tab L f) W : Nat) : Int)), none]) rfl ?_
        refine ⟨_, rfl, fa, _, _, _, rfl, rfl, SqT.of (s1 _ _ h1), atL (j := 2) rfl, _, rfl, e, r, b, g, L, W, tab, rfl, FmAt.same s1 Fe, by omega, FR.2, ra.same s1, R, (fun k hk => ks k (List.mem_append_right _ hk)), L0, fun H2 s2 => ?_⟩
        refine gN (σ' := [some (.ref fa), some (.ref r), some (.str "xor"), some (.int ((mkN (fun _ => true) W : Nat) : Int)), some (.int ((mkN (ValQ tab L f) W : Nat) : Int)), some (.int ((mkN (ValQ tab L g) W : Nat) : Int))]) rfl ?_
        have s12 := s1.trans s2
        refine ⟨_, rfl, rfl, _, rfl, ?_⟩
        refine iteF ?_
        refine ⟨_, rfl, rfl, _, rfl, ?_⟩
        refine iteF ?_
        refine ⟨_, rfl, _, rfl, _, _, rfl, rfl, ?_⟩
        show Q (V.int (Builtin.bitXor _ _)) H2
        rw [mk_xor]
        exact q H2 s12
      | counted k lo hi =>
        have F0 := F
        obtain ⟨c, h1, hk⟩ := F
        refine ⟨_, rfl, fa, _, _, _, rfl, rfl, SqT.of h1, atL (j := 0) rfl, ?_⟩
        refine ⟨_, rfl, r, _, _, _, rfl, rfl, SqT.of hr0, atL (j := 1) rfl, ?_⟩
        refine norm2 (σ' := [some (.ref fa), some (.ref r), some (.str "counted"), some (.int ((mkN (fun _ => true) W : Nat) : Int)), none, none]) rfl ?_
        refine ⟨_, rfl, rfl, _, rfl, ?_⟩
        refine iteF ?_
        refine ⟨_, rfl, rfl, _, rfl, ?_⟩
        refine iteF ?_
        refine ⟨_, rfl, _, _, rfl, rfl, T.pa_counted, _, rfl, ?_⟩
        refine iteF ?_
        exact ⟨_, rfl, _, rfl, fa, r, b, _, L, W, tab, rfl, F0, rfl, FR, ra, R, ks, L0, fun H1 s1 => q H1 s1⟩
      | taken k m =>
        have F0 := F
        obtain ⟨c, h1, hk⟩ := F
        refine ⟨_, rfl, fa, _, _, _, rfl, rfl, SqT.of h1, atL (j := 0) rfl, ?_⟩
        refine ⟨_, rfl, r, _, _, _, rfl, rfl, SqT.of hr0, atL (j := 1) rfl, ?_⟩
        refine norm2 (σ' := [some (.ref fa), some (.ref r), some (.str "taken"), some (.int ((mkN (fun _ => true) W : Nat) : Int)), none, none]) rfl ?_
        refine ⟨_, rfl, rfl, _, rfl, ?_⟩
        refine iteF ?_
        refine ⟨_, rfl, rfl, _, rfl, ?_⟩
        refine iteF ?_
        refine ⟨_, rfl, _, _, rfl, rfl, T.pa_taken, _, rfl, ?_⟩
        refine iteF ?_
        exact ⟨_, rfl, _, rfl, fa, r, b, _, L, W, tab, rfl, F0, rfl, FR, ra, R, ks, L0, fun H1 s1 => q H1 s1⟩
      | coarser k k2 n o =>
        have F0 := F
        obtain ⟨c, c2, h1, hk⟩ := F
        refine ⟨_, rfl, fa, _, _, _, rfl, rfl, SqT.of h1, atL (j := 0) rfl, ?_⟩
        refine ⟨_, rfl, r, _, _, _, rfl, rfl, SqT.of hr0, atL (j := 1) rfl, ?_⟩
        refine norm2 (σ' := [some (.ref fa), some (.ref r), some (.str "coarser"), some (.int ((mkN (fun _ => true) W : Nat) : Int)), none, none]) rfl ?_
        refine ⟨_, rfl, rfl, _, rfl, ?_⟩
        refine iteF ?_
        refine ⟨_, rfl, rfl, _, rfl, ?_⟩
        refine iteF ?_
        refine ⟨_, rfl, _, _, rfl, rfl, T.pa_coarser, _, rfl, ?_⟩
        refine iteF ?_
        exact ⟨_, rfl, _, rfl, fa, r, b, _, L, W, tab, rfl, F0, rfl, FR, ra, R, ks, L0, fun H1 s1 => q H1 s1⟩
      | touched k low =>
        have F0 := F
        obtain ⟨c, h1, hk⟩ := F
        refine ⟨_, rfl, fa, _, _, _, rfl, rfl, SqT.of h1, atL (j := 0) rfl, ?_⟩
        refine ⟨_, rfl, r, _, _, _, rfl, rfl, SqT.of hr0, atL (j := 1) rfl, ?_⟩
        refine norm2 (σ' := [some (.ref fa), some (.ref r), some (.str "touched"), some (.int ((mkN (fun _ => true) W : Nat) : Int)), none, none]) rfl ?_
        refine ⟨_, rfl, rfl, _, rfl, ?_⟩
        refine iteF ?_
        refine ⟨_, rfl, rfl, _, rfl, ?_⟩
        refine iteF ?_
        refine ⟨_, rfl, _, _, rfl, rfl, T.pa_touched, _, rfl, ?_⟩
        refine iteF ?_
        exact ⟨_, rfl, _, rfl, fa, r, b, _, L, W, tab, rfl, F0, rfl, FR, ra, R, ks, L0, fun H1 s1 => q H1 s1⟩
end
end Ax

namespace Ax
open PySem L2
theorem walk_la {K : PySem.W.Frag} {l : Addr} {as : List Addr} : Walk (Itl K l) as.length (fun H => SqL K H l (as.map V.ref)) (fun i H x H' => H' = H ∧ ∃ a, as[i]? = some a ∧ x = .ref a) := by
  have e : (as.map V.ref).length = as.length := List.length_map ..
  have wk := walk_list (K := K) (a := l) (xs := as.map V.ref)
  rw [e] at wk
  exact ⟨wk.goes, wk.stops, fun i H x H' hi g y => by
    obtain ⟨h1, h2⟩ := wk.yields i H x H' hi g y
    obtain ⟨a, h3, h4⟩ := ref_get h2
    exact ⟨h1, a, h3, h4⟩⟩
theorem paired_map2 {α β : Type} {R : α → β → Prop} {f : β → β} (h : ∀ x y, R x y → R x (f y)) : ∀ {l : List α} {m : List β}, Paired R l m → Paired R l (m.map f)
  | _, _, .nil => .nil
  | _, _, .cons a t => .cons (h _ _ a) (paired_map2 h t)
/-- a dict whose keys are these -/
def EnK (H : Hp) (k : Ky) (e : ND.Ent) : Prop := e.1 = kyN k ∧ KyAt H k e.2.1
theorem EnK.kp {H H' : Hp} {ks : List Ky} {kvs : List ND.Ent} (h : Paired (EnK H) ks kvs) (k : Kx H H') : Paired (EnK H') ks kvs := Paired.mapP h fun _ _ z => ⟨z.1, z.2.kp k⟩
/-- a comprehension over keys, some of them equal -/
theorem dcD {w : World} {as : List Addr} {ks : List Ky} {j : Nat} {tv : TE} {σ : L2.St} {H1 : Hp} {D : Addr} {Qd : Hp → Prop} {J : It} {n : Nat} {G : Hp → Prop} {v : V}
    (wk : Walk J n G (fun i H x H' => H' = H ∧ ∃ a, as[i]? = some a ∧ x = .ref a)) (hn : n = ks.length) (hG : ∀ H', (∀ c o, H1 c = some o → H' c = some o) → G H')
    (hD : H1 D = none) (sys : (D == sysModules) = false) (hk : KeysAt H1 ks as) (le : ks.length ≤ 1000) (hj : j < σ.length)
    (hv : ∀ (σ : L2.St) (H4 : Hp) (Qc : VK), Qc v H4 → tv σ H4 Qc)
    (hd : ∀ (H' : Hp) (kvs : List ND.Ent) (ks' : List Ky), (∀ c o, H1 c = some o → H' c = some o) → H' D = some (ND.dnO w kvs D) → ND.DN w H' D kvs → Paired (EnK H') ks' kvs → ks'.Nodup → (∀ k, k ∈ ks' ↔ k ∈ ks) → ks'.length ≤ ks.length → Qd H') :
    ∃ W : Nat → Nat → Hp → Prop, (∃ m, W 0 m (upd H1 D (ND.dnO w [] D))) ∧ ∀ i m H, W i m H → (J.stop i H ∧ Qd H) ∨
      (J.go i H ∧ ∃ Nx : Hp → Prop, (∀ H', Nx H' → ∃ m', m' < m ∧ W (i + 1) m' H') ∧ ∀ x H', J.yld i H x H' → gName j x (wipe σ [j]) H' fun σ2 H2 => wipe σ2 [j] = wipe σ [j] ∧ tYes σ2 H2 fun c H3 =>
        if c = true then tVar j σ2 H3 fun y H4 => tv σ2 H4 fun z H5 => ∃ kvs k b, y = .ref b ∧ H5 D = some (ND.dnO w kvs D) ∧ ND.DN w H5 D kvs ∧ ND.NK H5 k (.ref b) ∧ k.depth ≤ 8 ∧ Nx (upd H5 D (ND.dnO w (ND.putN kvs k b z) D)) else Nx H3) := by
  subst hn
  let I : Nat → Hp → Prop := fun i H => ∃ (kvs : List ND.Ent) (ks' : List Ky), (∀ c o, H1 c = some o → H c = some o) ∧ H D = some (ND.dnO w kvs D) ∧ ND.DN w H D kvs ∧ Paired (EnK H) ks' kvs ∧ ks'.Nodup ∧ (∀ k, k ∈ ks' ↔ k ∈ ks.take i) ∧ ks'.length ≤ i
  refine ⟨fun i m H => m = ks.length - i ∧ i ≤ ks.length ∧ I i H, ⟨ks.length, by simp, Nat.zero_le _, [], [], fun c o e => by rw [upd_ne (ne_of_none e hD)]; exact e, upd_same, ND.DN.nil sys, .nil, List.nodup_nil, fun _ => Iff.rfl, Nat.le_refl _⟩, ?_⟩
  rintro i m H ⟨rfl, hi, kvs, ks', kp, eD, dn, pr, nd, me, ll⟩
  have g := hG H kp
  by_cases lt : i < ks.length
  · refine .inr ⟨wk.goes i H lt g, I (i + 1), fun H' p => ⟨ks.length - (i + 1), by omega, rfl, lt, p⟩, fun x H' y => ?_⟩
    obtain ⟨rfl, a, ha, rfl⟩ := wk.yields i H x H' lt g y
    obtain ⟨k, hki, hka⟩ := paired_at hk ha
    have hka' : KyAt H' k a := hka.same kp
    refine ⟨?_, ?_⟩
    · show ((σ.set j none).set j (some (.ref a))).set j none = σ.set j none
      rw [List.set_set, List.set_set]
    · refine yes_of ?_
      refine ⟨.ref a, ?_, hv _ H' _ ?_⟩
      · show ((σ.set j none).set j (some (V.ref a)))[j]? = some (some (V.ref a))
        rw [List.getElem?_set_self (by rw [List.length_set]; exact hj)]
      · refine ⟨kvs, kyN k, a, rfl, eD, dn, hka'.nk, kyN_depth k, ?_⟩
        have l1 := Paired.length pr
        have dn2 := dn.put (v := v) eD hka'.nk (kyN_depth k) (by rw [PySem.sizeLine_eq]; omega)
        have kx : Kx H' (upd H' D (ND.dnO w (ND.putN kvs (kyN k) a v) D)) := Kx.put eD
        have kq : ∀ c o, H1 c = some o → upd H' D (ND.dnO w (ND.putN kvs (kyN k) a v) D) c = some o := fun c o e => by
          rw [upd_ne (ne_of_none e hD)]
          exact kp c o e
        have tk : ks.take (i + 1) = ks.take i ++ [k] := by
          rw [List.take_add_one, hki]
          rfl
        by_cases inn : k ∈ ks'
        · have so : (ND.atN kvs (kyN k)).isSome = true := by
            rw [ND.atN_isSome]
            obtain ⟨i2, hi2⟩ := List.mem_iff_getElem?.mp inn
            obtain ⟨e, he, ee⟩ := paired_at1 pr hi2
            rw [← ee.1]
            exact List.mem_map_of_mem (f := fun e : ND.Ent => e.1) (List.mem_of_getElem? he)
          have ep : ND.putN kvs (kyN k) a v = kvs.map (fun e => if e.1 = kyN k then (e.1, e.2.1, v) else e) := by
            unfold ND.putN
            rw [if_pos so]
          refine ⟨_, ks', kq, upd_same, dn2, ?_, nd, fun k2 => ?_, by omega⟩
          · have pr2 := EnK.kp pr kx
            rw [ep] at pr2 ⊢
            exact paired_map2 (fun x y r => by
              by_cases c : y.1 = kyN k
              · rw [if_pos c]; exact r
              · rw [if_neg c]; exact r) pr2
          · rw [me k2, tk, List.mem_append, List.mem_singleton]
            exact ⟨.inl, fun h => h.elim id fun e => by rw [e]; exact (me k).mp inn⟩
        · have no : ND.atN kvs (kyN k) = none := ND.atN_none fun e he z => by
            obtain ⟨t, ht, e1, _⟩ := paired_mem pr he
            exact inn (by rw [← kyN_inj (e1.symm.trans z)]; exact ht)
          refine ⟨_, ks' ++ [k], kq, upd_same, dn2, ?_, ?_, fun k2 => ?_, by rw [List.length_append]; show ks'.length + 1 ≤ i + 1; omega⟩
          · rw [ND.putN_new no] at kx ⊢
            exact Paired.snoc (EnK.kp pr kx) ⟨rfl, hka'.kp kx⟩
          · rw [List.nodup_append]
            exact ⟨nd, List.nodup_cons.mpr ⟨fun h => (nomatch h), List.nodup_nil⟩, fun a ha b hb e => inn (by rw [← List.mem_singleton.mp hb, ← e]; exact ha)⟩
          · rw [tk, List.mem_append, List.mem_append, me k2]
  · have e : i = ks.length := by omega
    subst e
    refine .inl ⟨wk.stops H g, hd H kvs ks' kp eD dn pr nd ?_ ll⟩
    intro k
    rw [me k, List.take_length]
theorem sIx1 (x : V) (xs : List V) : HT.sIx (x :: xs).length 0 (some (1 : Int)) = 1 := (HT.sIx_nat _ _ 1).trans (by rw [List.length_cons]; omega)
theorem cut1 {x : V} {ys zs : List V} {n : Nat} (hn : ys.length = n) : cutV (x :: (ys ++ zs)) (some (1 : Int)) (some (1 + (n : Int))) = ys := by
  subst hn
  unfold cutV
  have h2 : HT.sIx (x :: (ys ++ zs)).length (x :: (ys ++ zs)).length (some (1 + (ys.length : Int))) = 1 + ys.length := (HT.sIx_nat _ _ (1 + ys.length)).trans (by rw [List.length_cons, List.length_append]; omega)
  rw [sIx1, h2, List.drop_succ_cons, List.drop_zero, show 1 + ys.length - 1 = ys.length by omega]
  exact List.take_left
theorem cut1n (x : V) (xs : List V) (hi : Option Int) : ¬ (HT.sIx (x :: xs).length 0 (some (1 : Int)) = 0 ∧ HT.sIx (x :: xs).length (x :: xs).length hi = (x :: xs).length) := fun h => by
  rw [sIx1] at h
  omega
/-- the parts of a formula -/
def Fm.parts : Fm → List Fm
  | .not f => [f]
  | .and f g | .or f g | .xor f g => [f, g]
  | _ => []
theorem parts_keys : ∀ {f : Fm}, f.stm = false → f.keys = f.parts.flatMap Fm.keys
  | .all, _ => rfl
  | .not f, _ => by show f.keys = f.keys ++ []; rw [List.append_nil]
  | .and f g, _ => by show f.keys ++ g.keys = f.keys ++ (g.keys ++ []); rw [List.append_nil]
  | .or f g, _ => by show f.keys ++ g.keys = f.keys ++ (g.keys ++ []); rw [List.append_nil]
  | .xor f g, _ => by show f.keys ++ g.keys = f.keys ++ (g.keys ++ []); rw [List.append_nil]
  | .counted .., h | .taken .., h | .coarser .., h | .touched .., h => nomatch h
theorem parts_dep : ∀ {f p : Fm}, p ∈ f.parts → p.dep + 1 ≤ f.dep
  | .not f, p, h => by rw [List.mem_singleton.mp h]; exact Nat.le_refl _
  | .and f g, p, h | .or f g, p, h | .xor f g, p, h => by
    show p.dep + 1 ≤ max f.dep g.dep + 1
    rcases List.mem_cons.mp h with e | h
    · rw [e]; omega
    · rw [List.mem_singleton.mp h]; omega
  | .all, _, h | .counted .., _, h | .taken .., _, h | .coarser .., _, h | .touched .., _, h => nomatch h
theorem paired_app {α β : Type} {R : α → β → Prop} {l2 : List α} {m2 : List β} (h2 : Paired R l2 m2) : ∀ {l1 : List α} {m1 : List β}, Paired R l1 m1 → Paired R (l1 ++ l2) (m1 ++ m2)
  | _, _, .nil => h2
  | _, _, .cons a t => .cons a (paired_app h2 t)
theorem absS {F : L2.St → Hp → Prop} {σ : L2.St} {H : Hp} (P : L2.St → Hp → Prop) (p : P σ H) (h : ∀ σ' H', P σ' H' → F σ' H') : F σ H := h σ H p
theorem keys_of_en {H : Hp} {ks : List Ky} {kvs : List ND.Ent} (h : Paired (EnK H) ks kvs) : KeysAt H ks (kvs.map (·.2.1)) := by
  induction h with
  | nil => exact .nil
  | cons a t ih => exact .cons a.2 ih
section
variable {P : Program} {w : World} {K : PySem.W.Frag} {mg : Str → Option Value} {base : Heap} {A : Adr}
theorem fm_cmp (T : Txt K mg A w) {H : Hp} {fa : Addr} : ∀ {f : Fm}, FmAt H f fa → f.stm = false → ∃ (wd : Str) (cs : List Addr) (t : Tok), H fa = some (.tup (.str wd :: (cs.map V.ref ++ []))) ∧ Paired (FmAt H) f.parts cs ∧ PySem.W.nsIn K A.a_KEYS wd = some none ∧ PySem.W.nsIn K A.a_PARTS wd = some (some (.int (cs.length : Nat) t))
  | .all, F, _ => let ⟨t, ht⟩ := T.pt_all; ⟨"all", [], t, F, .nil, T.ky_all, ht⟩
  | .not f, ⟨c, h, F⟩, _ => let ⟨t, ht⟩ := T.pt_not; ⟨"not", [c], t, h, .cons F .nil, T.ky_not, ht⟩
  | .and f g, ⟨c, d, h, F, G⟩, _ => let ⟨t, ht⟩ := T.pt_and; ⟨"and", [c, d], t, h, .cons F (.cons G .nil), T.ky_and, ht⟩
  | .or f g, ⟨c, d, h, F, G⟩, _ => let ⟨t, ht⟩ := T.pt_or; ⟨"or", [c, d], t, h, .cons F (.cons G .nil), T.ky_or, ht⟩
  | .xor f g, ⟨c, d, h, F, G⟩, _ => let ⟨t, ht⟩ := T.pt_xor; ⟨"xor", [c, d], t, h, .cons F (.cons G .nil), T.ky_xor, ht⟩
  | .counted .., _, h | .taken .., _, h | .coarser .., _, h | .touched .., _, h => nomatch h
theorem fm_stm (T : Txt K mg A w) {H : Hp} {fa : Addr} : ∀ {f : Fm}, FmAt H f fa → f.stm = true → ∃ (wd : Str) (cs : List Addr) (rest : List V) (t : Tok), H fa = some (.tup (.str wd :: (cs.map V.ref ++ rest))) ∧ KeysAt H f.keys cs ∧ PySem.W.nsIn K A.a_KEYS wd = some (some (.int (cs.length : Nat) t)) ∧ f.keys.length ≤ 2
  | .counted k lo hi, ⟨c, h, F⟩, _ => let ⟨t, ht⟩ := T.ky_counted; ⟨"counted", [c], _, t, h, .cons F .nil, ht, (by decide : 1 ≤ 2)⟩
  | .taken k m, ⟨c, h, F⟩, _ => let ⟨t, ht⟩ := T.ky_taken; ⟨"taken", [c], _, t, h, .cons F .nil, ht, (by decide : 1 ≤ 2)⟩
  | .coarser k k2 n o, ⟨c, d, h, F, G⟩, _ => let ⟨t, ht⟩ := T.ky_coarser; ⟨"coarser", [c, d], _, t, h, .cons F (.cons G .nil), ht, (by decide : 2 ≤ 2)⟩
  | .touched k low, ⟨c, h, F⟩, _ => let ⟨t, ht⟩ := T.ky_touched; ⟨"touched", [c], _, t, h, .cons F .nil, ht, (by decide : 1 ≤ 2)⟩
  | .all, _, h | .not _, _, h | .and .., _, h | .or .., _, h | .xor .., _, h => nomatch h
def spKeys (A : Adr) (w : World) : Nat → Sp
  | 0 => fun _ _ _ _ => False
  | n + 1 => fun vs H Q _ => ∃ (fa : Addr) (f : Fm), vs = [.ref fa] ∧ FmAt H f fa ∧ f.dep ≤ n ∧ f.keys.length ≤ 1000 ∧
    ∀ (H' : Hp) (l : Addr) (ks : List Ky) (as : List Addr), Same H H' → H l = none → H' l = some (.lst (as.map V.ref)) → KeysAt H' ks as → ks.Nodup → (∀ k, k ∈ ks ↔ k ∈ f.keys) → ks.length ≤ f.keys.length → Q (.ref l) H'
abbrev nm_keys_of : List Str := ["formula", "word", "found", "part", "key"]
theorem sc_keys_of : FnScope ["formula", "word", "found", "part", "key"] ["formula"] (defScope s_keys_of) := ⟨rfl, rfl, rfl, by decide +kernel, rfl, by decide +kernel, by decide +kernel⟩
theorem ok_keys (T : Txt K mg A w) : ∀ n, FnOk P w K mg base CX0 (1 + n) A.a_keys_of A.d_keys_of ["formula"] (spKeys A w n)
  | 0 => T.F_keys_of.ok sc_keys_of (fun vs H Q E h => h.elim) (fun cdv A0 outer s H vs Q E hr h => h.elim)
  | n + 1 => by
    have G_keys_of := ok_keys T n
    refine T.F_keys_of.ok (k := 1 + n) sc_keys_of (fun vs H Q E h => ?_) (fun cdv A0 outer s H vs Q E hr h => ?_)
    · obtain ⟨fa, f, rfl, _⟩ := h
      rfl
    · obtain ⟨fa, f, rfl, F, dp, fl, q⟩ := h
      have hu := ND.room9 hr
      obtain ⟨esK, nK, DK⟩ := T.kdK
      obtain ⟨esP, nP, D⟩ := T.kdP
      refine ⟨_, (pss_cons (ps_set (i := 1) sc_keys_of.nd rfl (Or.inl rfl) (pe_ix ix_tup (pv 0) pe_int (fun _ _ => rfl)))
  (pss_cons (ps_if (pt_cmpR (op_in_kd DK) (pv 1) (pe_glob (v := .ref A.a_KEYS) rfl T.m_KEYS rfl) (by rfl)) (pss_one (ps_set (i := 2) sc_keys_of.nd rfl (Or.inl rfl) (pe_callTy call_list_of (by rfl) T.n_list (by decide +kernel) (pa_cons (pe_slice sl_tup (pv 0) (po_some pe_int) (po_some (pe_op op_add pe_int (pe_ix ix_kdict (pe_glob (v := .ref A.a_KEYS) rfl T.m_KEYS rfl) (pv 1) (fun _ _ => rfl))))) pa_nil)))) (pss_cons (ps_set (i := 2) sc_keys_of.nd rfl (Or.inl rfl) (pe_lst pa_nil))
  (pss_one (ps_for PassesOwn.never rfl (pi_tup (pe_slice sl_tup (pv 0) (po_some pe_int) (po_some (pe_op op_add pe_int (pe_ix ix_kdict (pe_glob (v := .ref A.a_PARTS) rfl T.m_PARTS rfl) (pv 1) (fun _ _ => rfl)))))) (pg_name (i := 3) sc_keys_of.nd rfl (Or.inl rfl))
  (pss_one (ps_set (i := 2) sc_keys_of.nd rfl (Or.inl rfl) (pe_op op_cat (pv 2) (pe_call G_keys_of (hr.mono (by omega)) (by rfl) T.m_keys_of T.F_keys_of.kp T.B_keys_of .nil pass0 (pa_cons (pv 3) pa_nil)))))))))
  (pss_one (ps_ret (pe_callTy (ND.cr_listN rfl) (by rfl) T.n_list (by decide +kernel) (pa_cons (ND.pe_dcN (own := [("key", 4)]) (g := gName 4) (tt := tYes) rfl sc_keys_of.nd hu (pi_list (pv 2)) (blkOk_by (own := [("key", 4)]) (N := nm_keys_of) (sc := defScope s_keys_of) (by decide +kernel)) (fun _ _ _ _ _ => (pg_name (i := 4) sc_keys_of.nd rfl (Or.inl rfl))) (fun _ _ _ _ _ => pts_nil) (fun _ _ _ _ _ => (pv 4)) (fun _ _ _ _ _ => pe_bl)) pa_nil)))))), ?_⟩
      let P0 : L2.St → Hp → Prop := fun σ' H2 => ∃ (wd v3 : Option V) (fo : Addr) (as : List Addr) (ks : List Ky), σ' = [some (.ref fa), wd, some (.ref fo), v3, none] ∧ Same H H2 ∧ H2 fo = some (.lst (as.map V.ref)) ∧ KeysAt H2 ks as ∧ (∀ k, k ∈ ks ↔ k ∈ f.keys) ∧ ks.length ≤ f.keys.length
      cases fs : f.stm
      case' true =>
        obtain ⟨wd, cs, rest, t, h1, kc, hK, k2⟩ := fm_stm T F fs
        refine ⟨_, rfl, fa, _, _, _, rfl, rfl, SqT.of h1, atL (j := 0) rfl, ?_⟩
        refine ⟨_, rfl, _, _, rfl, rfl, hK, _, rfl, ?_⟩
        refine iteT ?_
        refine ⟨_, rfl, _, rfl, _, rfl, _, _, .int (cs.length : Nat), rfl, rfl, ⟨esK, nK, _, DK.at_, DK.lit, hK, t, rfl⟩, _, _, rfl, rfl, _, rfl, fa, _, rfl, SqT.of h1, cut1n _ _ _, fun tp htp => ?_⟩
        rw [cut1 (List.length_map ..)]
        refine ⟨tp, _, rfl, .inr (SqT.of upd_same), fun l hl => ?_⟩
        refine gN (σ' := [some (.ref fa), some (.str wd), some (.ref l), none, none]) rfl ?_
        have s1 := same_new (o := .tup (cs.map V.ref)) htp
        have s2 := same_new (o := .lst (cs.map V.ref)) hl
        refine absS P0 ⟨_, none, l, cs, f.keys, rfl, s1.trans s2, upd_same, Paired.mapP kc fun _ _ z => z.same (s1.trans s2), fun _ => Iff.rfl, Nat.le_refl _⟩ ?_
      case' false =>
        obtain ⟨wd, cs, t, h1, pc, hK, hP⟩ := fm_cmp T F fs
        refine ⟨_, rfl, fa, _, _, _, rfl, rfl, SqT.of h1, atL (j := 0) rfl, ?_⟩
        refine ⟨_, rfl, _, _, rfl, rfl, hK, _, rfl, ?_⟩
        refine iteF ?_
        refine ⟨Nat.zero_le _, fun sl hsl => ?_⟩
        refine gN (σ' := [some (.ref fa), some (.str wd), some (.ref sl), none, none]) rfl ?_
        have s0 := same_new (o := .lst []) hsl
        refine ⟨_, rfl, _, rfl, _, rfl, _, _, .int (cs.length : Nat), rfl, rfl, ⟨esP, nP, _, D.at_, D.lit, hP, t, rfl⟩, _, _, rfl, rfl, _, rfl, fa, _, rfl, SqT.of (s0 _ _ h1), cut1n _ _ _, fun tp htp => ?_⟩
        rw [cut1 (List.length_map ..)]
        have s1 := same_new (o := .tup (cs.map V.ref)) htp
        have s01 := s0.trans s1
        have fk := parts_keys fs
        refine ⟨tp, rfl, ⟨_, SqT.of upd_same⟩, for_tup (K := K) (a := tp) (xs := cs.map V.ref) (fun i σ H' => ∃ (v3 : Option V) (fo : Addr) (as : List Addr) (ks : List Ky), σ = [some (.ref fa), some (.str wd), some (.ref fo), v3, none] ∧ Same H H' ∧ H' tp = some (.tup (cs.map V.ref)) ∧ H' fo = some (.lst (as.map V.ref)) ∧ KeysAt H' ks as ∧ (∀ k, k ∈ ks ↔ k ∈ (f.parts.take i).flatMap Fm.keys) ∧ ks.length ≤ ((f.parts.take i).flatMap Fm.keys).length)
          ⟨none, sl, [], [], rfl, s01, upd_same, s1 _ _ upd_same, .nil, fun _ => Iff.rfl, Nat.le_refl _⟩ (fun i σ H' _ ⟨_, _, _, _, _, _, e, _⟩ => SqT.of e) ?step ?_⟩
        case' step =>
          rintro i y σ H' hy ⟨v3, fo, as, ks, rfl, s2, etp, efo, ka, me, ll⟩
          obtain ⟨c, hc, rfl⟩ := ref_get hy
          obtain ⟨pf, hpf, hF⟩ := paired_at pc hc
          have pm : pf ∈ f.parts := List.mem_of_getElem? hpf
          have pd := parts_dep pm
          have tk : (f.parts.take (i + 1)).flatMap Fm.keys = (f.parts.take i).flatMap Fm.keys ++ pf.keys := by
            rw [List.take_add_one, hpf, List.flatMap_append]
            show _ ++ (pf.keys ++ []) = _
            rw [List.append_nil]
          have kl : ((f.parts.take (i + 1)).flatMap Fm.keys).length ≤ f.keys.length := by
            rw [fk]
            have := List.take_append_drop (i + 1) f.parts
            have e2 := congrArg (fun l => (l.flatMap Fm.keys).length) this
            simp only [List.flatMap_append, List.length_append] at e2
            omega
          rw [tk, List.length_append] at kl
          obtain ⟨m, rfl⟩ : ∃ m, n = m + 1 := ⟨n - 1, by omega⟩
          refine ⟨_, rfl, _, rfl, c, pf, rfl, hF.same s2, by omega, by omega, fun H2 l ks2 as2 s3 hl el ka2 nd2 me2 ll2 => ?_⟩
          have l1 := Paired.length ka
          have l2 := Paired.length ka2
          refine ⟨fo, l, _, _, rfl, rfl, s3 _ _ efo, el, by rw [List.length_map, List.length_map, PySem.sizeLine_eq]; omega, fun p hp => ?_⟩
          have s4 := same_new (o := .lst (as.map V.ref ++ as2.map V.ref)) hp
          refine ⟨_, p, as ++ as2, ks ++ ks2, rfl, (s2.trans s3).trans s4, s4 _ _ (s3 _ _ etp), by rw [upd_same, List.map_append], paired_app (Paired.mapP ka2 fun _ _ z => z.same s4) (Paired.mapP ka fun _ _ z => z.same (s3.trans s4)), fun k => ?_, ?_⟩
          · rw [tk, List.mem_append, List.mem_append, me k, me2 k]
          · rw [tk, List.length_append, List.length_append]
            omega
        rintro σ' H' ⟨v3, fo, as, ks, rfl, s2, etp, efo, ka, me, ll⟩
        rw [List.length_map, ← Paired.length pc, List.take_length, ← fk] at me ll
        refine absS P0 ⟨_, v3, fo, as, ks, rfl, s2, efo, ka, me, ll⟩ ?_
      all_goals
        rintro σ' H2 ⟨wd, v3, fo, as, ks, rfl, s2, efo, ka, me, ll⟩
        refine ⟨_, rfl, fo, rfl, ⟨_, SqL.of efo⟩, fun D hD sys => ?_⟩
        refine dcD (v := .bl true) (as := as) (ks := ks) walk_la (Paired.length ka).symm (fun H' k => SqL.of (k _ _ efo)) hD sys ka (by omega) (by show 4 < 5; decide) (fun _ _ _ h => h) ?_
        rintro H3 kv2 ks2 kp eD dn pr nd2 me2 ll2
        refine ⟨D, kv2, rfl, dn, fun p hp => ?_⟩
        have s4 := same_new (o := .lst (kv2.map fun e => V.ref e.2.1)) hp
        have sk : Same H (upd H3 p (.lst (kv2.map fun e => V.ref e.2.1))) := fun c o e => s4 _ _ (kp _ _ (s2 _ _ e))
        refine q _ p ks2 (kv2.map (·.2.1)) sk (by
          cases e : H p with
          | none => rfl
          | some o => rw [kp _ _ (s2 _ _ e)] at hp; cases hp) (by rw [upd_same, List.map_map]; rfl) (Paired.mapP (keys_of_en pr) fun _ _ z => z.same s4) nd2 (fun k => (me2 k).trans (me k)) (Nat.le_trans ll2 ll)
end
end Ax

/-! name = {k: v for ..} on one line, keys nested tuples: the value is used within the comprehension. -/
namespace ND
open PySem PySem.Spec PyProof.Rows L2
section
variable {X : Cx}
theorem dc_core {pins : List (Addr × Obj)} {s : Shared} {σ : L2.St} {H : Hp} {Q : VK} {use : Option (Value → Sem Unit)} {Qf : Value → Shared → Prop} {pos' : Pos} {kx vx tg iter : Expr} {ifs : List Expr} {scope : Scope} {own : List (Str × Nat)} {pos : Pos} {wi : TI} {g : TG} {tt : TT} {tk tv : TE} (hc : X.calm = true) (hN : X.N.Nodup) (I : Inv X pins σ H s) (hu : X.A.units + 9 < cLine) (hi : PI X tg iter wi)
    (ok : BlkOk X.N X.env.scope scope own) (hg : ∀ (s : Shared) (H : Hp) (C : Addr) (cl : List (Str × Addr)) (fp : List Addr), PG (X.blk s H scope (compEnvC scope cl C X.env) fp) tg g)
    (ht : ∀ (s : Shared) (H : Hp) (C : Addr) (cl : List (Str × Addr)) (fp : List Addr), PTs (X.blk s H scope (compEnvC scope cl C X.env) fp) ifs tt)
    (hk : ∀ (s : Shared) (H : Hp) (C : Addr) (cl : List (Str × Addr)) (fp : List Addr), PE (X.blk s H scope (compEnvC scope cl C X.env) fp) kx tk)
    (hv : ∀ (s : Shared) (H : Hp) (C : Addr) (cl : List (Str × Addr)) (fp : List Addr), PE (X.blk s H scope (compEnvC scope cl C X.env) fp) vx tv)
    (hs : ∀ x, foldedSetIterable iter X.env x = pure x) (h : tDcN X.w wi g tt tk tv (own.map (·.2)) σ H Q)
    (hRR : ∀ D C s' m H', Inv X pins σ H' s' → Q (.ref D) H' → s'.heap.Ns C m → FpOk X pins H' C → compPost (model X.prog X.w) X.A X.xe use Qf (.ref D) C (.ok .next) s') :
    wpAny (model X.prog X.w) X.A (comprehension (.DictComp kx vx [⟨tg, iter, ifs, 0⟩] scope pos) scope X.env pos' newDict false (eval iter X.env) use) Qf X.xe s := by
  have fr : ∀ y ∈ scope.names, y.2 = .free → ∃ c, X.env.cells.lookup y.1 = some c := fun y hy e => (ok.free y hy e).elim (fun k => I.ok.has _ (.inl k)) fun k => I.ok.has _ (.inr k)
  refine wpAny_comprehension_free (use := use) rfl hs (closure_ok fr) ok.kind (fun y hy e => (ok.uniq y hy).trans (congrArg some e)) (thn (hi.run pins s σ H _ I h) fun _ _ z => thn z fun itv s2 z2 => ?_)
  obtain ⟨it, fp, tn, J, H2, rfl, I2, T, st2, f2, q⟩ := z2
  -- the dict that is made
  have Dn : H2 s2.heap.objs.size = none := I2.hok.fresh (Nat.le_refl _)
  obtain ⟨W, ⟨m0, w0⟩, turn⟩ := q _ Dn (not_sys I2 (Nat.le_refl _))
  have old : ∀ b ∈ fp, b < s2.heap.objs.size := fun b hb => let ⟨_, e, _⟩ := T.obj _ _ st2 b hb; Heap.lt_size e
  refine wpAny_newObj_type (newEnv_comp ?_)
  have I3 : Inv X pins σ (upd H2 s2.heap.objs.size (dnO X.w [] s2.heap.objs.size)) { s2 with heap := s2.heap.push { cls := .type "dict", data := .dict #[] } } :=
    I2.laid (t' := s2.toks) (fun _ _ e => Heap.get?_push_of_some _ e) (Nat.le_refl _) (dn_empty s2.heap I2.big)
  have st3 : tn 0 (s2.heap.push { cls := .type "dict", data := .dict #[] }) := T.keep _ _ _ st2 fun _ _ _ e => Heap.get?_push_of_some _ e
  have f3 : ∀ b ∈ fp, FpOk X pins (upd H2 s2.heap.objs.size (dnO X.w [] s2.heap.objs.size)) b ∧ b < (s2.heap.push { cls := .type "dict", data := .dict #[] }).objs.size := fun b hb =>
    ⟨⟨(upd_ne (Nat.ne_of_lt (old b hb))).trans (f2 b hb).1, (f2 b hb).2⟩, by rw [Heap.size_push]; exact Nat.lt_succ_of_lt (old b hb)⟩
  generalize s2.heap.objs.size = D at Dn w0 turn I3 f3 ⊢
  generalize hs3 : ({ s2 with heap := s2.heap.push { cls := .type "dict", data := .dict #[] } } : Shared) = s3 at I3
  have e3 : s2.heap.push { cls := .type "dict", data := .dict #[] } = s3.heap := by rw [← hs3]
  rw [e3] at st3 f3
  generalize upd H2 D (dnO X.w [] D) = H3 at w0 I3 f3
  -- the block
  have I4 := block_start I3 ok hN f3
  have pg := hg s3 H3 s3.heap.objs.size (cellsFrom (s3.heap.objs.size + 1) scope.names (cloFrom X.env.cells scope.names [])) fp
  have pt := ht s3 H3 s3.heap.objs.size (cellsFrom (s3.heap.objs.size + 1) scope.names (cloFrom X.env.cells scope.names [])) fp
  have pk := hk s3 H3 s3.heap.objs.size (cellsFrom (s3.heap.objs.size + 1) scope.names (cloFrom X.env.cells scope.names [])) fp
  have pv := hv s3 H3 s3.heap.objs.size (cellsFrom (s3.heap.objs.size + 1) scope.names (cloFrom X.env.cells scope.names [])) fp
  have cL : (compEnvC scope (cellsFrom (s3.heap.objs.size + 1) scope.names (cloFrom X.env.cells scope.names [])) s3.heap.objs.size X.env).locals = s3.heap.objs.size := rfl
  have go : codeAny (model X.prog X.w) X.A (.compStart (.DictComp kx vx [⟨tg, iter, ifs, 0⟩] scope pos) 0 (.ref it) (.ref D) (compEnvC scope (cellsFrom (s3.heap.objs.size + 1) scope.names (cloFrom X.env.cells scope.names [])) s3.heap.objs.size X.env))
      (compPost (model X.prog X.w) X.A X.xe use Qf (.ref D) s3.heap.objs.size) { s3 with heap := pushCells (s3.heap.push { cls := .type "dict", data := .dict #[] }) scope.names } := by
    generalize compEnvC scope (cellsFrom (s3.heap.objs.size + 1) scope.names (cloFrom X.env.cells scope.names [])) s3.heap.objs.size X.env = ce at I4 pg pt pk pv cL ⊢
    have st4 : tn 0 (pushCells (s3.heap.push { cls := .type "dict", data := .dict #[] }) scope.names) := T.keep _ _ _ st3 fun _ _ _ e => pushCells_keeps _ _ _ _ (Heap.get?_push_of_some _ e)
    have its : ∀ {σ' : L2.St} {H' : Hp} {s' : Shared}, Inv (X.blk s3 H3 scope ce fp) [] σ' H' s' → (∀ b ∈ fp, H' b = none) → ∀ b ∈ fp, FpOk (X.blk s3 H3 scope ce fp) [] H' b := fun {σ' H' s'} J' n b hb =>
      ⟨n b hb, (J'.ok.exf b hb).1, J'.ok.exfs b hb, .inl hb, fun x c e => (J'.ok.exf b hb).2 x c e, fun p hp => nomatch (show p ∈ ([] : List (Addr × Obj)) from hp)⟩
    have run : codeAny (model X.prog X.w) X.A (.compLoop (.DictComp kx vx [⟨tg, iter, ifs, 0⟩] scope pos) 0 (.ref it) (.ref D) ce) (compPost (model X.prog X.w) X.A X.xe use Qf (.ref D) s3.heap.objs.size) { s3 with heap := pushCells (s3.heap.push { cls := .type "dict", data := .dict #[] }) scope.names } := by
      refine compLoop_anyD (fun n s' => ∃ i H', Inv (X.blk s3 H3 scope ce fp) [] (wipe σ (own.map (·.2))) H' s' ∧ tn i s'.heap ∧ (∀ b ∈ fp, H' b = none) ∧ W i n H') ?_ m0 ⟨0, H3, I4, st4, fun b hb => (f3 b hb).1.1, w0⟩
      rintro n s5 ⟨i, H5, I5, st5, n5, w5⟩
      rcases turn i n H5 w5 with ⟨stop, fin⟩ | ⟨on, Nx, dn, step⟩
      · refine thnF (T.done (X.blk s3 H3 scope ce fp) rfl rfl rfl hc i [] s5 _ H5 (fun _ _ => False) I5 (its I5 n5) st5 stop) fun r s6 ⟨er, I6⟩ => ?_
        subst er
        have back : Inv X pins σ H5 s6 := I3.call' (ch := fp) I6.os I6.base I6.hok I6.bare fun b hb => let ⟨⟨_, x1, _, x3, x4, x5⟩, _⟩ := f3 b hb; ⟨x3, x1, x4, x5⟩
        have nC : H5 s3.heap.objs.size = none := cL ▸ (show H5 ce.locals = none from I6.free)
        obtain ⟨m, hn, _⟩ := I6.loc
        have hn : s6.heap.Ns s3.heap.objs.size m := cL ▸ (show s6.heap.Ns ce.locals m from hn)
        exact hRR D s3.heap.objs.size s6 m H5 back fin hn (I3.fpOk (Nat.le_refl _) nC)
      · refine thnF (T.item (X.blk s3 H3 scope ce fp) rfl rfl rfl hc i [] s5 _ H5 (fun _ _ => False) I5 (its I5 n5) st5 on) fun r s6 ⟨u, er, z6⟩ => ?_
        subst er
        refine thnF z6 fun _ s7 ⟨x, H7, I7, r7, y7, st7, n7⟩ => ?_
        refine thnF (pg.run _ s7 _ H7 x u _ (I7.pinned (its I7 n7) (T.obj _ _ st7)) r7 (step x H7 y7)) fun _ s8 ⟨σ8, H8, I8, e8, q8⟩ => ?_
        have next : ∀ {s' : Shared} {H' : Hp}, Inv (X.blk s3 H3 scope ce fp) ([] ++ pinsAt fp s7.heap) σ8 H' s' → Nx H' → ∃ m, m < n ∧ ∃ i H', Inv (X.blk s3 H3 scope ce fp) [] (wipe σ (own.map (·.2))) H' s' ∧ tn i s'.heap ∧ (∀ b ∈ fp, H' b = none) ∧ W i m H' := fun {s' H'} J' nx => by
          obtain ⟨m', lt, w'⟩ := dn H' nx
          have at_ : ∀ b ∈ fp, ∀ o, s7.heap.get? b = some o → s'.heap.get? b = some o ∧ H' b = none := fun b hb o e => let ⟨p1, p2, _⟩ := J'.pin (b, o) (List.mem_append_right _ (List.mem_append_right _ (mem_pinsAt hb e))); ⟨p1, p2⟩
          refine ⟨m', lt, i + 1, H', J'.unpinned.weak (by rw [← e8, wipe_length]) (fun j v e => (wipe_some (e8 ▸ e)).1), T.keep _ _ _ st7 fun b hb o e => (at_ b hb o e).1, fun b hb => ?_, w'⟩
          obtain ⟨o, e, _⟩ := T.obj _ _ st7 b hb
          exact (at_ b hb o e).2
        refine thnF (pt.run _ s8 σ8 H8 _ I8 q8) fun c s9 ⟨H9, I9, q9⟩ => ?_
        cases c with
        | false =>
          rw [if_neg (by decide)] at q9 ⊢
          exact next I9 q9
        | true =>
          rw [if_pos rfl] at q9 ⊢
          refine thnF (pk.run _ s9 σ8 H9 _ I9 q9) fun ku s10 ⟨yk, H10, I10, r10, q10⟩ => thnF (pv.run _ s10 σ8 H10 _ I10 q10) fun vu s11 ⟨yv, H11, I11, r11, kvs, k, b, ek, eD, d, nk, dp, nx⟩ => ?_
          subst ek
          obtain rfl : ku = Value.ref b := r10
          exact n_dictSet (X := X.blk s3 H3 scope ce fp) (Nat.lt_of_succ_lt hu) I11 eD d nk dp r11 fun s12 I12 => next I12 nx
    exact codeAny_compStart_dict run (T.self X.A 0 _ _ _ st4 run)
  subst hs3
  exact go

theorem sw_trueD {kx vx : Expr} {gs : List Comprehension} {scope : Scope} {pos py : Pos} {y : Str} {l : Nat} {env : Env} (hk : env.scope.kind = .function) (hy : env.scope.names.lookup y = some .local) (hl : (py.line == pos.line) = true)
    (ha : (scope.names.any fun (n, k) => n == y && (k == .local || k == .cell)) = false) : swapsWith (.DictComp kx vx gs scope pos) (some (.Name y py)) l env = pure true := by
  have ky : env.kindOf y = some .local := hy
  have hb : env.blockKind = .function := by unfold Env.blockKind; rw [hk]; rfl
  unfold swapsWith
  simp only [hb, ky, ha, Expr.pos, hl]
  rfl
/-- .. that is never written again -/
theorem ps_setDc {i : Nat} {y : Str} {py : Pos} {kx vx tg iter : Expr} {ifs : List Expr} {scope : Scope} {own : List (Str × Nat)} {pos spos : Pos} {wi : TI} {g : TG} {tt : TT} {tk tv : TE} (hc : X.calm = true) (hN : X.N.Nodup) (hu : X.A.units + 9 < cLine) (hy : X.N[i]? = some y) (hyl : X.env.scope.names.lookup y = some .local)
    (hsw : swapsWith (.DictComp kx vx [⟨tg, iter, ifs, 0⟩] scope pos) (some (.Name y py)) spos.line X.env = pure true) (hi : PI X tg iter wi) (ok : BlkOk X.N X.env.scope scope own)
    (hg : ∀ (s : Shared) (H : Hp) (C : Addr) (cl : List (Str × Addr)) (fp : List Addr), PG (X.blk s H scope (compEnvC scope cl C X.env) fp) tg g)
    (ht : ∀ (s : Shared) (H : Hp) (C : Addr) (cl : List (Str × Addr)) (fp : List Addr), PTs (X.blk s H scope (compEnvC scope cl C X.env) fp) ifs tt)
    (hk : ∀ (s : Shared) (H : Hp) (C : Addr) (cl : List (Str × Addr)) (fp : List Addr), PE (X.blk s H scope (compEnvC scope cl C X.env) fp) kx tk)
    (hv : ∀ (s : Shared) (H : Hp) (C : Addr) (cl : List (Str × Addr)) (fp : List Addr), PE (X.blk s H scope (compEnvC scope cl C X.env) fp) vx tv)
    (hs : ∀ x, foldedSetIterable iter X.env x = pure x := by intro _; rfl) :
    PS X (.Assign [.Name y py] (.DictComp kx vx [⟨tg, iter, ifs, 0⟩] scope pos) spos) (tAsg (tSeal (tDcN X.w wi g tt tk tv (own.map (·.2)))) (gName i)) := by
  refine ⟨fun pins s σ H D I h => ?_⟩
  rw [exec_Assign_Name_used _ _ _ _ hsw]
  refine wpAny_bind (wpAny_standAt (wpAny_bind ?_))
  show wpAny _ X.A (do let _ ← comprehension (.DictComp kx vx [⟨tg, iter, ifs, 0⟩] scope pos) scope X.env (firstIterPos [⟨tg, iter, ifs, 0⟩] pos) newDict false (eval iter X.env) (some (assign (.Name y py) X.env))) _ _ s
  have h : tDcN X.w wi g tt tk tv (own.map (·.2)) σ H (fun v H1 => ∃ d u, v = .ref d ∧ H1 d = some u ∧ Mut (some u) ∧ ∀ od, gName i v σ (upd H1 d (.frz od u)) D.nx) := h
  refine wpAny_bind (thn (dc_core (Qf := fun _ s' => SP X pins D .next s') hc hN I hu hi ok hg ht hk hv hs h fun L C s' m H' I' q hn f => ?_) fun _ s' hq => wpAny_pure (wpAny_pure hq))
  obtain ⟨d, u, ed, hd, mu, q⟩ := q
  cases ed
  obtain ⟨od, I2'⟩ := I'.lock hd mu
  show wpAny _ _ (assign (.Name y py) X.env (.ref L)) _ _ _
  refine wpAny_assign_Name (store_ok2 (v := V.ref L) I2' hN hy (.inl hyl) rfl (fun s2 I2 ⟨a, sb, ha⟩ => ?_) (.inr hyl))
  obtain ⟨f0, f1, f2, f3, f4, f5⟩ := f
  have haC : C ≠ a := by
    rcases ha with z | z
    · rw [z]; exact f1
    · exact fun e => f4 y a z e.symm
  have f0' : upd H' L (.frz od u) C = none := by
    rw [upd_ne (fun e => by rw [e] at f0; rw [f0] at hd; cases hd)]
    exact f0
  refine ⟨m, hn.sameBut sb haC, fun h3 sb3 => ?_⟩
  exact ⟨_, _, I2.turned (t' := s2.toks) (fun b o hb e => (sb3.2 b hb).trans e) f0' f1 f3 f4 f5, q od⟩
end
end ND

namespace Ax
open PySem L2
/-- the ladders in whole numbers -/
def ladT (b dg : Int) (stab : List (Ky × List (Int × Int))) : Tb := stab.map fun t => (t.1, szL b dg t.2)
/-- what counts between two bounds -/
def cntT (F p : Int) (lad : Tb) : Tb := lad.map fun t => (t.1, cntL t.1.1 t.1.2.2 F p t.2)
def gcdL (u : Int) (es : List LE) : Int := es.foldl (fun u e => ((Nat.gcd u.natAbs e.s.natAbs : Nat) : Int)) u
def unitT (F p : Int) (lad : Tb) : Int := gcdL ((Nat.gcd F.natAbs p.natAbs : Nat) : Int) ((cntT F p lad).flatMap (·.2))
structure LadIn (b : Int) (ks : List Ky) (stab : List (Ky × List (Int × Int))) (dg : Int) : Prop where
  keys : stab.map (·.1) = ks
  cand : ∀ t ∈ stab, Cand b t.1 1 b t.2
  dig : DgOf stab dg
structure StR (b dg : Int) (stab : List (Ky × List (Int × Int))) : Prop where
  top : b * b ^ dg.toNat ≤ 2 ^ 22
  ok : ∀ t ∈ stab, t.2.length ≤ 1000 ∧ 1 ≤ t.1.2.2 ∧ t.1.2.2 < 2 ^ 60 ∧ ∀ s ∈ t.2, 1 ≤ s.1 ∧ s.1 < BIG ∧ b ^ (s.2 + dg).natAbs < BIG
  sz : ∀ t ∈ ladT b dg stab, ∀ e ∈ t.2, 1 ≤ e.s ∧ e.s < 2 ^ 60
  X : ∃ Y : Nat, 0 < Y ∧ 4 * Y ≤ 2 ^ 26 ∧ ∀ t ∈ ladT b dg stab, ∀ e ∈ t.2, e.s.toNat ∣ Y
/-- a row's length, and what belongs to it -/
structure Rw where
  u : Int
  L : Int
  W : Nat
  tab : Tb
structure RowOf (lad : Tb) (F p : Int) (j : Nat) (r : Rw) : Prop where
  u_ : r.u = unitT F p lad
  u0 : 0 < r.u
  dF : r.u ∣ F
  dp : r.u ∣ p
  tab_ : r.tab = combT r.W r.u (cntT F p lad)
  wd : ∃ X, X ≤ 2 ^ 26 ∧ 0 < X ∧ WdOk r.W X r.u 4 (fun e => ∃ t ∈ cntT F p lad, e ∈ t.2)
  L_ : r.L = 4 * F / r.u + 2 * (j : Int)
  lt : r.L < 4 * p / r.u
structure RowsAll (lad : Tb) (ms : List Int) (rows : List Rw) : Prop where
  good : ∀ r ∈ rows, ∃ (i : Nat) (F p : Int) (j : Nat), ms[i]? = some F ∧ ms[i + 1]? = some p ∧ RowOf lad F p j r
  all : ∀ (i : Nat) (F p : Int) (j : Nat), ms[i]? = some F → ms[i + 1]? = some p → 4 * F / unitT F p lad + 2 * (j : Int) < 4 * p / unitT F p lad → ∃ r ∈ rows, RowOf lad F p j r
/-- .. as objects -/
def RwAt (w : World) (dg : Int) (H : Hp) (r : Rw) (t : Addr) : Prop := ∃ (D : Addr) (od : Obj) (kvs : List ND.Ent), H t = some (.tup [.int dg, .int r.u, .int r.L, .int (r.W : Nat), .ref D]) ∧ TabAt w (LadK 3) H D r.tab od kvs
/-- a ladder whose list is not this one -/
def LadF (fo : Addr) (n : Nat) (H : Hp) (v : V) (es : List LE) : Prop := ∃ la as, v = .ref la ∧ la ≠ fo ∧ H la = some (.lst (as.map V.ref)) ∧ LEsAt n H es as
/-- all but one object stays -/
def Kf (fo : Addr) (H H' : Hp) : Prop := ∀ c o, c ≠ fo → H c = some o → H' c = some o
theorem tabF {w : World} {fo : Addr} {n : Nat} {H H' : Hp} {d : Addr} {tab : Tb} {od : Obj} {kvs : List ND.Ent} {xs : List V} (h : TabAt w (LadF fo n) H d tab od kvs) (e : H fo = some (.lst xs)) (k : Kf fo H H') : TabAt w (LadF fo n) H' d tab od kvs := by
  have tp : ∀ c ys, H c = some (.tup ys) → H' c = some (.tup ys) := fun c ys z => k _ _ (ne_of z e (by intro z; cases z)) z
  have at2 := k _ _ (ne_of h.at_ e (by intro z; cases z)) h.at_
  refine ⟨at2, ⟨.inr ⟨_, at2⟩, fun y hy => ⟨ND.NK.more tp _ _ (h.dn.keys y hy).1, (h.dn.keys y hy).2⟩, h.dn.nd, h.dn.le, h.dn.sys⟩, Paired.mapP h.tb fun t y ⟨z1, ⟨tm, z2, z3⟩, la, as, z4, z5, z6, z7⟩ => ⟨z1, ⟨tm, tp _ _ z2, tp _ _ z3⟩, la, as, z4, z5, k _ _ z5 z6, Paired.mapP z7 fun _ _ ⟨sa, y1, y2⟩ => ⟨sa, tp _ _ y1, tp _ _ y2⟩⟩⟩
def RwF (w : World) (dg : Int) (fo : Addr) (H : Hp) (r : Rw) (t : Addr) : Prop := ∃ (D : Addr) (od : Obj) (kvs : List ND.Ent), H t = some (.tup [.int dg, .int r.u, .int r.L, .int (r.W : Nat), .ref D]) ∧ TabAt w (LadF fo 3) H D r.tab od kvs
theorem RwF.kf {w : World} {dg : Int} {fo : Addr} {H H' : Hp} {r : Rw} {t : Addr} {xs : List V} (h : RwF w dg fo H r t) (e : H fo = some (.lst xs)) (k : Kf fo H H') : RwF w dg fo H' r t :=
  let ⟨D, od, kvs, h1, h2⟩ := h
  ⟨D, od, kvs, k _ _ (ne_of h1 e (by intro z; cases z)) h1, tabF h2 e k⟩
theorem RwF.at_ {w : World} {dg : Int} {fo : Addr} {H : Hp} {r : Rw} {t : Addr} (h : RwF w dg fo H r t) : RwAt w dg H r t :=
  let ⟨D, od, kvs, h1, h2⟩ := h
  ⟨D, od, kvs, h1, h2.at_, h2.dn, Paired.mapP h2.tb fun _ _ ⟨z1, z2, la, as, z4, _, z6, z7⟩ => ⟨z1, z2, la, as, z4, z6, z7⟩⟩
theorem tabN {w : World} {fo : Addr} {n : Nat} {H0 H : Hp} {d : Addr} {tab : Tb} {od : Obj} {kvs : List ND.Ent} {o : HO} (h : TabAt w (LadN H0 n) H d tab od kvs) (e : H0 fo = some o) : TabAt w (LadF fo n) H d tab od kvs :=
  ⟨h.at_, h.dn, Paired.mapP h.tb fun _ _ ⟨z1, z2, la, as, z4, z5, z6, z7⟩ => ⟨z1, z2, la, as, z4, (fun e2 => by rw [e2, e] at z5; cases z5), z6, z7⟩⟩
/-- a range with step 2 -/
def rn2 (i j : Int) : Nat := (((j - i + 1) / 2).toNat)
theorem rng2 {i j : Int} (hi : 0 ≤ i) (hi' : i < 2 ^ 60) (hj : 0 ≤ j) (hj' : j < 2 ^ 60) : RgC i j 2 (rn2 i j) := by
  have e60 : (2 : Int) ^ 60 = 1152921504606846976 := by decide
  have hs : Builtin.Range.rangeSize i j 2 = ((rn2 i j : Nat) : Int) := by
    unfold Builtin.Range.rangeSize rn2
    rw [if_pos (by decide)]
    split <;> omega
  refine ⟨by decide, by decide, ?_, hs⟩
  unfold Builtin.Range.small
  rw [hs]
  unfold rn2
  simp only [Builtin.Range.rangeFitsLong, Bool.and_eq_true, Bool.or_eq_true, decide_eq_true_eq, beq_iff_eq, show (2 : Int) > 0 by decide, if_true]
  omega
theorem rn2_iff {i j : Int} {m : Nat} : m < rn2 i j ↔ i + 2 * (m : Int) < j := by
  unfold rn2
  omega
theorem cut_tail (xs : List V) : cutV xs (some (1 : Int)) none = xs.drop 1 := by
  unfold cutV
  rw [show HT.sIx xs.length 0 (some (1 : Int)) = min 1 xs.length from HT.sIx_nat _ _ 1, HT.sIx_none]
  cases xs with
  | nil => rfl
  | cons x r =>
    rw [show min 1 (x :: r).length = 1 by rw [List.length_cons]; omega]
    refine List.take_of_length_le ?_
    rw [List.length_drop]
    omega
theorem bnd_rng {F b : Int} {tab : Tb} {ms : List Int} (h : BndOf F b tab ms) (hF : 1 ≤ F) (hb : 2 ≤ b) {x : Int} (hx : x ∈ ms) : F ≤ x ∧ x ≤ b * F := by
  have h1 := (h.2.1 x).mp hx
  have h2 : F ≤ b * F := by
    have := Int.mul_le_mul_of_nonneg_right (show 1 ≤ b by omega) (show 0 ≤ F by omega)
    omega
  unfold bndL at h1
  rcases List.mem_append.mp h1 with h1 | h1
  · rcases List.mem_cons.mp h1 with e | e
    · omega
    · have := List.mem_singleton.mp e
      omega
  · obtain ⟨t, _, h3⟩ := List.mem_flatMap.mp h1
    obtain ⟨e, _, h4⟩ := List.mem_flatMap.mp h3
    have h5 := (List.mem_filter.mp h4).2
    rw [Bool.and_eq_true] at h5
    have := of_decide_eq_true h5.1
    have := of_decide_eq_true h5.2
    omega
theorem gcdL_pos : ∀ {es : List LE} {u : Int}, 0 < u → 0 < gcdL u es
  | [], _, h => h
  | e :: r, u, h => gcdL_pos (es := r) (by
    have : 0 < Nat.gcd u.natAbs e.s.natAbs := Nat.gcd_pos_of_pos_left _ (by omega)
    show (0 : Int) < ((Nat.gcd u.natAbs e.s.natAbs : Nat) : Int)
    omega)
theorem gcdL_dvd : ∀ {es : List LE} {u : Int}, (gcdL u es ∣ u) ∧ ∀ e ∈ es, gcdL u es ∣ e.s
  | [], u => ⟨Int.dvd_refl _, fun _ h => nomatch h⟩
  | e :: r, u => by
    obtain ⟨h1, h2⟩ := gcdL_dvd (es := r) (u := ((Nat.gcd u.natAbs e.s.natAbs : Nat) : Int))
    have a1 : ((Nat.gcd u.natAbs e.s.natAbs : Nat) : Int) ∣ u := Int.ofNat_dvd_left.mpr (Nat.gcd_dvd_left _ _)
    have a2 : ((Nat.gcd u.natAbs e.s.natAbs : Nat) : Int) ∣ e.s := Int.ofNat_dvd_left.mpr (Nat.gcd_dvd_right _ _)
    refine ⟨Int.dvd_trans h1 a1, fun x hx => ?_⟩
    rcases List.mem_cons.mp hx with e1 | hx
    · rw [e1]
      exact Int.dvd_trans h1 a2
    · exact h2 x hx
theorem gcdL_snoc (u : Int) (es : List LE) (e : LE) : gcdL u (es ++ [e]) = ((Nat.gcd (gcdL u es).natAbs e.s.natAbs : Nat) : Int) := by
  unfold gcdL
  rw [List.foldl_append]
  rfl
theorem gcdL_app (u : Int) (es fs : List LE) : gcdL u (es ++ fs) = gcdL (gcdL u es) fs := by
  unfold gcdL
  rw [List.foldl_append]
theorem tab_eq {α β : Type} {g : Ky → α → β} {stab : List (Ky × α)} (nd : (stab.map (·.1)).Nodup) : ∀ {tab : List (Ky × β)}, tab.map (·.1) = stab.map (·.1) → (∀ t ∈ tab, ∃ y, (t.1, y) ∈ stab ∧ t.2 = g t.1 y) → tab = stab.map fun t => (t.1, g t.1 t.2) := by
  intro tab ek h
  refine List.ext_getElem? fun i => ?_
  rw [List.getElem?_map]
  have e1 := congrArg (fun l => l[i]?) ek
  simp only [List.getElem?_map] at e1
  cases ha : tab[i]? with
  | none =>
    rw [ha] at e1
    cases hb : stab[i]? with
    | none => rfl
    | some z => rw [hb] at e1; cases e1
  | some t =>
    rw [ha] at e1
    cases hb : stab[i]? with
    | none => rw [hb] at e1; cases e1
    | some z =>
      rw [hb] at e1
      have e2 : t.1 = z.1 := Option.some.inj e1
      obtain ⟨y, hy, ey⟩ := h t (List.mem_of_getElem? ha)
      have e3 : (t.1, y) = z := by
        obtain ⟨j, hj, ej⟩ := List.getElem_of_mem hy
        obtain ⟨hi, hi2⟩ := List.getElem?_eq_some_iff.mp hb
        have a : (stab.map (·.1))[j]'(by rw [List.length_map]; exact hj) = (stab.map (·.1))[i]'(by rw [List.length_map]; exact hi) := by
          rw [List.getElem_map, List.getElem_map, ej, hi2]
          exact e2
        have := (List.getElem_inj nd).mp a
        subst this
        rw [← hi2, ← ej]
      rw [← e3]
      show some t = some (t.1, g t.1 y)
      rw [← ey]
section
variable {P : Program} {w : World} {K : PySem.W.Frag} {mg : Str → Option Value} {base : Heap} {A : Adr}
def spLens (w : World) : Sp := fun vs H Q _ => ∃ (b : Int) (ka : Addr) (ks : List Ky) (as : List Addr), vs = [.int b, .ref ka] ∧ H ka = some (.lst (as.map V.ref)) ∧ KeysAt H ks as ∧ ks.Nodup ∧ ks.length ≤ 1000 ∧ 2 ≤ b ∧ (∀ k ∈ ks, KyR b k) ∧
  (∀ stab dg, LadIn b ks stab dg → StR b dg stab) ∧
  ∀ (H' : Hp) (l : Addr) (ts : List Addr) (rows : List Rw) (stab : List (Ky × List (Int × Int))) (dg : Int) (ms : List Int), Same H H' → H l = none → H' l = some (.lst (ts.map V.ref)) → Paired (RwAt w dg H') rows ts → LadIn b ks stab dg → BndOf (b ^ dg.toNat) b (ladT b dg stab) ms → RowsAll (ladT b dg stab) ms rows → Q (.ref l) H'
abbrev nm_lengths_of_rows : List Str := ["base", "keys", "steps", "key", "digits", "ladders", "bounds", "found", "first", "past", "counting", "unit", "_", "size", "width", "combed", "length"]
theorem sc_lengths_of_rows : FnScope ["base", "keys", "steps", "key", "digits", "ladders", "bounds", "found", "first", "past", "counting", "unit", "_", "size", "width", "combed", "length"] ["base", "keys"] (defScope s_lengths_of_rows) := ⟨rfl, rfl, rfl, by decide +kernel, rfl, by decide +kernel, by decide +kernel⟩
theorem ok_lens (T : Txt K mg A w) : FnOk P w K mg base CX0 5 A.a_lengths_of_rows A.d_lengths_of_rows ["base", "keys"] (spLens w) := by
  have G_candidates : FnOk P w K mg base CX0 4 A.a_candidates A.d_candidates ["base", "key", "least", "greatest"] spCand := ok_cand T
  have G_digits_of : FnOk P w K mg base CX0 1 A.a_digits_of A.d_digits_of ["ladders"] (spDig w) := ok_dig T
  have G_sized : FnOk P w K mg base CX0 3 A.a_sized A.d_sized ["base", "steps", "digits"] spSized := ok_sized T
  have G_bounds : FnOk P w K mg base CX0 3 A.a_bounds A.d_bounds ["base", "ladders", "digits"] (spBnd w) := ok_bnd T
  have G_counting : FnOk P w K mg base CX0 3 A.a_counting A.d_counting ["key", "steps", "first", "past"] spCnt := ok_cnt T
  have G_quartered : FnOk P w K mg base CX0 2 A.a_quartered A.d_quartered ["ladders", "unit", "stride"] (spQtr w) := ok_qtr T
  obtain ⟨tU, hU⟩ := T.m_UNIT
  refine T.F_lengths_of_rows.ok sc_lengths_of_rows (fun vs H Q E h => ?_) (fun cdv A0 outer s H vs Q E hr h => ?_)
  · obtain ⟨b, ka, ks, as, rfl, _⟩ := h
    rfl
  · obtain ⟨b, ka, ks, as, rfl, hks, kat, nd, kl, b2, kr, prem, q⟩ := h
    have hu := ND.room9 hr
    refine ⟨_, (pss_cons (ps_set (i := 2) sc_lengths_of_rows.nd rfl (Or.inr rfl) (ND.pe_seal (ND.pe_dcN (own := [("key", 3)]) (g := gName 3) (tt := tYes) rfl sc_lengths_of_rows.nd hu (pi_list (pv 1)) (blkOk_by (own := [("key", 3)]) (N := nm_lengths_of_rows) (sc := defScope s_lengths_of_rows) (by decide +kernel)) (fun _ _ _ _ _ => (pg_name (i := 3) sc_lengths_of_rows.nd rfl (Or.inl rfl))) (fun _ _ _ _ _ => pts_nil) (fun _ _ _ _ _ => (pv 3)) (fun _ _ _ _ _ => (pe_call G_candidates (hr.mono (by decide)) (by rfl) T.m_candidates T.F_candidates.kp T.B_candidates .nil pass0 (pa_cons (pv 0) (pa_cons (pv 3) (pa_cons pe_int (pa_cons (pv 0) pa_nil)))))))))
  (pss_cons (ps_set (i := 4) sc_lengths_of_rows.nd rfl (Or.inr rfl) (pe_call G_digits_of (hr.mono (by decide)) (by rfl) T.m_digits_of T.F_digits_of.kp T.B_digits_of .nil pass0 (pa_cons (pv 2) pa_nil)))
  (pss_cons (ps_set (i := 5) sc_lengths_of_rows.nd rfl (Or.inr rfl) (ND.pe_seal (ND.pe_dcN (own := [("key", 3)]) (g := gName 3) (tt := tYes) rfl sc_lengths_of_rows.nd hu (pi_list (pv 1)) (blkOk_by (own := [("key", 3)]) (N := nm_lengths_of_rows) (sc := defScope s_lengths_of_rows) (by decide +kernel)) (fun _ _ _ _ _ => (pg_name (i := 3) sc_lengths_of_rows.nd rfl (Or.inl rfl))) (fun _ _ _ _ _ => pts_nil) (fun _ _ _ _ _ => (pv 3)) (fun _ _ _ _ _ => (pe_call G_sized (hr.mono (by decide)) (by rfl) T.m_sized T.F_sized.kp T.B_sized .nil pass0 (pa_cons (pv 0) (pa_cons (ND.pe_getW w hu (pv 2) (pv 3) (fun _ _ => rfl)) (pa_cons (pv 4) pa_nil))))))))
  (pss_cons (ps_set (i := 6) sc_lengths_of_rows.nd rfl (Or.inl rfl) (pe_call G_bounds (hr.mono (by decide)) (by rfl) T.m_bounds T.F_bounds.kp T.B_bounds .nil pass0 (pa_cons (pv 0) (pa_cons (pv 5) (pa_cons (pv 4) pa_nil)))))
  (pss_cons (ps_set (i := 7) sc_lengths_of_rows.nd rfl (Or.inl rfl) (pe_lst pa_nil))
  (pss_cons (ps_for PassesOwn.never rfl (pi_zip (by rfl) T.n_zip (pa_cons (pv 6) (pa_cons (pe_slice sl_list (pv 6) (po_some pe_int) po_none) pa_nil))) (pg_tup (by rfl) (pgs_cons (pg_name (i := 8) sc_lengths_of_rows.nd rfl (Or.inr rfl)) (pgs_cons (pg_name (i := 9) sc_lengths_of_rows.nd rfl (Or.inr rfl)) pgs_nil)))
  (pss_cons (ND.ps_setDc (i := 10) (own := [("key", 3)]) (g := gName 3) (tt := tYes) rfl sc_lengths_of_rows.nd hu rfl rfl (ND.sw_trueD rfl rfl rfl (by decide +kernel)) (pi_list (pv 1)) (blkOk_by (own := [("key", 3)]) (N := nm_lengths_of_rows) (sc := defScope s_lengths_of_rows) (by decide +kernel)) (fun _ _ _ _ _ => (pg_name (i := 3) sc_lengths_of_rows.nd rfl (Or.inl rfl))) (fun _ _ _ _ _ => pts_nil) (fun _ _ _ _ _ => (pv 3)) (fun _ _ _ _ _ => (pe_call G_counting (hr.mono (by decide)) (by rfl) T.m_counting T.F_counting.kp T.B_counting .nil pass0 (pa_cons (pv 3) (pa_cons (ND.pe_getW w hu (pv 5) (pv 3) (fun _ _ => rfl)) (pa_cons (pv 8) (pa_cons (pv 9) pa_nil)))))))
  (pss_cons (ps_set (i := 11) sc_lengths_of_rows.nd rfl (Or.inl rfl) (pe_callBfun cr_gcd (by rfl) T.g_gcd (pa_cons (pv 8) (pa_cons (pv 9) pa_nil))))
  (pss_cons (ps_for PassesOwn.never rfl (pi_list (pv 1)) (pg_name (i := 3) sc_lengths_of_rows.nd rfl (Or.inl rfl))
  (pss_one (ps_for PassesOwn.never rfl (pi_list (ND.pe_getW w hu (pv 10) (pv 3) (fun _ _ => rfl))) (pg_tup (by rfl) (pgs_cons (pg_name (i := 12) sc_lengths_of_rows.nd rfl (Or.inl rfl)) (pgs_cons (pg_name (i := 13) sc_lengths_of_rows.nd rfl (Or.inl rfl)) pgs_nil)))
  (pss_one (ps_set (i := 11) sc_lengths_of_rows.nd rfl (Or.inl rfl) (pe_callBfun cr_gcd (by rfl) T.g_gcd (pa_cons (pv 11) (pa_cons (pv 13) pa_nil))))))))
  (pss_cons (ps_asg (pe_call G_quartered (hr.mono (by decide)) (by rfl) T.m_quartered T.F_quartered.kp T.B_quartered .nil pass0 (pa_cons (pv 10) (pa_cons (pv 11) (pa_cons (pe_glob (v := .int 4) rfl hU ⟨_, rfl⟩) pa_nil)))) (pg_tup (by rfl) (pgs_cons (pg_name (i := 14) sc_lengths_of_rows.nd rfl (Or.inl rfl)) (pgs_cons (pg_name (i := 15) sc_lengths_of_rows.nd rfl (Or.inl rfl)) pgs_nil))))
  (pss_one (ps_for PassesOwn.never rfl (pi_range3 (by rfl) T.n_range (pa_cons (pe_op op_fdivW (pe_op op_mulW (pe_glob (v := .int 4) rfl hU ⟨_, rfl⟩) (pv 8)) (pv 11)) (pa_cons (pe_op op_fdivW (pe_op op_mulW (pe_glob (v := .int 4) rfl hU ⟨_, rfl⟩) (pv 9)) (pv 11)) (pa_cons pe_int pa_nil)))) (pg_name (i := 16) sc_lengths_of_rows.nd rfl (Or.inl rfl))
  (pss_one (ps_expr (pe_bm PySem.F.plainAttrs_list PySem.F.slot_list_append PySem.F.type_list_append mt_append (pv 7) (pa_cons (pe_tup (pa_cons (pv 4) (pa_cons (pv 11) (pa_cons (pv 16) (pa_cons (pv 14) (pa_cons (pv 15) pa_nil)))))) pa_nil)))))))))))
  (pss_one (ps_ret (pv 7))))))))), ?_⟩
    have e22 : (2 : Int) ^ 22 = 4194304 := by decide
    have e60 : (2 : Int) ^ 60 = 1152921504606846976 := by decide
    -- the steps
    refine ⟨_, rfl, ka, rfl, ⟨_, SqL.of hks⟩, fun D1 hD1 sy1 => ?_⟩
    have nn : ∀ {k : Ky}, k ∈ ks → b < 2 ^ 1000 := fun {k} hk => Int.lt_trans (kr k hk).bB (by decide +kernel)
    refine dcK (PK := StpK) (R := fun k ss => Cand b k 1 b ss) walk_la (Paired.length kat).symm (fun H' k => SqL.of (k _ _ hks)) hD1 sy1 kat nd kl StpK.mono (by show 3 < 17; decide) ?_ ?_
    · intro H4 k a Qc kp hk hm fin
      refine ⟨_, rfl, _, rfl, _, rfl, b, k, a, 1, b, rfl, hk, kr k hm, by omega, by omega, nn hm, fun H' L ss us s5 hL eL st cd => ?_⟩
      exact fin _ H' ss s5 ⟨L, us, rfl, eL, st⟩ cd
    intro H1 kv1 stab k1 eD1 dn1 pr1 ek1 cd1
    refine ⟨D1, _, rfl, eD1, trivial, fun od1 => ?_⟩
    refine gN (σ' := [some (.int b), some (.ref ka), some (.ref D1), none, none, none, none, none, none, none, none, none, none, none, none, none, none]) rfl ?_
    have TA1 := TabAt.sealed (PK := StpK) StpK.mono (od := od1) eD1 dn1 pr1
    have k1 : Same H (upd H1 D1 (.frz od1 (ND.dnO w kv1 D1))) := fun c o e => by
      rw [upd_ne (ne_of_none e hD1)]
      exact k1 c o e
    refine absH (fun H1' => Same H H1' ∧ TabAt w StpK H1' D1 stab od1 kv1) ⟨k1, TA1⟩ ?_
    clear k1 TA1
    rintro H1' ⟨k1, TA1⟩
    -- how many digits
    refine ⟨_, rfl, D1, stab, _, _, rfl, TA1, fun dg hdg => ?_⟩
    have IN : LadIn b ks stab dg := ⟨ek1, cd1, hdg⟩
    have ST := prem stab dg IN
    have dg0 : 0 ≤ dg := hdg.1
    have F1 : 1 ≤ b ^ dg.toNat := pow_pos' (by omega) _
    have bF : b * b ^ dg.toNat < 2 ^ 60 := by have := ST.top; omega
    have bB : b < 2 ^ 60 := by
      have := Int.mul_le_mul_of_nonneg_left F1 (show 0 ≤ b by omega)
      omega
    have nds : (stab.map (·.1)).Nodup := by rw [ek1]; exact nd
    refine gN (σ' := [some (.int b), some (.ref ka), some (.ref D1), none, some (.int dg), none, none, none, none, none, none, none, none, none, none, none, none]) rfl ?_
    -- the ladders
    refine ⟨_, rfl, ka, rfl, ⟨_, SqL.of (k1 _ _ hks)⟩, fun D2 hD2 sy2 => ?_⟩
    have ka1 : KeysAt H1' ks as := Paired.mapP kat fun _ _ z => z.same k1
    refine dcK (PK := LadK 2) (R := fun k es => ∃ ss, (k, ss) ∈ stab ∧ es = szL b dg ss) walk_la (Paired.length kat).symm (fun H' k => SqL.of (k _ _ (k1 _ _ hks))) hD2 sy2 ka1 nd kl LadK.mono (by show 3 < 17; decide) ?_ ?_
    · intro H4 k a Qc kp hk hm fin
      have TA4 := TabAt.same (PK := StpK) StpK.mono TA1 kp
      rw [← ek1] at hm
      obtain ⟨t, ht, rfl⟩ := List.mem_map.mp hm
      obtain ⟨v, hv, la, us, rfl, hla, st⟩ := TA4.get (k := t.1) (y := t.2) ht
      obtain ⟨s1, s2, s3, s4⟩ := ST.ok t ht
      refine ⟨_, rfl, _, rfl, _, rfl, D1, a, kv1, kyN t.1, .ref la, rfl, rfl, TA4.dn, hk.nk, kyN_depth _, hv, _, rfl, b, dg, la, us, t.2, rfl, hla, st, by omega, lt_big (n := 60) (i := b) bB (by decide), by rw [PySem.sizeLine_eq]; omega, fun z hz => ⟨by have := hdg.2.1 t ht z hz; omega, s4 z hz⟩, fun H' L s5 hL lk => ?_⟩
      exact fin _ H' _ s5 lk ⟨t.2, ht, rfl⟩
    intro H2 kv2 lad k2 eD2 dn2 pr2 ek2 rr2
    have el : lad = ladT b dg stab := tab_eq (g := fun _ ss => szL b dg ss) nds (ek2.trans ek1.symm) rr2
    refine ⟨D2, _, rfl, eD2, trivial, fun od2 => ?_⟩
    refine gN (σ' := [some (.int b), some (.ref ka), some (.ref D1), none, some (.int dg), some (.ref D2), none, none, none, none, none, none, none, none, none, none, none]) rfl ?_
    have TA2 := TabAt.sealed (PK := LadK 2) LadK.mono (od := od2) eD2 dn2 pr2
    have k2 : Same H1' (upd H2 D2 (.frz od2 (ND.dnO w kv2 D2))) := fun c o e => by
      rw [upd_ne (ne_of_none e hD2)]
      exact k2 c o e
    refine absH (fun H2' => Same H1' H2' ∧ TabAt w (LadK 2) H2' D2 lad od2 kv2) ⟨k2, TA2⟩ ?_
    clear k2 TA2
    rintro H2' ⟨k2, TA2⟩
    have k12 := k1.trans k2
    -- the bounds
    have lk : ∀ t ∈ lad, t.2.length ≤ 1000 ∧ 1 ≤ t.1.2.2 ∧ t.1.2.2 < 2 ^ 60 ∧ ∀ e ∈ t.2, 1 ≤ e.s ∧ e.s < 2 ^ 60 := fun t ht => by
      rw [el] at ht
      have h3 := ST.sz t ht
      obtain ⟨t0, h0, rfl⟩ := List.mem_map.mp ht
      obtain ⟨s1, s2, s3, _⟩ := ST.ok t0 h0
      exact ⟨by show (szL b dg t0.2).length ≤ 1000; unfold szL; rw [List.length_map]; exact s1, s2, s3, h3⟩
    have ll : lad.length ≤ 1000 := by
      have := congrArg List.length ek2
      rw [List.length_map] at this
      omega
    refine ⟨_, rfl, _, rfl, _, rfl, D2, b, dg, lad, _, _, rfl, TA2, b2, bB, dg0, bF, ll, fun t ht => ?_, fun H3 lb ms s3 hlb elb bo => ?_⟩
    · obtain ⟨l1, l2, l3, l4⟩ := lk t ht
      exact ⟨l1, l2, l3, fun e he => ⟨by have := (l4 e he).1; omega, (l4 e he).2⟩⟩
    refine gN (σ' := [some (.int b), some (.ref ka), some (.ref D1), none, some (.int dg), some (.ref D2), some (.ref lb), none, none, none, none, none, none, none, none, none, none]) rfl ?_
    have k3 := k12.trans s3
    refine ⟨Nat.zero_le _, fun fo hfo => ?_⟩
    refine gN (σ' := [some (.int b), some (.ref ka), some (.ref D1), none, some (.int dg), some (.ref D2), some (.ref lb), some (.ref fo), none, none, none, none, none, none, none, none, none]) rfl ?_
    have s4 := same_new (o := .lst []) hfo
    have elb : H3 lb = some (.lst (ms.map V.int)) := elb
    refine ⟨_, rfl, _, rfl, _, rfl, lb, _, rfl, SqL.of (s4 _ _ elb), fun pz hpz => ?_⟩
    rw [cut_tail]
    have s5 := same_new (o := .lst ((ms.map V.int).drop 1)) hpz
    have s45 := s4.trans s5
    have ne_pz : pz ≠ fo := fun e => by rw [e, upd_same] at hpz; cases hpz
    have em : (ms.map V.int).length = ms.length := List.length_map ..
    have mL : ms ≠ [] := fun e => by
      have := (bo.2.1 (b ^ dg.toNat)).mpr (List.mem_append_left _ (List.mem_cons_self ..))
      rw [e] at this
      nomatch this
    generalize eF0 : b ^ dg.toNat = F0 at *
    have rng : ∀ x ∈ ms, F0 ≤ x ∧ x ≤ b * F0 := fun x hx => bnd_rng bo F1 b2 hx
    have hn : ms.length - 1 = min (ms.map V.int).length ((ms.map V.int).drop 1).length := by
      rw [List.length_drop, em]
      omega
    have top := ST.top
    rw [eF0] at top
    refine ⟨lb, pz, _, _, rfl, SqL.of (s45 _ _ elb), SqL.of upd_same, for_it (walk_zip (K := K) (a := lb) (b := pz) hn) (fun i σ H' => ∃ (v3 v8 v9 v10 v11 v12 v13 v14 v15 v16 : Option V) (rows : List Rw) (ts : List Addr), σ = [some (.int b), some (.ref ka), some (.ref D1), v3, some (.int dg), some (.ref D2), some (.ref lb), some (.ref fo), v8, v9, v10, v11, v12, v13, v14, v15, v16] ∧ (∀ c o, H3 c = some o → H' c = some o) ∧ H' pz = some (.lst ((ms.map V.int).drop 1)) ∧ H' fo = some (.lst (ts.map V.ref)) ∧ Paired (RwF w dg fo H') rows ts ∧
        (∀ r ∈ rows, ∃ (i : Nat) (F p : Int) (j : Nat), ms[i]? = some F ∧ ms[i + 1]? = some p ∧ RowOf lad F p j r) ∧ (∀ (i2 : Nat) (F p : Int) (j : Nat), i2 < i → ms[i2]? = some F → ms[i2 + 1]? = some p → 4 * F / unitT F p lad + 2 * (j : Int) < 4 * p / unitT F p lad → ∃ r ∈ rows, RowOf lad F p j r) ∧ ∀ F, ms[i]? = some F → (rows.length : Int) ≤ 2 * F)
      ⟨none, none, none, none, none, none, none, none, none, none, [], [], rfl, fun c o e => s45 _ _ e, upd_same, s5 _ _ upd_same, .nil, (fun _ h => nomatch h), (fun i2 _ _ _ h => absurd h (Nat.not_lt_zero _)), fun F hF => ?_⟩ (fun i σ H' _ ⟨_, _, _, _, _, _, _, _, _, _, _, _, _, kp, ez, _⟩ => ⟨SqL.of (kp _ _ elb), SqL.of ez⟩) ?_ ?_⟩
    · have := (rng F (List.mem_of_getElem? hF)).1
      show (0 : Int) ≤ 2 * F
      omega
    · rintro i x σ H4 H4' hi ⟨v3, v8, v9, v10, v11, v12, v13, v14, v15, v16, rows, ts, rfl, kp, ez, ef, prw, good, all_, cnt⟩ ⟨T0, x1, x2, rfl, hT0, rfl, e1, e2⟩
      obtain ⟨F, hF, rfl⟩ : ∃ F, ms[i]? = some F ∧ x1 = .int F := by
        have e1 : (ms.map V.int)[i]? = some x1 := e1
        rw [List.getElem?_map] at e1
        obtain ⟨F, h1, h2⟩ := Option.map_eq_some_iff.mp e1
        exact ⟨F, h1, h2.symm⟩
      obtain ⟨p, hp, rfl⟩ : ∃ p, ms[i + 1]? = some p ∧ x2 = .int p := by
        have e2 : ((ms.map V.int).drop 1)[i]? = some x2 := e2
        rw [List.getElem?_drop, Nat.add_comm 1 i, List.getElem?_map] at e2
        obtain ⟨F, h1, h2⟩ := Option.map_eq_some_iff.mp e2
        exact ⟨F, h1, h2.symm⟩
      have rF := rng F (List.mem_of_getElem? hF)
      have rp := rng p (List.mem_of_getElem? hp)
      have s6 := same_new (o := .tup [.int F, .int p]) hT0
      refine ⟨T0, _, rfl, SqT.of upd_same, rfl, _, _, rfl, _, _, rfl, rfl, ?_⟩
      refine norm2 (σ' := [some (.int b), some (.ref ka), some (.ref D1), v3, some (.int dg), some (.ref D2), some (.ref lb), some (.ref fo), some (.int F), some (.int p), v10, v11, v12, v13, v14, v15, v16]) rfl ?_
      refine absH (fun H' => Same H4 H') s6 ?_
      clear s6 hT0
      rintro H5 s6
      have kp5 : ∀ c o, H3 c = some o → H5 c = some o := fun c o e => s6 _ _ (kp c o e)
      have k35 : Same H H5 := fun c o e => kp5 _ _ (k3 _ _ e)
      -- what counts
      refine ⟨_, rfl, ka, rfl, ⟨_, SqL.of (k35 _ _ hks)⟩, fun D3 hD3 sy3 => ?_⟩
      have ka5 : KeysAt H5 ks as := Paired.mapP kat fun _ _ z => z.same k35
      have s23 : Same H2' H5 := s3.trans kp5
      have ndl : (lad.map (·.1)).Nodup := by rw [ek2]; exact nd
      refine dcK (PK := LadK 2) (R := fun k es => ∃ e0, (k, e0) ∈ lad ∧ es = cntL k.1 k.2.2 F p e0) walk_la (Paired.length kat).symm (fun H' k => SqL.of (k _ _ (k35 _ _ hks))) hD3 sy3 ka5 nd kl LadK.mono (by show 3 < 17; decide) ?_ ?_
      · intro H6 k a Qc kp6 hk hm fin
        have TA6 := TabAt.same (PK := LadK 2) LadK.mono TA2 (s23.trans kp6)
        rw [← ek2] at hm
        obtain ⟨t, ht, rfl⟩ := List.mem_map.mp hm
        obtain ⟨v, hv, lv⟩ := TA6.get (k := t.1) (y := t.2) ht
        obtain ⟨l1, l2, l3, l4⟩ := lk t ht
        have lv' := lv
        obtain ⟨la, us, rfl, _⟩ := lv'
        refine ⟨_, rfl, _, rfl, _, rfl, D2, a, kv2, kyN t.1, .ref la, rfl, rfl, TA6.dn, hk.nk, kyN_depth _, hv, _, rfl, _, rfl, t.1, a, la, F, p, t.2, rfl, hk, lv, by rw [PySem.sizeLine_eq]; omega, l2, l3, (fun e he => ⟨by have := (l4 e he).1; omega, (l4 e he).2⟩), by omega, by omega, fun H' L s7 hL lk7 => ?_⟩
        exact fin _ H' _ s7 lk7 ⟨t.2, ht, rfl⟩
      intro H6 kv3 ctab k6 eD3 dn3 pr3 ek3 rr3
      have ec : ctab = cntT F p lad := tab_eq (g := fun k e0 => cntL k.1 k.2.2 F p e0) ndl (ek3.trans ek2.symm) rr3
      refine ⟨D3, _, rfl, eD3, trivial, fun od3 => ?_⟩
      refine gN (σ' := [some (.int b), some (.ref ka), some (.ref D1), v3, some (.int dg), some (.ref D2), some (.ref lb), some (.ref fo), some (.int F), some (.int p), some (.ref D3), v11, v12, v13, v14, v15, v16]) rfl ?_
      have TA3 := TabAt.sealed (PK := LadK 2) LadK.mono (od := od3) eD3 dn3 pr3
      have k6 : Same H5 (upd H6 D3 (.frz od3 (ND.dnO w kv3 D3))) := fun c o e => by
        rw [upd_ne (ne_of_none e hD3)]
        exact k6 c o e
      refine absH (fun H6' => Same H5 H6' ∧ TabAt w (LadK 2) H6' D3 ctab od3 kv3) ⟨k6, TA3⟩ ?_
      clear k6 TA3
      rintro H6' ⟨k6, TA3⟩
      have k36 : Same H H6' := k35.trans k6
      -- the unit
      refine ⟨_, rfl, _, rfl, F, p, rfl, ?_⟩
      refine gN (σ' := [some (.int b), some (.ref ka), some (.ref D1), v3, some (.int dg), some (.ref D2), some (.ref lb), some (.ref fo), some (.int F), some (.int p), some (.ref D3), some (.int ((Nat.gcd F.natAbs p.natAbs : Nat) : Int)), v12, v13, v14, v15, v16]) rfl ?_
      generalize eg0 : ((Nat.gcd F.natAbs p.natAbs : Nat) : Int) = g0 at *
      have hl3 := TA3.len
      have lc : ctab.length = as.length := by
        have h1 := congrArg List.length ek3
        rw [List.length_map] at h1
        have h2 := Paired.length kat
        omega
      refine ⟨_, rfl, ka, rfl, ⟨_, SqL.of (k36 _ _ hks)⟩, for_list (K := K) (a := ka) (xs := as.map V.ref) (fun i2 σ H' => ∃ (v3 v12 v13 : Option V), σ = [some (.int b), some (.ref ka), some (.ref D1), v3, some (.int dg), some (.ref D2), some (.ref lb), some (.ref fo), some (.int F), some (.int p), some (.ref D3), some (.int (gcdL g0 ((ctab.take i2).flatMap (·.2)))), v12, v13, v14, v15, v16] ∧ H' = H6')
        ⟨v3, v12, v13, rfl, rfl⟩ (fun i2 σ H' _ ⟨_, _, _, _, e⟩ => by rw [e]; exact SqL.of (k36 _ _ hks)) ?_ ?_⟩
      · rintro i2 y σ H' hy ⟨v3', v12', v13', rfl, rfl⟩
        obtain ⟨a, ha, rfl⟩ := ref_get hy
        obtain ⟨k, hk, hka⟩ := paired_at kat ha
        obtain ⟨t, ht, rfl⟩ : ∃ t, ctab[i2]? = some t ∧ t.1 = k := by
          have e : (ctab.map (·.1))[i2]? = some k := by rw [ek3]; exact hk
          rw [List.getElem?_map] at e
          obtain ⟨t, h1, h2⟩ := Option.map_eq_some_iff.mp e
          exact ⟨t, h1, h2⟩
        obtain ⟨v, hv, la, us, rfl, hla, les⟩ := TA3.get (k := t.1) (y := t.2) (List.mem_of_getElem? ht)
        refine ⟨_, rfl, _, rfl, D3, a, kv3, kyN t.1, .ref la, rfl, rfl, TA3.dn, (hka.same k36).nk, kyN_depth _, hv, ?_⟩
        refine ⟨la, rfl, ⟨_, SqL.of hla⟩, for_list (K := K) (a := la) (xs := us.map V.ref) (fun j σ H2 => ∃ (v12 v13 : Option V), σ = [some (.int b), some (.ref ka), some (.ref D1), some (.ref a), some (.int dg), some (.ref D2), some (.ref lb), some (.ref fo), some (.int F), some (.int p), some (.ref D3), some (.int (gcdL g0 ((ctab.take i2).flatMap (·.2) ++ t.2.take j))), v12, v13, v14, v15, v16] ∧ H2 = H')
          ⟨v12', v13', by rw [List.take_zero, List.append_nil]; rfl, rfl⟩ (fun j σ H2 _ ⟨_, _, _, e⟩ => by rw [e]; exact SqL.of hla) ?_ ?_⟩
        · rintro j y σ H2 hy ⟨v12'', v13'', rfl, rfl⟩
          obtain ⟨a2, ha2, rfl⟩ := ref_get hy
          obtain ⟨z, hz, sa, hat, hsa⟩ := paired_at les ha2
          refine ⟨a2, _, rfl, SqT.of hat, rfl, _, _, rfl, _, _, rfl, rfl, ?_⟩
          refine norm2 (σ' := [some (.int b), some (.ref ka), some (.ref D1), some (.ref a), some (.int dg), some (.ref D2), some (.ref lb), some (.ref fo), some (.int F), some (.int p), some (.ref D3), some (.int (gcdL g0 ((ctab.take i2).flatMap (·.2) ++ t.2.take j))), some (.ref sa), some (.int z.s), v14, v15, v16]) rfl ?_
          refine ⟨_, rfl, _, rfl, _, _, rfl, some (.ref sa), some (.int z.s), ?_, rfl⟩
          have e : gcdL g0 ((ctab.take i2).flatMap (·.2) ++ t.2.take (j + 1)) = ((Nat.gcd (gcdL g0 ((ctab.take i2).flatMap (·.2) ++ t.2.take j)).natAbs z.s.natAbs : Nat) : Int) := by
            rw [List.take_add_one, hz, ← List.append_assoc]
            exact gcdL_snoc _ _ _
          rw [e]
          rfl
        · rintro σ H2 ⟨v12'', v13'', rfl, rfl⟩
          rw [List.length_map, ← Paired.length les, List.take_length]
          refine ⟨some (.ref a), v12'', v13'', ?_, rfl⟩
          rw [List.take_add_one, ht, List.flatMap_append]
          show _ = [_, _, _, _, _, _, _, _, _, _, _, some (V.int (gcdL g0 ((ctab.take i2).flatMap (·.2) ++ (t.2 ++ [])))), _, _, _, _, _]
          rw [List.append_nil]
      rintro σ H' ⟨v3', v12', v13', rfl, rfl⟩
      rw [List.length_map, ← lc, List.take_length]
      have eu : gcdL g0 (ctab.flatMap (·.2)) = unitT F p lad := by
        rw [ec, ← eg0]
        rfl
      rw [eu]
      have u0 : 0 < unitT F p lad := by
        rw [← eu, ← eg0]
        refine gcdL_pos ?_
        have : 0 < Nat.gcd F.natAbs p.natAbs := Nat.gcd_pos_of_pos_left _ (by omega)
        omega
      obtain ⟨ud, us_⟩ := gcdL_dvd (es := ctab.flatMap (·.2)) (u := g0)
      rw [eu] at ud us_
      have uF : unitT F p lad ∣ F := Int.dvd_trans ud (by rw [← eg0]; exact Int.ofNat_dvd_left.mpr (Nat.gcd_dvd_left _ _))
      have up : unitT F p lad ∣ p := Int.dvd_trans ud (by rw [← eg0]; exact Int.ofNat_dvd_left.mpr (Nat.gcd_dvd_right _ _))
      have uB : unitT F p lad < 2 ^ 60 := by
        have := Int.le_of_dvd (by omega) uF
        omega
      generalize eun : unitT F p lad = u at *
      obtain ⟨Y, Y0, YB, Yd⟩ := ST.X
      have e26 : (2 : Nat) ^ 26 = 67108864 := by decide
      have cok : ∀ t ∈ ctab, t.2.length < sizeLine ∧ ∀ e ∈ t.2, 1 ≤ e.s ∧ e.s < 2 ^ 60 ∧ e.s % u = 0 ∧ (qtr u e.s).toNat ∣ 4 * Y := fun t ht => by
        have ht0 := ht
        rw [ec] at ht
        obtain ⟨t0, h0, rfl⟩ := List.mem_map.mp ht
        obtain ⟨l1, l2, l3, l4⟩ := lk t0 h0
        refine ⟨by have := cntL_le (k := t0.1.1) (n := t0.1.2.2) (F := F) (p := p) t0.2; show (cntL t0.1.1 t0.1.2.2 F p t0.2).length < sizeLine; rw [PySem.sizeLine_eq]; omega, fun e he => ?_⟩
        have he0 := cntL_mem he
        obtain ⟨e1, e2⟩ := l4 e he0
        have du : u ∣ e.s := us_ e (List.mem_flatMap.mpr ⟨_, ht0, he⟩)
        have dY := Yd t0 (by rw [← el]; exact h0) e he0
        refine ⟨e1, e2, Int.emod_eq_zero_of_dvd du, ?_⟩
        obtain ⟨c, hc⟩ := du
        have eq4 : qtr u e.s = 4 * c := by
          unfold qtr
          rw [hc, ← Int.mul_assoc, Int.mul_comm 4, Int.mul_assoc]
          exact Int.mul_ediv_cancel_left _ (by omega)
        have c0 : 0 < c := by
          refine Int.not_le.mp fun h => ?_
          have := Int.mul_le_mul_of_nonneg_left h (show 0 ≤ u by omega)
          omega
        have d1 : c.toNat ∣ e.s.toNat := by
          rw [hc]
          refine ⟨u.toNat, ?_⟩
          rw [Int.toNat_mul (by omega) (by omega), Nat.mul_comm]
        rw [eq4, Int.toNat_mul (by decide) (by omega)]
        exact Nat.mul_dvd_mul (Nat.dvd_refl 4) (Nat.dvd_trans d1 dY)
      have cl : ctab.length ≤ 1000 := by
        rw [ec]
        unfold cntT
        rw [List.length_map]
        exact ll
      refine ⟨_, rfl, _, rfl, D3, u, 4, ctab, _, _, 4 * Y, rfl, TA3, u0, uB, by decide, by omega, YB, ⟨Y, rfl⟩, cl, cok, fun H7 q7 D7 W od7 kv7 s7 hq7 eq7 TA7 WD => ?_⟩
      refine ⟨q7, _, rfl, SqT.of eq7, rfl, _, _, rfl, _, _, rfl, rfl, ?_⟩
      refine norm2 (σ' := [some (.int b), some (.ref ka), some (.ref D1), v3', some (.int dg), some (.ref D2), some (.ref lb), some (.ref fo), some (.int F), some (.int p), some (.ref D3), some (.int u), v12', v13', some (.int (W : Nat)), some (.ref D7), v16]) rfl ?_
      have m4 : ∀ x : Int, 0 ≤ x → x < 2 ^ 60 → CMulW 4 x := fun x h0 h1 => wide_mul (a := 3) (b := 61) (by decide) (Nat.lt_trans (abs_lt_pow (k := 60) h0 h1) (by decide)) (by decide) (by decide) (by decide)
      have dU : ∀ x : Int, CDivW x u := fun x => wide_div (b := 60) u0 (abs_lt_pow (by omega) uB) (by decide) (by decide)
      have q4 : ∀ x : Int, F0 ≤ x → x ≤ b * F0 → 0 ≤ 4 * x / u ∧ 4 * x / u ≤ 4 * x := fun x h0 h1 => ⟨Int.ediv_nonneg (by omega) (by omega), Int.ediv_le_self _ (by omega)⟩
      obtain ⟨a1, a2⟩ := q4 F rF.1 rF.2
      obtain ⟨a3, a4⟩ := q4 p rp.1 rp.2
      have kp7 : ∀ c o, H4 c = some o → H7 c = some o := fun c o e => s7 _ _ (k6 _ _ (s6 _ _ e))
      have sz : sizeLine = 16777216 := PySem.sizeLine_eq
      have nfo : ∀ {c : Addr}, H7 c = none → c ≠ fo := fun h e => by rw [e, kp7 _ _ ef] at h; cases h
      have row_ : ∀ j : Nat, j < rn2 (4 * F / u) (4 * p / u) → RowOf lad F p j ⟨u, 4 * F / u + 2 * (j : Int), W, combT W u ctab⟩ := fun j hj => ⟨eun.symm, u0, uF, up, by rw [ec], ⟨4 * Y, YB, by omega, by rw [← ec]; exact WD⟩, rfl, rn2_iff.mp hj⟩
      have n2 : (rn2 (4 * F / u) (4 * p / u) : Int) ≤ 2 * p - 2 * F := by
        obtain ⟨cF, hcF⟩ := uF
        obtain ⟨cp, hcp⟩ := up
        have b1 : 4 * F / u = 4 * cF := by
          rw [hcF, ← Int.mul_assoc, Int.mul_comm 4, Int.mul_assoc]
          exact Int.mul_ediv_cancel_left _ (by omega)
        have b2 : 4 * p / u = 4 * cp := by
          rw [hcp, ← Int.mul_assoc, Int.mul_comm 4, Int.mul_assoc]
          exact Int.mul_ediv_cancel_left _ (by omega)
        have Fp : F < p := by
          obtain ⟨i1, i2⟩ := List.getElem?_eq_some_iff.mp hF
          obtain ⟨i3, i4⟩ := List.getElem?_eq_some_iff.mp hp
          have := (List.pairwise_iff_getElem.mp bo.1) i (i + 1) i1 i3 (by omega)
          omega
        have b3 : cp - cF ≤ p - F := by
          have h1 : p - F = u * (cp - cF) := by rw [hcF, hcp, Int.mul_sub]
          generalize cp - cF = z at h1 ⊢
          have h2 : 0 ≤ z := by
            refine Int.not_lt.mp fun h => ?_
            have h9 := Int.mul_le_mul_of_nonneg_left (show z ≤ 0 by omega) (show 0 ≤ u by omega)
            rw [Int.mul_zero] at h9
            omega
          have h9 := Int.mul_le_mul_of_nonneg_right (show 1 ≤ u by omega) h2
          rw [Int.one_mul] at h9
          omega
        unfold rn2
        rw [b1, b2]
        omega
      have cnt0 := cnt F hF
      refine ⟨_, rfl, _, _, rfl, rfl, m4 F (by omega) (by omega), _, rfl, _, _, rfl, rfl, dU _, _, rfl, _, _, rfl, rfl, m4 p (by omega) (by omega), _, rfl, _, _, rfl, rfl, dU _, _, _, _, rn2 (4 * F / u) (4 * p / u), rfl, rng2 a1 (by omega) a3 (by omega), ?_⟩
      refine for_it walk_rangeC (fun j σ H' => ∃ (v16 : Option V) (ts2 : List Addr), σ = [some (.int b), some (.ref ka), some (.ref D1), v3', some (.int dg), some (.ref D2), some (.ref lb), some (.ref fo), some (.int F), some (.int p), some (.ref D3), some (.int u), v12', v13', some (.int (W : Nat)), some (.ref D7), v16] ∧ (∀ c o, c ≠ fo → H7 c = some o → H' c = some o) ∧ H' fo = some (.lst ((ts ++ ts2).map V.ref)) ∧ Paired (RwF w dg fo H') (rows ++ (List.range j).map fun m => ⟨u, 4 * F / u + 2 * (m : Int), W, combT W u ctab⟩) (ts ++ ts2))
        ⟨v16, [], rfl, fun c o _ e => e, by rw [List.append_nil]; exact kp7 _ _ ef, ?_⟩ (fun _ _ _ _ _ => trivial) ?_ ?_
      · rw [List.append_nil, List.range_zero, List.map_nil, List.append_nil]
        exact Paired.mapP prw fun _ _ z => z.kf ef fun c o _ e => kp7 c o e
      · rintro j x σ H8 H8' hj ⟨v16', ts2, rfl, kf, ef8, prw8⟩ ⟨rfl, rfl⟩
        refine gN (σ' := [some (.int b), some (.ref ka), some (.ref D1), v3', some (.int dg), some (.ref D2), some (.ref lb), some (.ref fo), some (.int F), some (.int p), some (.ref D3), some (.int u), v12', v13', some (.int (W : Nat)), some (.ref D7), some (.int (4 * F / u + (j : Int) * 2))]) rfl ?_
        have l1 := Paired.length prw8
        rw [List.length_append, List.length_map, List.length_range, List.length_append] at l1
        have l2 := Paired.length prw
        refine ⟨_, rfl, .inl ⟨rfl, _, SqL.of ef8⟩, _, rfl, _, rfl, _, rfl, _, rfl, _, rfl, (by show 5 ≤ sizeLine; decide), fun t8 ht8 => ?_⟩
        have s8 := same_new (o := .tup [.int dg, .int u, .int (4 * F / u + (j : Int) * 2), .int (W : Nat), .ref D7]) ht8
        have ef9 := s8 _ _ ef8
        refine ⟨fo, _, _, rfl, rfl, ef9, by rw [List.length_map, List.length_append]; omega, ?_⟩
        have nt8 : t8 ≠ fo := fun e => by
          rw [e, ef8] at ht8
          cases ht8
        have kf9 : Kf fo H8' (upd (upd H8' t8 (.tup [.int dg, .int u, .int (4 * F / u + (j : Int) * 2), .int (W : Nat), .ref D7])) fo (.lst ((ts ++ ts2).map V.ref ++ [.ref t8]))) := fun c o n e => by
          rw [upd_ne n]
          exact s8 _ _ e
        have kf79 : Kf fo H7 (upd (upd H8' t8 (.tup [.int dg, .int u, .int (4 * F / u + (j : Int) * 2), .int (W : Nat), .ref D7])) fo (.lst ((ts ++ ts2).map V.ref ++ [.ref t8]))) := fun c o n e => kf9 c o n (kf c o n e)
        have e7 := kp7 _ _ ef
        refine ⟨_, ts2 ++ [t8], rfl, kf79, by rw [upd_same, ← List.append_assoc, List.map_append (l₁ := ts ++ ts2)]; rfl, ?_⟩
        have er : (rows ++ (List.range (j + 1)).map fun (m : Nat) => (⟨u, 4 * F / u + 2 * (m : Int), W, combT W u ctab⟩ : Rw)) = (rows ++ (List.range j).map fun (m : Nat) => (⟨u, 4 * F / u + 2 * (m : Int), W, combT W u ctab⟩ : Rw)) ++ [⟨u, 4 * F / u + 2 * (j : Int), W, combT W u ctab⟩] := by
          rw [List.range_succ, List.map_append, List.append_assoc]
          rfl
        rw [er, ← List.append_assoc]
        refine Paired.snoc (Paired.mapP prw8 fun _ _ z => z.kf ef8 kf9) ⟨D7, od7, kv7, ?_, ?_⟩
        · rw [upd_ne nt8, upd_same]
          show some (HO.tup [_, _, .int (4 * F / u + (j : Int) * 2), _, _]) = some (HO.tup [_, _, .int (4 * F / u + 2 * (j : Int)), _, _])
          rw [Int.mul_comm (j : Int) 2]
        · exact tabF (tabN TA7 (k6 _ _ (s6 _ _ ef))) e7 kf79
      · rintro σ H8 ⟨v16', ts2, rfl, kf, ef8, prw8⟩
        refine ⟨_, _, _, _, _, _, _, _, _, _, _, ts ++ ts2, rfl, fun c o e => kf c o (ne_of_none e hfo) (kp7 _ _ (kp c o e)), ?_, ef8, prw8, ?_, ?_, ?_⟩
        · exact kf _ _ (ne_pz) (kp7 _ _ ez)
        · intro r hr
          rcases List.mem_append.mp hr with h | h
          · exact good r h
          · obtain ⟨m, hm, rfl⟩ := List.mem_map.mp h
            exact ⟨i, F, p, m, hF, hp, row_ m (List.mem_range.mp hm)⟩
        · intro i2 F2 p2 j2 hi2 h1 h2 h3
          rcases Nat.lt_succ_iff_lt_or_eq.mp hi2 with lt | e
          · obtain ⟨r, h4, h5⟩ := all_ i2 F2 p2 j2 lt h1 h2 h3
            exact ⟨r, List.mem_append_left _ h4, h5⟩
          · subst e
            rw [hF] at h1
            rw [hp] at h2
            cases h1
            cases h2
            rw [eun] at h3
            have h4 := rn2_iff.mpr h3
            exact ⟨_, List.mem_append_right _ (List.mem_map.mpr ⟨j2, List.mem_range.mpr h4, rfl⟩), row_ j2 h4⟩
        · intro F2 h1
          rw [hp] at h1
          cases h1
          rw [List.length_append, List.length_map, List.length_range]
          omega
    · rintro σ H4 ⟨v3, v8, v9, v10, v11, v12, v13, v14, v15, v16, rows, ts, rfl, kp, ez, ef, prw, good, all_, cnt⟩
      have hlq : Same H H4 := fun c o e => kp _ _ (k3 _ _ e)
      have nfo : H fo = none := k3.free hfo
      subst el
      refine ⟨_, rfl, q H4 fo ts rows stab dg ms hlq nfo ef (Paired.mapP prw fun _ _ z => z.at_) IN (by rw [eF0]; exact bo) ⟨good, fun i F p j h1 h2 h3 => all_ i F p j ?_ h1 h2 h3⟩⟩
      have := (List.getElem?_eq_some_iff.mp h2).1
      omega
end
end Ax

namespace Ax
open PySem L2
theorem row_tabR {lad : Tb} {F p : Int} {j : Nat} {r : Rw} (h : RowOf lad F p j r) (hl : ∀ t ∈ lad, t.2.length ≤ 1000 ∧ ∀ e ∈ t.2, 1 ≤ e.s) : TabR r.W r.tab := by
  obtain ⟨X, XB, X0, wd⟩ := h.wd
  have hu := gcdL_dvd (es := (cntT F p lad).flatMap (·.2)) (u := ((Nat.gcd F.natAbs p.natAbs : Nat) : Int))
  refine ⟨wd.pos, Nat.le_trans (Nat.le_of_dvd X0 wd.dvd) XB, fun t ht => ?_⟩
  rw [h.tab_] at ht
  obtain ⟨t1, h1, rfl⟩ := List.mem_map.mp ht
  have h1' := h1
  obtain ⟨t0, h0, rfl⟩ := List.mem_map.mp h1'
  obtain ⟨l1, l2⟩ := hl t0 h0
  refine ⟨?_, fun e he => ?_⟩
  · show ((cntL t0.1.1 t0.1.2.2 F p t0.2).map (combE r.W r.u)).length < sizeLine
    have := cntL_le (k := t0.1.1) (n := t0.1.2.2) (F := F) (p := p) t0.2
    rw [List.length_map, PySem.sizeLine_eq]
    omega
  · obtain ⟨e0, he0, rfl⟩ := List.mem_map.mp he
    have a1 := l2 e0 (cntL_mem he0)
    have a2 : r.u ∣ e0.s := by
      rw [h.u_]
      exact hu.2 e0 (List.mem_flatMap.mpr ⟨_, h1, he0⟩)
    obtain ⟨r1, r2⟩ := qtr_pos h.u0 a1 (Int.emod_eq_zero_of_dvd a2)
    exact ⟨by show 1 ≤ qtr r.u e0.s; omega, wd.all e0 ⟨_, h1, he0⟩, rfl⟩
theorem row_keys {lad : Tb} {F p : Int} {j : Nat} {r : Rw} (h : RowOf lad F p j r) : r.tab.map (·.1) = lad.map (·.1) := by
  rw [h.tab_]
  unfold combT cntT
  rw [List.map_map, List.map_map]
  rfl
theorem row_L {lad : Tb} {F p : Int} {j : Nat} {r : Rw} (h : RowOf lad F p j r) (hF : 0 ≤ F) : 0 ≤ r.L := by
  rw [h.L_]
  have := Int.ediv_nonneg (show 0 ≤ 4 * F by omega) (show 0 ≤ r.u by have := h.u0; omega)
  omega
section
variable {P : Program} {w : World} {K : PySem.W.Frag} {mg : Str → Option Value} {base : Heap} {A : Adr}
/-- what the rows say -/
def HasM (b : Int) (f : Fm) (r : Bool) : Prop := ∃ (ks : List Ky) (stab : List (Ky × List (Int × Int))) (dg : Int) (ms : List Int) (rows : List Rw), (∀ k, k ∈ ks ↔ k ∈ f.keys) ∧ ks.Nodup ∧ LadIn b ks stab dg ∧ StR b dg stab ∧ BndOf (b ^ dg.toNat) b (ladT b dg stab) ms ∧ RowsAll (ladT b dg stab) ms rows ∧ r = rows.any fun ρ => decide (mkN (ValQ ρ.tab ρ.L f) ρ.W ≠ 0)
def spHas (A : Adr) (w : World) : Nat → Sp
  | n => fun vs H Q _ => ∃ (b : Int) (fa : Addr) (f : Fm), vs = [.int b, .ref fa] ∧ FmAt H f fa ∧ f.dep + 1 ≤ n ∧ FmR b f ∧ f.keys.length ≤ 1000 ∧ 2 ≤ b ∧ (∀ k ∈ f.keys, KyR b k) ∧
    (∀ ks stab dg, (∀ k, k ∈ ks ↔ k ∈ f.keys) → LadIn b ks stab dg → StR b dg stab) ∧ ∀ (H' : Hp) (r : Bool), Same H H' → HasM b f r → Q (.bl r) H'
abbrev nm_has_members : List Str := ["base", "formula", "_", "length", "width", "ladders"]
theorem sc_has_members : FnScope ["base", "formula", "_", "length", "width", "ladders"] ["base", "formula"] (defScope s_has_members) := ⟨rfl, rfl, rfl, by decide +kernel, rfl, by decide +kernel, by decide +kernel⟩
theorem ok_has (T : Txt K mg A w) (n : Nat) : FnOk P w K mg base CX0 (5 + n + 1) A.a_has_members A.d_has_members ["base", "formula"] (spHas A w n) := by
  have G_mask_of := ok_mask (P := P) (base := base) T n
  have G_keys_of := ok_keys (P := P) (base := base) T n
  have G_lengths_of_rows : FnOk P w K mg base CX0 5 A.a_lengths_of_rows A.d_lengths_of_rows ["base", "keys"] (spLens w) := ok_lens T
  have G_row_of : FnOk P w K mg base CX0 4 A.a_row_of A.d_row_of ["length", "width", "ladders"] (spRow w) := ok_row T
  refine T.F_has_members.ok (k := 5 + n) sc_has_members (fun vs H Q E h => ?_) (fun cdv A0 outer s H vs Q E hr h => ?_)
  · obtain ⟨b, fa, f, rfl, _⟩ := h
    rfl
  · obtain ⟨b, fa, f, rfl, F, dp, FR, fl, b2, kr, prem, q⟩ := h
    refine ⟨_, (pss_cons (ps_for PassesOwn.never rfl (pi_list (pe_call G_lengths_of_rows (hr.mono (by omega)) (by rfl) T.m_lengths_of_rows T.F_lengths_of_rows.kp T.B_lengths_of_rows .nil pass0 (pa_cons (pv 0) (pa_cons (pe_call G_keys_of (hr.mono (by omega)) (by rfl) T.m_keys_of T.F_keys_of.kp T.B_keys_of .nil pass0 (pa_cons (pv 1) pa_nil)) pa_nil)))) (pg_tup (by rfl) (pgs_cons (pg_name (i := 2) sc_has_members.nd rfl (Or.inl rfl)) (pgs_cons (pg_name (i := 2) sc_has_members.nd rfl (Or.inl rfl)) (pgs_cons (pg_name (i := 3) sc_has_members.nd rfl (Or.inl rfl)) (pgs_cons (pg_name (i := 4) sc_has_members.nd rfl (Or.inl rfl)) (pgs_cons (pg_name (i := 5) sc_has_members.nd rfl (Or.inl rfl)) pgs_nil))))))
  (pss_one (ps_if (pt_cmpR op_ne (pe_call G_mask_of (hr.mono (by omega)) (by rfl) T.m_mask_of T.F_mask_of.kp T.B_mask_of .nil pass0 (pa_cons (pv 1) (pa_cons (pe_call G_row_of (hr.mono (by omega)) (by rfl) T.m_row_of T.F_row_of.kp T.B_row_of .nil pass0 (pa_cons (pv 3) (pa_cons (pv 4) (pa_cons (pv 5) pa_nil)))) pa_nil))) pe_int (nomark _)) (pss_one (ps_ret pe_bl)) pss_nil)))
  (pss_one (ps_ret pe_bl))), ?_⟩
    obtain ⟨m, rfl⟩ : ∃ m, n = m + 1 := ⟨n - 1, by omega⟩
    refine ⟨_, rfl, _, rfl, fa, f, rfl, F, by omega, fl, fun H1 l1 ks as s1 hl1 el1 ka nd me kl => ?_⟩
    refine ⟨b, l1, ks, as, rfl, el1, ka, nd, by omega, b2, (fun k hk => kr k ((me k).mp hk)), (fun stab dg IN => prem ks stab dg me IN), fun H2 l2 ts rows stab dg ms s2 hl2 el2 prw IN bo ra => ?_⟩
    have ST := prem ks stab dg me IN
    have s12 := s1.trans s2
    have F1 : 1 ≤ b ^ dg.toNat := pow_pos' (by omega) _
    have hm : ∀ (i : Nat) (r : Rw), rows[i]? = some r → TabR r.W r.tab ∧ r.tab.map (·.1) = ks ∧ 0 ≤ r.L := fun i r hr => by
      obtain ⟨i2, F2, p2, j, h1, h2, h3⟩ := ra.good r (List.mem_of_getElem? hr)
      have ek : (ladT b dg stab).map (·.1) = ks := by
        unfold ladT
        rw [List.map_map]
        exact IN.keys
      refine ⟨row_tabR h3 fun t ht => ⟨?_, fun e he => (ST.sz t ht e he).1⟩, (row_keys h3).trans ek, row_L h3 ?_⟩
      · obtain ⟨t0, h0, rfl⟩ := List.mem_map.mp ht
        show (szL b dg t0.2).length ≤ 1000
        unfold szL
        rw [List.length_map]
        exact (ST.ok t0 h0).1
      · have := (bnd_rng bo F1 b2 (List.mem_of_getElem? h1)).1
        omega
    have mk0 : ∀ k ∈ ks, 0 ≤ k.2.2 ∧ k.2.2 < 2 ^ 60 := fun k hk => by
      have := kr k ((me k).mp hk)
      exact ⟨by have := this.m1; omega, this.mB⟩
    let tst : Rw → Bool := fun ρ => decide (mkN (ValQ ρ.tab ρ.L f) ρ.W ≠ 0)
    refine ⟨l2, rfl, ⟨_, SqL.of el2⟩, for_list (K := K) (a := l2) (xs := ts.map V.ref) (fun i σ H' => ∃ (v2 v3 v4 v5 : Option V), σ = [some (.int b), some (.ref fa), v2, v3, v4, v5] ∧ Same H2 H' ∧ (rows.take i).any tst = false)
      ⟨none, none, none, none, rfl, Same.refl _, rfl⟩ (fun i σ H' _ ⟨_, _, _, _, _, k, _⟩ => SqL.of (k _ _ el2)) ?_ ?_⟩
    · rintro i y σ H3 hy ⟨v2, v3, v4, v5, rfl, k3, no⟩
      obtain ⟨t, ht, rfl⟩ := ref_get hy
      obtain ⟨r, hr, D, od, kvs, et, TA⟩ := paired_at prw ht
      obtain ⟨R, rk, L0⟩ := hm i r hr
      have TA3 := TabAt.same (PK := LadK 3) LadK.mono TA k3
      refine ⟨t, _, rfl, SqT.of (k3 _ _ et), rfl, _, _, rfl, _, _, rfl, _, _, rfl, _, _, rfl, _, _, rfl, rfl, ?_⟩
      refine norm2 (σ' := [some (.int b), some (.ref fa), some (.int r.u), some (.int r.L), some (.int (r.W : Nat)), some (.ref D)]) rfl ?_
      have tl : r.tab.length ≤ 1000 := by
        have := congrArg List.length rk
        rw [List.length_map] at this
        omega
      refine ⟨_, rfl, _, rfl, _, rfl, _, rfl, D, r.L, r.W, r.tab, od, kvs, rfl, TA3, R.pos, R.le, tl, (fun t ht => ⟨R.ok t ht, mk0 t.1 (by rw [← rk]; exact List.mem_map_of_mem (f := fun t : Ky × List LE => t.1) ht)⟩), fun H4 q4 D4 od4 kv4 s4 hq4 eq4 TA4 => ?_⟩
      have k04 : Same H H4 := fun c o e => s4 _ _ (k3 _ _ (s12 _ _ e))
      refine ⟨fa, q4, b, f, r.L, r.W, r.tab, rfl, F.same k04, by omega, FR, ⟨D4, od4, kv4, eq4, TA4⟩, R, (fun k hk => by rw [rk]; exact (me k).mpr hk), L0, fun H5 s5 => ?_⟩
      refine ⟨rfl, _, rfl, ?_⟩
      have ed : (!decide (V.int ((mkN (ValQ r.tab r.L f) r.W : Nat) : Int) = V.int 0)) = tst r := by
        show _ = decide (mkN (ValQ r.tab r.L f) r.W ≠ 0)
        rw [decide_not]
        congr 1
        exact decide_eq_decide.mpr ⟨fun h => by have := V.int.inj h; omega, fun h => by rw [h]; rfl⟩
      show if (!decide (V.int ((mkN (ValQ r.tab r.L f) r.W : Nat) : Int) = V.int 0)) = true then _ else _
      rw [ed]
      have k05 : Same H H5 := k04.trans s5
      cases et2 : tst r with
      | true =>
        rw [if_pos rfl]
        refine q H5 true k05 ⟨ks, stab, dg, ms, rows, me, nd, IN, ST, bo, ra, ?_⟩
        exact (List.any_eq_true.mpr ⟨r, List.mem_of_getElem? hr, et2⟩).symm
      | false =>
        rw [if_neg (by decide)]
        refine ⟨_, _, _, _, rfl, fun c o e => s5 _ _ (s4 _ _ (k3 _ _ e)), ?_⟩
        rw [take_any hr, no, et2]
        rfl
    · rintro σ H3 ⟨v2, v3, v4, v5, rfl, k3, no⟩
      rw [List.length_map, ← Paired.length prw, List.take_length] at no
      exact q H3 false (fun c o e => k3 _ _ (s12 _ _ e)) ⟨ks, stab, dg, ms, rows, me, nd, IN, ST, bo, ra, no.symm⟩
end
end Ax

namespace Ax
/-! # Quarters and numbers
x is told in quarters of a unit, y in numbers of which N are a unit -/
structure Alk (N x y : Int) : Prop where
  d : x / 4 = y / N
  z : x % 4 = 0 ↔ y % N = 0
section
variable {N x y s : Int}
theorem alk_div (hN : 0 < N) (hs : 0 < s) (a : Alk N x y) : x / (4 * s) = y / (N * s) := by
  rw [← Int.ediv_ediv_of_nonneg (by decide : (0 : Int) ≤ 4), ← Int.ediv_ediv_of_nonneg (show 0 ≤ N by omega), a.d]
theorem mul_mod {M x s : Int} (hM : 0 < M) (hs : 0 < s) : x % (M * s) = 0 ↔ x % M = 0 ∧ x / M % s = 0 := by
  constructor
  · intro h
    obtain ⟨c, hc⟩ := Int.dvd_of_emod_eq_zero h
    have e1 : x = M * (s * c) := by rw [hc, Int.mul_assoc]
    refine ⟨?_, ?_⟩
    · rw [e1]
      exact Int.mul_emod_right _ _
    · rw [e1, Int.mul_ediv_cancel_left _ (by omega)]
      exact Int.mul_emod_right _ _
  · rintro ⟨h1, h2⟩
    obtain ⟨c, hc⟩ := Int.dvd_of_emod_eq_zero h1
    rw [hc, Int.mul_ediv_cancel_left _ (by omega)] at h2
    obtain ⟨e, he⟩ := Int.dvd_of_emod_eq_zero h2
    rw [hc, he, ← Int.mul_assoc]
    exact Int.mul_emod_right _ _
theorem alk_mod (hN : 0 < N) (hs : 0 < s) (a : Alk N x y) : x % (4 * s) = 0 ↔ y % (N * s) = 0 := by
  rw [mul_mod (by decide) hs, mul_mod hN hs, a.z, a.d]
theorem alk_ceil (hN : 0 < N) (hs : 0 < s) (a : Alk N x y) : -(-x / (4 * s)) = -(-y / (N * s)) := by
  have p4 : 0 < 4 * s := by omega
  have pN : 0 < N * s := Int.mul_pos hN hs
  rw [ceil_floor x p4, ceil_floor y pN, alk_div hN hs a]
  by_cases c : x % (4 * s) = 0
  · rw [if_pos c, if_pos ((alk_mod hN hs a).mp c)]
  · rw [if_neg c, if_neg fun h => c ((alk_mod hN hs a).mpr h)]
theorem le_mul_ceil {x s m : Int} (hs : 0 < s) : x ≤ m * s ↔ -(-x / s) ≤ m := by
  have h := Int.le_ediv_iff_mul_le (a := -m) (b := -x) hs
  rw [Int.neg_mul] at h
  constructor
  · intro q
    have := h.mpr (by omega)
    omega
  · intro q
    have := h.mp (by omega)
    omega
theorem lt_mul_floor {x s m : Int} (hs : 0 < s) : x < m * s ↔ x / s < m := (Int.ediv_lt_iff_lt_mul hs).symm
/-- whether a step fits is the same for both -/
theorem alk_fit {k : Kd} {n x1 x2 y1 y2 : Int} (hN : 0 < N) (hs : 0 < s) (a1 : Alk N x1 y1) (a2 : Alk N x2 y2) (aL : Alk N (x2 - x1) (y2 - y1)) : x2 ≤ reachZ k n x1 (4 * s) ↔ y2 ≤ reachZ k n y1 (N * s) := by
  have p4 : 0 < 4 * s := by omega
  have pN : 0 < N * s := Int.mul_pos hN hs
  cases k with
  | len =>
    show x2 ≤ x1 + n * (4 * s) ↔ y2 ≤ y1 + n * (N * s)
    have e1 : x2 ≤ x1 + n * (4 * s) ↔ x2 - x1 ≤ n * (4 * s) := by omega
    have e2 : y2 ≤ y1 + n * (N * s) ↔ y2 - y1 ≤ n * (N * s) := by omega
    rw [e1, e2, le_mul_ceil p4, le_mul_ceil pN, alk_ceil hN hs aL]
  | cov =>
    show x2 ≤ (x1 / (4 * s) + n) * (4 * s) ↔ y2 ≤ (y1 / (N * s) + n) * (N * s)
    rw [le_mul_ceil p4, le_mul_ceil pN, alk_ceil hN hs a2, alk_div hN hs a1]
  | ins =>
    show x2 ≤ (-(-x1 / (4 * s)) + n) * (4 * s) - 1 ↔ y2 ≤ (-(-y1 / (N * s)) + n) * (N * s) - 1
    have e1 : x2 ≤ (-(-x1 / (4 * s)) + n) * (4 * s) - 1 ↔ x2 < (-(-x1 / (4 * s)) + n) * (4 * s) := by omega
    have e2 : y2 ≤ (-(-y1 / (N * s)) + n) * (N * s) - 1 ↔ y2 < (-(-y1 / (N * s)) + n) * (N * s) := by omega
    rw [e1, e2, lt_mul_floor p4, lt_mul_floor pN, alk_div hN hs a2, alk_ceil hN hs a1]
theorem alk_fst {k : Kd} (hN : 0 < N) (hs : 0 < s) (a : Alk N x y) : fstZ k x (4 * s) = fstZ k y (N * s) := by
  unfold fstZ
  rw [alk_div hN hs a, alk_ceil hN hs a]
theorem alk_lst {k : Kd} (hN : 0 < N) (hs : 0 < s) (a : Alk N x y) : lstZ k x (4 * s) = lstZ k y (N * s) := by
  unfold lstZ
  rw [alk_div hN hs a, alk_ceil hN hs a]
end
/-! ### from quarters to numbers -/
def psi (N x : Int) : Int := x / 4 * N + x % 4
theorem psi_alk {N x : Int} (hN : 4 ≤ N) : Alk N x (psi N x) := by
  have h1 : psi N x / N = x / 4 ∧ psi N x % N = x % 4 := by
    have h0 := Int.emod_nonneg x (show (4 : Int) ≠ 0 by decide)
    have h2 := Int.emod_lt_of_pos x (show (0 : Int) < 4 by decide)
    refine (Int.ediv_emod_unique (show 0 < N by omega)).mpr ⟨?_, h0, by omega⟩
    unfold psi
    rw [Int.mul_comm N]
    omega
  exact ⟨h1.1.symm, by rw [h1.2]⟩
theorem alk_of {N L D a i : Int} (hN : 4 ≤ N) (eL : L = 4 * a + i) (eD : D = N * a + i) (hi : i = 0 ∨ i = 2 ∨ i = -2) : Alk N L D := by
  rcases hi with e | e | e
  · have h1 : D / N = a ∧ D % N = 0 := (Int.ediv_emod_unique (show 0 < N by omega)).mpr ⟨by omega, by omega, by omega⟩
    exact ⟨by rw [h1.1]; omega, by rw [h1.2]; omega⟩
  · have h1 : D / N = a ∧ D % N = 2 := (Int.ediv_emod_unique (show 0 < N by omega)).mpr ⟨by omega, by omega, by omega⟩
    exact ⟨by rw [h1.1]; omega, by rw [h1.2]; omega⟩
  · have h1 : D / N = a - 1 ∧ D % N = N - 2 := (Int.ediv_emod_unique (show 0 < N by omega)).mpr ⟨by rw [Int.mul_sub, Int.mul_one]; omega, by omega, by omega⟩
    exact ⟨by rw [h1.1]; omega, by rw [h1.2]; omega⟩
theorem psi_len {N x L : Int} (hN : 4 ≤ N) (hL : L % 2 = 0) : Alk N L (psi N (x + L) - psi N x) := by
  have h1 := Int.emod_nonneg x (show (4 : Int) ≠ 0 by decide)
  have h2 := Int.emod_lt_of_pos x (show (0 : Int) < 4 by decide)
  have h3 := Int.emod_nonneg (x + L) (show (4 : Int) ≠ 0 by decide)
  have h4 := Int.emod_lt_of_pos (x + L) (show (0 : Int) < 4 by decide)
  refine alk_of (a := (x + L) / 4 - x / 4) (i := (x + L) % 4 - x % 4) hN (by omega) ?_ (by omega)
  unfold psi
  rw [Int.mul_sub, Int.mul_comm N, Int.mul_comm N]
  omega
/-! ### from numbers to quarters -/
/-- of each range of numbers there is one of quarters that is like it -/
theorem to_quarters {N l h : Int} (hN : 4 ≤ N) : ∃ x L : Int, L % 2 = 0 ∧ Alk N x l ∧ Alk N (x + L) h ∧ Alk N L (h - l) := by
  have pN : 0 < N := by omega
  have l0 := Int.emod_nonneg l (show N ≠ 0 by omega)
  have l1 := Int.emod_lt_of_pos l pN
  have l2 := Int.emod_add_mul_ediv l N
  have h0 := Int.emod_nonneg h (show N ≠ 0 by omega)
  have h1 := Int.emod_lt_of_pos h pN
  have h2 := Int.emod_add_mul_ediv h N
  generalize ea : l / N = a at *
  generalize ec : h / N = c at *
  generalize ei : l % N = i at *
  generalize ej : h % N = j at *
  have eq : ∀ (y A : Int) (o : Int), (0 ≤ o ∧ o < 4) → ∀ r : Int, y / N = A → y % N = r → (o = 0 ↔ r = 0) → Alk N (4 * A + o) y := fun y A o ho r e1 e2 e3 => ⟨by rw [e1]; omega, by rw [e2, ← e3]; omega⟩
  have dl : ∀ D : Int, D = h - l → ∀ (A r : Int), D = N * A + r → 0 ≤ r → r < N → D / N = A ∧ D % N = r := fun D _ A r e1 e2 e3 => (Int.ediv_emod_unique pN).mpr ⟨by omega, e2, e3⟩
  have ehl : h - l = N * (c - a) + (j - i) := by rw [Int.mul_sub]; omega
  by_cases ci : i = 0
  · by_cases cj : j = 0
    · obtain ⟨d1, d2⟩ := dl (h - l) rfl (c - a) 0 (by omega) (by omega) pN
      exact ⟨4 * a + 0, 4 * (c - a) + 0, by omega, eq l a 0 (by omega) i ea ei (by omega), by rw [show 4 * a + 0 + (4 * (c - a) + 0) = 4 * c + 0 by omega]; exact eq h c 0 (by omega) j ec ej (by omega), eq (h - l) (c - a) 0 (by omega) 0 d1 d2 (by omega)⟩
    · obtain ⟨d1, d2⟩ := dl (h - l) rfl (c - a) j (by omega) (by omega) h1
      exact ⟨4 * a + 0, 4 * (c - a) + 2, by omega, eq l a 0 (by omega) i ea ei (by omega), by rw [show 4 * a + 0 + (4 * (c - a) + 2) = 4 * c + 2 by omega]; exact eq h c 2 (by omega) j ec ej (by omega), eq (h - l) (c - a) 2 (by omega) j d1 d2 (by omega)⟩
  · by_cases cj : j = 0
    · obtain ⟨d1, d2⟩ := dl (h - l) rfl (c - a - 1) (N - i) (by rw [ehl, Int.mul_sub N (c - a) 1, Int.mul_one]; omega) (by omega) (by omega)
      exact ⟨4 * a + 2, 4 * (c - a - 1) + 2, by omega, eq l a 2 (by omega) i ea ei (by omega), by rw [show 4 * a + 2 + (4 * (c - a - 1) + 2) = 4 * c + 0 by omega]; exact eq h c 0 (by omega) j ec ej (by omega), eq (h - l) (c - a - 1) 2 (by omega) (N - i) d1 d2 (by omega)⟩
    · by_cases e : i = j
      · obtain ⟨d1, d2⟩ := dl (h - l) rfl (c - a) 0 (by omega) (by omega) pN
        exact ⟨4 * a + 1, 4 * (c - a) + 0, by omega, eq l a 1 (by omega) i ea ei (by omega), by rw [show 4 * a + 1 + (4 * (c - a) + 0) = 4 * c + 1 by omega]; exact eq h c 1 (by omega) j ec ej (by omega), eq (h - l) (c - a) 0 (by omega) 0 d1 d2 (by omega)⟩
      · by_cases lt : i < j
        · obtain ⟨d1, d2⟩ := dl (h - l) rfl (c - a) (j - i) (by omega) (by omega) (by omega)
          exact ⟨4 * a + 1, 4 * (c - a) + 2, by omega, eq l a 1 (by omega) i ea ei (by omega), by rw [show 4 * a + 1 + (4 * (c - a) + 2) = 4 * c + 3 by omega]; exact eq h c 3 (by omega) j ec ej (by omega), eq (h - l) (c - a) 2 (by omega) (j - i) d1 d2 (by omega)⟩
        · obtain ⟨d1, d2⟩ := dl (h - l) rfl (c - a - 1) (N + j - i) (by rw [ehl, Int.mul_sub N (c - a) 1, Int.mul_one]; omega) (by omega) (by omega)
          exact ⟨4 * a + 3, 4 * (c - a - 1) + 2, by omega, eq l a 3 (by omega) i ea ei (by omega), by rw [show 4 * a + 3 + (4 * (c - a - 1) + 2) = 4 * c + 1 by omega]; exact eq h c 1 (by omega) j ec ej (by omega), eq (h - l) (c - a - 1) 2 (by omega) (N + j - i) d1 d2 (by omega)⟩
end Ax

namespace Ax
/-! # The first candidate that fits is the least step -/
section
variable {k : Kd} {n s L c : Int}
theorem alw_scale (hc : 1 ≤ c) : alwZ k n (s * c) (L * c) = alwZ k n s L := by
  have pc : 0 < c := by omega
  cases k with
  | ins => exact decide_eq_decide.mpr (by rw [← Int.mul_assoc]; exact mul_lt_iff pc)
  | cov => exact decide_eq_decide.mpr (by rw [← Int.mul_assoc]; exact mul_le_iff pc)
  | len => exact decide_eq_decide.mpr (by rw [← Int.mul_assoc]; exact mul_le_iff pc)
theorem nev_scale (hc : 1 ≤ c) : nevZ k n (s * c) (L * c) = nevZ k n s L := by
  have pc : 0 < c := by omega
  cases k with
  | ins => exact decide_eq_decide.mpr (by rw [← Int.mul_assoc]; exact mul_le_iff pc)
  | cov => exact decide_eq_decide.mpr (by rw [← Int.mul_assoc]; exact mul_lt_iff pc)
  | len => exact decide_eq_decide.mpr (by rw [← Int.mul_assoc]; exact mul_lt_iff pc)
end
theorem fac_pos {b e : Int} (hb : 1 ≤ b) : 1 ≤ facZ b e := by
  unfold facZ
  split
  · exact Int.le_refl _
  · exact pow_pos' hb _
section
variable {b : Int} {k : Kd} {n l h m p : Int} {d : Nat}
theorem nev_fit (hb : 1 ≤ b) (hm : 1 ≤ m) (q : nevZ k n (sizZ b m p) (1 * facZ b p) = true) (h1 : b ^ d ≤ h - l) : ¬ FitE b k n l h m (p + d) := by
  obtain ⟨c, c1, e1, e2⟩ := fac_siz (b := b) (m := m) (p := p) d hb
  have hs : 0 < sizZ b m (p + d) := siz_pos hb hm
  rw [← nev_scale c1, Int.one_mul, ← e1, ← e2] at q
  refine nev_no hs q ?_
  rw [← Int.sub_mul, Int.mul_comm]
  exact Int.mul_le_mul_of_nonneg_right h1 (by have := fac_pos (b := b) (e := p + d) hb; omega)
theorem alw_fit {g : Int} (hb : 1 ≤ b) (hm : 1 ≤ m) (q : alwZ k n (sizZ b m p) (g * facZ b p) = true) (h1 : h - l ≤ g * b ^ d) : FitE b k n l h m (p + d) := by
  obtain ⟨c, c1, e1, e2⟩ := fac_siz (b := b) (m := m) (p := p) d hb
  have hs : 0 < sizZ b m (p + d) := siz_pos hb hm
  rw [← alw_scale c1, Int.mul_assoc, ← e1, ← e2] at q
  refine alw_yes hs q ?_
  rw [← Int.sub_mul, Int.mul_comm (facZ b (p + d)), ← Int.mul_assoc]
  exact Int.mul_le_mul_of_nonneg_right h1 (by have := fac_pos (b := b) (e := p + d) hb; omega)
end
theorem first_of {α : Type} {Q : α → Bool} {g : Nat → α} : ∀ {n : Nat}, Q (g n) = true → ∃ j, j ≤ n ∧ ((List.range (n + 1)).map g).find? Q = some (g j) ∧ Q (g j) = true ∧ ∀ i, i < j → Q (g i) = false := by
  intro n h
  have ex : ∃ j, Q (g j) = true := ⟨n, h⟩
  cases e : ((List.range (n + 1)).map g).find? Q with
  | none =>
    have := List.find?_eq_none.mp e (g n) (List.mem_map.mpr ⟨n, List.mem_range.mpr (Nat.lt_succ_self _), rfl⟩)
    exact absurd h this
  | some x =>
    obtain ⟨h1, j, hj, e1, h2⟩ := List.find?_eq_some_iff_getElem.mp e
    have hj' := hj
    rw [List.length_map, List.length_range] at hj'
    rw [List.getElem_map, List.getElem_range] at e1
    refine ⟨j, by omega, by rw [e1], by rw [e1]; exact h1, fun i hi => ?_⟩
    have h3 := h2 i hi
    rw [List.getElem_map, List.getElem_range] at h3
    cases q : Q (g i) with
    | false => rfl
    | true => rw [q] at h3; cases h3
theorem find_congr {α : Type} {p q : α → Bool} : ∀ {xs : List α}, (∀ x ∈ xs, p x = q x) → xs.find? p = xs.find? q
  | [], _ => rfl
  | x :: r, h => by
    rw [List.find?_cons, List.find?_cons, h x (List.mem_cons_self ..), find_congr fun y hy => h y (List.mem_cons_of_mem _ hy)]
/-- of a length from b ^ d to below b ^ (d + 1), the first candidate (for lengths from 1 to b) that fits is the least step -/
theorem cand_first {b : Int} {k : Ky} {ss : List (Int × Int)} {l h : Int} {d : Nat} (C : Cand b k 1 b ss) (hn : 1 ≤ k.2.2) (h1 : b ^ d ≤ h - l) (h2 : h - l < b ^ (d + 1)) :
    ∃ s, ss.find? (fun s => decide (FitE b k.1 k.2.2 l h s.1 (s.2 + d))) = some s ∧ LeastFit b k.2.1 k.1 k.2.2 l h d s.1 s.2 := by
  obtain ⟨rs, top, i0, n, C, last⟩ := C
  have R := C.R
  have b1 : 1 ≤ b := by have := R.b2; omega
  have len1 : 1 ≤ h - l := by have := pow_pos' b1 d; omega
  have elg : (lg b (h - l) : Int) = d := by rw [← lg_eq R.b2 len1 h1 h2]
  have el1 : (lg b 1 : Int) = 0 := by
    have : (0 : Nat) = lg b 1 := lg_eq (E := 0) R.b2 (Int.le_refl 1) (by rw [Int.pow_zero]; exact Int.le_refl 1) (by rw [Int.pow_succ, Int.pow_zero, Int.one_mul]; have := R.b2; omega)
    omega
  have elow : lowQ b k.2.2 l h d = lowQ b k.2.2 0 1 0 := by
    unfold lowQ
    rw [elg, show (1 : Int) - 0 = 1 by decide, el1]
    omega
  let Q : Int × Int → Bool := fun s => decide (FitE b k.1 k.2.2 l h s.1 (s.2 + d))
  let g : Nat → Int × Int := fun j => sAt b rs (i0 + (j : Nat))
  have pos : ∀ i, 1 ≤ (sAt b rs i).1 := fun i => R.pos _ (R.mem i)
  have hlast : Q (g n) = true := decide_eq_true (alw_fit (g := b) b1 (pos _) last (by rw [Int.pow_succ, Int.mul_comm] at h2; omega))
  obtain ⟨j, hj, e, hq, no⟩ := first_of (Q := Q) (g := g) hlast
  refine ⟨g j, ?_, ?_⟩
  · rw [C.ss_, List.find?_filter]
    rw [← e]
    refine find_congr fun s hs => ?_
    have ps : 1 ≤ s.1 := by
      obtain ⟨x, _, rfl⟩ := List.mem_map.mp hs
      exact pos _
    by_cases f : FitE b k.1 k.2.2 l h s.1 (s.2 + d)
    · have c : nevZ k.1 k.2.2 (sizZ b s.1 s.2) (1 * facZ b s.2) = false := by
        cases c : nevZ k.1 k.2.2 (sizZ b s.1 s.2) (1 * facZ b s.2) with
        | false => rfl
        | true => exact absurd f (nev_fit b1 ps c h1)
      show decide ((!nevZ k.1 k.2.2 (sizZ b s.1 s.2) (1 * facZ b s.2)) = true ∧ decide _ = true) = Q s
      rw [c]
      have : Q s = true := decide_eq_true f
      rw [this, decide_eq_true f]
      rfl
    · have : Q s = false := decide_eq_false f
      rw [this]
      exact decide_eq_false fun h => f (of_decide_eq_true h.2)
  · refine least_of R (by omega) hn C.pr (show FitE b k.1 k.2.2 l h (g j).1 ((g j).2 + d) from of_decide_eq_true hq) fun i hi hlt f => ?_
    rw [elow, ← C.i0_] at hi
    obtain ⟨x, hx⟩ : ∃ x : Nat, i = i0 + x := ⟨(i - i0).toNat, by omega⟩
    have := no x (by omega)
    have f' : Q (g x) = true := decide_eq_true (by rw [hx] at f; exact f)
    rw [this] at f'
    cases f'
end Ax

namespace Ax
open PySem L2
/-! # What the rows say is what the ranges do -/
theorem find_cntL {k : Kd} {n F p : Int} {fit : LE → Bool} : ∀ {es : List LE}, (∀ e ∈ es, nevZ k n e.s F = true → fit e = false) → (∀ e ∈ es, alwZ k n (2 * e.s) (2 * p - 1) = true → fit e = true) → (cntL k n F p es).find? fit = es.find? fit
  | [], _, _ => rfl
  | e :: r, h1, h2 => by
    have ih := find_cntL (es := r) (fun x hx => h1 x (List.mem_cons_of_mem _ hx)) (fun x hx => h2 x (List.mem_cons_of_mem _ hx))
    have n1 := h1 e (List.mem_cons_self ..)
    have a1 := h2 e (List.mem_cons_self ..)
    rw [cntL_cons, List.find?_append, List.find?_cons (a := e)]
    cases f : fit e with
    | true =>
      have : nevZ k n e.s F = false := by
        cases q : nevZ k n e.s F with
        | false => rfl
        | true => rw [n1 q] at f; cases f
      rw [this, if_neg (by decide), List.find?_cons, f]
      rfl
    | false =>
      have c : ¬ alwZ k n (2 * e.s) (2 * p - 1) = true := fun q => by rw [a1 q] at f; cases f
      rw [if_neg c, ih]
      split
      · rfl
      · rw [List.find?_cons, f]
        rfl
/-- one that always fits at half below a bound fits each range shorter than the bound -/
theorem alw_below {k : Kd} {n s p c l h : Int} (hs : 0 < s) (hc : 1 ≤ c) (q : alwZ k n (2 * s) (2 * p - 1) = true) (hL : h - l < p * c) : h ≤ reachZ k n l (s * c) := by
  have hsc : 0 < s * c := Int.mul_pos hs (by omega)
  refine alw_yes (L := p * c - 1) hsc ?_ (by omega)
  have up : ∀ z : Int, p ≤ z → p * c ≤ z * c := fun z hz => Int.mul_le_mul_of_nonneg_right hz (by omega)
  cases k with
  | ins =>
    have e : n * (2 * s) = 2 * (n * s) := by rw [← Int.mul_assoc, Int.mul_comm n 2, Int.mul_assoc]
    have q := of_decide_eq_true (show decide (2 * p - 1 < n * (2 * s)) = true from q)
    rw [e] at q
    have := up (n * s) (by omega)
    rw [Int.mul_assoc] at this
    exact decide_eq_true (by omega)
  | cov =>
    have e : (n - 1) * (2 * s) = 2 * ((n - 1) * s) := by rw [← Int.mul_assoc, Int.mul_comm (n - 1) 2, Int.mul_assoc]
    have q := of_decide_eq_true (show decide (2 * p - 1 ≤ (n - 1) * (2 * s)) = true from q)
    rw [e] at q
    have := up ((n - 1) * s) (by omega)
    rw [Int.mul_assoc] at this
    exact decide_eq_true (by omega)
  | len =>
    have e : n * (2 * s) = 2 * (n * s) := by rw [← Int.mul_assoc, Int.mul_comm n 2, Int.mul_assoc]
    have q := of_decide_eq_true (show decide (2 * p - 1 ≤ n * (2 * s)) = true from q)
    rw [e] at q
    have := up (n * s) (by omega)
    rw [Int.mul_assoc] at this
    exact decide_eq_true (by omega)
/-- a step in whole numbers, and c of them -/
theorem szN_siz {b dg m p : Int} {t : Nat} (h0 : 0 ≤ dg) (h1 : 0 ≤ dg + p) : szN b dg m p * b ^ t = sizZ b m (p + ((dg.toNat + t : Nat) : Int)) ∧ facZ b (p + ((dg.toNat + t : Nat) : Int)) = 1 := by
  have q : 0 ≤ p + ((dg.toNat + t : Nat) : Int) := by omega
  unfold szN sizZ facZ
  rw [if_pos q, if_pos q, Int.mul_assoc, ← pow_add']
  refine ⟨?_, rfl⟩
  congr 2
  omega
/-- the first of a counting ladder that fits is the least step -/
theorem lad_least {b dg F p l h : Int} {k : Ky} {ss : List (Int × Int)} {t : Nat} (b2 : 2 ≤ b) (C : Cand b k 1 b ss) (hn : 1 ≤ k.2.2) (dg0 : 0 ≤ dg) (dgs : ∀ s ∈ ss, -s.2 ≤ dg) (pos : ∀ s ∈ ss, 1 ≤ s.1) (hF : b ^ dg.toNat ≤ F) (hp : p ≤ b * b ^ dg.toNat) (h1 : F * b ^ t ≤ h - l) (h2 : h - l < p * b ^ t) :
    ∃ e, (cntL k.1 k.2.2 F p (szL b dg ss)).find? (fun e => decide (h ≤ reachZ k.1 k.2.2 l (e.s * b ^ t))) = some e ∧ e ∈ szL b dg ss ∧ LeastFit b k.2.1 k.1 k.2.2 l h ((dg.toNat + t : Nat) : Int) e.m e.p := by
  have c1 : 1 ≤ b ^ t := pow_pos' (by omega) t
  have szp : ∀ e ∈ szL b dg ss, 0 < e.s ∧ ∃ s ∈ ss, e = { m := s.1, p := s.2, s := szN b dg s.1 s.2 } := fun e he => by
    obtain ⟨s, hs, rfl⟩ := List.mem_map.mp he
    exact ⟨by have := szN_pos (N := dg) (p := s.2) (show 1 ≤ b by omega) (pos s hs); show 0 < szN b dg s.1 s.2; omega, s, hs, rfl⟩
  rw [find_cntL]
  · have g1 : b ^ (dg.toNat + t) ≤ h - l := by
      rw [pow_add']
      exact Int.le_trans (Int.mul_le_mul_of_nonneg_right hF (by omega)) h1
    have g2 : h - l < b ^ (dg.toNat + t + 1) := by
      refine Int.lt_of_lt_of_le h2 ?_
      rw [Int.pow_succ, Int.mul_comm _ b, pow_add', ← Int.mul_assoc]
      exact Int.mul_le_mul_of_nonneg_right hp (by omega)
    obtain ⟨s, hs, LF⟩ := cand_first C hn g1 g2
    have hm := List.mem_of_find?_eq_some hs
    refine ⟨{ m := s.1, p := s.2, s := szN b dg s.1 s.2 }, ?_, List.mem_map.mpr ⟨s, hm, rfl⟩, LF⟩
    unfold szL
    rw [List.find?_map]
    have ef : ss.find? ((fun e : LE => decide (h ≤ reachZ k.1 k.2.2 l (e.s * b ^ t))) ∘ fun s => { m := s.1, p := s.2, s := szN b dg s.1 s.2 }) = ss.find? (fun s => decide (FitE b k.1 k.2.2 l h s.1 (s.2 + ((dg.toNat + t : Nat) : Int)))) := find_congr fun z hz => by
      obtain ⟨q1, q2⟩ := szN_siz (b := b) (dg := dg) (m := z.1) (p := z.2) (t := t) dg0 (by have := dgs z hz; omega)
      show decide (h ≤ reachZ k.1 k.2.2 l (szN b dg z.1 z.2 * b ^ t)) = _
      rw [q1]
      unfold FitE
      refine decide_eq_decide.mpr ?_
      rw [q2, Int.mul_one, Int.mul_one]
    rw [ef, hs]
    rfl
  · intro e he q
    obtain ⟨e0, _⟩ := szp e he
    refine decide_eq_false ?_
    refine nev_no (L := F * b ^ t) (Int.mul_pos e0 (by omega)) ?_ h1
    rw [nev_scale c1]
    exact q
  · intro e he q
    obtain ⟨e0, _⟩ := szp e he
    exact decide_eq_true (alw_below e0 c1 q h2)
end Ax

namespace Ax
open PySem L2
def stepX (tab : Tb) (L : Int) (k : Ky) (x : Int) : Option LE := (ladOf tab k).find? fun e => decide (x + L ≤ reachZ k.1 k.2.2 x e.s)
/-- what a formula says of a row's range, from any whole number of quarters on -/
def ValX (tab : Tb) (L : Int) : Fm → Int → Bool
  | .all, _ => true
  | .not f, x => !ValX tab L f x
  | .and f g, x => ValX tab L f x && ValX tab L g x
  | .or f g, x => ValX tab L f x || ValX tab L g x
  | .xor f g, x => ValX tab L f x ^^ ValX tab L g x
  | .counted k lo hi, x => (match stepX tab L k x with
    | some e => inZ lo hi (lstZ k.1 (x + L) e.s - fstZ k.1 x e.s + 1)
    | none => false)
  | .taken k m, x => (match stepX tab L k x with
    | some e => decide (e.m = m)
    | none => false)
  | .coarser k k2 n o, x => (match stepX tab L k x, stepX tab L k2 x with
    | some e, some e2 => decide (n * e2.s < e.s * o)
    | _, _ => false)
  | .touched k low, x => (match stepX tab L k x with
    | some e => if low then decide (x % e.s = 0) else decide ((x + L) % e.s = 0)
    | none => false)
theorem valX_nat {tab : Tb} {L : Int} {q : Nat} : ∀ {f : Fm}, ValQ tab L f q = ValX tab L f (q : Int)
  | .all => rfl
  | .not f => by show (!ValQ tab L f q) = !ValX tab L f q; rw [valX_nat (f := f)]
  | .and f g => by show (ValQ tab L f q && ValQ tab L g q) = (ValX tab L f q && ValX tab L g q); rw [valX_nat (f := f), valX_nat (f := g)]
  | .or f g => by show (ValQ tab L f q || ValQ tab L g q) = (ValX tab L f q || ValX tab L g q); rw [valX_nat (f := f), valX_nat (f := g)]
  | .xor f g => by show (ValQ tab L f q ^^ ValQ tab L g q) = (ValX tab L f q ^^ ValX tab L g q); rw [valX_nat (f := f), valX_nat (f := g)]
  | .counted .. => rfl
  | .taken .. => rfl
  | .coarser .. => rfl
  | .touched .. => rfl
/-- a row and a range of numbers that is like one of its ranges -/
structure Like (b : Int) (ks : List Ky) (stab : List (Ky × List (Int × Int))) (dg F p : Int) (j t : Nat) (r : Rw) (x l h : Int) : Prop where
  b2 : 2 ≤ b
  IN : LadIn b ks stab dg
  nd : ks.Nodup
  pos : ∀ z ∈ stab, 1 ≤ z.1.2.2 ∧ ∀ s ∈ z.2, 1 ≤ s.1
  row : RowOf (ladT b dg stab) F p j r
  hF : b ^ dg.toNat ≤ F
  hp : p ≤ b * b ^ dg.toNat
  a1 : Alk (b ^ t * r.u) x l
  a2 : Alk (b ^ t * r.u) (x + r.L) h
  aL : Alk (b ^ t * r.u) r.L (h - l)
  h1 : F * b ^ t ≤ h - l
  h2 : h - l < p * b ^ t
section
variable {b : Int} {ks : List Ky} {stab : List (Ky × List (Int × Int))} {dg F p : Int} {j t : Nat} {r : Rw} {x l h : Int}
/-- the step of a key: q its power, s its size in units -/
structure StepR (b : Int) (t : Nat) (r : Rw) (x l h : Int) (k : Ky) (e : LE) (q s : Int) : Prop where
  st : stepX r.tab r.L k x = some e
  lf : LeastFit b k.2.1 k.1 k.2.2 l h 0 e.m q
  s0 : 0 < s
  es : e.s = 4 * s
  sz : sizZ b e.m q = b ^ t * r.u * s
  fc : facZ b q = 1
  q0 : 0 ≤ q
theorem Like.step (K : Like b ks stab dg F p j t r x l h) {k : Ky} (hk : k ∈ ks) : ∃ e q s, StepR b t r x l h k e q s := by
  obtain ⟨z, hz, rfl⟩ := List.mem_map.mp (by rw [← K.IN.keys] at hk; exact hk)
  obtain ⟨n1, sp⟩ := K.pos z hz
  have dg0 := K.IN.dig.1
  obtain ⟨e, he, hm, LF⟩ := lad_least K.b2 (K.IN.cand z hz) n1 dg0 (K.IN.dig.2.1 z hz) sp K.hF K.hp K.h1 K.h2
  have hec := List.mem_of_find?_eq_some he
  have hu := gcdL_dvd (es := (cntT F p (ladT b dg stab)).flatMap (·.2)) (u := ((Nat.gcd F.natAbs p.natAbs : Nat) : Int))
  have u0 := K.row.u0
  have mt : (z.1, cntL z.1.1 z.1.2.2 F p (szL b dg z.2)) ∈ cntT F p (ladT b dg stab) := List.mem_map.mpr ⟨(z.1, szL b dg z.2), List.mem_map.mpr ⟨z, hz, rfl⟩, rfl⟩
  have du : ∀ y ∈ cntL z.1.1 z.1.2.2 F p (szL b dg z.2), ∃ s, 0 < s ∧ y.s = r.u * s ∧ qtr r.u y.s = 4 * s := fun y hy => by
    have d : r.u ∣ y.s := by
      rw [K.row.u_]
      exact hu.2 y (List.mem_flatMap.mpr ⟨_, mt, hy⟩)
    obtain ⟨s, hs⟩ := d
    obtain ⟨s1, hs1, e1⟩ := List.mem_map.mp (cntL_mem hy)
    have y0 : 1 ≤ y.s := by
      rw [← e1]
      exact szN_pos (by have := K.b2; omega) (sp s1 hs1)
    refine ⟨s, ?_, hs, ?_⟩
    · refine Int.not_le.mp fun h => ?_
      have h9 := Int.mul_le_mul_of_nonneg_left h (show 0 ≤ r.u by omega)
      rw [Int.mul_zero] at h9
      omega
    · unfold qtr
      rw [hs, ← Int.mul_assoc, Int.mul_comm 4, Int.mul_assoc]
      exact Int.mul_ediv_cancel_left _ (by omega)
  obtain ⟨s, s0, e1, e2⟩ := du e hec
  have c1 : 1 ≤ b ^ t := pow_pos' (by have := K.b2; omega) t
  have N0 : 0 < b ^ t * r.u := Int.mul_pos (by omega) u0
  obtain ⟨s1, hs1, e3⟩ := List.mem_map.mp hm
  have dp : 0 ≤ dg + e.p := by
    rw [← e3]
    have := K.IN.dig.2.1 z hz s1 hs1
    show 0 ≤ dg + s1.2
    omega
  obtain ⟨q1, q2⟩ := szN_siz (b := b) (dg := dg) (m := e.m) (p := e.p) (t := t) dg0 dp
  have ees : e.s = szN b dg e.m e.p := by rw [← e3]
  have scm : ∀ y : Int, r.u * y * b ^ t = b ^ t * r.u * y := fun y => by rw [Int.mul_comm (r.u * y), Int.mul_assoc]
  refine ⟨combE r.W r.u e, e.p + ((dg.toNat + t : Nat) : Int), s, ⟨?_, LF.at0, s0, e2, ?_, q2, by omega⟩⟩
  · have nd : (r.tab.map (·.1)).Nodup := by
      rw [row_keys K.row]
      unfold ladT
      rw [List.map_map]
      exact (show (stab.map (·.1)).Nodup by rw [K.IN.keys]; exact K.nd)
    have el : ladOf r.tab z.1 = (cntL z.1.1 z.1.2.2 F p (szL b dg z.2)).map (combE r.W r.u) := by
      refine ladOf_mem (t := (z.1, (cntL z.1.1 z.1.2.2 F p (szL b dg z.2)).map (combE r.W r.u))) nd ?_
      rw [K.row.tab_]
      exact List.mem_map.mpr ⟨_, mt, rfl⟩
    unfold stepX
    rw [el, List.find?_map]
    have ef : (cntL z.1.1 z.1.2.2 F p (szL b dg z.2)).find? ((fun e : LE => decide (x + r.L ≤ reachZ z.1.1 z.1.2.2 x e.s)) ∘ combE r.W r.u) = (cntL z.1.1 z.1.2.2 F p (szL b dg z.2)).find? (fun e => decide (h ≤ reachZ z.1.1 z.1.2.2 l (e.s * b ^ t))) := find_congr fun y hy => by
      obtain ⟨s, s0, y1, y2⟩ := du y hy
      show decide (x + r.L ≤ reachZ z.1.1 z.1.2.2 x (qtr r.u y.s)) = _
      rw [y2, y1, scm]
      exact decide_eq_decide.mpr (alk_fit N0 s0 K.a1 K.a2 (by rw [show x + r.L - x = r.L by omega]; exact K.aL))
    rw [ef, he]
    rfl
  · show sizZ b e.m (e.p + ((dg.toNat + t : Nat) : Int)) = _
    rw [← q1, ← ees, e1, scm]
/-- what the row says is what the range does -/
theorem Like.val (K : Like b ks stab dg F p j t r x l h) : ∀ {f : Fm}, (∀ k ∈ f.keys, k ∈ ks) → Val b f l h (ValX r.tab r.L f x)
  | .all, _ => rfl
  | .not f, hk => ⟨_, Like.val K (f := f) hk, rfl⟩
  | .and f g, hk => ⟨_, _, Like.val K (f := f) fun k h => hk k (List.mem_append_left _ h), Like.val K (f := g) fun k h => hk k (List.mem_append_right _ h), rfl⟩
  | .or f g, hk => ⟨_, _, Like.val K (f := f) fun k h => hk k (List.mem_append_left _ h), Like.val K (f := g) fun k h => hk k (List.mem_append_right _ h), rfl⟩
  | .xor f g, hk => ⟨_, _, Like.val K (f := f) fun k h => hk k (List.mem_append_left _ h), Like.val K (f := g) fun k h => hk k (List.mem_append_right _ h), by
      show (ValX r.tab r.L f x ^^ ValX r.tab r.L g x) = (ValX r.tab r.L f x != ValX r.tab r.L g x)
      cases ValX r.tab r.L f x <;> cases ValX r.tab r.L g x <;> rfl⟩
  | .counted k lo hi, hk => by
    obtain ⟨e, q, s, S⟩ := K.step (hk k (List.mem_cons_self ..))
    have N0 : 0 < b ^ t * r.u := Int.mul_pos (by have := pow_pos' (show 1 ≤ b by have := K.b2; omega) t; omega) K.row.u0
    refine ⟨e.m, q, S.lf, ?_⟩
    have ec : cntZ b k.1 l h e.m q = lstZ k.1 (x + r.L) e.s - fstZ k.1 x e.s + 1 := by
      unfold cntZ
      rw [S.fc, S.sz, S.es, Int.mul_one, Int.mul_one, alk_lst N0 S.s0 K.a2, alk_fst N0 S.s0 K.a1]
    rw [ec]
    show (match stepX r.tab r.L k x with
      | some e => inZ lo hi (lstZ k.1 (x + r.L) e.s - fstZ k.1 x e.s + 1)
      | none => false) = _
    rw [S.st]
    cases hi <;> rfl
  | .taken k m, hk => by
    obtain ⟨e, q, s, S⟩ := K.step (hk k (List.mem_cons_self ..))
    refine ⟨e.m, q, S.lf, ?_⟩
    show (match stepX r.tab r.L k x with
      | some e => decide (e.m = m)
      | none => false) = _
    rw [S.st]
  | .touched k low, hk => by
    obtain ⟨e, q, s, S⟩ := K.step (hk k (List.mem_cons_self ..))
    have N0 : 0 < b ^ t * r.u := Int.mul_pos (by have := pow_pos' (show 1 ≤ b by have := K.b2; omega) t; omega) K.row.u0
    refine ⟨e.m, q, S.lf, ?_⟩
    show (match stepX r.tab r.L k x with
      | some e => if low then decide (x % e.s = 0) else decide ((x + r.L) % e.s = 0)
      | none => false) = _
    rw [S.st, S.fc, S.sz, Int.mul_one]
    show (if low then decide (x % e.s = 0) else decide ((x + r.L) % e.s = 0)) = _
    rw [S.es]
    cases low
    · exact decide_eq_decide.mpr (alk_mod N0 S.s0 K.a2)
    · exact decide_eq_decide.mpr (alk_mod N0 S.s0 K.a1)
  | .coarser k k2 n o, hk => by
    obtain ⟨e, q, s, S⟩ := K.step (hk k (List.mem_cons_self ..))
    obtain ⟨e2, q2, s2, S2⟩ := K.step (hk k2 (List.mem_cons_of_mem _ (List.mem_cons_self ..)))
    have N0 : 0 < b ^ t * r.u := Int.mul_pos (by have := pow_pos' (show 1 ≤ b by have := K.b2; omega) t; omega) K.row.u0
    refine ⟨e.m, q, e2.m, q2, S.lf, S2.lf, ?_⟩
    show (match stepX r.tab r.L k x, stepX r.tab r.L k2 x with
      | some e, some e2 => decide (n * e2.s < e.s * o)
      | _, _ => false) = _
    rw [S.st, S2.st]
    show decide (n * e2.s < e.s * o) = moreZ b e.m q e2.m q2 n o
    unfold moreZ
    refine decide_eq_decide.mpr ?_
    have z1 := S.sz
    have z2 := S2.sz
    unfold sizZ at z1 z2
    rw [if_pos S.q0] at z1
    rw [if_pos S2.q0] at z2
    have m0 : 0 ≤ min q q2 := by have := S.q0; have := S2.q0; omega
    have p0 : 0 < b ^ (min q q2).toNat := by have := pow_pos' (show 1 ≤ b by have := K.b2; omega) (min q q2).toNat; omega
    have w1 : e.m * b ^ (q - min q q2).toNat * b ^ (min q q2).toNat = b ^ t * r.u * s := by
      rw [Int.mul_assoc, ← pow_add', ← z1]
      congr 2
      omega
    have w2 : e2.m * b ^ (q2 - min q q2).toNat * b ^ (min q q2).toNat = b ^ t * r.u * s2 := by
      rw [Int.mul_assoc, ← pow_add', ← z2]
      congr 2
      omega
    generalize e.m * b ^ (q - min q q2).toNat = A1 at *
    generalize e2.m * b ^ (q2 - min q q2).toNat = A2 at *
    generalize b ^ (min q q2).toNat = B at *
    generalize b ^ t * r.u = N at *
    rw [S.es, S2.es]
    have i1 : n * A2 < A1 * o ↔ (n * A2) * B < (A1 * o) * B := (mul_lt_iff p0).symm
    have i2 : (n * A2) * B = (n * s2) * N := by rw [Int.mul_assoc, w2, Int.mul_comm N, Int.mul_assoc]
    have i3 : (A1 * o) * B = (s * o) * N := by rw [Int.mul_assoc, Int.mul_comm o, ← Int.mul_assoc, w1, Int.mul_comm N, Int.mul_assoc, Int.mul_comm N, ← Int.mul_assoc]
    have i4 : n * (4 * s2) = 4 * (n * s2) := by rw [← Int.mul_assoc, Int.mul_comm n, Int.mul_assoc]
    have i5 : 4 * s * o = 4 * (s * o) := Int.mul_assoc ..
    show n * (4 * s2) < 4 * s * o ↔ n * A2 < A1 * o
    rw [i1, i2, i3, mul_lt_iff N0, i4, i5]
    omega
end
end Ax

namespace Ax
open PySem L2
theorem len_lo {c u L D G : Int} (hc : 0 < c) (hu : 0 < u) (a : Alk (c * u) L D) (d : u ∣ G) : 4 * G / u ≤ L ↔ G * c ≤ D := by
  obtain ⟨g, rfl⟩ := d
  have N0 : 0 < c * u := Int.mul_pos hc hu
  have e : 4 * (u * g) / u = 4 * g := by
    rw [← Int.mul_assoc, Int.mul_comm 4, Int.mul_assoc]
    exact Int.mul_ediv_cancel_left _ (by omega)
  have e2 : u * g * c = g * (c * u) := by rw [Int.mul_comm (u * g), ← Int.mul_assoc, Int.mul_comm g]
  rw [e, e2, ← Int.le_ediv_iff_mul_le N0, ← a.d]
  omega
theorem len_hi {c u L D G : Int} (hc : 0 < c) (hu : 0 < u) (a : Alk (c * u) L D) (d : u ∣ G) : L < 4 * G / u ↔ D < G * c := by
  have := len_lo hc hu a d
  omega
theorem find_piece {D c T : Int} : ∀ {ms : List Int} {x : Int}, x * c ≤ D → T ∈ x :: ms → D < T * c → ∃ (i : Nat) (F p : Int), (x :: ms)[i]? = some F ∧ (x :: ms)[i + 1]? = some p ∧ F * c ≤ D ∧ D < p * c
  | [], x, h1, hT, h2 => by
    rw [List.mem_singleton.mp hT] at h2
    omega
  | y :: r, x, h1, hT, h2 => by
    by_cases q : D < y * c
    · exact ⟨0, x, y, rfl, rfl, h1, q⟩
    · have hT2 : T ∈ y :: r := (List.mem_cons.mp hT).resolve_left fun e => by rw [e] at h2; omega
      obtain ⟨i, F, p, e1, e2, e3, e4⟩ := find_piece (ms := r) (x := y) (by omega) hT2 h2
      exact ⟨i + 1, F, p, e1, e2, e3, e4⟩
theorem Val.bases {b : Int} (b2 : 2 ≤ b) {f : Fm} {l h : Int} {r : Bool} (ok : FmOk b f) (V : Val b f l h r) : ∀ n : Nat, Val b f (l * b ^ n) (h * b ^ n) r
  | 0 => by rw [Int.pow_zero, Int.mul_one, Int.mul_one]; exact V
  | n + 1 => by
    rw [Int.pow_succ, ← Int.mul_assoc, ← Int.mul_assoc]
    exact Val.base b2 ok (Val.bases b2 ok V n)
/-! ### a row repeats with its width -/
theorem ladOf_sub {tab : Tb} {k : Ky} {e : LE} (h : e ∈ ladOf tab k) : ∃ t ∈ tab, e ∈ t.2 := by
  unfold ladOf at h
  cases q : tab.find? fun t => decide (t.1 = k) with
  | none => rw [q] at h; nomatch h
  | some t => rw [q] at h; exact ⟨t, List.mem_of_find?_eq_some q, h⟩
theorem ceil_shift {x s z : Int} (hs : 0 < s) : -(-(x + s * z) / s) = -(-x / s) + z := by
  have e : -(x + s * z) = -x + s * (-z) := by rw [Int.mul_neg]; omega
  rw [e, Int.add_mul_ediv_left _ _ (by omega)]
  omega
theorem floor_shift {x s z : Int} (hs : 0 < s) : (x + s * z) / s = x / s + z := Int.add_mul_ediv_left _ _ (by omega)
theorem fit_shift {k : Kd} {n x L s z : Int} (hs : 0 < s) : x + s * z + L ≤ reachZ k n (x + s * z) s ↔ x + L ≤ reachZ k n x s := by
  cases k with
  | len => show x + s * z + L ≤ x + s * z + n * s ↔ x + L ≤ x + n * s; omega
  | cov =>
    show x + s * z + L ≤ ((x + s * z) / s + n) * s ↔ x + L ≤ (x / s + n) * s
    rw [floor_shift hs, show x / s + z + n = (x / s + n) + z by omega, Int.add_mul, Int.mul_comm z s]
    omega
  | ins =>
    show x + s * z + L ≤ (-(-(x + s * z) / s) + n) * s - 1 ↔ x + L ≤ (-(-x / s) + n) * s - 1
    rw [ceil_shift hs, show -(-x / s) + z + n = (-(-x / s) + n) + z by omega, Int.add_mul, Int.mul_comm z s]
    omega
theorem step_per {W : Nat} {tab : Tb} (R : TabR W tab) {L x z : Int} {k : Ky} : stepX tab L k (x + W * z) = stepX tab L k x := by
  refine find_congr fun e he => ?_
  obtain ⟨t, ht, h2⟩ := ladOf_sub he
  obtain ⟨h3, ⟨c, hc⟩, _⟩ := (R.ok t ht).2 e h2
  have ew : (W : Int) * z = e.s * (c * z) := by
    have : (W : Int) = e.s * (c : Int) := by
      rw [hc, Int.natCast_mul]
      congr 1
      omega
    rw [this, Int.mul_assoc]
  rw [ew]
  exact decide_eq_decide.mpr (fit_shift (by omega))
theorem step_sz {W : Nat} {tab : Tb} (R : TabR W tab) {L x : Int} {k : Ky} {e : LE} (h : stepX tab L k x = some e) : 0 < e.s ∧ ∃ c : Int, (W : Int) = e.s * c := by
  obtain ⟨t, ht, h2⟩ := ladOf_sub (List.mem_of_find?_eq_some h)
  obtain ⟨h3, ⟨c, hc⟩, _⟩ := (R.ok t ht).2 e h2
  refine ⟨by omega, c, ?_⟩
  rw [hc, Int.natCast_mul]
  congr 1
  omega
theorem val_per {W : Nat} {tab : Tb} (R : TabR W tab) {L x z : Int} : ∀ {f : Fm}, ValX tab L f (x + W * z) = ValX tab L f x
  | .all => rfl
  | .not f => by show (!ValX tab L f (x + W * z)) = !ValX tab L f x; rw [val_per R (f := f)]
  | .and f g => by show (ValX tab L f (x + W * z) && ValX tab L g (x + W * z)) = (ValX tab L f x && ValX tab L g x); rw [val_per R (f := f), val_per R (f := g)]
  | .or f g => by show (ValX tab L f (x + W * z) || ValX tab L g (x + W * z)) = (ValX tab L f x || ValX tab L g x); rw [val_per R (f := f), val_per R (f := g)]
  | .xor f g => by show (ValX tab L f (x + W * z) ^^ ValX tab L g (x + W * z)) = (ValX tab L f x ^^ ValX tab L g x); rw [val_per R (f := f), val_per R (f := g)]
  | .counted k lo hi => by
    unfold ValX
    rw [step_per R]
    cases q : stepX tab L k x with
    | none => rfl
    | some e =>
      obtain ⟨s0, c, hc⟩ := step_sz R q
      show inZ lo hi _ = inZ lo hi _
      congr 1
      have ew : (W : Int) * z = e.s * (c * z) := by rw [hc, Int.mul_assoc]
      have el : x + W * z + L = x + L + e.s * (c * z) := by rw [ew]; omega
      have a1 : lstZ k.1 (x + W * z + L) e.s = lstZ k.1 (x + L) e.s + c * z := by
        unfold lstZ
        rw [el, ceil_shift s0, floor_shift s0]
        split <;> rfl
      have a2 : fstZ k.1 (x + W * z) e.s = fstZ k.1 x e.s + c * z := by
        unfold fstZ
        rw [ew, ceil_shift s0, floor_shift s0]
        split <;> rfl
      rw [a1, a2]
      omega
  | .taken k m => by
    unfold ValX
    rw [step_per R]
  | .coarser k k2 n o => by
    unfold ValX
    rw [step_per R, step_per R]
  | .touched k low => by
    unfold ValX
    rw [step_per R]
    cases q : stepX tab L k x with
    | none => rfl
    | some e =>
      obtain ⟨s0, c, hc⟩ := step_sz R q
      have ew : (W : Int) * z = e.s * (c * z) := by rw [hc, Int.mul_assoc]
      show (if low then decide ((x + W * z) % e.s = 0) else decide ((x + W * z + L) % e.s = 0)) = if low then decide (x % e.s = 0) else decide ((x + L) % e.s = 0)
      rw [show x + W * z + L = x + L + e.s * (c * z) by rw [ew]; omega, ew, Int.add_mul_emod_self_left, Int.add_mul_emod_self_left]
theorem mkN_ne {φ : Nat → Bool} {W : Nat} : mkN φ W ≠ 0 ↔ ∃ q, q < W ∧ φ q = true := by
  constructor
  · intro h
    refine Classical.byContradiction fun no => h ?_
    rw [mkN_congr (ψ := fun _ => false) fun q hq => ?_, mkN_zero]
    cases e : φ q with
    | false => rfl
    | true => exact absurd ⟨q, hq, e⟩ no
  · rintro ⟨q, hq, e⟩ z
    have h := mkN_bit φ W q
    rw [z, Nat.zero_testBit, decide_eq_true hq, e] at h
    cases h
/-- a set has a member just if its rows say so -/
theorem has_iff {b : Int} {f : Fm} {r : Bool} (b2 : 2 ≤ b) (ok : FmOk b f) (H : HasM b f r) : r = true ↔ ∃ l h, l < h ∧ Val b f l h true := by
  obtain ⟨ks, stab, dg, ms, rows, me, nd, IN, ST, bo, ra, rfl⟩ := H
  have F1 : 1 ≤ b ^ dg.toNat := pow_pos' (by omega) _
  have pos : ∀ z ∈ stab, 1 ≤ z.1.2.2 ∧ ∀ s ∈ z.2, 1 ≤ s.1 := fun z hz => ⟨(ST.ok z hz).2.1, fun s hs => ((ST.ok z hz).2.2.2 s hs).1⟩
  have hk : ∀ k ∈ f.keys, k ∈ ks := fun k h => (me k).mpr h
  have rng : ∀ x ∈ ms, b ^ dg.toNat ≤ x ∧ x ≤ b * b ^ dg.toNat := fun x hx => bnd_rng bo F1 b2 hx
  have ladR : ∀ t ∈ ladT b dg stab, t.2.length ≤ 1000 ∧ ∀ e ∈ t.2, 1 ≤ e.s := fun t ht => by
    have h3 := ST.sz t ht
    obtain ⟨t0, h0, rfl⟩ := List.mem_map.mp ht
    exact ⟨by show (szL b dg t0.2).length ≤ 1000; unfold szL; rw [List.length_map]; exact (ST.ok t0 h0).1, fun e he => (h3 e he).1⟩
  constructor
  · intro h
    obtain ⟨ρ, hρ, h1⟩ := List.any_eq_true.mp h
    obtain ⟨q, hq, hv⟩ := mkN_ne.mp (of_decide_eq_true h1)
    obtain ⟨i, F, p, j, hF, hp, RO⟩ := ra.good ρ hρ
    have u0 := RO.u0
    have c4 : 4 ≤ b ^ 2 := by
      have := Int.mul_le_mul b2 b2 (by decide) (by omega)
      rw [Int.pow_succ, Int.pow_succ, Int.pow_zero, Int.one_mul]
      omega
    have N4 : 4 ≤ b ^ 2 * ρ.u := by
      have := Int.mul_le_mul c4 (show 1 ≤ ρ.u by omega) (by decide) (by omega)
      omega
    have Le : ρ.L % 2 = 0 := by
      obtain ⟨g, hg⟩ := RO.dF
      have e : 4 * F / ρ.u = 4 * g := by
        rw [hg, ← Int.mul_assoc, Int.mul_comm 4, Int.mul_assoc]
        exact Int.mul_ediv_cancel_left _ (by omega)
      have := RO.L_
      rw [e] at this
      omega
    have aL := psi_len (x := (q : Int)) N4 Le
    have c0 : 0 < b ^ 2 := by omega
    have k1 := (len_lo c0 u0 aL RO.dF).mp (by rw [RO.L_]; omega)
    have k2 := (len_hi c0 u0 aL RO.dp).mp RO.lt
    have LK : Like b ks stab dg F p j 2 ρ (q : Int) (psi (b ^ 2 * ρ.u) q) (psi (b ^ 2 * ρ.u) (q + ρ.L)) := ⟨b2, IN, nd, pos, RO, (rng F (List.mem_of_getElem? hF)).1, (rng p (List.mem_of_getElem? hp)).2, psi_alk N4, psi_alk N4, aL, k1, k2⟩
    have V := LK.val hk
    rw [← valX_nat, hv] at V
    refine ⟨_, _, ?_, V⟩
    have F0 := (rng F (List.mem_of_getElem? hF)).1
    have := Int.mul_pos (show 0 < F by omega) c0
    omega
  · rintro ⟨l, h, lt, V⟩
    obtain ⟨e1, e2⟩ := lg_spec b2 (show 1 ≤ h - l by omega)
    generalize lg b (h - l) = e at e1 e2
    have V2 := Val.bases b2 ok V (dg.toNat + 2)
    have pa : 0 < b ^ (dg.toNat + 2) := by have := pow_pos' (show 1 ≤ b by omega) (dg.toNat + 2); omega
    have ct : 1 ≤ b ^ e := pow_pos' (by omega) e
    have c4 : 4 ≤ b ^ (e + 2) := by
      have := Int.mul_le_mul b2 b2 (by decide) (by omega)
      rw [Int.pow_succ, Int.pow_succ, Int.mul_assoc]
      have := Int.mul_le_mul ct this (by decide) (by omega)
      omega
    have eD : h * b ^ (dg.toNat + 2) - l * b ^ (dg.toNat + 2) = (h - l) * b ^ (dg.toNat + 2) := (Int.sub_mul ..).symm
    have lo : b ^ dg.toNat * b ^ (e + 2) ≤ h * b ^ (dg.toNat + 2) - l * b ^ (dg.toNat + 2) := by
      rw [eD]
      have := Int.mul_le_mul_of_nonneg_right e1 (show 0 ≤ b ^ (dg.toNat + 2) by omega)
      rw [← pow_add'] at this ⊢
      rw [show dg.toNat + (e + 2) = e + (dg.toNat + 2) by omega]
      exact this
    have hi : h * b ^ (dg.toNat + 2) - l * b ^ (dg.toNat + 2) < b * b ^ dg.toNat * b ^ (e + 2) := by
      rw [eD]
      have := Int.mul_lt_mul_of_pos_right e2 pa
      rw [← pow_add'] at this
      have e3 : b * b ^ dg.toNat * b ^ (e + 2) = b ^ (e + 1 + (dg.toNat + 2)) := by
        rw [Int.mul_comm b, ← Int.pow_succ, ← pow_add']
        congr 1
        omega
      rw [e3]
      exact this
    generalize h * b ^ (dg.toNat + 2) = h' at *
    generalize l * b ^ (dg.toNat + 2) = l' at *
    obtain ⟨i, F, p, hF, hp, k1, k2⟩ : ∃ (i : Nat) (F p : Int), ms[i]? = some F ∧ ms[i + 1]? = some p ∧ F * b ^ (e + 2) ≤ h' - l' ∧ h' - l' < p * b ^ (e + 2) := by
      have m1 := (bo.2.1 (b ^ dg.toNat)).mpr (List.mem_append_left _ (List.mem_cons_self ..))
      have m2 := (bo.2.1 (b * b ^ dg.toNat)).mpr (List.mem_append_left _ (List.mem_cons_of_mem _ (List.mem_cons_self ..)))
      have srt := bo.1
      cases ms with
      | nil => nomatch m1
      | cons x r =>
        have hx : x ≤ b ^ dg.toNat := by
          rcases List.mem_cons.mp m1 with e | e
          · omega
          · have := (List.pairwise_cons.mp srt).1 _ e
            omega
        refine find_piece (T := b * b ^ dg.toNat) ?_ m2 hi
        exact Int.le_trans (Int.mul_le_mul_of_nonneg_right hx (by omega)) lo
    have rF := rng F (List.mem_of_getElem? hF)
    have rp := rng p (List.mem_of_getElem? hp)
    have hu := gcdL_dvd (es := (cntT F p (ladT b dg stab)).flatMap (·.2)) (u := ((Nat.gcd F.natAbs p.natAbs : Nat) : Int))
    have u0 : 0 < unitT F p (ladT b dg stab) := by
      refine gcdL_pos ?_
      have : 0 < Nat.gcd F.natAbs p.natAbs := Nat.gcd_pos_of_pos_left _ (by omega)
      omega
    have uF : unitT F p (ladT b dg stab) ∣ F := Int.dvd_trans hu.1 (Int.ofNat_dvd_left.mpr (Nat.gcd_dvd_left _ _))
    have up : unitT F p (ladT b dg stab) ∣ p := Int.dvd_trans hu.1 (Int.ofNat_dvd_left.mpr (Nat.gcd_dvd_right _ _))
    generalize eu : unitT F p (ladT b dg stab) = u at *
    have c0 : 0 < b ^ (e + 2) := by omega
    have N4 : 4 ≤ b ^ (e + 2) * u := by
      have := Int.mul_le_mul c4 (show 1 ≤ u by omega) (by decide) (by omega)
      omega
    obtain ⟨x, L, Le, a1, a2, aL⟩ := to_quarters (l := l') (h := h') N4
    have q1 := (len_lo c0 u0 aL uF).mpr k1
    have q2 := (len_hi c0 u0 aL up).mpr k2
    have F4 : 4 * F / u % 2 = 0 := by
      obtain ⟨g, hg⟩ := uF
      have e : 4 * F / u = 4 * g := by
        rw [hg, ← Int.mul_assoc, Int.mul_comm 4, Int.mul_assoc]
        exact Int.mul_ediv_cancel_left _ (by omega)
      rw [e]
      omega
    obtain ⟨j, hj⟩ : ∃ j : Nat, L = 4 * F / u + 2 * (j : Int) := ⟨((L - 4 * F / u) / 2).toNat, by omega⟩
    obtain ⟨ρ, hρ, RO⟩ := ra.all i F p j hF hp (by rw [eu, ← hj]; exact q2)
    have eρu : ρ.u = u := RO.u_.trans eu
    have eρL : ρ.L = L := by rw [RO.L_, eρu, hj]
    have LK : Like b ks stab dg F p j (e + 2) ρ x l' h' := ⟨b2, IN, nd, pos, RO, rF.1, rp.2, by rw [eρu]; exact a1, by rw [eρu, eρL]; exact a2, by rw [eρu, eρL]; exact aL, k1, k2⟩
    have V3 := LK.val hk
    have vt := Val.det b2 ok V3 V2
    have TR := row_tabR RO ladR
    have W0 := TR.pos
    have x0 := Int.emod_nonneg x (show (ρ.W : Int) ≠ 0 by omega)
    have x1 := Int.emod_lt_of_pos x (show (0 : Int) < ρ.W by omega)
    refine List.any_eq_true.mpr ⟨ρ, hρ, decide_eq_true (mkN_ne.mpr ⟨(x % ρ.W).toNat, by omega, ?_⟩)⟩
    rw [valX_nat, show (((x % ρ.W).toNat : Nat) : Int) = x % ρ.W by omega, ← val_per TR (z := x / ρ.W), Int.emod_add_mul_ediv, vt]
theorem hasM_rungs {b : Int} {f : Fm} {r : Bool} (H : HasM b f r) : ∀ k ∈ f.keys, ∃ (rs : List Int) (top : Nat), Rungs b rs top ∧ rs.Perm k.2.1 := fun k hk => by
  obtain ⟨ks, stab, dg, ms, rows, me, nd, IN, _⟩ := H
  have h := (me k).mpr hk
  rw [← IN.keys] at h
  obtain ⟨z, hz, rfl⟩ := List.mem_map.mp h
  obtain ⟨rs, top, _, _, C, _⟩ := IN.cand z hz
  exact ⟨rs, top, C.R, C.pr⟩
end Ax

namespace L2
open PySem PySem.Spec PyProof.Rows
section
variable {X : Cx} {CX : CXT} {n : Nat} {C f : Addr} {fd : FuncData} {ps : List Str} {sp : Sp} {E : XK}
/-! ### an instance as a test, by its own __bool__ -/
def tTruO (C : Addr) (sp : Sp) (E : XK) (t : TE) : TT := fun σ H Q => t σ H fun x H1 => ∃ a dx fs, x = .ref a ∧ H1 a = some (.ins C dx fs) ∧ sp [x] H1 (fun v H2 => ∃ b, v = .bl b ∧ Q b H2) E
theorem pt_truO {e : Expr} {t : TE} (F : FnOk X.prog X.w X.K X.mg X.base CX n f fd ps sp) (hr : Room n X.A)
    (hs : PySem.W.findIn X.K (.ref C) "__bool__" = some (some (.ref f))) (hf : PySem.W.isFn X.K (.ref f) = true) (hb : Binds X.K fd ps []) (hx : Passes CX X E) (he : PE X e t)
    (hi : ∀ whole, isTrue e X.env whole = (do let v ← whole; standAt e.pos; holding [v] (truthy v)) := by intro _; rfl) : PT X e (tTruO C sp E t) := by
  refine ⟨fun pins s σ H Q I h => ?_⟩
  refine isTrue_plain (thn (he.run pins s σ H _ I h) fun v s1 ⟨x, H1, I1, r1, a, dx, fs, ex, ha, q⟩ => ?_) (hi _)
  subst ex
  obtain rfl : v = Value.ref a := r1
  obtain ⟨mA, J, _⟩ := ins_get I1.hok ha
  obtain ⟨od, J, _⟩ := J.look
  have hl := F.len _ _ _ _ q
  have r2 : Vals [V.ref a] [Value.ref a] := .cons rfl .nil
  have run : ∀ {Qv : Value → Shared → Prop}, (∀ v s', (∃ y H2, Inv X pins σ H2 s' ∧ RelV y v ∧ ∃ b, y = .bl b ∧ Q b H2) → Qv v s') → wpAny (model X.prog X.w) X.A (call (.ref f) [.ref a]) Qv X.xe s1 := fun {Qv} fin =>
    wpAny_call (codeAny_mono (F.run X.A X.stack s1 H1 ⟨[.ref a], []⟩ [.ref a] [.ref a] _ E hr I1.env0 (by
      have := hb s1 [.ref a] I1.kIn (by simpa using hl)
      simpa using this) r2 q) fun r s' hq => by
        cases r with
        | error e => exact hx pins σ H1 s1 e s' I1 hq
        | ok fl =>
          cases fl with
          | ret w =>
            obtain ⟨z, H', I', rz, qz⟩ := I1.after hq
            exact fin _ _ ⟨z, H', I', rz, qz⟩
          | next => exact False.elim hq
          | brk => exact False.elim hq
          | cont => exact False.elim hq)
  unfold truthy
  have key : wpAny (model X.prog X.w) X.A (callSpecial? (.ref a) (Str.ofString "__bool__")) (fun o s' => ∃ b H2, o = some (.bool b) ∧ Inv X pins σ H2 s' ∧ Q b H2) X.xe s1 := by
    refine PySem.W.special_fn I1.kIn J hs (beq_iff_eq.mp hf) ?_
    refine run fun v s' ⟨y, H2, I2, ry, b, ey, qb⟩ => ?_
    subst ey
    cases ry
    exact ⟨b, H2, rfl, I2, qb⟩
  have fin : ∀ (o : Option Value) (s' : Shared), (∃ b H2, o = some (.bool b) ∧ Inv X pins σ H2 s' ∧ Q b H2) → True := fun _ _ _ => trivial
  first
    | refine wpAny_bind (thn key fun o s' ⟨b, H2, eo, I2, qb⟩ => ?_)
    | refine wpAny_bind (wpAny_pure (wpAny_bind (thn key fun o s' ⟨b, H2, eo, I2, qb⟩ => ?_)))
  subst eo
  exact wpAny_pure ⟨H2, I2, qb⟩
end
end L2

namespace Ax
open PySem L2
section
variable {P : Program} {w : World} {K : PySem.W.Frag} {mg : Str → Option Value} {base : Heap} {A : Adr}
/-! ### RangeSet.every -/
def spEvery (A : Adr) : Sp := fun vs H Q _ => ∃ (b : Int), vs = [.ref A.c_RangeSet, .int b] ∧ 2 ≤ b ∧
  ∀ (H' : Hp) (q dx fa : Addr), Same H H' → H q = none → SetAt A.c_RangeSet H' q b .all dx fa → Q (.ref q) H'
abbrev nm_RangeSet_every : List Str := ["cls", "base"]
theorem sc_RangeSet_every : FnScope ["cls", "base"] ["cls", "base"] (defScope s_RangeSet_every) := ⟨rfl, rfl, rfl, by decide +kernel, rfl, by decide +kernel, by decide +kernel⟩
theorem ok_every (T : Txt K mg A w) : FnOk P w K mg base CX0 4 A.a_every A.d_every ["cls", "base"] (spEvery A) := by
  have G_is_base : FnOk P w K mg base CX0 2 A.a_is_base A.d_is_base ["value"] spBase := ok_is_base T
  have G_RangeSet_init : FnOk P w K mg base CX0 1 A.a_RangeSet_init A.d_RangeSet_init ["self", "base", "formula"] (spRInit A) := ok_rinit T
  refine T.F_every.ok sc_RangeSet_every (fun vs H Q E h => ?_) (fun cdv A0 outer s H vs Q E hr h => ?_)
  · obtain ⟨b, rfl, _⟩ := h
    rfl
  · obtain ⟨b, rfl, b2, q⟩ := h
    refine ⟨_, (pss_cons (ps_if (pt_not (pt_val (pe_call G_is_base (hr.mono (by decide)) (by rfl) T.m_is_base T.F_is_base.kp T.B_is_base .nil pass0 (pa_cons (pv 1) pa_nil)))) (pss_one ps_never) pss_nil)
  (pss_one (ps_ret (pe_makeL (i := 0) T.mk_RangeSet G_RangeSet_init (hr.mono (by decide)) rfl (Or.inl rfl) T.B_RangeSet_init .nil pass0 (pa_cons (pv 1) (pa_cons (pe_tup (pa_cons pe_str pa_nil)) pa_nil)))))), ?_⟩
    refine ⟨_, rfl, b, rfl, b2, _, rfl, iteF ?_⟩
    refine ⟨rfl, _, rfl, (by show 1 ≤ sizeLine; decide), fun fa hfa => ?_⟩
    have a3 := same_new (o := .tup [.str "all"]) hfa
    have F : FmAt (upd H fa (.tup [.str "all"])) .all fa := upd_same
    intro y dx nx ndx nex
    refine ⟨y, dx, fa, b, rfl, upd_same, fun H4 kept h4 => ⟨rfl, ?_⟩⟩
    obtain ⟨s4, S4⟩ := set_new nx ndx nex F kept h4
    exact q H4 y dx fa (a3.trans s4) (a3.free nx) S4
/-! ### operators -/
def spOpd (A : Adr) : Sp := fun vs H Q _ => ∃ (x y : Addr) (b : Int) (f g : Fm) (dx fa dy ga : Addr), vs = [.ref x, .ref y] ∧ SetAt A.c_RangeSet H x b f dx fa ∧ SetAt A.c_RangeSet H y b g dy ga ∧ Q .non H
abbrev nm_check_operand : List Str := ["left", "right"]
theorem sc_check_operand : FnScope ["left", "right"] ["left", "right"] (defScope s_check_operand) := ⟨rfl, rfl, rfl, by decide +kernel, rfl, by decide +kernel, by decide +kernel⟩
theorem ok_opd (T : Txt K mg A w) : FnOk P w K mg base CX0 3 A.a_check_operand A.d_check_operand ["left", "right"] (spOpd A) := by
  have G_RangeSet_base := ok_sb (P := P) (base := base) T
  refine T.F_check_operand.ok sc_check_operand (fun vs H Q E h => ?_) (fun cdv A0 outer s H vs Q E hr h => ?_)
  · obtain ⟨x, y, b, f, g, dx, fa, dy, ga, rfl, _⟩ := h
    rfl
  · obtain ⟨x, y, b, f, g, dx, fa, dy, ga, rfl, X, Y, q⟩ := h
    refine ⟨_, (pss_one (ps_if (PW.pt (pw_or (pt_not (pt_val (pe_callB (C8.call_isC T.ic2) (by rfl) T.n_isinstance (by decide +kernel) (pa_cons (pv 1) (pa_cons (pe_glob (v := .ref A.c_RangeSet) rfl T.c_RangeSet rfl) pa_nil))))) (pw_or1 (pt_cmpR op_ne (pe_prop (pv 1) T.cl2 T.pr_RangeSet_base G_RangeSet_base (hr.mono (by decide)) T.B_RangeSet_base .nil pass0 rfl) (pe_prop (pv 0) T.cl2 T.pr_RangeSet_base G_RangeSet_base (hr.mono (by decide)) T.B_RangeSet_base .nil pass0 rfl) (nomark _))))) (pss_one ps_never) pss_nil)), ?_⟩
    refine ⟨_, rfl, y, dy, _, rfl, Y.at_, true, rfl, iteF ?_⟩
    refine ⟨_, rfl, y, dy, _, rfl, Y.at_, y, b, g, dy, ga, rfl, Y, ?_⟩
    refine ⟨_, rfl, x, dx, _, rfl, X.at_, x, b, f, dx, fa, rfl, X, rfl, _, rfl, ?_⟩
    rw [decide_eq_true rfl]
    exact iteF q
def spBin (A : Adr) (op : Fm → Fm → Fm) : Sp := fun vs H Q _ => ∃ (x y : Addr) (b : Int) (f g : Fm) (dx fa dy ga : Addr), vs = [.ref x, .ref y] ∧ SetAt A.c_RangeSet H x b f dx fa ∧ SetAt A.c_RangeSet H y b g dy ga ∧
  ∀ (H' : Hp) (q dq qa : Addr), Same H H' → H q = none → SetAt A.c_RangeSet H' q b (op f g) dq qa → Q (.ref q) H'
abbrev nm_RangeSet___and__ : List Str := ["self", "other"]
theorem sc_RangeSet___and__ : FnScope ["self", "other"] ["self", "other"] (defScope s_RangeSet___and__) := ⟨rfl, rfl, rfl, by decide +kernel, rfl, by decide +kernel, by decide +kernel⟩
theorem ok_and (T : Txt K mg A w) : FnOk P w K mg base CX0 5 A.a_RangeSet___and__ A.d_RangeSet___and__ ["self", "other"] (spBin A Fm.and) := by
  have G_check_operand : FnOk P w K mg base CX0 3 A.a_check_operand A.d_check_operand ["left", "right"] (spOpd A) := ok_opd T
  have G_RangeSet_init : FnOk P w K mg base CX0 1 A.a_RangeSet_init A.d_RangeSet_init ["self", "base", "formula"] (spRInit A) := ok_rinit T
  refine T.F_RangeSet___and__.ok sc_RangeSet___and__ (fun vs H Q E h => ?_) (fun cdv A0 outer s H vs Q E hr h => ?_)
  · obtain ⟨x, y, b, f, g, dx, fa, dy, ga, rfl, _⟩ := h
    rfl
  · obtain ⟨x, y, b, f, g, dx, fa, dy, ga, rfl, X, Y, q⟩ := h
    refine ⟨_, (pss_cons (ps_expr (pe_call G_check_operand (hr.mono (by decide)) (by rfl) T.m_check_operand T.F_check_operand.kp T.B_check_operand .nil pass0 (pa_cons (pv 0) (pa_cons (pv 1) pa_nil))))
  (pss_one (ps_ret (pe_make T.mk_RangeSet G_RangeSet_init (hr.mono (by decide)) (by rfl) T.c_RangeSet T.B_RangeSet_init .nil pass0 (pa_cons (pe_fld (pv 0) rfl) (pa_cons (pe_tup (pa_cons pe_str (pa_cons (pe_fld (pv 0) rfl) (pa_cons (pe_fld (pv 1) rfl) pa_nil)))) pa_nil)))))), ?_⟩
    refine ⟨_, rfl, _, rfl, x, y, b, f, g, dx, fa, dy, ga, rfl, X, Y, ?_⟩
    refine ⟨_, rfl, x, A.c_RangeSet, dx, _, _, rfl, X.at_, T.cl2, T.nb_base, sf_base _ _, ?_⟩
    refine ⟨_, rfl, x, A.c_RangeSet, dx, _, _, rfl, X.at_, T.cl2, T.nb_formula, sf_formula _ _, ?_⟩
    refine ⟨_, rfl, y, A.c_RangeSet, dy, _, _, rfl, Y.at_, T.cl2, T.nb_formula, sf_formula _ _, ?_⟩
    refine ⟨(by show 3 ≤ sizeLine; decide), fun ta hta => ?_⟩
    have sA := same_new (o := .tup [.str "and", .ref fa, .ref ga]) hta
    have F : FmAt (upd H ta (.tup [.str "and", .ref fa, .ref ga])) (Fm.and f g) ta := ⟨fa, ga, upd_same, FmAt.same sA X.fm, FmAt.same sA Y.fm⟩
    intro z dz nz ndz nez
    refine ⟨z, dz, ta, b, rfl, upd_same, fun H4 kept h4 => ⟨rfl, ?_⟩⟩
    obtain ⟨s4, S4⟩ := set_new nz ndz nez F kept h4
    exact q H4 z dz ta (sA.trans s4) (sA.free nz) S4
abbrev nm_RangeSet___or__ : List Str := ["self", "other"]
theorem sc_RangeSet___or__ : FnScope ["self", "other"] ["self", "other"] (defScope s_RangeSet___or__) := ⟨rfl, rfl, rfl, by decide +kernel, rfl, by decide +kernel, by decide +kernel⟩
theorem ok_or (T : Txt K mg A w) : FnOk P w K mg base CX0 5 A.a_RangeSet___or__ A.d_RangeSet___or__ ["self", "other"] (spBin A Fm.or) := by
  have G_check_operand : FnOk P w K mg base CX0 3 A.a_check_operand A.d_check_operand ["left", "right"] (spOpd A) := ok_opd T
  have G_RangeSet_init : FnOk P w K mg base CX0 1 A.a_RangeSet_init A.d_RangeSet_init ["self", "base", "formula"] (spRInit A) := ok_rinit T
  refine T.F_RangeSet___or__.ok sc_RangeSet___or__ (fun vs H Q E h => ?_) (fun cdv A0 outer s H vs Q E hr h => ?_)
  · obtain ⟨x, y, b, f, g, dx, fa, dy, ga, rfl, _⟩ := h
    rfl
  · obtain ⟨x, y, b, f, g, dx, fa, dy, ga, rfl, X, Y, q⟩ := h
    refine ⟨_, (pss_cons (ps_expr (pe_call G_check_operand (hr.mono (by decide)) (by rfl) T.m_check_operand T.F_check_operand.kp T.B_check_operand .nil pass0 (pa_cons (pv 0) (pa_cons (pv 1) pa_nil))))
  (pss_one (ps_ret (pe_make T.mk_RangeSet G_RangeSet_init (hr.mono (by decide)) (by rfl) T.c_RangeSet T.B_RangeSet_init .nil pass0 (pa_cons (pe_fld (pv 0) rfl) (pa_cons (pe_tup (pa_cons pe_str (pa_cons (pe_fld (pv 0) rfl) (pa_cons (pe_fld (pv 1) rfl) pa_nil)))) pa_nil)))))), ?_⟩
    refine ⟨_, rfl, _, rfl, x, y, b, f, g, dx, fa, dy, ga, rfl, X, Y, ?_⟩
    refine ⟨_, rfl, x, A.c_RangeSet, dx, _, _, rfl, X.at_, T.cl2, T.nb_base, sf_base _ _, ?_⟩
    refine ⟨_, rfl, x, A.c_RangeSet, dx, _, _, rfl, X.at_, T.cl2, T.nb_formula, sf_formula _ _, ?_⟩
    refine ⟨_, rfl, y, A.c_RangeSet, dy, _, _, rfl, Y.at_, T.cl2, T.nb_formula, sf_formula _ _, ?_⟩
    refine ⟨(by show 3 ≤ sizeLine; decide), fun ta hta => ?_⟩
    have sA := same_new (o := .tup [.str "or", .ref fa, .ref ga]) hta
    have F : FmAt (upd H ta (.tup [.str "or", .ref fa, .ref ga])) (Fm.or f g) ta := ⟨fa, ga, upd_same, FmAt.same sA X.fm, FmAt.same sA Y.fm⟩
    intro z dz nz ndz nez
    refine ⟨z, dz, ta, b, rfl, upd_same, fun H4 kept h4 => ⟨rfl, ?_⟩⟩
    obtain ⟨s4, S4⟩ := set_new nz ndz nez F kept h4
    exact q H4 z dz ta (sA.trans s4) (sA.free nz) S4
def spInv (A : Adr) : Sp := fun vs H Q _ => ∃ (x : Addr) (b : Int) (f : Fm) (dx fa : Addr), vs = [.ref x] ∧ SetAt A.c_RangeSet H x b f dx fa ∧
  ∀ (H' : Hp) (q dq qa : Addr), Same H H' → H q = none → SetAt A.c_RangeSet H' q b (.not f) dq qa → Q (.ref q) H'
abbrev nm_RangeSet___invert__ : List Str := ["self"]
theorem sc_RangeSet___invert__ : FnScope ["self"] ["self"] (defScope s_RangeSet___invert__) := ⟨rfl, rfl, rfl, by decide +kernel, rfl, by decide +kernel, by decide +kernel⟩
theorem ok_inv (T : Txt K mg A w) : FnOk P w K mg base CX0 5 A.a_RangeSet___invert__ A.d_RangeSet___invert__ ["self"] (spInv A) := by
  have G_RangeSet_init : FnOk P w K mg base CX0 1 A.a_RangeSet_init A.d_RangeSet_init ["self", "base", "formula"] (spRInit A) := ok_rinit T
  refine T.F_RangeSet___invert__.ok sc_RangeSet___invert__ (fun vs H Q E h => ?_) (fun cdv A0 outer s H vs Q E hr h => ?_)
  · obtain ⟨x, b, f, dx, fa, rfl, _⟩ := h
    rfl
  · obtain ⟨x, b, f, dx, fa, rfl, X, q⟩ := h
    refine ⟨_, (pss_one (ps_ret (pe_make T.mk_RangeSet G_RangeSet_init (hr.mono (by decide)) (by rfl) T.c_RangeSet T.B_RangeSet_init .nil pass0 (pa_cons (pe_fld (pv 0) rfl) (pa_cons (pe_tup (pa_cons pe_str (pa_cons (pe_fld (pv 0) rfl) pa_nil))) pa_nil))))), ?_⟩
    refine ⟨_, rfl, x, A.c_RangeSet, dx, _, _, rfl, X.at_, T.cl2, T.nb_base, sf_base _ _, ?_⟩
    refine ⟨_, rfl, x, A.c_RangeSet, dx, _, _, rfl, X.at_, T.cl2, T.nb_formula, sf_formula _ _, ?_⟩
    refine ⟨(by show 2 ≤ sizeLine; decide), fun ta hta => ?_⟩
    have sA := same_new (o := .tup [.str "not", .ref fa]) hta
    have F : FmAt (upd H ta (.tup [.str "not", .ref fa])) (.not f) ta := ⟨fa, upd_same, FmAt.same sA X.fm⟩
    intro z dz nz ndz nez
    refine ⟨z, dz, ta, b, rfl, upd_same, fun H4 kept h4 => ⟨rfl, ?_⟩⟩
    obtain ⟨s4, S4⟩ := set_new nz ndz nez F kept h4
    exact q H4 z dz ta (sA.trans s4) (sA.free nz) S4
end
end Ax

namespace Ax
open PySem L2
section
variable {P : Program} {w : World} {K : PySem.W.Frag} {mg : Str → Option Value} {base : Heap} {A : Adr}
/-- what a set's formula must be for its rows to be made -/
structure SetOk (b : Int) (f : Fm) : Prop where
  fr : FmR b f
  few : f.keys.length ≤ 1000
  b2 : 2 ≤ b
  kr : ∀ k ∈ f.keys, KyR b k
  st : ∀ ks stab dg, (∀ k, k ∈ ks ↔ k ∈ f.keys) → LadIn b ks stab dg → StR b dg stab
def spBool (A : Adr) (n : Nat) : Sp := fun vs H Q _ => ∃ (a : Addr) (b : Int) (f : Fm) (dx fa : Addr), vs = [.ref a] ∧ SetAt A.c_RangeSet H a b f dx fa ∧ f.dep + 1 ≤ n ∧ SetOk b f ∧
  ∀ (H' : Hp) (r : Bool), Same H H' → (r = true ↔ ∃ l h, l < h ∧ Val b f l h true) → (∀ k ∈ f.keys, ∃ (rs : List Int) (top : Nat), Rungs b rs top ∧ rs.Perm k.2.1) → Q (.bl r) H'
abbrev nm_RangeSet___bool__ : List Str := ["self"]
theorem sc_RangeSet___bool__ : FnScope ["self"] ["self"] (defScope s_RangeSet___bool__) := ⟨rfl, rfl, rfl, by decide +kernel, rfl, by decide +kernel, by decide +kernel⟩
theorem ok_bool (T : Txt K mg A w) (n : Nat) : FnOk P w K mg base CX0 (6 + n + 1) A.a_RangeSet___bool__ A.d_RangeSet___bool__ ["self"] (spBool A n) := by
  have G_has_members := ok_has (P := P) (base := base) T n
  refine T.F_RangeSet___bool__.ok (k := 6 + n) sc_RangeSet___bool__ (fun vs H Q E h => ?_) (fun cdv A0 outer s H vs Q E hr h => ?_)
  · obtain ⟨a, b, f, dx, fa, rfl, _⟩ := h
    rfl
  · obtain ⟨a, b, f, dx, fa, rfl, X, dp, S, q⟩ := h
    refine ⟨_, (pss_one (ps_ret (pe_callTy call_bool1 (by rfl) T.n_bool (by decide +kernel) (pa_cons (pe_call G_has_members (hr.mono (by omega)) (by rfl) T.m_has_members T.F_has_members.kp T.B_has_members .nil pass0 (pa_cons (pe_fld (pv 0) rfl) (pa_cons (pe_fld (pv 0) rfl) pa_nil))) pa_nil)))), ?_⟩
    refine ⟨_, rfl, a, A.c_RangeSet, dx, _, _, rfl, X.at_, T.cl2, T.nb_base, sf_base _ _, ?_⟩
    refine ⟨_, rfl, a, A.c_RangeSet, dx, _, _, rfl, X.at_, T.cl2, T.nb_formula, sf_formula _ _, ?_⟩
    exact ⟨b, fa, f, rfl, X.fm, dp, S.fr, S.few, S.b2, S.kr, S.st, fun H' r s1 hm => .inr ⟨r, rfl, q H' r s1 (has_iff S.b2 S.fr.ok hm) (hasM_rungs hm)⟩⟩
end
end Ax

namespace Ax
open PySem L2
/-! # Small rules: their rows can be made -/
structure SmallK (b : Int) (k : Ky) (M : Int) : Prop where
  r : KyR b k
  most : k.2.2 ≤ 6
  ms : ∀ m ∈ k.2.1, m ≤ 25 ∧ m ∣ M
/-- what is known of the candidates of a rule -/
theorem cand_small {b M : Int} {k : Ky} {ss : List (Int × Int)} (b2 : 2 ≤ b) (bB : b ≤ 10) (S : SmallK b k M) (C : Cand b k 1 b ss) :
    ss.length ≤ 1000 ∧ ∀ s ∈ ss, s.1 ∈ k.2.1 ∧ s.2 ≤ 2 ∧ ∃ x : Nat, -s.2 ≤ x ∧ b ^ x ≤ 1750 := by
  obtain ⟨rs, top, i0, n, C, _⟩ := C
  have R := C.R
  have el1 : (lg b 1 : Int) = 0 := by
    have : (0 : Nat) = lg b 1 := lg_eq (E := 0) b2 (Int.le_refl 1) (by rw [Int.pow_zero]; exact Int.le_refl 1) (by rw [Int.pow_succ, Int.pow_zero, Int.one_mul]; omega)
    omega
  have elb : (lg b b : Int) = 1 := by
    have : (1 : Nat) = lg b b := lg_eq (E := 1) b2 (by omega) (by rw [Int.pow_succ, Int.pow_zero, Int.one_mul]; exact Int.le_refl b) (by
      rw [Int.pow_succ, Int.pow_succ, Int.pow_zero, Int.one_mul]
      have := Int.mul_lt_mul_of_pos_right (show 1 < b by omega) (show 0 < b by omega)
      omega)
    omega
  have m1 := S.r.m1
  have m6 := S.most
  obtain ⟨p1, p2⟩ := lg_spec b2 (show 1 ≤ k.2.2 + 1 by omega)
  have low : lowQ b k.2.2 0 1 0 = -((lg b (k.2.2 + 1) : Int) + 1) := by
    unfold lowQ
    rw [show (1 : Int) - 0 = 1 by decide, el1]
    omega
  generalize hg : lg b (k.2.2 + 1) = g at *
  have g2 : g ≤ 2 := by
    refine Nat.le_of_not_lt fun h => ?_
    have h1 : (2 : Int) ^ 3 ≤ b ^ 3 := pow_base_le (by decide) b2 3
    have h2 : b ^ 3 ≤ b ^ g := by
      rw [show g = 3 + (g - 3) by omega, pow_add']
      have := Int.mul_le_mul_of_nonneg_left (pow_pos' (show 1 ≤ b by omega) (g - 3)) (show 0 ≤ b ^ 3 by have := pow_pos' (show 1 ≤ b by omega) 3; omega)
      omega
    have h3 : (2 : Int) ^ 3 = 8 := by decide
    omega
  have len := C.pr.length_eq
  have l60 := S.r.le
  have ne := R.ne
  have hi := C.hi
  have i0e := C.i0_
  rw [low] at i0e
  rw [elb] at hi
  have nl : (0 : Int) < rs.length := by omega
  have gl : ((g : Int) + 1) * rs.length ≤ 3 * rs.length := Int.mul_le_mul_of_nonneg_right (by omega) (by omega)
  rw [Int.neg_mul] at i0e
  have nn : (n : Int) ≤ 5 * rs.length := by omega
  refine ⟨?_, fun s hs => ?_⟩
  · rw [C.ss_]
    refine Nat.le_trans (List.length_filter_le _ _) ?_
    rw [List.length_map, List.length_range]
    omega
  · rw [C.ss_] at hs
    obtain ⟨j, hj, rfl⟩ := List.mem_map.mp (List.mem_filter.mp hs).1
    have hj' := List.mem_range.mp hj
    have mm : (sAt b rs (i0 + (j : Nat))).1 ∈ rs := R.mem _
    have mk : (sAt b rs (i0 + (j : Nat))).1 ∈ k.2.1 := C.pr.mem_iff.mp mm
    have m25 := (S.ms _ mk).1
    have mp := R.pos _ mm
    have e2 : (sAt b rs (i0 + (j : Nat))).2 = (i0 + (j : Nat)) / rs.length - lg b (sAt b rs (i0 + (j : Nat))).1 := rfl
    have q1 : (i0 + (j : Nat)) / (rs.length : Int) ≤ 2 := by
      have : (i0 + (j : Nat)) / (rs.length : Int) < 3 := (Int.ediv_lt_iff_lt_mul nl).mpr (by omega)
      omega
    have q2 : -((g : Int) + 1) ≤ (i0 + (j : Nat)) / (rs.length : Int) := (Int.le_ediv_iff_mul_le nl).mpr (by rw [Int.neg_mul]; omega)
    obtain ⟨a1, a2⟩ := lg_spec b2 mp
    generalize (sAt b rs (i0 + (j : Nat))).1 = m at *
    refine ⟨mk, by omega, lg b m + (g + 1), by omega, ?_⟩
    rw [pow_add', Int.pow_succ]
    have z1 : b ^ g * b ≤ 7 * 10 := Int.mul_le_mul (by omega) bB (by omega) (by decide)
    have z0 : 0 ≤ b ^ g * b := Int.mul_nonneg (by have := pow_pos' (show 1 ≤ b by omega) g; omega) (by omega)
    have := Int.mul_le_mul (show b ^ lg b m ≤ 25 by omega) z1 z0 (by decide)
    omega
theorem str_of {b dg M : Int} {ks : List Ky} {stab : List (Ky × List (Int × Int))} (b2 : 2 ≤ b) (bB : b ≤ 10) (M0 : 0 < M) (MB : M ≤ 30) (hk : ∀ k ∈ ks, SmallK b k M) (IN : LadIn b ks stab dg) : StR b dg stab := by
  have dg0 := IN.dig.1
  have inK : ∀ t ∈ stab, t.1 ∈ ks := fun t ht => by rw [← IN.keys]; exact List.mem_map_of_mem (f := fun t : Ky × List (Int × Int) => t.1) ht
  have cs : ∀ t ∈ stab, t.2.length ≤ 1000 ∧ ∀ s ∈ t.2, s.1 ∈ t.1.2.1 ∧ s.2 ≤ 2 ∧ ∃ x : Nat, -s.2 ≤ x ∧ b ^ x ≤ 1750 := fun t ht => cand_small b2 bB (hk _ (inK t ht)) (IN.cand t ht)
  have b1 : 1 ≤ b := by omega
  have dB : b ^ dg.toNat ≤ 1750 := by
    rcases IN.dig.2.2 with e | ⟨t, ht, s, hs, e⟩
    · rw [e]
      show b ^ 0 ≤ 1750
      rw [Int.pow_zero]
      decide
    · obtain ⟨_, _, x, hx, hB⟩ := (cs t ht).2 s hs
      have hle : dg.toNat ≤ x := by omega
      rw [show x = dg.toNat + (x - dg.toNat) by omega, pow_add'] at hB
      have := Int.mul_le_mul_of_nonneg_left (pow_pos' b1 (x - dg.toNat)) (show 0 ≤ b ^ dg.toNat by have := pow_pos' b1 dg.toNat; omega)
      omega
  have d0 := pow_pos' b1 dg.toNat
  have bb : b * b ≤ 100 := by have := Int.mul_le_mul bB bB (by omega) (by decide); omega
  have d2 : b ^ (dg.toNat + 2) ≤ 175000 := by
    rw [Int.pow_succ, Int.pow_succ, Int.mul_assoc]
    have := Int.mul_le_mul dB bb (by have := Int.mul_nonneg (show 0 ≤ b by omega) (show 0 ≤ b by omega); omega) (by decide)
    omega
  have d20 := pow_pos' b1 (dg.toNat + 2)
  -- the powers of the sizes
  have pw : ∀ t ∈ stab, ∀ s ∈ t.2, 0 ≤ dg + s.2 ∧ (dg + s.2).toNat ≤ dg.toNat + 2 := fun t ht s hs => by
    have h1 := IN.dig.2.1 t ht s hs
    have h2 := ((cs t ht).2 s hs).2.1
    omega
  have spl : ∀ n : Nat, n ≤ dg.toNat + 2 → b ^ (dg.toNat + 2) = b ^ n * b ^ (dg.toNat + 2 - n) := fun n hn => by
    rw [← pow_add']
    congr 1
    omega
  have ple : ∀ n : Nat, n ≤ dg.toNat + 2 → b ^ n ≤ 175000 := fun n hn => by
    have h1 := spl n hn
    have := Int.mul_le_mul_of_nonneg_left (pow_pos' b1 (dg.toNat + 2 - n)) (show 0 ≤ b ^ n by have := pow_pos' b1 n; omega)
    omega
  have m25 : ∀ t ∈ stab, ∀ s ∈ t.2, 1 ≤ s.1 ∧ s.1 ≤ 25 ∧ s.1 ∣ M := fun t ht s hs => by
    have hm := ((cs t ht).2 s hs).1
    have S := hk _ (inK t ht)
    exact ⟨(S.r.all _ hm).1, (S.ms _ hm).1, (S.ms _ hm).2⟩
  refine ⟨?_, fun t ht => ⟨(cs t ht).1, (hk _ (inK t ht)).r.m1, (hk _ (inK t ht)).r.mB, fun s hs => ?_⟩, fun t ht e he => ?_, ?_⟩
  · have := Int.mul_le_mul bB dB (by omega) (by decide)
    have e : (2 : Int) ^ 22 = 4194304 := by decide
    omega
  · obtain ⟨h1, h2, _⟩ := m25 t ht s hs
    obtain ⟨h3, h4⟩ := pw t ht s hs
    have e60 : (2 : Int) ^ 60 = 1152921504606846976 := by decide
    refine ⟨h1, lt_big (n := 60) (i := s.1) (by omega) (by decide), ?_⟩
    have := ple (s.2 + dg).natAbs (by omega)
    exact lt_big (n := 60) (i := b ^ (s.2 + dg).natAbs) (by omega) (by decide)
  · obtain ⟨t0, h0, rfl⟩ := List.mem_map.mp ht
    obtain ⟨s, hs, rfl⟩ := List.mem_map.mp he
    obtain ⟨h1, h2, _⟩ := m25 t0 h0 s hs
    obtain ⟨h3, h4⟩ := pw t0 h0 s hs
    have h5 := szN_pos (N := dg) (p := s.2) b1 h1
    refine ⟨h5, ?_⟩
    show s.1 * b ^ (dg + s.2).toNat < 2 ^ 60
    have := Int.mul_le_mul h2 (ple _ h4) (by have := pow_pos' b1 (dg + s.2).toNat; omega) (by decide)
    have e60 : (2 : Int) ^ 60 = 1152921504606846976 := by decide
    omega
  · have Y0 : 0 < M * b ^ (dg.toNat + 2) := Int.mul_pos M0 (by omega)
    have YB : M * b ^ (dg.toNat + 2) ≤ 30 * 175000 := Int.mul_le_mul MB d2 (by omega) (by decide)
    have e26 : (2 : Nat) ^ 26 = 67108864 := by decide
    refine ⟨(M * b ^ (dg.toNat + 2)).toNat, by omega, by omega, fun t ht e he => ?_⟩
    obtain ⟨t0, h0, rfl⟩ := List.mem_map.mp ht
    obtain ⟨s, hs, rfl⟩ := List.mem_map.mp he
    obtain ⟨h1, _, h3⟩ := m25 t0 h0 s hs
    obtain ⟨h4, h5⟩ := pw t0 h0 s hs
    show (s.1 * b ^ (dg + s.2).toNat).toNat ∣ _
    have hd : s.1 * b ^ (dg + s.2).toNat ∣ M * b ^ (dg.toNat + 2) := Int.mul_dvd_mul h3 ⟨_, spl _ h5⟩
    have p0 : 0 ≤ s.1 * b ^ (dg + s.2).toNat := Int.mul_nonneg (by omega) (by have := pow_pos' b1 (dg + s.2).toNat; omega)
    exact Int.ofNat_dvd.mp (by rw [Int.toNat_of_nonneg p0, Int.toNat_of_nonneg (by omega)]; exact hd)
end Ax

namespace Ax
/-! # Which steps are coarser -/
/-- there is a least step for every range -/
theorem least_ex {b : Int} {rs ms : List Int} {top : Nat} {k : Kd} {n l h : Int} (R : Rungs b rs top) (pm : rs.Perm ms) (hlt : l < h) (hn : 1 ≤ n) (hc : k = .cov → 2 ≤ n) : ∃ m q, LeastFit b ms k n l h 0 m q := by
  obtain ⟨A, hA⟩ : ∃ A : Int, A = lowQ b n l h 0 * rs.length := ⟨_, rfl⟩
  obtain ⟨B, hB⟩ : ∃ B : Int, B = (lg b (h - l) - 0 + 1) * rs.length := ⟨_, rfl⟩
  let Q : Int → Bool := fun i => decide (FitE b k n l h (sAt b rs i).1 ((sAt b rs i).2 + 0))
  have hlast : Q (A + ((B - A).toNat : Nat)) = true := decide_eq_true (fit_high R hlt hn hc (i := A + ((B - A).toNat : Nat)) (by omega))
  obtain ⟨j, hj, _, hq, no⟩ := first_of (Q := Q) (g := fun j => A + (j : Nat)) hlast
  refine ⟨_, _, least_of R hlt hn pm (i := A + (j : Nat)) (show FitE b k n l h (sAt b rs (A + (j : Nat))).1 ((sAt b rs (A + (j : Nat))).2 + 0) from of_decide_eq_true hq) fun i hi hl f => ?_⟩
  obtain ⟨x, hx⟩ : ∃ x : Nat, i = A + x := ⟨(i - A).toNat, by omega⟩
  have h1 := no x (by omega)
  have f' : Q (A + (x : Nat)) = true := decide_eq_true (by rw [hx] at f; exact f)
  have h1 : Q (A + (x : Nat)) = false := h1
  rw [h1] at f'
  cases f'
section
variable {b l h m1 q1 m2 q2 n1 n2 : Int} {k1 k2 : Kd} {ms ms2 : List Int}
theorem more_no (hs : szN b (-(min q1 q2)) m1 q1 ≤ szN b (-(min q1 q2)) m2 q2) : moreZ b m1 q1 m2 q2 1 1 = false := by
  unfold moreZ
  unfold szN at hs
  rw [show -(min q1 q2) + q1 = q1 - min q1 q2 by omega, show -(min q1 q2) + q2 = q2 - min q1 q2 by omega] at hs
  exact decide_eq_false (by omega)
theorem more_yes (hs : szN b (-(min q1 q2)) m2 q2 < szN b (-(min q1 q2)) m1 q1) : moreZ b m1 q1 m2 q2 1 1 = true := by
  unfold moreZ
  unfold szN at hs
  rw [show -(min q1 q2) + q1 = q1 - min q1 q2 by omega, show -(min q1 q2) + q2 = q2 - min q1 q2 by omega] at hs
  exact decide_eq_true (by omega)
/-- a rule is never coarser than one whose steps all fit it -/
theorem crs_no (sub : ∀ m ∈ ms2, m ∈ ms) (imp : ∀ m ∈ ms2, ∀ e, FitE b k2 n2 l h m e → FitE b k1 n1 l h m e) : ¬ Val b (.coarser (k1, ms, n1) (k2, ms2, n2) 1 1) l h true := by
  rintro ⟨m1, q1, m2, q2, L1, L2, e⟩
  rw [more_no] at e
  · cases e
  · refine Int.not_lt.mp fun c => ?_
    exact L1.least m2 (sub _ L2.mem) q2 ⟨-(min q1 q2), by omega, by omega, c⟩ (imp m2 L2.mem _ L2.fit)
/-- it is where a step fits the other that is smaller than all that fit it -/
theorem crs_yes {rs : List Int} {top : Nat} {m e : Int} (R : Rungs b rs top) (pm : rs.Perm ms) (hlt : l < h) (h1 : 1 ≤ n1) (c1 : k1 = .cov → 2 ≤ n1) (h2 : 1 ≤ n2) (c2 : k2 = .cov → 2 ≤ n2) (hm : m ∈ ms) (f : FitE b k2 n2 l h m e)
    (big : ∀ m' ∈ ms, ∀ e' : Int, FitE b k1 n1 l h m' e' → ∀ N : Int, 0 ≤ N → 0 ≤ N + e → 0 ≤ N + e' → szN b N m e < szN b N m' e') : Val b (.coarser (k1, ms, n1) (k2, ms, n2) 1 1) l h true := by
  obtain ⟨a1, q1, L1⟩ := least_ex (k := k1) (n := n1) R pm hlt h1 c1
  obtain ⟨a2, q2, L2⟩ := least_ex (k := k2) (n := n2) R pm hlt h2 c2
  refine ⟨a1, q1, a2, q2, L1, L2, (more_yes ?_).symm⟩
  have b1 : 1 ≤ b := by have := R.b2; omega
  obtain ⟨x, hx⟩ : ∃ x : Nat, x = e.natAbs + q1.natAbs + q2.natAbs := ⟨_, rfl⟩
  have f1 : FitE b k1 n1 l h a1 q1 := by have := L1.fit; rw [Int.add_zero] at this; exact this
  have g1 := big a1 L1.mem q1 f1 (x : Int) (by omega) (by omega) (by omega)
  have g2 : szN b (x : Int) a2 q2 ≤ szN b (x : Int) m e := Int.not_lt.mp fun c => L2.least m hm e ⟨(x : Int), by omega, by omega, c⟩ (by rw [Int.add_zero]; exact f)
  have g3 : szN b (x : Int) a2 q2 < szN b (x : Int) a1 q1 := by omega
  have e0 : (x : Int) = -(min q1 q2) + ((x : Int) + min q1 q2) := by omega
  rw [e0, szN_shift (by omega) (by omega), szN_shift (by omega) (by omega)] at g3
  exact Int.lt_of_mul_lt_mul_right g3 (by have := pow_pos' b1 ((x : Int) + min q1 q2).toNat; omega)
theorem one_siz (m : Int) : facZ b 1 = 1 ∧ sizZ b m 1 = m * b := by
  unfold facZ sizZ
  rw [if_pos (by decide), if_pos (by decide)]
  refine ⟨rfl, ?_⟩
  show m * b ^ 1 = m * b
  rw [Int.pow_succ, Int.pow_zero, Int.one_mul]
theorem one_szN {m N : Int} (hN : 0 ≤ N) : szN b N m 1 = m * b * b ^ N.toNat := by
  unfold szN
  rw [show (N + 1).toNat = N.toNat + 1 by omega, Int.pow_succ, Int.mul_comm (b ^ N.toNat), Int.mul_assoc]
/-- fewer may lie inside: somewhere coarser -/
theorem wit_ins {rs : List Int} {top : Nat} {m n : Int} (R : Rungs b rs top) (pm : rs.Perm ms) (hn : 1 ≤ n) (hm : m ∈ ms) (m1 : ∀ x ∈ ms, 1 ≤ x) : 0 < n * (m * b) ∧ Val b (.coarser (.ins, ms, n) (.ins, ms, n + 1) 1 1) 0 (n * (m * b)) true := by
  have b1 : 1 ≤ b := by have := R.b2; omega
  have s1 : 0 < m * b := Int.mul_pos (by have := m1 m hm; omega) (by omega)
  have h0 : 0 < n * (m * b) := Int.mul_pos (by omega) s1
  refine ⟨h0, crs_yes (m := m) (e := 1) R pm h0 hn (fun z => by cases z) (by omega) (fun z => by cases z) hm ?_ fun m' hm' e' f N hN _ he' => ?_⟩
  · unfold FitE
    rw [(one_siz m).1, (one_siz m).2]
    show n * (m * b) * 1 ≤ (-(-(0 * 1) / (m * b)) + (n + 1)) * (m * b) - 1
    rw [Int.zero_mul, Int.neg_zero, Int.zero_ediv, Int.neg_zero, Int.zero_add, Int.add_mul, Int.one_mul, Int.mul_one]
    omega
  · have f := (fitE_N b1 (m1 m' hm') hN he').mp f
    have f : n * (m * b) * b ^ N.toNat ≤ (-(-(0 * b ^ N.toNat) / szN b N m' e') + n) * szN b N m' e' - 1 := f
    rw [Int.zero_mul, Int.neg_zero, Int.zero_ediv, Int.neg_zero, Int.zero_add, Int.mul_assoc n] at f
    rw [one_szN hN]
    exact Int.lt_of_mul_lt_mul_left (a := n) (by omega) (by omega)
/-- one that covers is somewhere coarser than one inside with one more -/
theorem wit_cov {rs : List Int} {top : Nat} {m n : Int} (R : Rungs b rs top) (pm : rs.Perm ms) (hn : 2 ≤ n) (hm : m ∈ ms) (m1 : ∀ x ∈ ms, 1 ≤ x) : 0 < n * (m * b) + 1 ∧ Val b (.coarser (.cov, ms, n) (.ins, ms, n + 1) 1 1) 0 (n * (m * b) + 1) true := by
  have b1 : 1 ≤ b := by have := R.b2; omega
  have s2 : 2 ≤ m * b := by
    have := Int.mul_le_mul (m1 m hm) R.b2 (by decide) (by have := m1 m hm; omega)
    omega
  have h0 : 0 < n * (m * b) := Int.mul_pos (by omega) (by omega)
  refine ⟨by omega, crs_yes (m := m) (e := 1) R pm (by omega) (by omega) (fun _ => hn) (by omega) (fun z => by cases z) hm ?_ fun m' hm' e' f N hN _ he' => ?_⟩
  · unfold FitE
    rw [(one_siz m).1, (one_siz m).2]
    show (n * (m * b) + 1) * 1 ≤ (-(-(0 * 1) / (m * b)) + (n + 1)) * (m * b) - 1
    rw [Int.zero_mul, Int.neg_zero, Int.zero_ediv, Int.neg_zero, Int.zero_add, Int.add_mul n 1, Int.one_mul, Int.mul_one]
    omega
  · have f := (fitE_N b1 (m1 m' hm') hN he').mp f
    have f : (n * (m * b) + 1) * b ^ N.toNat ≤ (0 * b ^ N.toNat / szN b N m' e' + n) * szN b N m' e' := f
    rw [Int.zero_mul, Int.zero_ediv, Int.zero_add, Int.add_mul, Int.one_mul, Int.mul_assoc n] at f
    rw [one_szN hN]
    have := pow_pos' b1 N.toNat
    exact Int.lt_of_mul_lt_mul_left (a := n) (by omega) (by omega)
end
end Ax
namespace Ax
section
variable {b l h m e n : Int}
theorem ins_more (hs : 1 ≤ sizZ b m e) (f : FitE b .ins n l h m e) : FitE b .ins (n + 1) l h m e := by
  unfold FitE at *
  show _ ≤ (-(-(l * facZ b e) / sizZ b m e) + (n + 1)) * sizZ b m e - 1
  have f : _ ≤ (-(-(l * facZ b e) / sizZ b m e) + n) * sizZ b m e - 1 := f
  rw [← Int.add_assoc, Int.add_mul _ 1, Int.one_mul]
  omega
theorem cov_ins (hs : 1 ≤ sizZ b m e) (f : FitE b .ins n l h m e) : FitE b .cov (n + 1) l h m e := by
  unfold FitE at *
  show _ ≤ (l * facZ b e / sizZ b m e + (n + 1)) * sizZ b m e
  have f : _ ≤ (-(-(l * facZ b e) / sizZ b m e) + n) * sizZ b m e - 1 := f
  have c := ceil_floor (l * facZ b e) (show 0 < sizZ b m e by omega)
  have d : (-(-(l * facZ b e) / sizZ b m e) + n) * sizZ b m e ≤ (l * facZ b e / sizZ b m e + (n + 1)) * sizZ b m e := by
    refine Int.mul_le_mul_of_nonneg_right ?_ (by omega)
    rw [c]
    split <;> omega
  omega
end
end Ax

namespace Ax
/-! # What a formula says, as a function -/
section
variable {b l h : Int}
/-- which step a rule takes -/
noncomputable def stpE (b l h : Int) (k : Ky) : Int × Int := open Classical in if z : ∃ p : Int × Int, LeastFit b k.2.1 k.1 k.2.2 l h 0 p.1 p.2 then Classical.choose z else (0, 0)
theorem stpE_is {k : Ky} (z : ∃ m q, LeastFit b k.2.1 k.1 k.2.2 l h 0 m q) : LeastFit b k.2.1 k.1 k.2.2 l h 0 (stpE b l h k).1 (stpE b l h k).2 := by
  obtain ⟨m, q, L⟩ := z
  have z : ∃ p : Int × Int, LeastFit b k.2.1 k.1 k.2.2 l h 0 p.1 p.2 := ⟨(m, q), L⟩
  unfold stpE
  rw [dif_pos z]
  exact Classical.choose_spec z
def cntE (b l h : Int) (k : Ky) (s : Int × Int) : Int := cntZ b k.1 l h s.1 s.2
def tchE (b l h : Int) (low : Bool) (s : Int × Int) : Bool := decide ((if low then l else h) * facZ b s.2 % sizZ b s.1 s.2 = 0)
noncomputable def Ev (b : Int) : Fm → Int → Int → Bool
  | .all, _, _ => true
  | .not f, l, h => !Ev b f l h
  | .and f g, l, h => Ev b f l h && Ev b g l h
  | .or f g, l, h => Ev b f l h || Ev b g l h
  | .xor f g, l, h => Ev b f l h != Ev b g l h
  | .counted k lst mst, l, h => decide (lst ≤ cntE b l h k (stpE b l h k)) && mst.all fun z => decide (cntE b l h k (stpE b l h k) ≤ z)
  | .taken k m0, l, h => decide ((stpE b l h k).1 = m0)
  | .coarser k k2 n o, l, h => moreZ b (stpE b l h k).1 (stpE b l h k).2 (stpE b l h k2).1 (stpE b l h k2).2 n o
  | .touched k low, l, h => tchE b l h low (stpE b l h k)
/-- the rules that a formula speaks of -/
def Fm.ks : Fm → List Ky
  | .all => []
  | .not f => f.ks
  | .and f g => f.ks ++ g.ks
  | .or f g => f.ks ++ g.ks
  | .xor f g => f.ks ++ g.ks
  | .counted k _ _ => [k]
  | .taken k _ => [k]
  | .coarser k k2 _ _ => [k, k2]
  | .touched k _ => [k]
theorem Ev.val : ∀ {f : Fm}, (∀ k ∈ f.ks, LeastFit b k.2.1 k.1 k.2.2 l h 0 (stpE b l h k).1 (stpE b l h k).2) → Val b f l h (Ev b f l h)
  | .all, _ => rfl
  | .not f, L => ⟨_, Ev.val (f := f) L, rfl⟩
  | .and f g, L => ⟨_, _, Ev.val (f := f) fun k hk => L k (List.mem_append_left _ hk), Ev.val (f := g) fun k hk => L k (List.mem_append_right _ hk), rfl⟩
  | .or f g, L => ⟨_, _, Ev.val (f := f) fun k hk => L k (List.mem_append_left _ hk), Ev.val (f := g) fun k hk => L k (List.mem_append_right _ hk), rfl⟩
  | .xor f g, L => ⟨_, _, Ev.val (f := f) fun k hk => L k (List.mem_append_left _ hk), Ev.val (f := g) fun k hk => L k (List.mem_append_right _ hk), rfl⟩
  | .counted k _ _, L => ⟨_, _, L k (List.mem_singleton.mpr rfl), rfl⟩
  | .taken k _, L => ⟨_, _, L k (List.mem_singleton.mpr rfl), rfl⟩
  | .coarser k k2 _ _, L => ⟨_, _, _, _, L k (List.mem_cons_self), L k2 (List.mem_cons_of_mem _ (List.mem_singleton.mpr rfl)), rfl⟩
  | .touched k _, L => ⟨_, _, L k (List.mem_singleton.mpr rfl), rfl⟩
/-- what a key must have that every range has a step of it -/
structure KyT (b : Int) (k : Ky) : Prop where
  ok : KyOk b k
  ru : ∃ (rs : List Int) (top : Nat), Rungs b rs top ∧ rs.Perm k.2.1
theorem KyT.least {k : Ky} (t : KyT b k) (lt : l < h) : LeastFit b k.2.1 k.1 k.2.2 l h 0 (stpE b l h k).1 (stpE b l h k).2 := by
  obtain ⟨rs, top, R, pm⟩ := t.ru
  exact stpE_is (least_ex R pm lt t.ok.m1 t.ok.mC)
theorem Ev.iff {f : Fm} (b2 : 2 ≤ b) (ok : FmOk b f) (t : ∀ k ∈ f.ks, KyT b k) (lt : l < h) (r : Bool) : Val b f l h r ↔ r = Ev b f l h :=
  ⟨fun v => Val.det b2 ok v (Ev.val fun k hk => (t k hk).least lt), fun e => by rw [e]; exact Ev.val fun k hk => (t k hk).least lt⟩
end
end Ax
namespace Ax
theorem top_ex (b : Int) : ∀ ms : List Int, ∃ top : Nat, ∀ m ∈ ms, lg b m ≤ top
  | [] => ⟨0, fun _ h => nomatch h⟩
  | m :: r => by
    obtain ⟨t, ht⟩ := top_ex b r
    exact ⟨max (lg b m) t, fun x hx => by
      rcases List.mem_cons.mp hx with rfl | hx
      · exact Nat.le_max_left _ _
      · exact Nat.le_trans (ht x hx) (Nat.le_max_right _ _)⟩
theorem rungs_ex {b : Int} {ms : List Int} (b2 : 2 ≤ b) (ne : ms ≠ []) (nd : ms.Nodup) (all : ∀ m ∈ ms, 1 ≤ m ∧ m % b ≠ 0) : ∃ (rs : List Int) (top : Nat), Rungs b rs top ∧ rs.Perm ms := by
  obtain ⟨top, ht⟩ := top_ex b ms
  obtain ⟨le, hle⟩ : ∃ le : Int → Int → Bool, le = fun x y => decide (keyOf b top x ≤ keyOf b top y) := ⟨_, rfl⟩
  have e : ∀ x y, le x y = true ↔ keyOf b top x ≤ keyOf b top y := fun x y => by rw [hle]; exact decide_eq_true_iff
  have pm : (ms.mergeSort le).Perm ms := List.mergeSort_perm _ _
  have st : (ms.mergeSort le).Pairwise (fun x y => le x y = true) := by
    refine List.pairwise_mergeSort (fun x y z h1 h2 => (e x z).mpr (Int.le_trans ((e x y).mp h1) ((e y z).mp h2))) (fun x y => ?_) ms
    rcases Int.le_total (keyOf b top x) (keyOf b top y) with h | h
    · exact Bool.or_eq_true_iff.mpr (.inl ((e x y).mpr h))
    · exact Bool.or_eq_true_iff.mpr (.inr ((e y x).mpr h))
  generalize ms.mergeSort le = rs at *
  have nd' : rs.Nodup := pm.nodup_iff.mpr nd
  refine ⟨rs, top, ⟨b2, ?_, fun m hm => (all m (pm.mem_iff.mp hm)).1, fun m hm => ht m (pm.mem_iff.mp hm), ?_⟩, pm⟩
  · rw [pm.length_eq]
    exact List.length_pos_iff.mpr ne
  · refine List.Pairwise.imp_of_mem ?_ (st.and nd')
    rintro x y hx hy ⟨h1, h2⟩
    have h1 := (e x y).mp h1
    have hx := pm.mem_iff.mp hx
    have hy := pm.mem_iff.mp hy
    have h3 : keyOf b top x ≠ keyOf b top y := fun e => h2 (key_inj b2 (all x hx).2 (all y hy).2 (ht x hx) (ht y hy) e)
    omega
end Ax

namespace Ax
section
variable {b l h : Int} {k k2 : Ky}
theorem fac_pos1 {e : Int} (hb : 1 ≤ b) : 1 ≤ facZ b e := by
  unfold facZ
  split
  · exact Int.le_refl 1
  · exact pow_pos' hb _
/-- how many marks a rule can have -/
theorem cnt_rng (b2 : 2 ≤ b) (t : KyT b k) (lt : l < h) : 0 ≤ cntE b l h k (stpE b l h k) ∧ cntE b l h k (stpE b l h k) ≤ k.2.2 + 1 := by
  have L := t.least lt
  have m1 := (t.ok.all _ L.mem).1
  have hs := siz_pos (e := (stpE b l h k).2) (show 1 ≤ b by omega) m1
  have f : h * facZ b (stpE b l h k).2 ≤ reachZ k.1 k.2.2 (l * facZ b (stpE b l h k).2) (sizZ b (stpE b l h k).1 (stpE b l h k).2) := by
    have := L.fit
    rw [Int.add_zero] at this
    exact this
  have lt' : l * facZ b (stpE b l h k).2 < h * facZ b (stpE b l h k).2 := Int.mul_lt_mul_of_pos_right lt (by have := fac_pos1 (b := b) (e := (stpE b l h k).2) (by omega); omega)
  have h1 := marks_most (by omega) f
  have h2 := marks_least (k := k.1) (s := sizZ b (stpE b l h k).1 (stpE b l h k).2) (by omega) lt'
  unfold cntE cntZ
  constructor
  · split at h2 <;> omega
  · split at h1 <;> omega
/-- two sizes to compare two steps by -/
theorem two_sizes (b2 : 2 ≤ b) (t : KyT b k) (t2 : KyT b k2) (lt : l < h) : ∃ x y : Int, 0 < x ∧ 0 < y ∧ (∀ n o, Ev b (.coarser k k2 n o) l h = decide (n * y < x * o)) ∧ (∀ n o, Ev b (.coarser k2 k n o) l h = decide (n * x < y * o)) ∧ (k = k2 → x = y) := by
  have m1 := (t.ok.all _ (t.least lt).mem).1
  have m2 := (t2.ok.all _ (t2.least lt).mem).1
  refine ⟨_, _, ?_, ?_, fun n o => rfl, fun n o => ?_, ?_⟩
  · exact Int.mul_pos (by omega) (by have := pow_pos' (show 1 ≤ b by omega) ((stpE b l h k).2 - min (stpE b l h k).2 (stpE b l h k2).2).toNat; omega)
  · exact Int.mul_pos (by omega) (by have := pow_pos' (show 1 ≤ b by omega) ((stpE b l h k2).2 - min (stpE b l h k).2 (stpE b l h k2).2).toNat; omega)
  · show moreZ _ _ _ _ _ _ _ = _
    unfold moreZ
    rw [Int.min_comm]
  · intro e
    rw [e]
end
end Ax

namespace Ax
open PySem L2
theorem Fm.ks_keys : ∀ f : Fm, f.ks = f.keys
  | .all => rfl
  | .not f => Fm.ks_keys f
  | .and f g => by show f.ks ++ g.ks = f.keys ++ g.keys; rw [Fm.ks_keys f, Fm.ks_keys g]
  | .or f g => by show f.ks ++ g.ks = f.keys ++ g.keys; rw [Fm.ks_keys f, Fm.ks_keys g]
  | .xor f g => by show f.ks ++ g.ks = f.keys ++ g.keys; rw [Fm.ks_keys f, Fm.ks_keys g]
  | .counted _ _ _ => rfl
  | .taken _ _ => rfl
  | .coarser _ _ _ _ => rfl
  | .touched _ _ => rfl
theorem KyR.T {b : Int} {k : Ky} (h : KyR b k) : KyT b k := ⟨h.ok, rungs_ex h.b2 h.ne h.nd fun m hm => ⟨(h.all m hm).1, (h.all m hm).2.2⟩⟩
/-- formulas about small rules of one family: M is a common multiple of their mantissas -/
structure SmF (b M : Int) (f : Fm) : Prop where
  r : FmR b f
  ks : ∀ k ∈ f.keys, SmallK b k M
  few : f.keys.length ≤ 1000
theorem SmF.setok {b M : Int} {f : Fm} (h : SmF b M f) (b2 : 2 ≤ b) (bB : b ≤ 10) (M0 : 0 < M) (MB : M ≤ 30) : SetOk b f :=
  ⟨h.r, h.few, b2, fun k hk => (h.ks k hk).r, fun ks stab dg me IN => str_of b2 bB M0 MB (fun k hk => h.ks k ((me k).mp hk)) IN⟩
theorem SmF.tot {b M : Int} {f : Fm} (h : SmF b M f) : ∀ k ∈ f.ks, KyT b k := fun k hk => (h.ks k (by rw [← Fm.ks_keys]; exact hk)).r.T
/-- whether there is a member, by the formula's function -/
theorem SmF.some_iff {b M : Int} {f : Fm} (h : SmF b M f) (b2 : 2 ≤ b) : (∃ l r, l < r ∧ Val b f l r true) ↔ ∃ l r, l < r ∧ Ev b f l r = true :=
  ⟨fun ⟨l, r, lt, v⟩ => ⟨l, r, lt, ((Ev.iff b2 h.r.ok h.tot lt true).mp v).symm⟩, fun ⟨l, r, lt, e⟩ => ⟨l, r, lt, (Ev.iff b2 h.r.ok h.tot lt true).mpr e.symm⟩⟩
def Ky.srt (k : Ky) : Ky := (k.1, isort k.2.1, k.2.2)
theorem RX.srt {C : Addr} {H : Hp} {r : Addr} {b : Int} {k : Kd} {ms : List Int} {most : Int} {D : RD} (x : RX C H r b k ms most D) : D.ms' = isort ms := eq_isort x.pm x.ps
/-- a drawn rule's sorted key is small -/
theorem small_srt {b M : Int} {k : Kd} {hs : List Int} {n : Int} (G : RArgs b k hs n) (n6 : n ≤ 6) (hm : ∀ m ∈ hs, m ≤ 25 ∧ m ∣ M) : SmallK b (Ky.srt (k, hs, n)) M := by
  have p := isort_perm hs
  refine ⟨⟨G.b2, G.bB, G.m1, G.mB, G.mC, fun e => G.ne ?_, ?_, ?_, fun m hm => G.all m (p.mem_iff.mp hm)⟩, n6, fun m h => hm m (p.mem_iff.mp h)⟩
  · have e : isort hs = [] := e
    rw [e] at p
    exact p.symm.eq_nil
  · show (isort hs).length < 60
    rw [p.length_eq]
    exact G.le
  · exact p.nodup_iff.mpr G.nd
section
variable {P : Program} {w : World} {K : PySem.W.Frag} {mg : Str → Option Value} {base : Heap} {A : Adr}
/-- a rule is made of a list that stands -/
theorem make_rule {H : Hp} {lh : Addr} {b : Int} {k : Kd} {hs : List Int} {n : Int} {Q : Addr → Hp → Prop} {E : XK} (hl : H lh = some (.lst (hs.map V.int))) (R : RArgs b k hs n)
    (q : ∀ (H' : Hp) (r : Addr) (D : RD), Same H H' → H r = none → RX A.c_Rule H' r b k hs n D → H D.lm = none → H D.lr = none → Q r H') :
    ∀ x dx, H x = none → H dx = none → dx ≠ x → spInit A [.ref x, .int b, .str k.s, .ref lh, .int n] (upd (upd H dx (.own x)) x (.ins A.c_Rule dx [])) (fun v H2 => v = .non ∧ Q x H2) E := by
  intro x dx nx ndx nex
  have s9 : Same H (upd (upd H dx (.own x)) x (.ins A.c_Rule dx [])) := (same_new ndx).trans (same_new (by rw [upd_ne nex.symm]; exact nx))
  refine ⟨x, dx, lh, b, k, hs, n, rfl, upd_same, s9 _ _ hl, R, fun H10 D kept X10 n1 n2 => ⟨rfl, ?_⟩⟩
  have s10 : Same H H10 := fun c o e => kept c o (ne_of_none e nx) (s9 _ _ e)
  exact q H10 x D s10 nx X10 (s9.free n1) (s9.free n2)
end
end Ax

namespace L2
open PySem PySem.Spec PyProof.Rows
section
variable {X : Cx} {CX : CXT} {n : Nat} {C f : Addr} {fd : FuncData} {ps : List Str} {sp : Sp} {E : XK}
/-! ### ==, <=, >=, <, > of two instances of one class, by its own method -/
def rCmpO (C : Addr) (sp : Sp) (E : XK) : R2 := fun x y H Q => ∃ a dx fs c dy gs, x = .ref a ∧ y = .ref c ∧ H a = some (.ins C dx fs) ∧ H c = some (.ins C dy gs) ∧ sp [x, y] H (fun v H' => ∃ b, v = .bl b ∧ Q v H') E
theorem op_cmpO (op : CmpOp) (hop : ∀ u v, compareOp op u v = richCompare op u v := by intros; rfl) (F : FnOk X.prog X.w X.K X.mg X.base CX n f fd ps sp) (hr : Room n X.A)
    (hs : PySem.W.findIn X.K (.ref C) (cmpInfo op).2.1 = some (some (.ref f))) (hf : PySem.W.isFn X.K (.ref f) = true) (hb : Binds X.K fd ps []) (hx : Passes CX X E) : OpR X (compareOp op) (rCmpO C sp E) := by
  intro pins s σ H x y v u Q I rx ry hq
  obtain ⟨a, dx, fs, c, dy, gs, rfl, rfl, ha, hcc, q⟩ := hq
  cases rx
  cases ry
  obtain ⟨mA, J, _⟩ := ins_get I.hok ha
  obtain ⟨od, J, _⟩ := J.look
  obtain ⟨mB, J', _⟩ := ins_get I.hok hcc
  obtain ⟨od', J', _⟩ := J'.look
  obtain ⟨m, hF⟩ := I.fr
  rw [hop]
  refine PySem.W.cmp_K (op := op) (tb := .ref C) hr.units0 hF I.ok.mod.kin J J'.type (by unfold PySem.W.notFirst; rw [beq_self_eq_true]; rfl) hs hf ?_
  have hl := F.len _ _ _ _ q
  have r2 : Vals [V.ref a, V.ref c] [Value.ref a, Value.ref c] := .cons rfl (.cons rfl .nil)
  refine wpAny_call (codeAny_mono (F.run X.A X.stack s H ⟨[.ref a, .ref c], []⟩ [.ref a, .ref c] [.ref a, .ref c] _ E hr I.env0 (by
    have := hb s [.ref a, .ref c] I.kIn (by simpa using hl)
    simpa using this) r2 q) fun r s' hq => ?_)
  cases r with
  | error e => exact hx pins σ H s e s' I hq
  | ok fl =>
    cases fl with
    | ret w =>
      obtain ⟨z, H', I', rz, b, ez, qz⟩ := I.after hq
      subst ez
      cases rz
      exact ⟨.bl b, H', I', rfl, qz⟩
    | next => exact False.elim hq
    | brk => exact False.elim hq
    | cont => exact False.elim hq
theorem nsIn_get {K : PySem.W.Frag} {h : Heap} {N : Addr} {mg : Str → Option Value} {n : Str} {v : Value} (X : K.In h) (G : h.Ns N mg) (e : PySem.W.nsIn K N n = some (some v)) : mg n = some v := by
  obtain ⟨o, es, ep, ho, hd, _, hf⟩ := G
  unfold PySem.W.nsIn at e
  split at e
  · rename_i c d es' n' sl q
    have := X _ _ q
    rw [ho] at this
    cases this
    cases hd
    split at e
    · rename_i en he
      cases e
      rw [← hf]
      unfold nsFind findBy
      rw [← Array.find?_toList, he]
      rfl
    · split at e <;> cases e
  · cases e
/-- x != y of two instances of a class with an own == and no own != -/
def rNeC (C : Addr) (sp : Sp) (E : XK) : R2 := fun x y H Q => ∃ a dx fs c dy gs, x = .ref a ∧ y = .ref c ∧ H a = some (.ins C dx fs) ∧ H c = some (.ins C dy gs) ∧ sp [x, y] H (fun v H' => ∃ b, v = .bl b ∧ Q (.bl (!b)) H') E
theorem op_neC (F : FnOk X.prog X.w X.K X.mg X.base CX n f fd ps sp) (hr : Room (n + 1) X.A)
    (hc : Ax.NeC X.K C f) (hft : PySem.W.isFn X.K (.ref f) = true) (hb : Binds X.K fd ps []) (hx : Passes CX X E) : OpR X (compareOp .NotEq) (rNeC C sp E) := by
  intro pins s σ H x y v u Q I rx ry hq
  obtain ⟨a, dx, fs, c, dy, gs, rfl, rfl, ha, hcc, q⟩ := hq
  cases rx
  cases ry
  obtain ⟨mA, J, _⟩ := ins_get I.hok ha
  obtain ⟨mB, J', _⟩ := ins_get I.hok hcc
  obtain ⟨od, J, _⟩ := J.look
  obtain ⟨od', J', _⟩ := J'.look
  obtain ⟨nm, qn, N, bs, hd, sn, sub, ab, co, dd, k0, k1, k2, k3, k5, hC, hN, he, hne⟩ := hc
  obtain ⟨of, hof, hofc⟩ := Option.map_eq_some_iff.mp (show (X.K.lookup f).map (·.cls) = some (.type "function") from beq_iff_eq.mp hft)
  have ns : s.heap.Ns N (s.heap.nsMap N) := .of_isNs (PySem.W.isNs_of_in I.kIn hN)
  have O : s.heap.OwnEqNoNe a C f "object" [.type "object"] :=
    ⟨_, of, nm, qn, N, bs, hd, sn, sub, ab, co, dd, k0, k1, k2, k3, k5, "object.__new__", s.heap.nsMap N, _, J.at_, J.cls, I.kIn _ _ hC, ns, nsIn_get I.kIn ns he, I.kIn _ _ hof, hofc, PySem.F.cmp_object.mro, PySem.F.cmp_object.eq.lookup, PySem.W.nsMap_none_of_in I.kIn hN hne⟩
  have at2 := J'.at_
  have cl2 := J'.cls
  have hl := F.len _ _ _ _ q
  have r2 : Vals [V.ref a, V.ref c] [Value.ref a, Value.ref c] := .cons rfl (.cons rfl .nil)
  have e0 : Env0 X.prog X.w X.K X.mg X.base X.A.in1 X.stack s H := by
    have e := I.env0
    exact ⟨e.frames, e.mod, e.bs, e.bsz, e.funs, e.frf, e.hok, e.bare⟩
  have run := F.run X.A.in1 X.stack s H ⟨[.ref a, .ref c], []⟩ [.ref a, .ref c] [.ref a, .ref c] _ E hr.in1 e0 (by
    have := hb s [.ref a, .ref c] I.kIn (by simpa using hl)
    simpa using this) r2 q
  have I0 := I
  obtain ⟨hp, g, d, t, os⟩ := s
  refine compareOp_ne_ownEq PySem.F.cmp_object O at2 cl2 (Nat.lt_of_le_of_lt (Nat.add_le_add_left (by decide : 1 ≤ 64) _) hr.units) ?_
  refine wpAny_call (codeAny_mono run fun r s' hq => ?_)
  cases r with
  | error e => exact hx pins σ H _ e s' I0 hq
  | ok fl =>
    cases fl with
    | ret w =>
      obtain ⟨z, H', I', rz, b, ez, qz⟩ := I0.after hq
      subst ez
      cases rz
      exact ⟨b, rfl, .bl (!b), H', I', rfl, qz⟩
    | next => exact False.elim hq
    | brk => exact False.elim hq
    | cont => exact False.elim hq
end
end L2

namespace Ax
open PySem L2
theorem keys_len : ∀ f : Fm, f.keys.length ≤ 2 * 2 ^ f.dep
  | .all => Nat.zero_le _
  | .not f => by
    have h := keys_len f
    show f.keys.length ≤ 2 * 2 ^ (f.dep + 1)
    rw [Nat.pow_succ]
    omega
  | .and f g => two f g (keys_len f) (keys_len g)
  | .or f g => two f g (keys_len f) (keys_len g)
  | .xor f g => two f g (keys_len f) (keys_len g)
  | .counted _ _ _ => by show 1 ≤ 2 * 2 ^ 0; decide
  | .taken _ _ => by show 1 ≤ 2 * 2 ^ 0; decide
  | .coarser _ _ _ _ => by show 2 ≤ 2 * 2 ^ 0; decide
  | .touched _ _ => by show 1 ≤ 2 * 2 ^ 0; decide
where
  two (f g : Fm) (h1 : f.keys.length ≤ 2 * 2 ^ f.dep) (h2 : g.keys.length ≤ 2 * 2 ^ g.dep) : (f.keys ++ g.keys).length ≤ 2 * 2 ^ (max f.dep g.dep + 1) := by
    rw [List.length_append, Nat.pow_succ]
    have a := Nat.pow_le_pow_right (show 0 < 2 by decide) (Nat.le_max_left f.dep g.dep)
    have c := Nat.pow_le_pow_right (show 0 < 2 by decide) (Nat.le_max_right f.dep g.dep)
    omega
/-- formulas about small rules, of a depth that is bounded -/
structure SmE (b M : Int) (f : Fm) : Prop where
  r : FmR b f
  ks : ∀ k ∈ f.keys, SmallK b k M
theorem SmE.F {b M : Int} {f : Fm} (h : SmE b M f) (d : f.dep ≤ 8) : SmF b M f := ⟨h.r, h.ks, by
  have := keys_len f
  have := Nat.pow_le_pow_right (show 0 < 2 by decide) d
  have : (2 : Nat) ^ 8 = 256 := by decide
  omega⟩
theorem SmE.all {b M : Int} : SmE b M .all := ⟨trivial, fun _ h => nomatch h⟩
theorem SmE.not {b M : Int} {f : Fm} (h : SmE b M f) : SmE b M (.not f) := ⟨h.r, h.ks⟩
theorem app_ks {b M : Int} {f g : Fm} (h : SmE b M f) (i : SmE b M g) : ∀ k ∈ f.keys ++ g.keys, SmallK b k M := fun k hk => (List.mem_append.mp hk).elim (h.ks k) (i.ks k)
theorem SmE.and {b M : Int} {f g : Fm} (h : SmE b M f) (i : SmE b M g) : SmE b M (.and f g) := ⟨⟨h.r, i.r⟩, app_ks h i⟩
theorem SmE.or {b M : Int} {f g : Fm} (h : SmE b M f) (i : SmE b M g) : SmE b M (.or f g) := ⟨⟨h.r, i.r⟩, app_ks h i⟩
theorem SmE.xor {b M : Int} {f g : Fm} (h : SmE b M f) (i : SmE b M g) : SmE b M (.xor f g) := ⟨⟨h.r, i.r⟩, app_ks h i⟩
theorem SmE.cnt {b M : Int} {k : Ky} {l : Int} {m : Option Int} (S : SmallK b k M) (h1 : l.natAbs < 2 ^ 60) (h2 : ∀ z, m = some z → z.natAbs < 2 ^ 60) : SmE b M (.counted k l m) :=
  ⟨⟨S.r, h1, by
    cases m with
    | none => rfl
    | some z => exact decide_eq_true (h2 z rfl)⟩, fun x hx => by
    obtain rfl := List.mem_singleton.mp hx
    exact S⟩
theorem SmE.tkn {b M : Int} {k : Ky} {m : Int} (S : SmallK b k M) : SmE b M (.taken k m) := ⟨S.r, fun x hx => by
  obtain rfl := List.mem_singleton.mp hx
  exact S⟩
theorem SmE.crs {b M : Int} {k k2 : Ky} {n o : Int} (S : SmallK b k M) (S2 : SmallK b k2 M) (n1 : 1 ≤ n) (nB : n < 2 ^ 60) (o1 : 1 ≤ o) (oB : o < 2 ^ 60) : SmE b M (.coarser k k2 n o) := ⟨⟨S.r, S2.r, n1, nB, o1, oB⟩, fun x hx => by
  rcases List.mem_cons.mp hx with rfl | hx
  · exact S
  · obtain rfl := List.mem_singleton.mp hx
    exact S2⟩
theorem SmE.tch {b M : Int} {k : Ky} {e : Bool} (S : SmallK b k M) : SmE b M (.touched k e) := ⟨S.r, fun x hx => by
  obtain rfl := List.mem_singleton.mp hx
  exact S⟩
/-- a list may change -/
theorem kl_tup {H H' : Hp} {p a : Addr} {xs ys : List V} (e : H p = some (.lst xs)) (s : Kp p H H') (h : H a = some (.tup ys)) : H' a = some (.tup ys) := s _ _ (ne_of h e (by intro z; cases z)) h
theorem KyAt.kl {H H' : Hp} {p : Addr} {xs : List V} {k : Ky} {a : Addr} (h : KyAt H k a) (e : H p = some (.lst xs)) (s : Kp p H H') : KyAt H' k a :=
  let ⟨tm, h1, h2⟩ := h
  ⟨tm, kl_tup e s h1, kl_tup e s h2⟩
theorem FmAt.kl {H H' : Hp} {p : Addr} {xs : List V} (y : H p = some (.lst xs)) (s : Kp p H H') : ∀ {f : Fm} {a : Addr}, FmAt H f a → FmAt H' f a
  | .all, _, h => kl_tup y s h
  | .not f, _, ⟨c, h, h1⟩ => ⟨c, kl_tup y s h, FmAt.kl y s (f := f) h1⟩
  | .and f g, _, ⟨c, d, h, h1, h2⟩ => ⟨c, d, kl_tup y s h, FmAt.kl y s (f := f) h1, FmAt.kl y s (f := g) h2⟩
  | .or f g, _, ⟨c, d, h, h1, h2⟩ => ⟨c, d, kl_tup y s h, FmAt.kl y s (f := f) h1, FmAt.kl y s (f := g) h2⟩
  | .xor f g, _, ⟨c, d, h, h1, h2⟩ => ⟨c, d, kl_tup y s h, FmAt.kl y s (f := f) h1, FmAt.kl y s (f := g) h2⟩
  | .counted _ _ _, _, ⟨c, h, h1⟩ => ⟨c, kl_tup y s h, h1.kl y s⟩
  | .taken _ _, _, ⟨c, h, h1⟩ => ⟨c, kl_tup y s h, h1.kl y s⟩
  | .coarser _ _ _ _, _, ⟨c, d, h, h1, h2⟩ => ⟨c, d, kl_tup y s h, h1.kl y s, h2.kl y s⟩
  | .touched _ _, _, ⟨c, h, h1⟩ => ⟨c, kl_tup y s h, h1.kl y s⟩
theorem SetAt.kl {C : Addr} {H H' : Hp} {p : Addr} {xs : List V} {a : Addr} {b : Int} {f : Fm} {dx fa : Addr} (x : SetAt C H a b f dx fa) (y : H p = some (.lst xs)) (s : Kp p H H') : SetAt C H' a b f dx fa :=
  ⟨s _ _ (ne_of x.at_ y (by intro z; cases z)) x.at_, FmAt.kl y s x.fm⟩
/-- the base and the common multiple -/
structure BM (b M : Int) : Prop where
  b2 : 2 ≤ b
  b10 : b ≤ 10
  M0 : 0 < M
  M30 : M ≤ 30
def AllE (b : Int) (p : Fm) : Prop := ∀ l h, l < h → Ev b p l h = true
section
variable {P : Program} {w : World} {K : PySem.W.Frag} {mg : Str → Option Value} {base : Heap} {A : Adr}
/-- what has_members tells of a small formula -/
theorem some_not {b M : Int} {f : Fm} {r : Bool} (B : BM b M) (S : SmE b M f) (d : f.dep ≤ 8) (h : r = true ↔ ∃ l h, l < h ∧ Val b f l h true) : (!r) = true ↔ ∀ l h, l < h → Ev b f l h = false := by
  rw [(S.F d).some_iff B.b2] at h
  constructor
  · intro e l z lt
    cases x : Ev b f l z with
    | false => rfl
    | true =>
      rw [h.mpr ⟨l, z, lt, x⟩] at e
      cases e
  · intro q
    cases x : r with
    | false => rfl
    | true =>
      obtain ⟨l, z, lt, y⟩ := h.mp x
      rw [q l z lt] at y
      cases y
/-! ### <=, == of sets -/
def spLeS (A : Adr) : Sp := fun vs H Q _ => ∃ (x y : Addr) (b M : Int) (f g : Fm) (dx fa dy ga : Addr), vs = [.ref x, .ref y] ∧ SetAt A.c_RangeSet H x b f dx fa ∧ SetAt A.c_RangeSet H y b g dy ga ∧ BM b M ∧ SmE b M f ∧ SmE b M g ∧ f.dep ≤ 6 ∧ g.dep ≤ 6 ∧
  ∀ (H' : Hp) (r : Bool), Same H H' → (r = true ↔ ∀ l h, l < h → Ev b f l h = true → Ev b g l h = true) → Q (.bl r) H'
abbrev nm_RangeSet___le__ : List Str := ["self", "other"]
theorem sc_RangeSet___le__ : FnScope ["self", "other"] ["self", "other"] (defScope s_RangeSet___le__) := ⟨rfl, rfl, rfl, by decide +kernel, rfl, by decide +kernel, by decide +kernel⟩
theorem ok_le (T : Txt K mg A w) : FnOk P w K mg base CX0 16 A.a_RangeSet___le__ A.d_RangeSet___le__ ["self", "other"] (spLeS A) := by
  have G_has_members := ok_has (P := P) (base := base) T 9
  have G_check_operand : FnOk P w K mg base CX0 3 A.a_check_operand A.d_check_operand ["left", "right"] (spOpd A) := ok_opd T
  refine T.F_RangeSet___le__.ok (k := 15) sc_RangeSet___le__ (fun vs H Q E h => ?_) (fun cdv A0 outer s H vs Q E hr h => ?_)
  · obtain ⟨x, y, b, M, f, g, dx, fa, dy, ga, rfl, _⟩ := h
    rfl
  · obtain ⟨x, y, b, M, f, g, dx, fa, dy, ga, rfl, X, Y, B, S1, S2, d1, d2, q⟩ := h
    refine ⟨_, (pss_cons (ps_expr (pe_call G_check_operand (hr.mono (by decide)) (by rfl) T.m_check_operand T.F_check_operand.kp T.B_check_operand .nil pass0 (pa_cons (pv 0) (pa_cons (pv 1) pa_nil))))
  (pss_one (ps_ret (pe_not (pe_call G_has_members (hr.mono (by decide)) (by rfl) T.m_has_members T.F_has_members.kp T.B_has_members .nil pass0 (pa_cons (pe_fld (pv 0) rfl) (pa_cons (pe_tup (pa_cons pe_str (pa_cons (pe_fld (pv 0) rfl) (pa_cons (pe_tup (pa_cons pe_str (pa_cons (pe_fld (pv 1) rfl) pa_nil))) pa_nil)))) pa_nil))))))), ?_⟩
    refine ⟨_, rfl, _, rfl, x, y, b, f, g, dx, fa, dy, ga, rfl, X, Y, ?_⟩
    refine ⟨_, rfl, x, A.c_RangeSet, dx, _, _, rfl, X.at_, T.cl2, T.nb_base, sf_base _ _, ?_⟩
    refine ⟨_, rfl, x, A.c_RangeSet, dx, _, _, rfl, X.at_, T.cl2, T.nb_formula, sf_formula _ _, ?_⟩
    refine ⟨_, rfl, y, A.c_RangeSet, dy, _, _, rfl, Y.at_, T.cl2, T.nb_formula, sf_formula _ _, ?_⟩
    refine ⟨(by show 2 ≤ sizeLine; decide), fun tn htn => ⟨(by show 3 ≤ sizeLine; decide), fun ta hta => ?_⟩⟩
    have s1 := same_new (o := .tup [.str "not", .ref ga]) htn
    have s2 := same_new (o := .tup [.str "and", .ref fa, .ref tn]) hta
    have sA := s1.trans s2
    have F : FmAt (upd (upd H tn (.tup [.str "not", .ref ga])) ta (.tup [.str "and", .ref fa, .ref tn])) (.and f (.not g)) ta := ⟨fa, tn, upd_same, FmAt.same sA X.fm, ga, s2 _ _ upd_same, FmAt.same sA Y.fm⟩
    have S := S1.and S2.not
    have dp : (Fm.and f (.not g)).dep ≤ 8 := by
      show max f.dep (g.dep + 1) + 1 ≤ 8
      omega
    have O := (S.F dp).setok B.b2 B.b10 B.M0 B.M30
    refine ⟨b, ta, _, rfl, F, by omega, O.fr, O.few, O.b2, O.kr, O.st, fun H1 r s3 hm => ⟨r, rfl, q H1 (!r) (sA.trans s3) ?_⟩⟩
    rw [some_not B S dp (has_iff O.b2 O.fr.ok hm)]
    constructor
    · intro z l h lt e
      have z := z l h lt
      have z : (Ev b f l h && !Ev b g l h) = false := z
      rw [e] at z
      cases y : Ev b g l h with
      | true => rfl
      | false =>
        rw [y] at z
        cases z
    · intro z l h lt
      show (Ev b f l h && !Ev b g l h) = false
      cases e : Ev b f l h with
      | false => rfl
      | true => rw [z l h lt e]; rfl
def spEqS (A : Adr) : Sp := fun vs H Q _ => ∃ (x y : Addr) (b M : Int) (f g : Fm) (dx fa dy ga : Addr), vs = [.ref x, .ref y] ∧ SetAt A.c_RangeSet H x b f dx fa ∧ SetAt A.c_RangeSet H y b g dy ga ∧ BM b M ∧ SmE b M f ∧ SmE b M g ∧ f.dep ≤ 6 ∧ g.dep ≤ 6 ∧
  ∀ (H' : Hp) (r : Bool), Same H H' → (r = true ↔ ∀ l h, l < h → Ev b f l h = Ev b g l h) → Q (.bl r) H'
abbrev nm_RangeSet___eq__ : List Str := ["self", "other"]
theorem sc_RangeSet___eq__ : FnScope ["self", "other"] ["self", "other"] (defScope s_RangeSet___eq__) := ⟨rfl, rfl, rfl, by decide +kernel, rfl, by decide +kernel, by decide +kernel⟩
theorem ok_eqS (T : Txt K mg A w) : FnOk P w K mg base CX0 16 A.a_RangeSet___eq__ A.d_RangeSet___eq__ ["self", "other"] (spEqS A) := by
  have G_has_members := ok_has (P := P) (base := base) T 9
  refine T.F_RangeSet___eq__.ok (k := 15) sc_RangeSet___eq__ (fun vs H Q E h => ?_) (fun cdv A0 outer s H vs Q E hr h => ?_)
  · obtain ⟨x, y, b, M, f, g, dx, fa, dy, ga, rfl, _⟩ := h
    rfl
  · obtain ⟨x, y, b, M, f, g, dx, fa, dy, ga, rfl, X, Y, B, S1, S2, d1, d2, q⟩ := h
    refine ⟨_, (pss_cons (ps_if (PW.pt (pw_or (pt_not (pt_val (pe_callB (C8.call_isC T.ic2) (by rfl) T.n_isinstance (by decide +kernel) (pa_cons (pv 1) (pa_cons (pe_glob (v := .ref A.c_RangeSet) rfl T.c_RangeSet rfl) pa_nil))))) (pw_or1 (pt_cmpR op_ne (pe_fld (pv 1) rfl) (pe_fld (pv 0) rfl) (nomark _))))) (pss_one (ps_ret pe_bl)) pss_nil)
  (pss_one (ps_ret (pe_not (pe_call G_has_members (hr.mono (by decide)) (by rfl) T.m_has_members T.F_has_members.kp T.B_has_members .nil pass0 (pa_cons (pe_fld (pv 0) rfl) (pa_cons (pe_tup (pa_cons pe_str (pa_cons (pe_fld (pv 0) rfl) (pa_cons (pe_fld (pv 1) rfl) pa_nil)))) pa_nil))))))), ?_⟩
    refine ⟨_, rfl, y, dy, _, rfl, Y.at_, true, rfl, iteF ?_⟩
    refine ⟨_, rfl, y, A.c_RangeSet, dy, _, _, rfl, Y.at_, T.cl2, T.nb_base, sf_base _ _, _, rfl, x, A.c_RangeSet, dx, _, _, rfl, X.at_, T.cl2, T.nb_base, sf_base _ _, rfl, _, rfl, ?_⟩
    rw [decide_eq_true rfl]
    refine iteF ?_
    refine ⟨_, rfl, x, A.c_RangeSet, dx, _, _, rfl, X.at_, T.cl2, T.nb_base, sf_base _ _, ?_⟩
    refine ⟨_, rfl, x, A.c_RangeSet, dx, _, _, rfl, X.at_, T.cl2, T.nb_formula, sf_formula _ _, ?_⟩
    refine ⟨_, rfl, y, A.c_RangeSet, dy, _, _, rfl, Y.at_, T.cl2, T.nb_formula, sf_formula _ _, ?_⟩
    refine ⟨(by show 3 ≤ sizeLine; decide), fun ta hta => ?_⟩
    have sA := same_new (o := .tup [.str "xor", .ref fa, .ref ga]) hta
    have F : FmAt (upd H ta (.tup [.str "xor", .ref fa, .ref ga])) (.xor f g) ta := ⟨fa, ga, upd_same, FmAt.same sA X.fm, FmAt.same sA Y.fm⟩
    have S := S1.xor S2
    have dp : (Fm.xor f g).dep ≤ 8 := by
      show max f.dep g.dep + 1 ≤ 8
      omega
    have O := (S.F dp).setok B.b2 B.b10 B.M0 B.M30
    refine ⟨b, ta, _, rfl, F, by omega, O.fr, O.few, O.b2, O.kr, O.st, fun H1 r s3 hm => ⟨r, rfl, q H1 (!r) (sA.trans s3) ?_⟩⟩
    rw [some_not B S dp (has_iff O.b2 O.fr.ok hm)]
    constructor
    · intro z l h lt
      have z := z l h lt
      have z : (Ev b f l h != Ev b g l h) = false := z
      exact (bne_eq_false_iff_eq).mp z
    · intro z l h lt
      show (Ev b f l h != Ev b g l h) = false
      rw [z l h lt]
      exact bne_self_eq_false _
/-- a small set as a test -/
theorem bool_of {H : Hp} {Q : Bool → Hp → Prop} {a dx fa : Addr} {b M : Int} {f : Fm} {E : XK} (X : SetAt A.c_RangeSet H a b f dx fa) (B : BM b M) (S : SmE b M f) (d : f.dep ≤ 8) (q : ∀ (H' : Hp) (r : Bool), Same H H' → (r = true ↔ ∃ l h, l < h ∧ Ev b f l h = true) → Q r H') :
    spBool A 9 [.ref a] H (fun v H2 => ∃ z, v = .bl z ∧ Q z H2) E :=
  ⟨a, b, f, dx, fa, rfl, X, by omega, (S.F d).setok B.b2 B.b10 B.M0 B.M30, fun H' r s hr _ => ⟨r, rfl, q H' r s (hr.trans ((S.F d).some_iff B.b2))⟩⟩
end
end Ax

namespace Ax
open PySem L2
section
variable {P : Program} {w : World} {K : PySem.W.Frag} {mg : Str → Option Value} {base : Heap} {A : Adr}
theorem no_true {z : Bool} {p : Prop} (h : z = true ↔ p) (n : ¬ p) : z = false := by
  cases z with
  | false => rfl
  | true => exact absurd (h.mp rfl) n
def joinF (gs : List Fm) : Fm := gs.foldl Fm.or (.not .all)
theorem join_ev {b l h : Int} : ∀ (gs : List Fm) (a : Fm), Ev b (gs.foldl Fm.or a) l h = (Ev b a l h || gs.any fun g => Ev b g l h)
  | [], a => by show Ev b a l h = (Ev b a l h || false); rw [Bool.or_false]
  | g :: r, a => by
    show Ev b (r.foldl Fm.or (.or a g)) l h = _
    rw [join_ev r (.or a g), List.any_cons]
    show ((Ev b a l h || Ev b g l h) || _) = _
    rw [Bool.or_assoc]
theorem join_dep : ∀ (gs : List Fm) (a : Fm), (∀ g ∈ gs, g.dep = 0) → (gs.foldl Fm.or a).dep ≤ a.dep + gs.length
  | [], a, _ => Nat.le_refl _
  | g :: r, a, d => by
    have h1 := join_dep r (.or a g) fun x hx => d x (List.mem_cons_of_mem _ hx)
    have h2 : (Fm.or a g).dep = max a.dep g.dep + 1 := rfl
    rw [h2, d g List.mem_cons_self, Nat.max_zero] at h1
    show (r.foldl Fm.or (.or a g)).dep ≤ a.dep + (r.length + 1)
    omega
theorem join_sm {b M : Int} : ∀ (gs : List Fm) (a : Fm), SmE b M a → (∀ g ∈ gs, SmE b M g) → SmE b M (gs.foldl Fm.or a)
  | [], a, h, _ => h
  | g :: r, a, h, i => join_sm r (.or a g) (h.or (i g List.mem_cons_self)) fun x hx => i x (List.mem_cons_of_mem _ hx)
theorem pr_len {α β : Type} {R : α → β → Prop} : ∀ {xs : List α} {ys : List β}, Paired R xs ys → xs.length = ys.length
  | _, _, .nil => rfl
  | _, _, .cons _ t => congrArg (· + 1) (pr_len t)
theorem pr_get {α β : Type} {R : α → β → Prop} : ∀ {xs : List α} {ys : List β} {i : Nat} {y : β}, Paired R xs ys → ys[i]? = some y → ∃ x, xs[i]? = some x ∧ R x y
  | _, _, _, _, .nil, h => nomatch h
  | _, _, 0, _, .cons h _, e => ⟨_, rfl, Option.some.inj e ▸ h⟩
  | _, _, i + 1, _, .cons _ r, e => pr_get (i := i) r e
abbrev SetsAt (C : Addr) (H : Hp) (b : Int) : List Fm → List Addr → Prop := Paired fun f a => ∃ dx fa, SetAt C H a b f dx fa
def spParts (A : Adr) : Sp := fun vs H Q _ => ∃ (lp ev : Addr) (as : List Addr) (fs : List Fm) (b M : Int) (dx fa : Addr), vs = [.ref lp, .ref ev] ∧ H lp = some (.lst (as.map V.ref)) ∧ SetAt A.c_RangeSet H ev b .all dx fa ∧ SetsAt A.c_RangeSet H b fs as ∧ BM b M ∧ (∀ f ∈ fs, SmE b M f ∧ f.dep = 0) ∧ fs.length ≤ 4 ∧
  (∀ i f, fs[i]? = some f → ∀ l h, l < h → Ev b f l h = true → ∀ g ∈ fs.take i, Ev b g l h = false) ∧ (∀ l h, l < h → ∃ f ∈ fs, Ev b f l h = true) ∧ ∀ H', Same H H' → Q (.bl true) H'
abbrev nm_law_are_parts : List Str := ["_law_parts", "_law_every", "_law_joined", "_law_part"]
theorem sc_law_are_parts : FnScope ["_law_parts", "_law_every", "_law_joined", "_law_part"] ["_law_parts", "_law_every"] (defScope s_law_are_parts) := ⟨rfl, rfl, rfl, by decide +kernel, rfl, by decide +kernel, by decide +kernel⟩
theorem ok_parts (T : Txt K mg A w) : FnOk P w K mg base CX0 20 A.a_law_are_parts A.d_law_are_parts ["_law_parts", "_law_every"] (spParts A) := by
  have G_RangeSet___invert__ := ok_inv (P := P) (base := base) T
  have G_RangeSet___and__ := ok_and (P := P) (base := base) T
  have G_RangeSet___or__ := ok_or (P := P) (base := base) T
  have G_RangeSet___bool__ := ok_bool (P := P) (base := base) T 9
  have G_RangeSet___eq__ := ok_eqS (P := P) (base := base) T
  refine T.F_law_are_parts.ok sc_law_are_parts (fun vs H Q E h => ?_) (fun cdv A0 outer s H vs Q E hr h => ?_)
  · obtain ⟨lp, ev, as, fs, b, M, dx, fa, rfl, _⟩ := h
    rfl
  · obtain ⟨lp, ev, as, fs, b, M, dx, fa, rfl, hL, X, FS, B, sm, f4, dis, cov, q⟩ := h
    refine ⟨_, (pss_cons (ps_set (i := 2) sc_law_are_parts.nd rfl (Or.inl rfl) (pe_un (un_invO G_RangeSet___invert__ (hr.mono (by decide)) T.t_RangeSet___invert__.at_ T.t_RangeSet___invert__.fn T.B_RangeSet___invert__ pass0) (pv 1)))
  (pss_cons (ps_for PassesOwn.never rfl (pi_list (pv 0)) (pg_name (i := 3) sc_law_are_parts.nd rfl (Or.inl rfl))
  (pss_cons (ps_if (pt_truO G_RangeSet___bool__ (hr.mono (by decide)) T.t_RangeSet___bool__.at_ T.t_RangeSet___bool__.fn T.B_RangeSet___bool__ pass0 (pe_op (op_binO G_RangeSet___and__ (hr.mono (by decide)) T.sf2 T.t_RangeSet___and__.at_ T.t_RangeSet___and__.fn T.B_RangeSet___and__ pass0) (pv 2) (pv 3))) (pss_one (ps_ret pe_bl)) pss_nil)
  (pss_one (ps_set (i := 2) sc_law_are_parts.nd rfl (Or.inl rfl) (pe_op (op_binO G_RangeSet___or__ (hr.mono (by decide)) T.sf2 T.t_RangeSet___or__.at_ T.t_RangeSet___or__.fn T.B_RangeSet___or__ pass0) (pv 2) (pv 3))))))
  (pss_one (ps_ret (pe_cmpR (op_cmpO .Eq (fun _ _ => rfl) G_RangeSet___eq__ (hr.mono (by decide)) T.t_RangeSet___eq__.at_ T.t_RangeSet___eq__.fn T.B_RangeSet___eq__ pass0) (pv 2) (pv 1) (nomark _)))))), ?_⟩
    refine ⟨_, rfl, ev, dx, _, rfl, X.at_, ev, b, .all, dx, fa, rfl, X, fun H1 j1 d1 f1 s1 _ S1 => ?_⟩
    refine gN (σ' := [some (.ref lp), some (.ref ev), some (.ref j1), none]) rfl ?_
    have hL1 := s1 _ _ hL
    have FS1 : SetsAt A.c_RangeSet H1 b fs as := Paired.mapP FS fun _ _ ⟨dx, fa, z⟩ => ⟨dx, fa, z.same s1⟩
    have X1 := X.same s1
    have ln : (as.map V.ref).length = fs.length := by rw [List.length_map, pr_len FS]
    refine ⟨_, rfl, lp, rfl, ⟨_, SqL.of hL1⟩, for_list (K := K) (a := lp) (xs := as.map V.ref) (fun u σ H' => ∃ (j dj fj : Addr) (v3 : Option V), σ = [some (.ref lp), some (.ref ev), some (.ref j), v3] ∧ Same H1 H' ∧ SetAt A.c_RangeSet H' j b (joinF (fs.take u)) dj fj) ⟨j1, d1, f1, none, rfl, Same.refl _, S1⟩ (fun u σ H' _ ⟨_, _, _, _, _, sq, _⟩ => SqL.of (sq _ _ hL1)) ?_ ?_⟩
    · rintro u x σ H2 hu ⟨j, dj, fj, v3, rfl, s2, S2⟩
      obtain ⟨pa, g, dp, fp, rfl, hg, SP⟩ : ∃ (pa : Addr) (g : Fm) (dp fp : Addr), x = .ref pa ∧ fs[u]? = some g ∧ SetAt A.c_RangeSet H1 pa b g dp fp := by
        rw [List.getElem?_map] at hu
        cases e : as[u]? with
        | none => rw [e] at hu; cases hu
        | some pa =>
          rw [e] at hu
          obtain ⟨g, hg, dp, fp, z⟩ := pr_get FS1 e
          exact ⟨pa, g, dp, fp, (Option.some.inj hu).symm, hg, z⟩
      have SP2 := SP.same s2
      have hul : u < fs.length := (List.getElem?_eq_some_iff.mp hg).1
      have gm : g ∈ fs := List.mem_of_getElem? hg
      have J0 : ∀ x ∈ fs.take u, x.dep = 0 := fun x hx => (sm x (List.mem_of_mem_take hx)).2
      have JS : SmE b M (joinF (fs.take u)) := join_sm _ _ SmE.all.not fun x hx => (sm x (List.mem_of_mem_take hx)).1
      have JD : (joinF (fs.take u)).dep ≤ 4 := by
        have h1 := join_dep (fs.take u) (.not .all) J0
        rw [List.length_take] at h1
        have h2 : (Fm.not .all).dep = 1 := rfl
        unfold joinF
        omega
      have gd := (sm g gm).2
      refine ⟨_, rfl, _, rfl, j, dj, _, pa, dp, _, rfl, rfl, S2.at_, SP2.at_, j, pa, b, _, g, dj, fj, dp, fp, rfl, S2, SP2, fun H3 q3 d3 f3 s3 n3 S3 => ⟨q3, rfl, ?_⟩⟩
      refine ⟨q3, d3, _, rfl, S3.at_, bool_of S3 B (JS.and (sm g gm).1) (by show max (joinF (fs.take u)).dep g.dep + 1 ≤ 8; omega) fun H4 z s4 hz => ?_⟩
      have no : ¬ ∃ l h, l < h ∧ Ev b (.and (joinF (fs.take u)) g) l h = true := by
        rintro ⟨l, h, lt, e⟩
        have e : (Ev b (joinF (fs.take u)) l h && Ev b g l h) = true := e
        rw [Bool.and_eq_true] at e
        unfold joinF at e
        rw [join_ev] at e
        have e1 : (false || (fs.take u).any fun g => Ev b g l h) = true := e.1
        rw [Bool.false_or, List.any_eq_true] at e1
        obtain ⟨g2, h2, e2⟩ := e1
        rw [dis u g hg l h lt e.2 g2 h2] at e2
        cases e2
      rw [no_true hz no]
      refine iteF ?_
      have s24 := s3.trans s4
      have S4 := S2.same s24
      have SP4 := SP2.same s24
      refine ⟨_, rfl, _, rfl, j, dj, _, pa, dp, _, rfl, rfl, S4.at_, SP4.at_, j, pa, b, _, g, dj, fj, dp, fp, rfl, S4, SP4, fun H5 q5 d5 f5 s5 n5 S5 => ⟨q5, rfl, ?_⟩⟩
      refine gN (σ' := [some (.ref lp), some (.ref ev), some (.ref q5), some (.ref pa)]) rfl ?_
      refine ⟨q5, d5, f5, _, rfl, s2.trans (s24.trans s5), ?_⟩
      have e : joinF (fs.take (u + 1)) = .or (joinF (fs.take u)) g := by
        unfold joinF
        rw [List.take_add_one, hg, List.foldl_append]
        rfl
      rw [e]
      exact S5
    · rintro σ H2 ⟨j, dj, fj, v3, rfl, s2, S2⟩
      rw [ln, List.take_length] at S2
      have JS : SmE b M (joinF fs) := join_sm _ _ SmE.all.not fun x hx => (sm x hx).1
      have JD : (joinF fs).dep ≤ 6 := by
        have h1 := join_dep fs (.not .all) fun x hx => (sm x hx).2
        have h2 : (Fm.not .all).dep = 1 := rfl
        unfold joinF
        omega
      refine ⟨_, rfl, _, rfl, j, dj, _, ev, dx, _, rfl, rfl, S2.at_, (X1.same s2).at_, j, ev, b, M, _, _, dj, fj, dx, fa, rfl, S2, X1.same s2, B, JS, SmE.all, JD, by decide, fun H3 r s3 hr => ⟨r, rfl, ?_⟩⟩
      have e : r = true := hr.mpr fun l h lt => by
        unfold joinF
        rw [join_ev]
        show (false || fs.any fun g => Ev b g l h) = true
        rw [Bool.false_or, List.any_eq_true]
        exact cov l h lt
      rw [e]
      exact q H3 (s1.trans (s2.trans s3))
end
end Ax

namespace Ax
/-! # Parts of all ranges -/
section
variable {b : Int} {kk k2 : Ky}
theorem ev_cnt {l h z : Int} {o : Option Int} : Ev b (.counted kk z o) l h = (decide (z ≤ cntE b l h kk (stpE b l h kk)) && o.all fun y => decide (cntE b l h kk (stpE b l h kk) ≤ y)) := rfl
theorem ev_tkn {l h m : Int} : Ev b (.taken kk m) l h = decide ((stpE b l h kk).1 = m) := rfl
def prt4 (kk : Ky) : List Fm := [.counted kk 0 (some 0), .counted kk 1 (some 1), .counted kk 2 (some 2), .counted kk 3 none]
theorem prt4_dis : ∀ i f, (prt4 kk)[i]? = some f → ∀ l h, l < h → Ev b f l h = true → ∀ g ∈ (prt4 kk).take i, Ev b g l h = false := by
  intro i f hf l h lt e g hg
  have d : ∀ z y : Int, ∀ c : Int, z < c ∨ c < y → (decide (y ≤ c) && decide (c ≤ z)) = false := fun z y c q => by
    rw [Bool.and_eq_false_iff]
    rcases q with q | q
    · exact .inr (decide_eq_false (by omega))
    · exact .inl (decide_eq_false (by omega))
  generalize hc : cntE b l h kk (stpE b l h kk) = c at *
  have c0 : Ev b (.counted kk 0 (some 0)) l h = (decide (0 ≤ c) && decide (c ≤ 0)) := by rw [← hc]; rfl
  have c1 : Ev b (.counted kk 1 (some 1)) l h = (decide (1 ≤ c) && decide (c ≤ 1)) := by rw [← hc]; rfl
  have c2 : Ev b (.counted kk 2 (some 2)) l h = (decide (2 ≤ c) && decide (c ≤ 2)) := by rw [← hc]; rfl
  have c3 : Ev b (.counted kk 3 none) l h = (decide (3 ≤ c) && true) := by rw [← hc]; rfl
  match i, hf, hg with
  | 0, _, hg => cases hg
  | 1, hf, hg =>
    obtain rfl := Option.some.inj hf
    rw [c1, Bool.and_eq_true, decide_eq_true_eq, decide_eq_true_eq] at e
    rcases List.mem_cons.mp hg with rfl | hg
    · rw [c0]; exact d _ _ _ (by omega)
    · cases hg
  | 2, hf, hg =>
    obtain rfl := Option.some.inj hf
    rw [c2, Bool.and_eq_true, decide_eq_true_eq, decide_eq_true_eq] at e
    rcases List.mem_cons.mp hg with rfl | hg
    · rw [c0]; exact d _ _ _ (by omega)
    rcases List.mem_cons.mp hg with rfl | hg
    · rw [c1]; exact d _ _ _ (by omega)
    · cases hg
  | 3, hf, hg =>
    obtain rfl := Option.some.inj hf
    rw [c3, Bool.and_eq_true, decide_eq_true_eq] at e
    rcases List.mem_cons.mp hg with rfl | hg
    · rw [c0]; exact d _ _ _ (by omega)
    rcases List.mem_cons.mp hg with rfl | hg
    · rw [c1]; exact d _ _ _ (by omega)
    rcases List.mem_cons.mp hg with rfl | hg
    · rw [c2]; exact d _ _ _ (by omega)
    · cases hg
  | n + 4, hf, _ => cases hf
theorem prt4_cov (b2 : 2 ≤ b) (t : KyT b kk) : ∀ l h, l < h → ∃ f ∈ prt4 kk, Ev b f l h = true := by
  intro l h lt
  have c0 := (cnt_rng b2 t lt).1
  generalize hc : cntE b l h kk (stpE b l h kk) = c at *
  have d : ∀ z : Int, c = z → (decide (z ≤ c) && decide (c ≤ z)) = true := fun z q => by
    rw [Bool.and_eq_true]
    exact ⟨decide_eq_true (by omega), decide_eq_true (by omega)⟩
  by_cases h0 : c = 0
  · exact ⟨_, .head _, by rw [ev_cnt, hc]; exact d 0 h0⟩
  by_cases h1 : c = 1
  · exact ⟨_, .tail _ (.head _), by rw [ev_cnt, hc]; exact d 1 h1⟩
  by_cases h2 : c = 2
  · exact ⟨_, .tail _ (.tail _ (.head _)), by rw [ev_cnt, hc]; exact d 2 h2⟩
  · refine ⟨_, .tail _ (.tail _ (.tail _ (.head _))), ?_⟩
    rw [ev_cnt, hc]
    show (decide (3 ≤ c) && true) = true
    rw [decide_eq_true (by omega)]
    rfl
theorem tak_dis {hs : List Int} (nd : hs.Nodup) : ∀ i f, (hs.map (Fm.taken kk))[i]? = some f → ∀ l h, l < h → Ev b f l h = true → ∀ g ∈ (hs.map (Fm.taken kk)).take i, Ev b g l h = false := by
  intro i f hf l h lt e g hg
  rw [List.getElem?_map] at hf
  rw [← List.map_take] at hg
  obtain ⟨m', hm', rfl⟩ := List.mem_map.mp hg
  cases hm : hs[i]? with
  | none => rw [hm] at hf; cases hf
  | some m =>
    rw [hm] at hf
    obtain rfl := Option.some.inj hf
    rw [ev_tkn] at e ⊢
    refine decide_eq_false fun z => ?_
    have e := of_decide_eq_true e
    obtain ⟨j, hj, ej⟩ := List.mem_iff_getElem.mp hm'
    rw [List.length_take] at hj
    rw [List.getElem_take] at ej
    obtain ⟨hi, ei⟩ := List.getElem?_eq_some_iff.mp hm
    have := (List.getElem_inj (h₀ := by omega) (h₁ := hi) nd).mp (ej.trans ((z.symm.trans e).trans ei.symm))
    omega
theorem tak_cov {hs : List Int} (t : KyT b kk) (hk : ∀ m ∈ kk.2.1, m ∈ hs) : ∀ l h, l < h → ∃ f ∈ hs.map (Fm.taken kk), Ev b f l h = true := fun l h lt =>
  ⟨_, List.mem_map.mpr ⟨_, hk _ (t.least lt).mem, rfl⟩, decide_eq_true rfl⟩
end
end Ax

namespace Ax
open PySem L2
section
variable {P : Program} {w : World} {K : PySem.W.Frag} {mg : Str → Option Value} {base : Heap} {A : Adr}
/-! ### Rule.__eq__ of two rules -/
abbrev nm_Rule___eq__ : List Str := ["self", "other"]
theorem sc_Rule___eq__ : FnScope ["self", "other"] ["self", "other"] (defScope s_Rule___eq__) := ⟨rfl, rfl, rfl, by decide +kernel, rfl, by decide +kernel, by decide +kernel⟩
def spREq (A : Adr) : Sp := fun vs H Q _ => ∃ (a c : Addr) (b b' : Int) (k k' : Kd) (ms ms' : List Int) (most most' : Int) (D D' : RD), vs = [.ref a, .ref c] ∧ RX A.c_Rule H a b k ms most D ∧ RX A.c_Rule H c b' k' ms' most' D' ∧ Q (.bl (decide (b = b' ∧ k = k' ∧ D.ms' = D'.ms' ∧ most = most'))) H
theorem eqv_ints2 : ∀ (ms ns : List Int), PyData.eqv (.list (ms.map PyData.int)) (.list (ns.map PyData.int)) = decide (ms = ns)
  | [], [] => by simp [eqv_nil_nil]
  | [], n :: ns => by
    simp [PyData.eqv, PyData.eqvAll]
  | m :: ms, [] => by
    simp [PyData.eqv, PyData.eqvAll]
  | m :: ms, n :: ns => by
    have ih := eqv_ints2 ms ns
    simp only [PyData.eqv, List.map_cons, PyData.eqvAll] at ih ⊢
    by_cases h : m = n
    · subst h
      simpa using ih
    · simp [h]
theorem kd_dec (k k' : Kd) : decide (V.str k.s = V.str k'.s) = decide (k = k') := by
  cases k <;> cases k' <;> decide +kernel
theorem ok_req (T : Txt K mg A w) : FnOk P w K mg base CX0 1 A.a_Rule___eq__ A.d_Rule___eq__ ["self", "other"] (spREq A) := by
  refine T.F_Rule___eq__.ok sc_Rule___eq__ (fun vs H Q E h => ?_) (fun cdv A0 outer s H vs Q E hr h => ?_)
  · obtain ⟨a, c, b, b', k, k', ms, ms', most, most', D, D', rfl, _⟩ := h
    rfl
  · obtain ⟨a, c, b, b', k, k', ms, ms', most, most', D, D', rfl, x, y, q⟩ := h
    refine ⟨_, (pss_cons (ps_if (pt_not (pt_val (pe_callB call_isi (by rfl) T.n_isinstance (by decide +kernel) (pa_cons (pv 1) (pa_cons (pe_glob (v := .ref A.c_Rule) rfl T.c_Rule rfl) pa_nil))))) (pss_one (ps_ret pe_bl)) pss_nil)
  (pss_cons (ps_if (PW.pt (pw_or (pt_cmpR op_ne (pe_fld (pv 0) rfl) (pe_fld (pv 1) rfl) (nomark _)) (pw_or1 (pt_cmpR op_ne (pe_fld (pv 0) rfl) (pe_fld (pv 1) rfl) (nomark _))))) (pss_one (ps_ret pe_bl)) pss_nil)
  (pss_one (ps_ret (pe_and (pe_cmpR (op_eqD hr.units) (pe_fld (pv 0) rfl) (pe_fld (pv 1) rfl) (nomark _)) (pe_one (pe_cmpR op_eq (pe_fld (pv 0) rfl) (pe_fld (pv 1) rfl) (nomark _)))))))), ?_⟩
    refine ⟨_, rfl, _, _, .ref A.c_Rule, .ref A.c_Rule, true, rfl, .own _, .base (.ins y.at_ T.cl T.ic.ha T.ic.hn T.ic.htk T.ic.hm), T.ic.me, true, rfl, ?_⟩
    refine iteF ?_
    refine ⟨_, rfl, a, A.c_Rule, D.dx, _, _, rfl, x.at_, T.cl, T.na_base, rf_base _ _ _ _ _ _, _, rfl, c, A.c_Rule, D'.dx, _, _, rfl, y.at_, T.cl, T.na_base, rf_base _ _ _ _ _ _, rfl, _, rfl, ?_⟩
    have qf : ¬ (b = b' ∧ k = k' ∧ D.ms' = D'.ms' ∧ most = most') → Q (.bl false) H := fun z => by
      rw [decide_eq_false z] at q
      exact q
    by_cases e1 : b = b'
    · rw [decide_eq_true (by rw [e1])]
      refine iteF ?_
      refine ⟨_, rfl, a, A.c_Rule, D.dx, _, _, rfl, x.at_, T.cl, T.na_kind, rf_kind _ _ _ _ _ _, _, rfl, c, A.c_Rule, D'.dx, _, _, rfl, y.at_, T.cl, T.na_kind, rf_kind _ _ _ _ _ _, rfl, _, rfl, ?_⟩
      rw [kd_dec]
      by_cases e2 : k = k'
      · rw [decide_eq_true e2]
        refine iteF ?_
        refine ⟨_, rfl, a, A.c_Rule, D.dx, _, _, rfl, x.at_, T.cl, T.na_mantissas, rf_mantissas _ _ _ _ _ _, _, rfl, c, A.c_Rule, D'.dx, _, _, rfl, y.at_, T.cl, T.na_mantissas, rf_mantissas _ _ _ _ _ _, ?_⟩
        refine ⟨.list (D.ms'.map PyData.int), .list (D'.ms'.map PyData.int), .lst (SqL.of x.lm_) (dp_ints _), .lst (SqL.of y.lm_) (dp_ints _), shaped_ints _, shaped_ints _, _, rfl, ?_⟩
        rw [eqv_ints2]
        by_cases e3 : D.ms' = D'.ms'
        · rw [decide_eq_true e3]
          refine iteT ?_
          refine ⟨_, rfl, a, A.c_Rule, D.dx, _, _, rfl, x.at_, T.cl, T.na_most, rf_most _ _ _ _ _ _, _, rfl, c, A.c_Rule, D'.dx, _, _, rfl, y.at_, T.cl, T.na_most, rf_most _ _ _ _ _ _, rfl, ?_⟩
          have z : decide (V.int most = V.int most') = decide (b = b' ∧ k = k' ∧ D.ms' = D'.ms' ∧ most = most') := decide_eq_decide.mpr ⟨fun z => ⟨e1, e2, e3, V.int.inj z⟩, fun z => by rw [z.2.2.2]⟩
          show Q (.bl (decide (V.int most = V.int most'))) H
          rw [z]
          exact q
        · rw [decide_eq_false e3]
          exact iteF (qf fun z => e3 z.2.2.1)
      · rw [decide_eq_false e2]
        exact iteT (qf fun z => e2 z.2.1)
    · rw [decide_eq_false (fun z => e1 (V.int.inj z))]
      exact iteT (qf fun z => e1 z.1)
end
end Ax

namespace Ax
open PySem L2
section
variable {P : Program} {w : World} {K : PySem.W.Frag} {mg : Str → Option Value} {base : Heap} {A : Adr}

def lcmI (ms : List Int) : Int := ms.foldl (fun a m => ((Nat.lcm a.toNat m.toNat : Nat) : Int)) 1
theorem lcm_table : ∀ b ∈ BASES, ∀ is ∈ FAM1 ++ FAM2, (0 < lcmI (famOf b is) ∧ lcmI (famOf b is) ≤ 30) ∧ ∀ m ∈ famOf b is, lcmI (famOf b is) % m = 0 := by decide +kernel
def kyS (k : Kd) (hs : List Int) (n : Int) : Ky := (k, isort hs, n)
theorem RX.ks {C : Addr} {H : Hp} {r : Addr} {b : Int} {k : Kd} {ms : List Int} {most : Int} {D : RD} (x : RX C H r b k ms most D) : (k, D.ms', most) = kyS k ms most := by
  show _ = (k, isort ms, most)
  rw [x.srt]
theorem cut_to9 (xs : List V) (n : Nat) : cutV xs none (some (n : Int)) = xs.take n := by
  unfold cutV HT.sIx
  simp
  rw [if_neg (by omega)]
  omega
theorem pr_snoc {α β : Type} {R : α → β → Prop} {x : α} {y : β} (h : R x y) : ∀ {xs : List α} {ys : List β}, Paired R xs ys → Paired R (xs ++ [x]) (ys ++ [y])
  | _, _, .nil => .cons h .nil
  | _, _, .cons a t => .cons a (pr_snoc h t)
theorem pr_take {α β : Type} {R : α → β → Prop} : ∀ {xs : List α} {ys : List β} (n : Nat), Paired R xs ys → Paired R (xs.take n) (ys.take n)
  | _, _, 0, _ => .nil
  | _, _, _ + 1, .nil => .nil
  | _, _, n + 1, .cons a t => .cons a (pr_take n t)
theorem absP {R : Hp → Prop} {H : Hp} (P : Hp → Prop) (h : P H) (q : ∀ H', P H' → R H') : R H := q H h
theorem sets_same {C : Addr} {H H' : Hp} {b : Int} {fs : List Fm} {as : List Addr} (s : Same H H') (h : SetsAt C H b fs as) : SetsAt C H' b fs as := Paired.mapP h fun _ _ ⟨dx, fa, z⟩ => ⟨dx, fa, z.same s⟩
theorem sets_kl {C : Addr} {H H' : Hp} {p : Addr} {xs : List V} {b : Int} {fs : List Fm} {as : List Addr} (e : H p = some (.lst xs)) (s : Kp p H H') (h : SetsAt C H b fs as) : SetsAt C H' b fs as := Paired.mapP h fun _ _ ⟨dx, fa, z⟩ => ⟨dx, fa, z.kl e s⟩
theorem sets_snoc {C : Addr} {H : Hp} {b : Int} {fs : List Fm} {as : List Addr} {f : Fm} {a dx fa : Addr} (z : SetAt C H a b f dx fa) (h : SetsAt C H b fs as) : SetsAt C H b (fs ++ [f]) (as ++ [a]) := pr_snoc ⟨dx, fa, z⟩ h
def cntF (kk : Ky) (j : Nat) : Fm := .counted kk (j : Int) (some (j : Int))
theorem four_parts (kk : Ky) {m : Nat} (h : 3 ≤ m) : ((List.range m).map (cntF kk)).take 3 ++ [.counted kk 3 none] = prt4 kk := by
  rw [← List.map_take, List.take_range, Nat.min_eq_left h]
  rfl
def spLaw (K : PySem.W.Frag) : Sp := fun vs H Q _ => ∃ (a : Addr) (ns : List Int), vs = [.ref a] ∧ SqL K H a (ns.map V.int) ∧ ns.length ≤ 63 ∧ ∀ H', Q (.bl true) H'
abbrev nm_law : List Str := ["_law_script", "_law_turn", "_law_purse_here", "_law_family_here", "_law_rule_here", "_law_its", "_law_one", "_law_other", "_law_every", "_law_parts", "_law_many", "_law_head", "_law_more", "_law_less", "_law_low", "_law_high"]
theorem sc_law : FnScope ["_law_script", "_law_turn", "_law_purse_here", "_law_family_here", "_law_rule_here", "_law_its", "_law_one", "_law_other", "_law_every", "_law_parts", "_law_many", "_law_head", "_law_more", "_law_less", "_law_low", "_law_high"] ["_law_script"] (defScope s_law) := ⟨rfl, rfl, rfl, by decide +kernel, rfl, by decide +kernel, by decide +kernel⟩
theorem ok_law (T : Txt K mg A w) : FnOk P w K mg base CX0 22 A.a_law A.d_law ["_law_script"] (spLaw K) := by
  have G_law_purse : FnOk P w K mg base CX0 1 A.a_law_purse A.d_law_purse ["_law_script", "_law_at"] (spPurse K) := ok_purse T
  have G_law_draw : FnOk P w K mg base CX0 1 A.a_law_draw A.d_law_draw ["_law_purse_here", "_law_many"] spDraw := ok_draw T
  have G_law_family := ok_family (P := P) (base := base) T
  have G_law_rule := ok_rule (P := P) (base := base) T
  have G_law_made := ok_made (P := P) (base := base) T
  have G_law_are_parts := ok_parts (P := P) (base := base) T
  have G_RangeSet___invert__ := ok_inv (P := P) (base := base) T
  have G_RangeSet___and__ := ok_and (P := P) (base := base) T
  have G_RangeSet___bool__ := ok_bool (P := P) (base := base) T 9
  have G_RangeSet___eq__ := ok_eqS (P := P) (base := base) T
  have G_RangeSet___le__ := ok_le (P := P) (base := base) T
  have G_Rule___eq__ := ok_req (P := P) (base := base) T
  have G_every := ok_every (P := P) (base := base) T
  have G_counted := ok_ctd (P := P) (base := base) T
  have G_taken := ok_tkn (P := P) (base := base) T
  have G_coarser := ok_crs (P := P) (base := base) T
  obtain ⟨ds1, V1_coarser, B1_coarser⟩ := T.B1_coarser
  obtain ⟨ds2, V1_counted, B1_counted⟩ := T.B1_counted
  obtain ⟨dt, edt, htd⟩ := T.df_coarser
  have TD : ∀ H, Tp2 K H dt [.int 1, .int 1] := fun H => .inr htd
  refine T.F_law.ok sc_law (fun vs H Q E h => ?_) (fun cdv A0 outer s H vs Q E hr h => ?_)
  · obtain ⟨a, ns, rfl, _⟩ := h
    rfl
  · obtain ⟨a, ns, rfl, hS, hlen, q⟩ := h
    refine ⟨_, (pss_cons (ps_for PassesOwn.never rfl (pi_range1 rfl T.n_range (pa_cons pe_int pa_nil)) (pg_name (i := 1) sc_law.nd rfl (Or.inl rfl))
  (pss_cons (ps_set (i := 2) sc_law.nd rfl (Or.inl rfl) (pe_call G_law_purse (hr.mono (by decide)) (by rfl) T.m_law_purse T.F_law_purse.kp T.B_law_purse .nil pass0 (pa_cons (pv 0) (pa_cons (pv 1) pa_nil))))
  (pss_cons (ps_set (i := 3) sc_law.nd rfl (Or.inl rfl) (pe_call G_law_family (hr.mono (by decide)) (by rfl) T.m_law_family T.F_law_family.kp T.B_law_family .nil pass0 (pa_cons (pv 2) pa_nil)))
  (pss_cons (ps_par (i := 4) (j := 5) (by rfl) sc_law.nd rfl rfl (by decide) rfl rfl (pa_cons (pe_call G_law_rule (hr.mono (by decide)) (by rfl) T.m_law_rule T.F_law_rule.kp T.B_law_rule .nil pass0 (pa_cons (pv 2) (pa_cons (pv 3) pa_nil))) (pa_cons (pe_call G_law_rule (hr.mono (by decide)) (by rfl) T.m_law_rule T.F_law_rule.kp T.B_law_rule .nil pass0 (pa_cons (pv 2) (pa_cons (pv 3) pa_nil))) pa_nil)) (by rfl))
  (pss_cons (ps_asg (pe_tup (pa_cons (pe_call G_law_made (hr.mono (by decide)) (by rfl) T.m_law_made T.F_law_made.kp T.B_law_made .nil pass0 (pa_cons (pv 4) pa_nil)) (pa_cons (pe_call G_law_made (hr.mono (by decide)) (by rfl) T.m_law_made T.F_law_made.kp T.B_law_made .nil pass0 (pa_cons (pv 5) pa_nil)) pa_nil))) (pg_tup (by rfl) (pgs_cons (pg_name (i := 6) sc_law.nd rfl (Or.inr rfl)) (pgs_cons (pg_name (i := 7) sc_law.nd rfl (Or.inl rfl)) pgs_nil))))
  (pss_cons (ps_set (i := 8) sc_law.nd rfl (Or.inl rfl) (ClX.pe_cmeth (pe_glob (v := .ref A.c_RangeSet) rfl T.c_RangeSet rfl) T.cr_every T.cm_every (G_every.raw T.B_every .nil) (hr.mono (by decide)) pass0 (pa_cons (pe_ix ix_tup (pv 4) pe_int (fun _ _ => rfl)) pa_nil)))
  (pss_cons (ps_setLc (i := 9) (own := [("_law_many", 10)]) (g := gName 10) (tt := tYes) rfl sc_law.nd rfl rfl (sw_true rfl rfl rfl (by decide +kernel)) (pi_range1 rfl T.n_range (pa_cons (pe_op op_add (pe_ix ix_tup (pv 4) pe_int (fun _ _ => rfl)) pe_int) pa_nil)) (blkOk_by (own := [("_law_many", 10)]) (N := nm_law) (sc := defScope s_law) (by decide +kernel)) (fun _ _ _ _ _ => (pg_name (i := 10) sc_law.nd rfl (Or.inl rfl))) (fun _ _ _ _ _ => pts_nil) (fun _ _ _ _ _ => (pe_call G_counted (hr.mono (by decide)) (by rfl) T.m_counted T.F_counted.kp T.B_counted .nil pass0 (pa_cons (pv 6) (pa_cons (pv 10) (pa_cons (pv 10) pa_nil))))))
  (pss_cons (ps_if (PW.pt (pw_or (pt_not (pt_val (pe_call G_law_are_parts (hr.mono (by decide)) (by rfl) T.m_law_are_parts T.F_law_are_parts.kp T.B_law_are_parts .nil pass0 (pa_cons (pe_op op_cat (pe_slice sl_list (pv 9) po_none (po_some pe_int)) (pe_lst (pa_cons (pe_call G_counted (hr.mono (by decide)) (by rfl) T.m_counted T.F_counted.kp B1_counted V1_counted pass0 (pa_cons (pv 6) (pa_cons pe_int pa_nil))) pa_nil))) (pa_cons (pv 8) pa_nil))))) (pw_or (pt_truO G_RangeSet___bool__ (hr.mono (by decide)) T.t_RangeSet___bool__.at_ T.t_RangeSet___bool__.fn T.B_RangeSet___bool__ pass0 (pe_call G_counted (hr.mono (by decide)) (by rfl) T.m_counted T.F_counted.kp B1_counted V1_counted pass0 (pa_cons (pv 6) (pa_cons (pe_op op_add (pe_ix ix_tup (pv 4) pe_int (fun _ _ => rfl)) pe_int) pa_nil)))) (pw_or1 (pt_truO G_RangeSet___bool__ (hr.mono (by decide)) T.t_RangeSet___bool__.at_ T.t_RangeSet___bool__.fn T.B_RangeSet___bool__ pass0 (pe_call G_counted (hr.mono (by decide)) (by rfl) T.m_counted T.F_counted.kp T.B_counted .nil pass0 (pa_cons (pv 6) (pa_cons pe_int (pa_cons pe_int pa_nil))))))))) (pss_one (ps_ret pe_bl)) pss_nil)
  (pss_cons (ps_if (pt_cmpR (op_neC G_RangeSet___eq__ (hr.mono (by decide)) T.ne_RangeSet T.t_RangeSet___eq__.fn T.B_RangeSet___eq__ pass0) (pe_call G_counted (hr.mono (by decide)) (by rfl) T.m_counted T.F_counted.kp T.B_counted .nil pass0 (pa_cons (pv 6) (pa_cons pe_int (pa_cons (pe_ix ix_tup (pv 4) pe_int (fun _ _ => rfl)) pa_nil)))) (pe_op (op_binO G_RangeSet___and__ (hr.mono (by decide)) T.sf2 T.t_RangeSet___and__.at_ T.t_RangeSet___and__.fn T.B_RangeSet___and__ pass0) (pe_call G_counted (hr.mono (by decide)) (by rfl) T.m_counted T.F_counted.kp B1_counted V1_counted pass0 (pa_cons (pv 6) (pa_cons pe_int pa_nil))) (pe_un (un_invO G_RangeSet___invert__ (hr.mono (by decide)) T.t_RangeSet___invert__.at_ T.t_RangeSet___invert__.fn T.B_RangeSet___invert__ pass0) (pe_call G_counted (hr.mono (by decide)) (by rfl) T.m_counted T.F_counted.kp B1_counted V1_counted pass0 (pa_cons (pv 6) (pa_cons (pe_op op_add (pe_ix ix_tup (pv 4) pe_int (fun _ _ => rfl)) pe_int) pa_nil))))) (nomark _)) (pss_one (ps_ret pe_bl)) pss_nil)
  (pss_cons (ps_if (pt_cmpR (op_neC G_RangeSet___eq__ (hr.mono (by decide)) T.ne_RangeSet T.t_RangeSet___eq__.fn T.B_RangeSet___eq__ pass0) (pe_call G_counted (hr.mono (by decide)) (by rfl) T.m_counted T.F_counted.kp B1_counted V1_counted pass0 (pa_cons (pv 6) (pa_cons pe_int pa_nil))) (pv 8) (nomark _)) (pss_one (ps_ret pe_bl)) pss_nil)
  (pss_cons (ps_if (pt_not (pt_val (pe_call G_law_are_parts (hr.mono (by decide)) (by rfl) T.m_law_are_parts T.F_law_are_parts.kp T.B_law_are_parts .nil pass0 (pa_cons (pe_lc (own := [("_law_head", 11)]) (g := gName 11) (tt := tYes) rfl sc_law.nd (pi_list (pe_ix ix_tup (pv 4) pe_int (fun _ _ => rfl))) (blkOk_by (own := [("_law_head", 11)]) (N := nm_law) (sc := defScope s_law) (by decide +kernel)) (fun _ _ _ _ _ => (pg_name (i := 11) sc_law.nd rfl (Or.inl rfl))) (fun _ _ _ _ _ => pts_nil) (fun _ _ _ _ _ => (pe_call G_taken (hr.mono (by decide)) (by rfl) T.m_taken T.F_taken.kp T.B_taken .nil pass0 (pa_cons (pv 6) (pa_cons (pv 11) pa_nil))))) (pa_cons (pv 8) pa_nil))))) (pss_one (ps_ret pe_bl)) pss_nil)
  (pss_cons (ps_par (i := 12) (j := 13) (by rfl) sc_law.nd rfl rfl (by decide) rfl rfl (pa_cons (pe_call G_coarser (hr.mono (by decide)) (by rfl) T.m_coarser T.F_coarser.kp B1_coarser V1_coarser pass0 (pa_cons (pv 6) (pa_cons (pv 7) pa_nil))) (pa_cons (pe_call G_coarser (hr.mono (by decide)) (by rfl) T.m_coarser T.F_coarser.kp B1_coarser V1_coarser pass0 (pa_cons (pv 7) (pa_cons (pv 6) pa_nil))) pa_nil)) (by rfl))
  (pss_cons (ps_if (PW.pt (pw_or (pt_truO G_RangeSet___bool__ (hr.mono (by decide)) T.t_RangeSet___bool__.at_ T.t_RangeSet___bool__.fn T.B_RangeSet___bool__ pass0 (pe_op (op_binO G_RangeSet___and__ (hr.mono (by decide)) T.sf2 T.t_RangeSet___and__.at_ T.t_RangeSet___and__.fn T.B_RangeSet___and__ pass0) (pv 12) (pv 13))) (pw_or1 (PW.pt (pw_and (pt_cmpR (op_cmpO .Eq (fun _ _ => rfl) G_Rule___eq__ (hr.mono (by decide)) T.t_Rule___eq__.at_ T.t_Rule___eq__.fn T.B_Rule___eq__ pass0) (pv 6) (pv 7) (nomark _)) (pw_and1 (PW.pt (pw_or (pt_truO G_RangeSet___bool__ (hr.mono (by decide)) T.t_RangeSet___bool__.at_ T.t_RangeSet___bool__.fn T.B_RangeSet___bool__ pass0 (pv 12)) (pw_or1 (pt_truO G_RangeSet___bool__ (hr.mono (by decide)) T.t_RangeSet___bool__.at_ T.t_RangeSet___bool__.fn T.B_RangeSet___bool__ pass0 (pv 13))))))))))) (pss_one (ps_ret pe_bl)) pss_nil)
  (pss_cons (ps_par (i := 14) (j := 15) (by rfl) sc_law.nd rfl rfl (by decide) rfl rfl (pa_cons (pe_tup (pa_cons (pe_op op_add pe_int (pe_call G_law_draw (hr.mono (by decide)) (by rfl) T.m_law_draw T.F_law_draw.kp T.B_law_draw .nil pass0 (pa_cons (pv 2) (pa_cons pe_int pa_nil)))) (pa_cons (pe_op op_add pe_int (pe_call G_law_draw (hr.mono (by decide)) (by rfl) T.m_law_draw T.F_law_draw.kp T.B_law_draw .nil pass0 (pa_cons (pv 2) (pa_cons pe_int pa_nil)))) pa_nil))) (pa_cons (pe_op op_add pe_int (pe_call G_law_draw (hr.mono (by decide)) (by rfl) T.m_law_draw T.F_law_draw.kp T.B_law_draw .nil pass0 (pa_cons (pv 2) (pa_cons pe_int pa_nil)))) pa_nil)) (by rfl))
  (pss_cons (ps_if (pt_not (pt_cmpR (op_cmpO .LtE (fun _ _ => rfl) G_RangeSet___le__ (hr.mono (by decide)) T.t_RangeSet___le__.at_ T.t_RangeSet___le__.fn T.B_RangeSet___le__ pass0) (pe_call G_coarser (hr.mono (by decide)) (by rfl) T.m_coarser T.F_coarser.kp T.B_coarser .nil pass0 (pa_cons (pv 6) (pa_cons (pv 7) (pa_cons (pe_tup (pa_cons (pe_op op_add (pe_ix ix_tup (pv 14) pe_int (fun _ _ => rfl)) (pv 15)) (pa_cons (pe_ix ix_tup (pv 14) pe_int (fun _ _ => rfl)) pa_nil))) pa_nil)))) (pe_call G_coarser (hr.mono (by decide)) (by rfl) T.m_coarser T.F_coarser.kp T.B_coarser .nil pass0 (pa_cons (pv 6) (pa_cons (pv 7) (pa_cons (pv 14) pa_nil)))) (nomark _))) (pss_one (ps_ret pe_bl)) pss_nil)
  (pss_cons (ps_if (pt_cmpR (op_neC G_RangeSet___eq__ (hr.mono (by decide)) T.ne_RangeSet T.t_RangeSet___eq__.fn T.B_RangeSet___eq__ pass0) (pe_call G_coarser (hr.mono (by decide)) (by rfl) T.m_coarser T.F_coarser.kp T.B_coarser .nil pass0 (pa_cons (pv 6) (pa_cons (pv 7) (pa_cons (pe_tup (pa_cons (pe_op op_mulW pe_int (pe_ix ix_tup (pv 14) pe_int (fun _ _ => rfl))) (pa_cons (pe_op op_mulW pe_int (pe_ix ix_tup (pv 14) pe_int (fun _ _ => rfl))) pa_nil))) pa_nil)))) (pe_call G_coarser (hr.mono (by decide)) (by rfl) T.m_coarser T.F_coarser.kp T.B_coarser .nil pass0 (pa_cons (pv 6) (pa_cons (pv 7) (pa_cons (pv 14) pa_nil)))) (nomark _)) (pss_one (ps_ret pe_bl)) pss_nil)
  (pss_one (ps_if (PW.pt (pw_or (pt_truO G_RangeSet___bool__ (hr.mono (by decide)) T.t_RangeSet___bool__.at_ T.t_RangeSet___bool__.fn T.B_RangeSet___bool__ pass0 (pe_call G_coarser (hr.mono (by decide)) (by rfl) T.m_coarser T.F_coarser.kp B1_coarser V1_coarser pass0 (pa_cons (pv 6) (pa_cons (pv 6) pa_nil)))) (pw_or (pt_cmpR (op_neC G_RangeSet___eq__ (hr.mono (by decide)) T.ne_RangeSet T.t_RangeSet___eq__.fn T.B_RangeSet___eq__ pass0) (pe_call G_coarser (hr.mono (by decide)) (by rfl) T.m_coarser T.F_coarser.kp T.B_coarser .nil pass0 (pa_cons (pv 6) (pa_cons (pv 6) (pa_cons (pe_tup (pa_cons pe_int (pa_cons pe_int pa_nil))) pa_nil)))) (pv 8) (nomark _)) (pw_or1 (pt_truO G_RangeSet___bool__ (hr.mono (by decide)) T.t_RangeSet___bool__.at_ T.t_RangeSet___bool__.fn T.B_RangeSet___bool__ pass0 (pe_call G_coarser (hr.mono (by decide)) (by rfl) T.m_coarser T.F_coarser.kp T.B_coarser .nil pass0 (pa_cons (pv 6) (pa_cons (pv 6) (pa_cons (pe_tup (pa_cons pe_int (pa_cons pe_int pa_nil))) pa_nil))))))))) (pss_one (ps_ret pe_bl)) pss_nil))))))))))))))))))
  (pss_one (ps_ret pe_bl))), ?_⟩
    have e20 : (2 : Nat) ^ 20 = 1048576 := by decide
    have e18 : (2 : Nat) ^ 18 = 262144 := by decide
    have e60 : (2 : Nat) ^ 60 = 1152921504606846976 := by decide
    have e60i : (2 : Int) ^ 60 = 1152921504606846976 := by decide
    refine ⟨2, rfl, by decide, by decide, for_range (lo := 0) (n := 2) (fun i σ H' => ∃ v1 v2 v3 v4 v5 v6 v7 v8 v9 v10 v11 v12 v13 v14 v15 : Option V, σ = [some (.ref a), v1, v2, v3, v4, v5, v6, v7, v8, v9, v10, v11, v12, v13, v14, v15] ∧ Same H H') ⟨_, _, _, _, _, _, _, _, _, _, _, _, _, _, _, rfl, Same.refl H⟩ ?_ ?_⟩
    · rintro i σ H0 hi ⟨v1, v2, v3, v4, v5, v6, v7, v8, v9, v10, v11, v12, v13, v14, v15, rfl, s0⟩
      refine ⟨_, rfl, _, rfl, a, ns, i, by rw [Int.zero_add]; rfl, s0.seq hS, hlen, fun H1 p s1 p0 P1 => ?_⟩
      refine gN (σ' := [some (.ref a), some (.int (0 + (i : Int))), some (.ref p), v3, v4, v5, v6, v7, v8, v9, v10, v11, v12, v13, v14, v15]) rfl ?_
      refine ⟨_, rfl, p, 0, rfl, P1, by decide, fun H2 q2 lf b fs k2 P2 h2 hl2 f2 hF => ?_⟩
      refine gN (σ' := [some (.ref a), some (.int (0 + (i : Int))), some (.ref p), some (.ref q2), v4, v5, v6, v7, v8, v9, v10, v11, v12, v13, v14, v15]) rfl ?_
      have lfp : lf ≠ p := ne_of_none P1.some.choose_spec f2 |>.symm
      have q2p : q2 ≠ p := ne_of h2 P2.some.choose_spec (by intro z; cases z)
      refine ⟨_, rfl, _, rfl, p, q2, lf, 2, b, fs, rfl, P2, by decide, h2, hl2, lfp, hF, fun H3 ru lh k hs n k3 P3 RT n3 G sub => ?_⟩
      have lhp : lh ≠ p := ne_of_none P2.some.choose_spec n3 |>.symm
      refine ⟨_, rfl, _, rfl, p, q2, lf, 10, b, fs, rfl, P3, by decide, k3 _ _ q2p h2, k3 _ _ lfp hl2, lfp, hF, fun H4 ru2 lh2 k' hs' n' k4 P4 RT2 n4 G2 sub2 => ⟨_, _, rfl, ?_⟩⟩
      refine norm2 (σ' := [some (.ref a), some (.int (0 + (i : Int))), some (.ref p), some (.ref q2), some (.ref ru), some (.ref ru2), v6, v7, v8, v9, v10, v11, v12, v13, v14, v15]) rfl ?_
      have RT := RT.kp P3 lhp k4
      -- what the two rules have in common
      obtain ⟨M, hM⟩ : ∃ M, M = lcmI fs := ⟨_, rfl⟩
      have F := hF.ok
      have MT : (0 < M ∧ M ≤ 30) ∧ ∀ m ∈ fs, M % m = 0 := by
        obtain ⟨hb, is, his, e⟩ := hF
        rw [hM, e]
        exact lcm_table b hb is his
      have B : BM b M := ⟨F.1.1, F.1.2, MT.1.1, MT.1.2⟩
      have SK : SmallK b (kyS k hs n) M := small_srt G.args G.m6 fun m hm => ⟨(G.all m hm).2.1, Int.dvd_of_emod_eq_zero (MT.2 m (sub m hm))⟩
      have SK2 : SmallK b (kyS k' hs' n') M := small_srt G2.args G2.m6 fun m hm => ⟨(G2.all m hm).2.1, Int.dvd_of_emod_eq_zero (MT.2 m (sub2 m hm))⟩
      refine ⟨_, rfl, ru, lh, b, k, hs, n, rfl, RT, G.args, fun H5 r D s5 nr X nlm nlr => ?_⟩
      refine ⟨_, rfl, ru2, lh2, b, k', hs', n', rfl, RT2.same s5, G2.args, fun H6 r' D' s6 nr' X' nlm' nlr' => ?_⟩
      have X := X.same s6
      have RT6 := (RT.same s5).same s6
      refine ⟨(by show 2 ≤ sizeLine; decide), fun tt htt => ⟨tt, _, rfl, SqT.of upd_same, rfl, _, _, rfl, _, _, rfl, rfl, ?_⟩⟩
      have s7 := same_new (o := .tup [.ref r, .ref r']) htt
      refine norm2 (σ' := [some (.ref a), some (.int (0 + (i : Int))), some (.ref p), some (.ref q2), some (.ref ru), some (.ref ru2), some (.ref r), some (.ref r'), v8, v9, v10, v11, v12, v13, v14, v15]) rfl ?_
      have RT7 := RT6.same s7
      refine ⟨rfl, _, rfl, ru, _, _, _, rfl, rfl, SqT.of RT7.1, atL (j := 0) rfl, b, rfl, B.b2, fun H8 ev de fe s8 n8 EV => ?_⟩
      refine gN (σ' := [some (.ref a), some (.int (0 + (i : Int))), some (.ref p), some (.ref q2), some (.ref ru), some (.ref ru2), some (.ref r), some (.ref r'), some (.ref ev), v9, v10, v11, v12, v13, v14, v15]) rfl ?_
      have RT8 := RT7.same s8
      have X8 := (X.same s7).same s8
      have n1 := G.m1
      have n6 := G.m6
      have nmN : (n.toNat : Int) = n := Int.toNat_of_nonneg (by omega)
      refine ⟨_, rfl, ru, _, _, _, rfl, rfl, SqT.of RT8.1, atL (j := 3) rfl, _, _, rfl, rfl, n + 2, rfl, by omega, by omega, fun D9 hD9 => lc_range (lo := 0) (n := (n + 2).toNat) (fun i H' => Same H8 H' ∧ ∃ as : List Addr, H' D9 = some (.lst (as.map V.ref)) ∧ SetsAt A.c_RangeSet H' b ((List.range i).map (cntF (kyS k hs n))) as) ⟨same_new hD9, [], upd_same, .nil⟩ ?_ ?_⟩
      · rintro j H9 hj ⟨s9, as, hA, SA⟩
        refine ⟨rfl, yes_of ?_⟩
        refine ⟨_, rfl, _, rfl, _, rfl, r, b, k, hs, n, D, 0 + (j : Int), some (0 + (j : Int)), rfl, X8.same s9, by omega, fun z e => by cases e; omega, fun H10 q10 d10 f10 s10 n10 S10 => ?_⟩
        rw [RX.ks X8, Int.zero_add] at S10
        have hA10 := s10 _ _ hA
        have la : as.length = j := by
          have := pr_len SA
          rw [List.length_map, List.length_range] at this
          exact this.symm
        have kD : Kp D9 H10 (upd H10 D9 (.lst (as.map V.ref ++ [V.ref q10]))) := fun c o nc e => by rw [upd_ne nc]; exact e
        refine ⟨_, hA10, by rw [List.length_map]; exact small1000 (by omega), fun c o e => ?_, as ++ [q10], by rw [upd_same, List.map_append]; rfl, ?_⟩
        · rw [upd_ne (ne_of_none e hD9)]
          exact s10 _ _ (s9 _ _ e)
        · rw [List.range_succ, List.map_append]
          refine pr_snoc ⟨d10, f10, S10.kl hA10 kD⟩ (Paired.mapP SA fun _ _ ⟨dx, fa, z⟩ => ⟨dx, fa, (z.same s10).kl hA10 kD⟩)
      · rintro H9 ⟨s9, as, hA, SA⟩
        refine gN (σ' := [some (.ref a), some (.int (0 + (i : Int))), some (.ref p), some (.ref q2), some (.ref ru), some (.ref ru2), some (.ref r), some (.ref r'), some (.ref ev), some (.ref D9), v10, v11, v12, v13, v14, v15]) rfl ?_
        have X9 := X8.same s9
        have RT9 := RT8.same s9
        have EV9 := EV.same s9
        refine ⟨_, rfl, _, rfl, D9, _, rfl, SqL.of hA, fun L10 hL10 => ?_⟩
        have n10 := same_new (o := .lst (cutV (as.map V.ref) none (some (3 : Int)))) hL10
        have c10 : upd H9 L10 (.lst (cutV (as.map V.ref) none (some (3 : Int)))) L10 = some (.lst ((as.take 3).map V.ref)) := by
          rw [upd_same, List.map_take]
          exact congrArg (fun z => some (HO.lst z)) (cut_to9 _ 3)
        have X10 := X9.same n10
        refine ⟨_, rfl, r, b, k, hs, n, D, 3, none, congrArg (fun z => [V.ref r, V.int 3, z]) T.df_counted, X10, by decide, (fun z e => by cases e), fun H11 q11 d11 f11 s11 m11 S11 => ?_⟩
        rw [RX.ks X10] at S11
        have a3 : ((as.take 3).map V.ref).length ≤ 3 := by rw [List.length_map, List.length_take]; omega
        refine ⟨(by show 1 ≤ sizeLine; decide), fun L12 hL12 => ?_⟩
        have n12 := same_new (o := .lst [V.ref q11]) hL12
        refine ⟨L10, L12, _, _, rfl, rfl, (s11.trans n12) _ _ c10, upd_same, Nat.le_trans (Nat.add_le_add_right a3 _) (by show 4 ≤ sizeLine; decide), fun L13 hL13 => ?_⟩
        have n13 := same_new (o := .lst ((as.take 3).map V.ref ++ [V.ref q11])) hL13
        have s913 := n10.trans (s11.trans (n12.trans n13))
        have EV13 := EV9.same s913
        have X13 := X9.same s913
        have RT13 := RT9.same s913
        have S13 := S11.same (n12.trans n13)
        have SA13 := sets_snoc S13 (pr_take 3 (sets_same s913 SA))
        rw [four_parts (kyS k hs n) (show 3 ≤ (n + 2).toNat by omega)] at SA13
        have cnS : ∀ (z : Int) (o : Option Int), 0 ≤ z → z ≤ 20 → (∀ y, o = some y → 0 ≤ y ∧ y ≤ 20) → SmE b M (.counted (kyS k hs n) z o) := fun z o h1 h2 h3 => SmE.cnt SK (by omega) fun y e => by have := h3 y e; omega
        have KT : KyT b (kyS k hs n) := SK.r.T
        have KT2 : KyT b (kyS k' hs' n') := SK2.r.T
        refine ⟨_, rfl, L13, ev, as.take 3 ++ [q11], prt4 (kyS k hs n), b, M, de, fe, rfl, by rw [upd_same, List.map_append]; rfl, EV13, SA13, B, ?_, (by show 4 ≤ 4; decide), prt4_dis, prt4_cov B.b2 KT, fun H14 s14 => ⟨_, rfl, iteF ?_⟩⟩
        · intro f hf
          rcases List.mem_cons.mp hf with rfl | hf
          · exact ⟨cnS _ _ (by decide) (by decide) fun y e => by cases e; decide, rfl⟩
          rcases List.mem_cons.mp hf with rfl | hf
          · exact ⟨cnS _ _ (by decide) (by decide) fun y e => by cases e; decide, rfl⟩
          rcases List.mem_cons.mp hf with rfl | hf
          · exact ⟨cnS _ _ (by decide) (by decide) fun y e => by cases e; decide, rfl⟩
          rcases List.mem_cons.mp hf with rfl | hf
          · exact ⟨cnS _ _ (by decide) (by decide) fun y e => by (cases e), rfl⟩
          · cases hf
        have X14 := X13.same s14
        have RT14 := RT13.same s14
        have EV14 := EV13.same s14
        -- counted(one, most + 2)
        refine ⟨_, rfl, _, rfl, ru, _, _, _, rfl, rfl, SqT.of RT14.1, atL (j := 3) rfl, _, _, rfl, rfl, r, b, k, hs, n, D, n + 2, none, congrArg (fun z => [V.ref r, V.int (n + 2), z]) T.df_counted, X14, by omega, (fun z e => by cases e), fun H15 q15 d15 f15 s15 m15 S15 => ?_⟩
        rw [RX.ks X14] at S15
        refine ⟨q15, d15, _, rfl, S15.at_, bool_of S15 B (cnS _ _ (by omega) (by omega) (fun z e => by cases e)) (by show 0 ≤ 8; decide) fun H16 z16 s16 e16 => ?_⟩
        have no16 : ¬ ∃ l h, l < h ∧ Ev b (.counted (kyS k hs n) (n + 2) none) l h = true := by
          rintro ⟨l, h, lt, e⟩
          rw [ev_cnt, Bool.and_eq_true] at e
          have e1 := of_decide_eq_true e.1
          have := (cnt_rng B.b2 KT lt).2
          have : (kyS k hs n).2.2 = n := rfl
          omega
        rw [no_true e16 no16]
        refine iteF ?_
        have X16 := X14.same (s15.trans s16)
        have RT16 := RT14.same (s15.trans s16)
        have EV16 := EV14.same (s15.trans s16)
        -- counted(one, 2, 1)
        refine ⟨_, rfl, r, b, k, hs, n, D, 2, some 1, rfl, X16, by decide, (fun z e => by cases e; decide), fun H17 q17 d17 f17 s17 m17 S17 => ?_⟩
        rw [RX.ks X16] at S17
        refine ⟨q17, d17, _, rfl, S17.at_, bool_of S17 B (cnS _ _ (by decide) (by decide) (fun z e => by cases e; decide)) (by show 0 ≤ 8; decide) fun H18 z18 s18 e18' => ?_⟩
        have no18 : ¬ ∃ l h, l < h ∧ Ev b (.counted (kyS k hs n) 2 (some 1)) l h = true := by
          rintro ⟨l, h, lt, e⟩
          rw [ev_cnt, Bool.and_eq_true] at e
          have e1 := of_decide_eq_true e.1
          have e2 : decide (_ ≤ (1 : Int)) = true := e.2
          have e2 := of_decide_eq_true e2
          omega
        rw [no_true e18' no18]
        refine iteF ?_
        have X18 := X16.same (s17.trans s18)
        have RT18 := RT16.same (s17.trans s18)
        have EV18 := EV16.same (s17.trans s18)
        -- counted(one, 1, most) != counted(one, 1) & ~counted(one, most + 1)
        have cN : ∀ (z : Int), [V.ref r, V.int z, A.dv_counted] = [V.ref r, V.int z, optV none] := fun z => congrArg (fun y => [V.ref r, V.int z, y]) T.df_counted
        refine ⟨_, rfl, _, rfl, ru, _, _, _, rfl, rfl, SqT.of RT18.1, atL (j := 3) rfl, r, b, k, hs, n, D, 1, some n, rfl, X18, by decide, (fun z e => by cases e; omega), fun H19 q19 d19 f19 s19 m19 S19 => ?_⟩
        rw [RX.ks X18] at S19
        have X19 := X18.same s19
        have RT19 := RT18.same s19
        refine ⟨_, rfl, r, b, k, hs, n, D, 1, none, cN 1, X19, by decide, (fun z e => by cases e), fun H20 q20 d20 f20 s20 m20 S20 => ?_⟩
        rw [RX.ks X19] at S20
        have X20 := X19.same s20
        have RT20 := RT19.same s20
        refine ⟨_, rfl, _, rfl, ru, _, _, _, rfl, rfl, SqT.of RT20.1, atL (j := 3) rfl, _, _, rfl, rfl, r, b, k, hs, n, D, n + 1, none, cN (n + 1), X20, by omega, (fun z e => by cases e), fun H21 q21 d21 f21 s21 m21 S21 => ?_⟩
        rw [RX.ks X20] at S21
        refine ⟨q21, d21, _, rfl, S21.at_, q21, b, _, d21, f21, rfl, S21, fun H22 q22 d22 f22 s22 m22 S22 => ?_⟩
        have S20' := S20.same (s21.trans s22)
        refine ⟨q20, d20, _, q22, d22, _, rfl, rfl, S20'.at_, S22.at_, q20, q22, b, _, _, d20, f20, d22, f22, rfl, S20', S22, fun H23 q23 d23 f23 s23 m23 S23 => ⟨q23, rfl, ?_⟩⟩
        have S19' := S19.same (s20.trans (s21.trans (s22.trans s23)))
        have cA := cnS 1 (some n) (by decide) (by decide) (fun z e => by cases e; omega)
        have cB := cnS 1 none (by decide) (by decide) (fun z e => by cases e)
        have cC := cnS (n + 1) none (by omega) (by omega) (fun z e => by cases e)
        refine ⟨q19, d19, _, q23, d23, _, rfl, rfl, S19'.at_, S23.at_, q19, q23, b, M, _, _, d19, f19, d23, f23, rfl, S19', S23, B, cA, cB.and cC.not, (by show 0 ≤ 6; decide), (by show 2 ≤ 6; decide), fun H24 z24 s24 e24 => ⟨z24, rfl, _, rfl, ?_⟩⟩
        have t24 : z24 = true := e24.mpr fun l h lt => by
          show (decide (_ ≤ _) && decide (_ ≤ _)) = ((decide (_ ≤ _) && true) && !(decide (_ ≤ _) && true))
          generalize cntE b l h (kyS k hs n) (stpE b l h (kyS k hs n)) = c
          rw [Bool.and_true, Bool.and_true]
          by_cases z : c ≤ n
          · rw [decide_eq_true z, decide_eq_false (show ¬ n + 1 ≤ c by omega)]
            rfl
          · rw [decide_eq_false z, decide_eq_true (show n + 1 ≤ c by omega)]
            rfl
        rw [t24]
        refine iteF ?_
        have sX := s19.trans (s20.trans (s21.trans (s22.trans (s23.trans s24))))
        have X24 := X18.same sX
        have RT24 := RT18.same sX
        have EV24 := EV18.same sX
        -- counted(one, 0) != every
        refine ⟨_, rfl, r, b, k, hs, n, D, 0, none, cN 0, X24, by decide, (fun z e => by cases e), fun H25 q25 d25 f25 s25 m25 S25 => ?_⟩
        rw [RX.ks X24] at S25
        have EV25 := EV24.same s25
        refine ⟨_, rfl, q25, d25, _, ev, de, _, rfl, rfl, S25.at_, EV25.at_, q25, ev, b, M, _, _, d25, f25, de, fe, rfl, S25, EV25, B, cnS 0 none (by decide) (by decide) (fun z e => by cases e), SmE.all, (by show 0 ≤ 6; decide), (by show 0 ≤ 6; decide), fun H26 z26 s26 e26 => ⟨z26, rfl, _, rfl, ?_⟩⟩
        have t26 : z26 = true := e26.mpr fun l h lt => by
          show (decide (_ ≤ _) && true) = true
          rw [decide_eq_true (cnt_rng B.b2 KT lt).1]
          rfl
        rw [t26]
        refine iteF ?_
        have sY := s25.trans s26
        have X26 := X24.same sY
        have RT26 := RT24.same sY
        have EV26 := EV24.same sY
        -- the parts by mantissas
        refine ⟨_, rfl, ru, _, _, _, rfl, rfl, SqT.of RT26.1, atL (j := 2) rfl, lh, rfl, ⟨_, SqL.of RT26.2⟩, fun D27 hD27 => lc_list (K := K) (a := lh) (xs := hs.map V.int) (fun i H' => Same H26 H' ∧ ∃ as : List Addr, H' D27 = some (.lst (as.map V.ref)) ∧ SetsAt A.c_RangeSet H' b ((hs.take i).map (Fm.taken (kyS k hs n))) as) ⟨same_new hD27, [], upd_same, .nil⟩ ?_ ?_ ?_⟩
        · rintro i H' _ ⟨s27, _⟩
          exact SqL.of (s27 _ _ RT26.2)
        · rintro i x H27 hi' ⟨s27, as', hA', SA'⟩
          obtain ⟨m0, hm0, rfl⟩ := map_get hi'
          refine ⟨rfl, yes_of ?_⟩
          have X27 := X26.same s27
          refine ⟨_, rfl, _, rfl, r, b, k, hs, n, D, m0, rfl, X27, List.mem_of_getElem? hm0, fun H28 q28 d28 f28 s28 m28 S28 => ?_⟩
          rw [RX.ks X27] at S28
          have hA28 := s28 _ _ hA'
          have la : as'.length ≤ hs.length := by
            have := pr_len SA'
            rw [List.length_map, List.length_take] at this
            omega
          have hl4 := G.le
          have kD : Kp D27 H28 (upd H28 D27 (.lst (as'.map V.ref ++ [V.ref q28]))) := fun c o nc e => by rw [upd_ne nc]; exact e
          refine ⟨_, hA28, by rw [List.length_map]; exact small1000 (by omega), fun c o e => ?_, as' ++ [q28], by rw [upd_same, List.map_append]; rfl, ?_⟩
          · rw [upd_ne (ne_of_none e hD27)]
            exact s28 _ _ (s27 _ _ e)
          · rw [List.take_add_one, hm0, List.map_append]
            exact sets_snoc (S28.kl hA28 kD) (sets_kl hA28 kD (sets_same s28 SA'))
        · rintro H27 ⟨s27, as', hA', SA'⟩
          rw [List.length_map, List.take_length] at SA'
          have X27 := X26.same s27
          have RT27 := RT26.same s27
          have EV27 := EV26.same s27
          have tkc : ∀ m ∈ (kyS k hs n).2.1, m ∈ hs := fun m hm => (isort_perm hs).mem_iff.mp hm
          refine ⟨_, rfl, D27, ev, as', hs.map (Fm.taken (kyS k hs n)), b, M, de, fe, rfl, hA', EV27, SA', B, (fun f hf => by
            obtain ⟨m, _, rfl⟩ := List.mem_map.mp hf
            exact ⟨SmE.tkn SK, rfl⟩), (by rw [List.length_map]; exact G.le), tak_dis G.nd, tak_cov KT tkc, fun H28 s28 => ⟨_, rfl, iteF ?_⟩⟩
          have sZ := s7.trans (s8.trans (s9.trans (s913.trans (s14.trans ((s15.trans s16).trans ((s17.trans s18).trans (sX.trans (sY.trans (s27.trans s28)))))))))
          have X28 := X27.same s28
          have EV28 := EV27.same s28
          have Y28 := X'.same sZ
          have P28 := P4.same (s5.trans (s6.trans sZ))
          have sOld := s5.trans (s6.trans sZ)
          refine absP (fun Hd => RX A.c_Rule Hd r b k hs n D ∧ RX A.c_Rule Hd r' b k' hs' n' D' ∧ SetAt A.c_RangeSet Hd ev b .all de fe ∧ Purse Hd p 18 ∧ Same H4 Hd) ⟨X28, Y28, EV28, P28, sOld⟩ ?_
          rintro H29 ⟨X29, Y29, EV29, P29, sOld⟩
          clear sZ X28 Y28 EV28 P28 s28 SA' hA' s27 X27 RT27 EV27 X26 RT26 EV26 sY X24 RT24 EV24 sX t26 e26 t24 e24
          -- more, less
          have cD : ∀ (x y : Addr), [V.ref x, V.ref y, A.dv_coarser] = [V.ref x, V.ref y, V.ref dt] := fun x y => congrArg (fun z => [V.ref x, V.ref y, z]) edt
          refine ⟨_, rfl, _, rfl, r, r', dt, b, k, k', hs, hs', n, n', D, D', 1, 1, cD r r', X29, Y29, TD _, by decide, by decide, fun H30 mo d30 f30 s30 m30 S30 => ?_⟩
          rw [RX.ks X29, RX.ks Y29] at S30
          have X30 := X29.same s30
          have Y30 := Y29.same s30
          refine ⟨_, rfl, _, rfl, r', r, dt, b, k', k, hs', hs, n', n, D', D, 1, 1, cD r' r, Y30, X30, TD _, by decide, by decide, fun H31 le_ d31 f31 s31 m31 S31 => ⟨_, _, rfl, ?_⟩⟩
          rw [RX.ks X30, RX.ks Y30] at S31
          refine norm2 (σ' := [some (.ref a), some (.int (0 + (i : Int))), some (.ref p), some (.ref q2), some (.ref ru), some (.ref ru2), some (.ref r), some (.ref r'), some (.ref ev), some (.ref D9), v10, v11, some (.ref mo), some (.ref le_), v14, v15]) rfl ?_
          have S30 := S30.same s31
          have crS : ∀ (u v : Int), 1 ≤ u → u ≤ 100 → 1 ≤ v → v ≤ 100 → SmE b M (.coarser (kyS k hs n) (kyS k' hs' n') u v) := fun u v h1 h2 h3 h4 => SmE.crs SK SK2 h1 (by omega) h3 (by omega)
          have crS' : SmE b M (.coarser (kyS k' hs' n') (kyS k hs n) 1 1) := SmE.crs SK2 SK (by decide) (by decide) (by decide) (by decide)
          have two := fun l h lt => two_sizes (l := l) (h := h) B.b2 KT KT2 lt
          refine ⟨_, rfl, _, rfl, mo, d30, _, le_, d31, _, rfl, rfl, S30.at_, S31.at_, mo, le_, b, _, _, d30, f30, d31, f31, rfl, S30, S31, fun H32 q32 d32 f32 s32 m32 S32 => ⟨q32, rfl, ?_⟩⟩
          refine ⟨q32, d32, _, rfl, S32.at_, bool_of S32 B ((crS 1 1 (by decide) (by decide) (by decide) (by decide)).and crS') (by show 1 ≤ 8; decide) fun H33 z33 s33 e33 => ?_⟩
          have no33 : ¬ ∃ l h, l < h ∧ Ev b (.and (.coarser (kyS k hs n) (kyS k' hs' n') 1 1) (.coarser (kyS k' hs' n') (kyS k hs n) 1 1)) l h = true := by
            rintro ⟨l, h, lt, e⟩
            obtain ⟨x, y, x0, y0, ex, ey, _⟩ := two l h lt
            have e : (Ev b (.coarser (kyS k hs n) (kyS k' hs' n') 1 1) l h && Ev b (.coarser (kyS k' hs' n') (kyS k hs n) 1 1) l h) = true := e
            rw [ex, ey, Bool.and_eq_true, decide_eq_true_eq, decide_eq_true_eq] at e
            omega
          rw [no_true e33 no33]
          refine iteF ?_
          have sA := s30.trans (s31.trans (s32.trans s33))
          have X33 := X29.same sA
          have Y33 := Y29.same sA
          have S30 := S30.same (s32.trans s33)
          have S31 := S31.same (s32.trans s33)
          refine ⟨_, rfl, _, rfl, r, D.dx, _, r', D'.dx, _, rfl, rfl, X33.at_, Y33.at_, r, r', b, b, k, k', hs, hs', n, n', D, D', rfl, X33, Y33, _, rfl, _, rfl, ?_⟩
          refine ite2 (fun hc => ?one) (fun hc => ?two)
          case' one =>
            have hc := of_decide_eq_true hc
            have ek : kyS k hs n = kyS k' hs' n' := by
              rw [← RX.ks X33, ← RX.ks Y33, hc.2.1, hc.2.2.1, hc.2.2.2]
            refine ⟨_, rfl, mo, d30, _, rfl, S30.at_, bool_of S30 B (crS 1 1 (by decide) (by decide) (by decide) (by decide)) (by show 0 ≤ 8; decide) fun H34 z34 s34 e34 => ?_⟩
            rw [no_true e34 (by
              rintro ⟨l, h, lt, e⟩
              obtain ⟨x, y, x0, y0, ex, ey, exy⟩ := two l h lt
              rw [ex, decide_eq_true_eq] at e
              have := exy ek
              omega)]
            refine iteF ?_
            have S31 := S31.same s34
            refine ⟨_, rfl, le_, d31, _, rfl, S31.at_, bool_of S31 B crS' (by show 0 ≤ 8; decide) fun H35 z35 s35 e35 => ?_⟩
            rw [no_true e35 (by
              rintro ⟨l, h, lt, e⟩
              obtain ⟨x, y, x0, y0, ex, ey, exy⟩ := two l h lt
              rw [ey, decide_eq_true_eq] at e
              have := exy ek
              omega)]
            refine iteF ?_
            refine absP (fun Hd => Same H33 Hd) (s34.trans s35) ?_
            rintro H36 s36
          case' two =>
            refine iteF ?_
            refine absP (fun Hd => Same H33 Hd) (Same.refl _) ?_
            rintro H36 s36
          case one | two =>
            have X36 := X33.same s36
            have Y36 := Y33.same s36
            have EV36 := EV29.same (sA.trans s36)
            have P36 := P29.same (sA.trans s36)
            have sO := sOld.trans (sA.trans s36)
            refine ⟨_, rfl, p, 4, 18, rfl, P36, by decide, by decide, small2000 (by decide), fun H37 z1 k37 P37 z10 z14 => ⟨_, _, rfl, rfl, _, rfl, p, 4, 19, rfl, P37, by decide, by decide, small2000 (by decide), fun H38 z2 k38 P38 z20 z24 => ⟨_, _, rfl, rfl, (by show 2 ≤ sizeLine; decide), fun tq htq => ?_⟩⟩⟩
            have s39 := same_new (o := .tup [.int (1 + z1), .int (2 + z2)]) htq
            have P39 := P38.same s39
            have tqp : tq ≠ p := P38.ne htq
            refine ⟨_, rfl, p, 3, 20, rfl, P39, by decide, by decide, small2000 (by decide), fun H40 z3 k40 P40 z30 z33 => ⟨_, _, rfl, rfl, _, _, rfl, ?_⟩⟩
            refine norm2 (σ' := [some (.ref a), some (.int (0 + (i : Int))), some (.ref p), some (.ref q2), some (.ref ru), some (.ref ru2), some (.ref r), some (.ref r'), some (.ref ev), some (.ref D9), v10, v11, some (.ref mo), some (.ref le_), some (.ref tq), some (.int (1 + z3))]) rfl ?_
            have hq40 := k40 _ _ tqp (upd_same (H := H38) (a := tq) (o := .tup [.int (1 + z1), .int (2 + z2)]))
            have kC : Kp p H36 H40 := (k37.trans k38).trans ((Same.kp s39 p).trans k40)
            obtain ⟨xs36, e36⟩ := P36.some
            obtain ⟨xs4, e4⟩ := P4.some
            obtain ⟨xs5, e5⟩ := (P4.same s5).some
            have X40 := X36.but e36 (ne_of_none e4 nlm).symm (ne_of_none e4 nlr).symm kC
            have Y40 := Y36.but e36 (ne_of_none e5 nlm').symm (ne_of_none e5 nlr').symm kC
            have EV40 := EV36.kl e36 kC
            refine absP (fun Hd => Hd = H40 ∧ Hd tq = some (.tup [.int (1 + z1), .int (2 + z2)]) ∧ RX A.c_Rule Hd r b k hs n D ∧ RX A.c_Rule Hd r' b k' hs' n' D' ∧ SetAt A.c_RangeSet Hd ev b .all de fe) ⟨rfl, hq40, X40, Y40, EV40⟩ ?_
            rintro H41 ⟨eH, hq, X41, Y41, EV41⟩
            obtain ⟨u, hu⟩ : ∃ u, u = 1 + z1 := ⟨_, rfl⟩
            obtain ⟨v, hv⟩ : ∃ v, v = 2 + z2 := ⟨_, rfl⟩
            obtain ⟨y, hy⟩ : ∃ y, y = 1 + z3 := ⟨_, rfl⟩
            rw [← hu, ← hv] at hq
            rw [← hy]
            -- coarser by more is within coarser by less
            refine ⟨_, rfl, _, rfl, _, rfl, tq, _, _, _, rfl, rfl, SqT.of hq, atL (j := 0) rfl, _, rfl, _, _, rfl, rfl, _, rfl, tq, _, _, _, rfl, rfl, SqT.of hq, atL (j := 1) rfl, (by show 2 ≤ sizeLine; decide), fun t1 ht1 => ?_⟩
            have s42 := same_new (o := .tup [.int (u + y), .int v]) ht1
            have X42 := X41.same s42
            have Y42 := Y41.same s42
            refine ⟨r, r', t1, b, k, k', hs, hs', n, n', D, D', u + y, v, rfl, X42, Y42, .inl upd_same, by omega, by omega, fun H43 q43 d43 f43 s43 m43 S43 => ?_⟩
            rw [RX.ks X42, RX.ks Y42] at S43
            have X43 := X42.same s43
            have Y43 := Y42.same s43
            have hq43 := s43 _ _ (s42 _ _ hq)
            refine ⟨_, rfl, _, rfl, _, rfl, r, r', tq, b, k, k', hs, hs', n, n', D, D', u, v, rfl, X43, Y43, .inl hq43, by omega, by omega, fun H44 q44 d44 f44 s44 m44 S44 => ?_⟩
            rw [RX.ks X43, RX.ks Y43] at S44
            have S43 := S43.same s44
            refine ⟨q43, d43, _, q44, d44, _, rfl, rfl, S43.at_, S44.at_, q43, q44, b, M, _, _, d43, f43, d44, f44, rfl, S43, S44, B, crS (u + y) v (by omega) (by omega) (by omega) (by omega), crS u v (by omega) (by omega) (by omega) (by omega), (by show 0 ≤ 6; decide), (by show 0 ≤ 6; decide), fun H45 z45 s45 e45 => ⟨z45, rfl, _, rfl, ?_⟩⟩
            have t45 : z45 = true := e45.mpr fun l h lt e => by
              obtain ⟨x, w, x0, w0, ex, _, _⟩ := two l h lt
              rw [ex, decide_eq_true_eq] at e ⊢
              rw [Int.add_mul] at e
              have := Int.mul_pos (show 0 < y by omega) w0
              omega
            rw [t45]
            refine iteF ?_
            have sB := s42.trans (s43.trans (s44.trans s45))
            have X45 := X41.same sB
            have Y45 := Y41.same sB
            have EV45 := EV41.same sB
            have hq45 := sB _ _ hq
            -- a common factor
            have e61 : (2 : Int) ^ 61 = 2305843009213693952 := by decide
            have mB : ∀ g : Int, 0 ≤ g → g ≤ 100 → CMulW 2 g := fun g h1 h2 => mul_sB (by decide) (by omega) h1 (lt_big (n := 60) (i := g) (by omega) (by decide))
            refine ⟨_, rfl, _, rfl, _, rfl, tq, _, _, _, rfl, rfl, SqT.of hq45, atL (j := 0) rfl, _, _, rfl, rfl, mB u (by omega) (by omega), _, rfl, tq, _, _, _, rfl, rfl, SqT.of hq45, atL (j := 1) rfl, _, _, rfl, rfl, mB v (by omega) (by omega), (by show 2 ≤ sizeLine; decide), fun t2 ht2 => ?_⟩
            have s46 := same_new (o := .tup [.int (2 * u), .int (2 * v)]) ht2
            have X46 := X45.same s46
            have Y46 := Y45.same s46
            refine ⟨r, r', t2, b, k, k', hs, hs', n, n', D, D', 2 * u, 2 * v, rfl, X46, Y46, .inl upd_same, by omega, by omega, fun H47 q47 d47 f47 s47 m47 S47 => ?_⟩
            rw [RX.ks X46, RX.ks Y46] at S47
            have X47 := X46.same s47
            have Y47 := Y46.same s47
            have hq47 := s47 _ _ (s46 _ _ hq45)
            refine ⟨_, rfl, _, rfl, _, rfl, r, r', tq, b, k, k', hs, hs', n, n', D, D', u, v, rfl, X47, Y47, .inl hq47, by omega, by omega, fun H48 q48 d48 f48 s48 m48 S48 => ?_⟩
            rw [RX.ks X47, RX.ks Y47] at S48
            have S47 := S47.same s48
            refine ⟨q47, d47, _, q48, d48, _, rfl, rfl, S47.at_, S48.at_, q47, q48, b, M, _, _, d47, f47, d48, f48, rfl, S47, S48, B, crS (2 * u) (2 * v) (by omega) (by omega) (by omega) (by omega), crS u v (by omega) (by omega) (by omega) (by omega), (by show 0 ≤ 6; decide), (by show 0 ≤ 6; decide), fun H49 z49 s49 e49 => ⟨z49, rfl, _, rfl, ?_⟩⟩
            have t49 : z49 = true := e49.mpr fun l h lt => by
              obtain ⟨x, w, x0, w0, ex, _, _⟩ := two l h lt
              rw [ex, ex]
              refine decide_eq_decide.mpr ?_
              rw [Int.mul_assoc, Int.mul_left_comm x 2 v]
              omega
            rw [t49]
            refine iteF ?_
            have sC := s46.trans (s47.trans (s48.trans s49))
            have X49 := X45.same sC
            have EV49 := EV45.same sC
            -- coarser than itself
            have two1 := fun l h lt => two_sizes (l := l) (h := h) B.b2 KT KT lt
            have crs1 : ∀ (u v : Int), 1 ≤ u → u ≤ 100 → 1 ≤ v → v ≤ 100 → SmE b M (.coarser (kyS k hs n) (kyS k hs n) u v) := fun u v h1 h2 h3 h4 => SmE.crs SK SK h1 (by omega) h3 (by omega)
            refine ⟨_, rfl, _, rfl, r, r, dt, b, k, k, hs, hs, n, n, D, D, 1, 1, cD r r, X49, X49, TD _, by decide, by decide, fun H50 q50 d50 f50 s50 m50 S50 => ?_⟩
            rw [RX.ks X49] at S50
            refine ⟨q50, d50, _, rfl, S50.at_, bool_of S50 B (crs1 1 1 (by decide) (by decide) (by decide) (by decide)) (by show 0 ≤ 8; decide) fun H51 z51 s51 e51 => ?_⟩
            rw [no_true e51 (by
              rintro ⟨l, h, lt, e⟩
              obtain ⟨x, w, x0, w0, ex, _, exw⟩ := two1 l h lt
              rw [ex, decide_eq_true_eq] at e
              have := exw rfl
              omega)]
            refine iteF ?_
            have X51 := X49.same (s50.trans s51)
            have EV51 := EV49.same (s50.trans s51)
            refine ⟨_, rfl, _, rfl, (by show 2 ≤ sizeLine; decide), fun t3 ht3 => ?_⟩
            have s52 := same_new (o := .tup [.int 1, .int 2]) ht3
            have X52 := X51.same s52
            refine ⟨r, r, t3, b, k, k, hs, hs, n, n, D, D, 1, 2, rfl, X52, X52, .inl upd_same, by decide, by decide, fun H53 q53 d53 f53 s53 m53 S53 => ?_⟩
            rw [RX.ks X52] at S53
            have EV53 := EV51.same (s52.trans s53)
            refine ⟨_, rfl, q53, d53, _, ev, de, _, rfl, rfl, S53.at_, EV53.at_, q53, ev, b, M, _, _, d53, f53, de, fe, rfl, S53, EV53, B, crs1 1 2 (by decide) (by decide) (by decide) (by decide), SmE.all, (by show 0 ≤ 6; decide), (by show 0 ≤ 6; decide), fun H54 z54 s54 e54 => ⟨z54, rfl, _, rfl, ?_⟩⟩
            have t54 : z54 = true := e54.mpr fun l h lt => by
              obtain ⟨x, w, x0, w0, ex, _, exw⟩ := two1 l h lt
              have := exw rfl
              rw [ex]
              exact decide_eq_true (by omega)
            rw [t54]
            refine iteF ?_
            have X54 := X51.same (s52.trans (s53.trans s54))
            refine ⟨_, rfl, _, rfl, (by show 2 ≤ sizeLine; decide), fun t4 ht4 => ?_⟩
            have s55 := same_new (o := .tup [.int 9, .int 9]) ht4
            have X55 := X54.same s55
            refine ⟨r, r, t4, b, k, k, hs, hs, n, n, D, D, 9, 9, rfl, X55, X55, .inl upd_same, by decide, by decide, fun H56 q56 d56 f56 s56 m56 S56 => ?_⟩
            rw [RX.ks X55] at S56
            refine ⟨q56, d56, _, rfl, S56.at_, bool_of S56 B (crs1 9 9 (by decide) (by decide) (by decide) (by decide)) (by show 0 ≤ 8; decide) fun H57 z57 s57 e57 => ?_⟩
            rw [no_true e57 (by
              rintro ⟨l, h, lt, e⟩
              obtain ⟨x, w, x0, w0, ex, _, exw⟩ := two1 l h lt
              rw [ex, decide_eq_true_eq] at e
              have := exw rfl
              omega)]
            refine iteF ?_
            have kE : Kp p H41 H57 := Same.kp (sB.trans (sC.trans ((s50.trans s51).trans ((s52.trans (s53.trans s54)).trans (s55.trans (s56.trans s57)))))) p
            have kA : Kp p H1 H4 := (k2.trans k3).trans k4
            have kB : Kp p H4 H36 := Same.kp sO p
            refine ⟨_, _, _, _, _, _, _, _, _, _, _, _, _, _, _, rfl, fun c o e => ?_⟩
            have e1 := s1 _ _ (s0 _ _ e)
            have ncp : c ≠ p := fun z => by
              rw [z] at e
              rw [s0 _ _ e] at p0
              cases p0
            refine kE c o ncp ?_
            rw [eH]
            exact kC c o ncp (kB c o ncp (kA c o ncp e1))
    · rintro σ H' ⟨v1, v2, v3, v4, v5, v6, v7, v8, v9, v10, v11, v12, v13, v14, v15, rfl, s0⟩
      exact q H'
end
end Ax

namespace Ax
open PySem PySem.Spec PyProof.Rows L2
theorem all_mk {l : PySem.W.OpenLaw} {w : World} {K : PySem.W.Frag} {h : Heap} {mg : Str → Option Value} {fa : Addr} (X : K.In h) (G : h.Ns mainGlobals mg) (hfa : mg "law" = some (.ref fa)) (c : seeK K = goodK w) :
    ∃ fd : FuncData, (∀ (s : Shared) (v : Value), BindsTo s fd ⟨[v], []⟩ [("_law_script", v)]) ∧ ∀ base : Heap, K.In base → base.Ns mainGlobals mg → FnOk l.prog w K mg base CX0 22 fa fd ["_law_script"] (spLaw K) := by
  have cA : He5.SaysA faK dfK K := congrArg (fun z : SeeT => z.1) c
  have cT : (tbK.map fun t => He.dicW K (He.ga K t.2)) = tbK.map fun t => some (He.keysIn w.params t.1) := congrArg (fun z : SeeT => z.2.1) c
  have cX : (exK.all fun z => z K) = true := congrArg (fun z : SeeT => z.2.2) c
  have tab : ∀ (n : Nat) (t : List PySem.Str × PySem.Str), tbK[n]? = some t → ∃ es m, KDict K w (He.ga K t.2) es m := fun n t h => by
    have e2 := congrArg (fun z => z[n]?) cT
    simp only [List.getElem?_map, h, Option.map_some] at e2
    exact He.dicW_ok (Option.some.inj e2)
  have e := hfa.symm.trans (He.glo_ok X G (cA.fact 67 (f := .glo "law") rfl))
  cases e
  obtain ⟨fd0, F0⟩ := cA.def_ 0 (d := ⟨fun K => He.fAd K ("is_whole", none), "is_whole", "is_whole", defArgs s_is_whole, defBody s_is_whole, defScope s_is_whole, [], []⟩) rfl
  have F0 : Fun K "is_whole" "is_whole" s_is_whole (He.fAd K ("is_whole", none)) fd0 := He5.fun_of F0
  have b0 := F0.binds (ps := ["value"]) fun _ _ _ _ _ _ us hl => match us, hl with | [_], _ => rfl
  obtain ⟨fd1, F1⟩ := cA.def_ 1 (d := ⟨fun K => He.fAd K ("is_base", none), "is_base", "is_base", defArgs s_is_base, defBody s_is_base, defScope s_is_base, [], []⟩) rfl
  have F1 : Fun K "is_base" "is_base" s_is_base (He.fAd K ("is_base", none)) fd1 := He5.fun_of F1
  have b1 := F1.binds (ps := ["value"]) fun _ _ _ _ _ _ us hl => match us, hl with | [_], _ => rfl
  obtain ⟨fd2, F2⟩ := cA.def_ 2 (d := ⟨fun K => He.fAd K ("is_span", none), "is_span", "is_span", defArgs s_is_span, defBody s_is_span, defScope s_is_span, [], []⟩) rfl
  have F2 : Fun K "is_span" "is_span" s_is_span (He.fAd K ("is_span", none)) fd2 := He5.fun_of F2
  have b2 := F2.binds (ps := ["value"]) fun _ _ _ _ _ _ us hl => match us, hl with | [_], _ => rfl
  obtain ⟨fd3, F3⟩ := cA.def_ 3 (d := ⟨fun K => He.fAd K ("power_of", none), "power_of", "power_of", defArgs s_power_of, defBody s_power_of, defScope s_power_of, [], []⟩) rfl
  have F3 : Fun K "power_of" "power_of" s_power_of (He.fAd K ("power_of", none)) fd3 := He5.fun_of F3
  have b3 := F3.binds (ps := ["base", "exponent"]) fun _ _ _ _ _ _ us hl => match us, hl with | [_, _], _ => rfl
  obtain ⟨fd4, F4⟩ := cA.def_ 4 (d := ⟨fun K => He.fAd K ("log_of", none), "log_of", "log_of", defArgs s_log_of, defBody s_log_of, defScope s_log_of, [], []⟩) rfl
  have F4 : Fun K "log_of" "log_of" s_log_of (He.fAd K ("log_of", none)) fd4 := He5.fun_of F4
  have b4 := F4.binds (ps := ["base", "number"]) fun _ _ _ _ _ _ us hl => match us, hl with | [_, _], _ => rfl
  obtain ⟨fd5, F5⟩ := cA.def_ 5 (d := ⟨fun K => He.fAd K ("measure", none), "measure", "measure", defArgs s_measure, defBody s_measure, defScope s_measure, [], []⟩) rfl
  have F5 : Fun K "measure" "measure" s_measure (He.fAd K ("measure", none)) fd5 := He5.fun_of F5
  have b5 := F5.binds (ps := ["base", "step", "digits"]) fun _ _ _ _ _ _ us hl => match us, hl with | [_, _, _], _ => rfl
  obtain ⟨fd6, F6⟩ := cA.def_ 6 (d := ⟨fun K => He.fAd K ("reach", none), "reach", "reach", defArgs s_reach, defBody s_reach, defScope s_reach, [], []⟩) rfl
  have F6 : Fun K "reach" "reach" s_reach (He.fAd K ("reach", none)) fd6 := He5.fun_of F6
  have b6 := F6.binds (ps := ["kind", "most", "low", "size"]) fun _ _ _ _ _ _ us hl => match us, hl with | [_, _, _, _], _ => rfl
  obtain ⟨fd7, F7⟩ := cA.def_ 7 (d := ⟨fun K => He.fAd K ("never_fits", none), "never_fits", "never_fits", defArgs s_never_fits, defBody s_never_fits, defScope s_never_fits, [], []⟩) rfl
  have F7 : Fun K "never_fits" "never_fits" s_never_fits (He.fAd K ("never_fits", none)) fd7 := He5.fun_of F7
  have b7 := F7.binds (ps := ["kind", "most", "size", "length"]) fun _ _ _ _ _ _ us hl => match us, hl with | [_, _, _, _], _ => rfl
  obtain ⟨fd8, F8⟩ := cA.def_ 8 (d := ⟨fun K => He.fAd K ("always_fits", none), "always_fits", "always_fits", defArgs s_always_fits, defBody s_always_fits, defScope s_always_fits, [], []⟩) rfl
  have F8 : Fun K "always_fits" "always_fits" s_always_fits (He.fAd K ("always_fits", none)) fd8 := He5.fun_of F8
  have b8 := F8.binds (ps := ["kind", "most", "size", "length"]) fun _ _ _ _ _ _ us hl => match us, hl with | [_, _, _, _], _ => rfl
  obtain ⟨fd9, F9⟩ := cA.def_ 9 (d := ⟨fun K => He.fAd K ("rungs_of", none), "rungs_of", "rungs_of", defArgs s_rungs_of, defBody s_rungs_of, defScope s_rungs_of, [], []⟩) rfl
  have F9 : Fun K "rungs_of" "rungs_of" s_rungs_of (He.fAd K ("rungs_of", none)) fd9 := He5.fun_of F9
  have b9 := F9.binds (ps := ["base", "mantissas"]) fun _ _ _ _ _ _ us hl => match us, hl with | [_, _], _ => rfl
  obtain ⟨fd10, F10⟩ := cA.def_ 10 (d := ⟨fun K => He.fAd K ("step_at", none), "step_at", "step_at", defArgs s_step_at, defBody s_step_at, defScope s_step_at, [], []⟩) rfl
  have F10 : Fun K "step_at" "step_at" s_step_at (He.fAd K ("step_at", none)) fd10 := He5.fun_of F10
  have b10 := F10.binds (ps := ["rungs", "number"]) fun _ _ _ _ _ _ us hl => match us, hl with | [_, _], _ => rfl
  obtain ⟨fd11, F11⟩ := cA.def_ 11 (d := ⟨fun K => He.fAd K ("low_rung", none), "low_rung", "low_rung", defArgs s_low_rung, defBody s_low_rung, defScope s_low_rung, [], []⟩) rfl
  have F11 : Fun K "low_rung" "low_rung" s_low_rung (He.fAd K ("low_rung", none)) fd11 := He5.fun_of F11
  have b11 := F11.binds (ps := ["base", "rungs", "most", "length", "digits"]) fun _ _ _ _ _ _ us hl => match us, hl with | [_, _, _, _, _], _ => rfl
  obtain ⟨fd12, F12⟩ := cA.def_ 12 (d := ⟨fun K => He.fAd K ("candidates", none), "candidates", "candidates", defArgs s_candidates, defBody s_candidates, defScope s_candidates, [], []⟩) rfl
  have F12 : Fun K "candidates" "candidates" s_candidates (He.fAd K ("candidates", none)) fd12 := He5.fun_of F12
  have b12 := F12.binds (ps := ["base", "key", "least", "greatest"]) fun _ _ _ _ _ _ us hl => match us, hl with | [_, _, _, _], _ => rfl
  obtain ⟨fd13, F13⟩ := cA.def_ 13 (d := ⟨fun K => He.fAd K ("_kind_and_most_fit", none), "_kind_and_most_fit", "_kind_and_most_fit", defArgs s_kind_and_most_fit, defBody s_kind_and_most_fit, defScope s_kind_and_most_fit, [], []⟩) rfl
  have F13 : Fun K "_kind_and_most_fit" "_kind_and_most_fit" s_kind_and_most_fit (He.fAd K ("_kind_and_most_fit", none)) fd13 := He5.fun_of F13
  have b13 := F13.binds (ps := ["kind", "most"]) fun _ _ _ _ _ _ us hl => match us, hl with | [_, _], _ => rfl
  obtain ⟨fd14, F14⟩ := cA.def_ 14 (d := ⟨fun K => He.fAd K ("_mantissas_fit", none), "_mantissas_fit", "_mantissas_fit", defArgs s_mantissas_fit, defBody s_mantissas_fit, defScope s_mantissas_fit, [], []⟩) rfl
  have F14 : Fun K "_mantissas_fit" "_mantissas_fit" s_mantissas_fit (He.fAd K ("_mantissas_fit", none)) fd14 := He5.fun_of F14
  have b14 := F14.binds (ps := ["base", "mantissas"]) fun _ _ _ _ _ _ us hl => match us, hl with | [_, _], _ => rfl
  obtain ⟨fd15, F15⟩ := cA.def_ 15 (d := ⟨fun K => He.fAd K ("_arguments_fit", none), "_arguments_fit", "_arguments_fit", defArgs s_arguments_fit, defBody s_arguments_fit, defScope s_arguments_fit, [], []⟩) rfl
  have F15 : Fun K "_arguments_fit" "_arguments_fit" s_arguments_fit (He.fAd K ("_arguments_fit", none)) fd15 := He5.fun_of F15
  have b15 := F15.binds (ps := ["base", "kind", "mantissas", "most"]) fun _ _ _ _ _ _ us hl => match us, hl with | [_, _, _, _], _ => rfl
  obtain ⟨fd16, F16⟩ := cA.def_ 16 (d := ⟨fun K => He.fAd K ("_is_dividing", none), "_is_dividing", "_is_dividing", defArgs s_is_dividing, defBody s_is_dividing, defScope s_is_dividing, [], []⟩) rfl
  have F16 : Fun K "_is_dividing" "_is_dividing" s_is_dividing (He.fAd K ("_is_dividing", none)) fd16 := He5.fun_of F16
  have b16 := F16.binds (ps := ["base", "rungs"]) fun _ _ _ _ _ _ us hl => match us, hl with | [_, _], _ => rfl
  obtain ⟨fd17, F17⟩ := cA.def_ 17 (d := ⟨fun K => He.fAd K ("Rule", some "__init__"), "__init__", "Rule.__init__", defArgs s_Rule_init, defBody s_Rule_init, defScope s_Rule_init, [], []⟩) rfl
  have F17 : Fun K "__init__" "Rule.__init__" s_Rule_init (He.fAd K ("Rule", some "__init__")) fd17 := He5.fun_of F17
  have b17 := F17.binds (ps := ["self", "base", "kind", "mantissas", "most"]) fun _ _ _ _ _ _ us hl => match us, hl with | [_, _, _, _, _], _ => rfl
  obtain ⟨fd18, F18⟩ := cA.def_ 18 (d := ⟨fun K => He.fAd K ("Rule", some "__eq__"), "__eq__", "Rule.__eq__", defArgs s_Rule___eq__, defBody s_Rule___eq__, defScope s_Rule___eq__, [], []⟩) rfl
  have F18 : Fun K "__eq__" "Rule.__eq__" s_Rule___eq__ (He.fAd K ("Rule", some "__eq__")) fd18 := He5.fun_of F18
  have b18 := F18.binds (ps := ["self", "other"]) fun _ _ _ _ _ _ us hl => match us, hl with | [_, _], _ => rfl
  obtain ⟨fd19, F19⟩ := cA.def_ 19 (d := ⟨fun K => He.fAd K ("Rule", some "step"), "step", "Rule.step", defArgs s_Rule_step, defBody s_Rule_step, defScope s_Rule_step, [], []⟩) rfl
  have F19 : Fun K "step" "Rule.step" s_Rule_step (He.fAd K ("Rule", some "step")) fd19 := He5.fun_of F19
  have b19 := F19.binds (ps := ["self", "span"]) fun _ _ _ _ _ _ us hl => match us, hl with | [_, _], _ => rfl
  obtain ⟨fd20, F20⟩ := cA.def_ 20 (d := ⟨fun K => He.fAd K ("Rule", some "marks"), "marks", "Rule.marks", defArgs s_Rule_marks, defBody s_Rule_marks, defScope s_Rule_marks, [], []⟩) rfl
  have F20 : Fun K "marks" "Rule.marks" s_Rule_marks (He.fAd K ("Rule", some "marks")) fd20 := He5.fun_of F20
  have b20 := F20.binds (ps := ["self", "span"]) fun _ _ _ _ _ _ us hl => match us, hl with | [_, _], _ => rfl
  obtain ⟨fd21, F21⟩ := cA.def_ 21 (d := ⟨fun K => He.fAd K ("Rule", some "count"), "count", "Rule.count", defArgs s_Rule_count, defBody s_Rule_count, defScope s_Rule_count, [], []⟩) rfl
  have F21 : Fun K "count" "Rule.count" s_Rule_count (He.fAd K ("Rule", some "count")) fd21 := He5.fun_of F21
  have b21 := F21.binds (ps := ["self", "span"]) fun _ _ _ _ _ _ us hl => match us, hl with | [_, _], _ => rfl
  obtain ⟨fd22, F22⟩ := cA.def_ 22 (d := ⟨fun K => He.fAd K ("Rule", some "_fits"), "_fits", "Rule._fits", defArgs s_Rule__fits, defBody s_Rule__fits, defScope s_Rule__fits, [], []⟩) rfl
  have F22 : Fun K "_fits" "Rule._fits" s_Rule__fits (He.fAd K ("Rule", some "_fits")) fd22 := He5.fun_of F22
  have b22 := F22.binds (ps := ["self", "step", "span"]) fun _ _ _ _ _ _ us hl => match us, hl with | [_, _, _], _ => rfl
  obtain ⟨fd23, F23⟩ := cA.def_ 23 (d := ⟨fun K => He.fAd K ("check_rule", none), "check_rule", "check_rule", defArgs s_check_rule, defBody s_check_rule, defScope s_check_rule, [], []⟩) rfl
  have F23 : Fun K "check_rule" "check_rule" s_check_rule (He.fAd K ("check_rule", none)) fd23 := He5.fun_of F23
  have b23 := F23.binds (ps := ["rule"]) fun _ _ _ _ _ _ us hl => match us, hl with | [_], _ => rfl
  obtain ⟨fd24, F24⟩ := cA.def_ 24 (d := ⟨fun K => He.fAd K ("check_rules_of_one_base", none), "check_rules_of_one_base", "check_rules_of_one_base", defArgs s_check_rules_of_one_base, defBody s_check_rules_of_one_base, defScope s_check_rules_of_one_base, [], []⟩) rfl
  have F24 : Fun K "check_rules_of_one_base" "check_rules_of_one_base" s_check_rules_of_one_base (He.fAd K ("check_rules_of_one_base", none)) fd24 := He5.fun_of F24
  have b24 := F24.binds (ps := ["one", "other"]) fun _ _ _ _ _ _ us hl => match us, hl with | [_, _], _ => rfl
  obtain ⟨fd25, F25⟩ := cA.def_ 25 (d := ⟨fun K => He.fAd K ("check_number", none), "check_number", "check_number", defArgs s_check_number, defBody s_check_number, defScope s_check_number, [], []⟩) rfl
  have F25 : Fun K "check_number" "check_number" s_check_number (He.fAd K ("check_number", none)) fd25 := He5.fun_of F25
  have b25 := F25.binds (ps := ["number", "least"]) fun _ _ _ _ _ _ us hl => match us, hl with | [_, _], _ => rfl
  obtain ⟨fd26, F26⟩ := cA.def_ 26 (d := ⟨fun K => He.fAd K ("comb_of", none), "comb_of", "comb_of", defArgs s_comb_of, defBody s_comb_of, defScope s_comb_of, [], []⟩) rfl
  have F26 : Fun K "comb_of" "comb_of" s_comb_of (He.fAd K ("comb_of", none)) fd26 := He5.fun_of F26
  have b26 := F26.binds (ps := ["size", "width"]) fun _ _ _ _ _ _ us hl => match us, hl with | [_, _], _ => rfl
  obtain ⟨fd27, F27⟩ := cA.def_ 27 (d := ⟨fun K => He.fAd K ("residues", none), "residues", "residues", defArgs s_residues, defBody s_residues, defScope s_residues, [], []⟩) rfl
  have F27 : Fun K "residues" "residues" s_residues (He.fAd K ("residues", none)) fd27 := He5.fun_of F27
  have b27 := F27.binds (ps := ["comb", "first", "past"]) fun _ _ _ _ _ _ us hl => match us, hl with | [_, _, _], _ => rfl
  obtain ⟨fd28, F28⟩ := cA.def_ 28 (d := ⟨fun K => He.fAd K ("fitting_mask", none), "fitting_mask", "fitting_mask", defArgs s_fitting_mask, defBody s_fitting_mask, defScope s_fitting_mask, [], []⟩) rfl
  have F28 : Fun K "fitting_mask" "fitting_mask" s_fitting_mask (He.fAd K ("fitting_mask", none)) fd28 := He5.fun_of F28
  have b28 := F28.binds (ps := ["kind", "most", "size", "comb", "length"]) fun _ _ _ _ _ _ us hl => match us, hl with | [_, _, _, _, _], _ => rfl
  obtain ⟨fd29, F29⟩ := cA.def_ 29 (d := ⟨fun K => He.fAd K ("counts_by_residue", none), "counts_by_residue", "counts_by_residue", defArgs s_counts_by_residue, defBody s_counts_by_residue, defScope s_counts_by_residue, [], []⟩) rfl
  have F29 : Fun K "counts_by_residue" "counts_by_residue" s_counts_by_residue (He.fAd K ("counts_by_residue", none)) fd29 := He5.fun_of F29
  have b29 := F29.binds (ps := ["kind", "size", "length"]) fun _ _ _ _ _ _ us hl => match us, hl with | [_, _, _], _ => rfl
  obtain ⟨fd30, F30⟩ := cA.def_ 30 (d := ⟨fun K => He.fAd K ("counted_mask", none), "counted_mask", "counted_mask", defArgs s_counted_mask, defBody s_counted_mask, defScope s_counted_mask, [], []⟩) rfl
  have F30 : Fun K "counted_mask" "counted_mask" s_counted_mask (He.fAd K ("counted_mask", none)) fd30 := He5.fun_of F30
  have b30 := F30.binds (ps := ["kind", "size", "comb", "length", "least", "most"]) fun _ _ _ _ _ _ us hl => match us, hl with | [_, _, _, _, _, _], _ => rfl
  obtain ⟨fd31, F31⟩ := cA.def_ 31 (d := ⟨fun K => He.fAd K ("touching_mask", none), "touching_mask", "touching_mask", defArgs s_touching_mask, defBody s_touching_mask, defScope s_touching_mask, [], []⟩) rfl
  have F31 : Fun K "touching_mask" "touching_mask" s_touching_mask (He.fAd K ("touching_mask", none)) fd31 := He5.fun_of F31
  have b31 := F31.binds (ps := ["size", "comb", "length", "end"]) fun _ _ _ _ _ _ us hl => match us, hl with | [_, _, _, _], _ => rfl
  obtain ⟨fd32, F32⟩ := cA.def_ 32 (d := ⟨fun K => He.fAd K ("key_of", none), "key_of", "key_of", defArgs s_key_of, defBody s_key_of, defScope s_key_of, [], []⟩) rfl
  have F32 : Fun K "key_of" "key_of" s_key_of (He.fAd K ("key_of", none)) fd32 := He5.fun_of F32
  have b32 := F32.binds (ps := ["rule"]) fun _ _ _ _ _ _ us hl => match us, hl with | [_], _ => rfl
  obtain ⟨fd33, F33⟩ := cA.def_ 33 (d := ⟨fun K => He.fAd K ("rule_of", none), "rule_of", "rule_of", defArgs s_rule_of, defBody s_rule_of, defScope s_rule_of, [], []⟩) rfl
  have F33 : Fun K "rule_of" "rule_of" s_rule_of (He.fAd K ("rule_of", none)) fd33 := He5.fun_of F33
  have b33 := F33.binds (ps := ["base", "key"]) fun _ _ _ _ _ _ us hl => match us, hl with | [_, _], _ => rfl
  obtain ⟨fd34, F34⟩ := cA.def_ 34 (d := ⟨fun K => He.fAd K ("keys_of", none), "keys_of", "keys_of", defArgs s_keys_of, defBody s_keys_of, defScope s_keys_of, [], []⟩) rfl
  have F34 : Fun K "keys_of" "keys_of" s_keys_of (He.fAd K ("keys_of", none)) fd34 := He5.fun_of F34
  have b34 := F34.binds (ps := ["formula"]) fun _ _ _ _ _ _ us hl => match us, hl with | [_], _ => rfl
  obtain ⟨fd35, F35⟩ := cA.def_ 35 (d := ⟨fun K => He.fAd K ("compare_steps", none), "compare_steps", "compare_steps", defArgs s_compare_steps, defBody s_compare_steps, defScope s_compare_steps, [], []⟩) rfl
  have F35 : Fun K "compare_steps" "compare_steps" s_compare_steps (He.fAd K ("compare_steps", none)) fd35 := He5.fun_of F35
  have b35 := F35.binds (ps := ["base", "one", "other"]) fun _ _ _ _ _ _ us hl => match us, hl with | [_, _, _], _ => rfl
  obtain ⟨fd36, F36⟩ := cA.def_ 36 (d := ⟨fun K => He.fAd K ("holds", none), "holds", "holds", defArgs s_holds, defBody s_holds, defScope s_holds, [], []⟩) rfl
  have F36 : Fun K "holds" "holds" s_holds (He.fAd K ("holds", none)) fd36 := He5.fun_of F36
  have b36 := F36.binds (ps := ["base", "formula", "span"]) fun _ _ _ _ _ _ us hl => match us, hl with | [_, _, _], _ => rfl
  obtain ⟨fd37, F37⟩ := cA.def_ 37 (d := ⟨fun K => He.fAd K ("_states", none), "_states", "_states", defArgs s_states, defBody s_states, defScope s_states, [], []⟩) rfl
  have F37 : Fun K "_states" "_states" s_states (He.fAd K ("_states", none)) fd37 := He5.fun_of F37
  have b37 := F37.binds (ps := ["base", "formula", "span"]) fun _ _ _ _ _ _ us hl => match us, hl with | [_, _, _], _ => rfl
  obtain ⟨fd38, F38⟩ := cA.def_ 38 (d := ⟨fun K => He.fAd K ("mask_of", none), "mask_of", "mask_of", defArgs s_mask_of, defBody s_mask_of, defScope s_mask_of, [], []⟩) rfl
  have F38 : Fun K "mask_of" "mask_of" s_mask_of (He.fAd K ("mask_of", none)) fd38 := He5.fun_of F38
  have b38 := F38.binds (ps := ["formula", "row"]) fun _ _ _ _ _ _ us hl => match us, hl with | [_, _], _ => rfl
  obtain ⟨fd39, F39⟩ := cA.def_ 39 (d := ⟨fun K => He.fAd K ("_statement_mask", none), "_statement_mask", "_statement_mask", defArgs s_statement_mask, defBody s_statement_mask, defScope s_statement_mask, [], []⟩) rfl
  have F39 : Fun K "_statement_mask" "_statement_mask" s_statement_mask (He.fAd K ("_statement_mask", none)) fd39 := He5.fun_of F39
  have b39 := F39.binds (ps := ["formula", "row"]) fun _ _ _ _ _ _ us hl => match us, hl with | [_, _], _ => rfl
  obtain ⟨fd40, F40⟩ := cA.def_ 40 (d := ⟨fun K => He.fAd K ("_coarser_mask", none), "_coarser_mask", "_coarser_mask", defArgs s_coarser_mask, defBody s_coarser_mask, defScope s_coarser_mask, [], []⟩) rfl
  have F40 : Fun K "_coarser_mask" "_coarser_mask" s_coarser_mask (He.fAd K ("_coarser_mask", none)) fd40 := He5.fun_of F40
  have b40 := F40.binds (ps := ["formula", "row"]) fun _ _ _ _ _ _ us hl => match us, hl with | [_, _], _ => rfl
  obtain ⟨fd41, F41⟩ := cA.def_ 41 (d := ⟨fun K => He.fAd K ("digits_of", none), "digits_of", "digits_of", defArgs s_digits_of, defBody s_digits_of, defScope s_digits_of, [], []⟩) rfl
  have F41 : Fun K "digits_of" "digits_of" s_digits_of (He.fAd K ("digits_of", none)) fd41 := He5.fun_of F41
  have b41 := F41.binds (ps := ["ladders"]) fun _ _ _ _ _ _ us hl => match us, hl with | [_], _ => rfl
  obtain ⟨fd42, F42⟩ := cA.def_ 42 (d := ⟨fun K => He.fAd K ("sized", none), "sized", "sized", defArgs s_sized, defBody s_sized, defScope s_sized, [], []⟩) rfl
  have F42 : Fun K "sized" "sized" s_sized (He.fAd K ("sized", none)) fd42 := He5.fun_of F42
  have b42 := F42.binds (ps := ["base", "steps", "digits"]) fun _ _ _ _ _ _ us hl => match us, hl with | [_, _, _], _ => rfl
  obtain ⟨fd43, F43⟩ := cA.def_ 43 (d := ⟨fun K => He.fAd K ("quartered", none), "quartered", "quartered", defArgs s_quartered, defBody s_quartered, defScope s_quartered, [], []⟩) rfl
  have F43 : Fun K "quartered" "quartered" s_quartered (He.fAd K ("quartered", none)) fd43 := He5.fun_of F43
  have b43 := F43.binds (ps := ["ladders", "unit", "stride"]) fun _ _ _ _ _ _ us hl => match us, hl with | [_, _, _], _ => rfl
  obtain ⟨fd44, F44⟩ := cA.def_ 44 (d := ⟨fun K => He.fAd K ("row_of", none), "row_of", "row_of", defArgs s_row_of, defBody s_row_of, defScope s_row_of, [], []⟩) rfl
  have F44 : Fun K "row_of" "row_of" s_row_of (He.fAd K ("row_of", none)) fd44 := He5.fun_of F44
  have b44 := F44.binds (ps := ["length", "width", "ladders"]) fun _ _ _ _ _ _ us hl => match us, hl with | [_, _, _], _ => rfl
  obtain ⟨fd45, F45⟩ := cA.def_ 45 (d := ⟨fun K => He.fAd K ("_shares", none), "_shares", "_shares", defArgs s_shares, defBody s_shares, defScope s_shares, [], []⟩) rfl
  have F45 : Fun K "_shares" "_shares" s_shares (He.fAd K ("_shares", none)) fd45 := He5.fun_of F45
  have b45 := F45.binds (ps := ["key", "ladder", "length", "full"]) fun _ _ _ _ _ _ us hl => match us, hl with | [_, _, _, _], _ => rfl
  obtain ⟨fd46, F46⟩ := cA.def_ 46 (d := ⟨fun K => He.fAd K ("_bounds", none), "_bounds", "_bounds", defArgs s_bounds, defBody s_bounds, defScope s_bounds, [], []⟩) rfl
  have F46 : Fun K "_bounds" "_bounds" s_bounds (He.fAd K ("_bounds", none)) fd46 := He5.fun_of F46
  have b46 := F46.binds (ps := ["base", "ladders", "digits"]) fun _ _ _ _ _ _ us hl => match us, hl with | [_, _, _], _ => rfl
  obtain ⟨fd47, F47⟩ := cA.def_ 47 (d := ⟨fun K => He.fAd K ("_counting", none), "_counting", "_counting", defArgs s_counting, defBody s_counting, defScope s_counting, [], []⟩) rfl
  have F47 : Fun K "_counting" "_counting" s_counting (He.fAd K ("_counting", none)) fd47 := He5.fun_of F47
  have b47 := F47.binds (ps := ["key", "steps", "first", "past"]) fun _ _ _ _ _ _ us hl => match us, hl with | [_, _, _, _], _ => rfl
  obtain ⟨fd48, F48⟩ := cA.def_ 48 (d := ⟨fun K => He.fAd K ("lengths_of_rows", none), "lengths_of_rows", "lengths_of_rows", defArgs s_lengths_of_rows, defBody s_lengths_of_rows, defScope s_lengths_of_rows, [], []⟩) rfl
  have F48 : Fun K "lengths_of_rows" "lengths_of_rows" s_lengths_of_rows (He.fAd K ("lengths_of_rows", none)) fd48 := He5.fun_of F48
  have b48 := F48.binds (ps := ["base", "keys"]) fun _ _ _ _ _ _ us hl => match us, hl with | [_, _], _ => rfl
  obtain ⟨fd49, F49⟩ := cA.def_ 49 (d := ⟨fun K => He.fAd K ("has_members", none), "has_members", "has_members", defArgs s_has_members, defBody s_has_members, defScope s_has_members, [], []⟩) rfl
  have F49 : Fun K "has_members" "has_members" s_has_members (He.fAd K ("has_members", none)) fd49 := He5.fun_of F49
  have b49 := F49.binds (ps := ["base", "formula"]) fun _ _ _ _ _ _ us hl => match us, hl with | [_, _], _ => rfl
  obtain ⟨fd50, F50⟩ := cA.def_ 50 (d := ⟨fun K => He.fAd K ("_check_operand", none), "_check_operand", "_check_operand", defArgs s_check_operand, defBody s_check_operand, defScope s_check_operand, [], []⟩) rfl
  have F50 : Fun K "_check_operand" "_check_operand" s_check_operand (He.fAd K ("_check_operand", none)) fd50 := He5.fun_of F50
  have b50 := F50.binds (ps := ["left", "right"]) fun _ _ _ _ _ _ us hl => match us, hl with | [_, _], _ => rfl
  obtain ⟨fd51, F51⟩ := cA.def_ 51 (d := ⟨fun K => He.fAd K ("RangeSet", some "__init__"), "__init__", "RangeSet.__init__", defArgs s_RangeSet_init, defBody s_RangeSet_init, defScope s_RangeSet_init, [], []⟩) rfl
  have F51 : Fun K "__init__" "RangeSet.__init__" s_RangeSet_init (He.fAd K ("RangeSet", some "__init__")) fd51 := He5.fun_of F51
  have b51 := F51.binds (ps := ["self", "base", "formula"]) fun _ _ _ _ _ _ us hl => match us, hl with | [_, _, _], _ => rfl
  obtain ⟨fd52, F52⟩ := cA.def_ 52 (d := ⟨fun K => He.fAd K ("RangeSet", some "__and__"), "__and__", "RangeSet.__and__", defArgs s_RangeSet___and__, defBody s_RangeSet___and__, defScope s_RangeSet___and__, [], []⟩) rfl
  have F52 : Fun K "__and__" "RangeSet.__and__" s_RangeSet___and__ (He.fAd K ("RangeSet", some "__and__")) fd52 := He5.fun_of F52
  have b52 := F52.binds (ps := ["self", "other"]) fun _ _ _ _ _ _ us hl => match us, hl with | [_, _], _ => rfl
  obtain ⟨fd53, F53⟩ := cA.def_ 53 (d := ⟨fun K => He.fAd K ("RangeSet", some "__or__"), "__or__", "RangeSet.__or__", defArgs s_RangeSet___or__, defBody s_RangeSet___or__, defScope s_RangeSet___or__, [], []⟩) rfl
  have F53 : Fun K "__or__" "RangeSet.__or__" s_RangeSet___or__ (He.fAd K ("RangeSet", some "__or__")) fd53 := He5.fun_of F53
  have b53 := F53.binds (ps := ["self", "other"]) fun _ _ _ _ _ _ us hl => match us, hl with | [_, _], _ => rfl
  obtain ⟨fd54, F54⟩ := cA.def_ 54 (d := ⟨fun K => He.fAd K ("RangeSet", some "__invert__"), "__invert__", "RangeSet.__invert__", defArgs s_RangeSet___invert__, defBody s_RangeSet___invert__, defScope s_RangeSet___invert__, [], []⟩) rfl
  have F54 : Fun K "__invert__" "RangeSet.__invert__" s_RangeSet___invert__ (He.fAd K ("RangeSet", some "__invert__")) fd54 := He5.fun_of F54
  have b54 := F54.binds (ps := ["self"]) fun _ _ _ _ _ _ us hl => match us, hl with | [_], _ => rfl
  obtain ⟨fd55, F55⟩ := cA.def_ 55 (d := ⟨fun K => He.fAd K ("RangeSet", some "__le__"), "__le__", "RangeSet.__le__", defArgs s_RangeSet___le__, defBody s_RangeSet___le__, defScope s_RangeSet___le__, [], []⟩) rfl
  have F55 : Fun K "__le__" "RangeSet.__le__" s_RangeSet___le__ (He.fAd K ("RangeSet", some "__le__")) fd55 := He5.fun_of F55
  have b55 := F55.binds (ps := ["self", "other"]) fun _ _ _ _ _ _ us hl => match us, hl with | [_, _], _ => rfl
  obtain ⟨fd56, F56⟩ := cA.def_ 56 (d := ⟨fun K => He.fAd K ("RangeSet", some "__eq__"), "__eq__", "RangeSet.__eq__", defArgs s_RangeSet___eq__, defBody s_RangeSet___eq__, defScope s_RangeSet___eq__, [], []⟩) rfl
  have F56 : Fun K "__eq__" "RangeSet.__eq__" s_RangeSet___eq__ (He.fAd K ("RangeSet", some "__eq__")) fd56 := He5.fun_of F56
  have b56 := F56.binds (ps := ["self", "other"]) fun _ _ _ _ _ _ us hl => match us, hl with | [_, _], _ => rfl
  obtain ⟨fd57, F57⟩ := cA.def_ 57 (d := ⟨fun K => He.fAd K ("RangeSet", some "__bool__"), "__bool__", "RangeSet.__bool__", defArgs s_RangeSet___bool__, defBody s_RangeSet___bool__, defScope s_RangeSet___bool__, [], []⟩) rfl
  have F57 : Fun K "__bool__" "RangeSet.__bool__" s_RangeSet___bool__ (He.fAd K ("RangeSet", some "__bool__")) fd57 := He5.fun_of F57
  have b57 := F57.binds (ps := ["self"]) fun _ _ _ _ _ _ us hl => match us, hl with | [_], _ => rfl
  obtain ⟨fd58, F58⟩ := cA.def_ 58 (d := ⟨fun K => He.fAd K ("counted", none), "counted", "counted", defArgs s_counted, defBody s_counted, defScope s_counted, [He.Dv.non], []⟩) rfl
  have F58 : FunD K "counted" "counted" (defArgs s_counted) (defBody s_counted) (defScope s_counted) [.non] [] (He.fAd K ("counted", none)) fd58 := F58
  have b58 : Binds K fd58 ["rule", "least", "most"] [] := by
    obtain ⟨ds, v, B⟩ := F58.binds1 (ps := ["rule", "least", "most"]) 3 1 (by simp) rfl fun _ _ _ _ _ _ _ us its hl hi => match us, hl, its, hi with | [_, _, _], _, [_], _ => ⟨_, rfl, rfl⟩
    have v : Vals [] ds := v
    cases v
    exact B
  have b1_58 : ∃ ds, Vals [.non] ds ∧ Binds K fd58 ["rule", "least", "most"] ds := F58.binds1 (ps := ["rule", "least", "most"]) 2 0 (by simp) rfl fun _ _ _ _ _ _ _ us its hl hi => match us, hl, its, hi with | [_, _], _, [_], _ => ⟨_, rfl, rfl⟩
  obtain ⟨fd59, F59⟩ := cA.def_ 59 (d := ⟨fun K => He.fAd K ("taken", none), "taken", "taken", defArgs s_taken, defBody s_taken, defScope s_taken, [], []⟩) rfl
  have F59 : Fun K "taken" "taken" s_taken (He.fAd K ("taken", none)) fd59 := He5.fun_of F59
  have b59 := F59.binds (ps := ["rule", "mantissa"]) fun _ _ _ _ _ _ us hl => match us, hl with | [_, _], _ => rfl
  obtain ⟨fd60, F60⟩ := cA.def_ 60 (d := ⟨fun K => He.fAd K ("_is_factor", none), "_is_factor", "_is_factor", defArgs s_is_factor, defBody s_is_factor, defScope s_is_factor, [], []⟩) rfl
  have F60 : Fun K "_is_factor" "_is_factor" s_is_factor (He.fAd K ("_is_factor", none)) fd60 := He5.fun_of F60
  have b60 := F60.binds (ps := ["times"]) fun _ _ _ _ _ _ us hl => match us, hl with | [_], _ => rfl
  obtain ⟨fd61, F61⟩ := cA.def_ 61 (d := ⟨fun K => He.fAd K ("coarser", none), "coarser", "coarser", defArgs s_coarser, defBody s_coarser, defScope s_coarser, [He.Dv.adr (He.dflAt ("coarser", none) 0)], []⟩) rfl
  have F61 : FunD K "coarser" "coarser" (defArgs s_coarser) (defBody s_coarser) (defScope s_coarser) [.ref (He.dflAt ("coarser", none) 0 K)] [] (He.fAd K ("coarser", none)) fd61 := F61
  have b61 : Binds K fd61 ["one", "other", "times"] [] := by
    obtain ⟨ds, v, B⟩ := F61.binds1 (ps := ["one", "other", "times"]) 3 1 (by simp) rfl fun _ _ _ _ _ _ _ us its hl hi => match us, hl, its, hi with | [_, _, _], _, [_], _ => ⟨_, rfl, rfl⟩
    have v : Vals [] ds := v
    cases v
    exact B
  have b1_61 : ∃ ds, Vals [.ref (He.dflAt ("coarser", none) 0 K)] ds ∧ Binds K fd61 ["one", "other", "times"] ds := F61.binds1 (ps := ["one", "other", "times"]) 2 0 (by simp) rfl fun _ _ _ _ _ _ _ us its hl hi => match us, hl, its, hi with | [_, _], _, [_], _ => ⟨_, rfl, rfl⟩
  obtain ⟨fd62, F62⟩ := cA.def_ 62 (d := ⟨fun K => He.fAd K ("_law_purse", none), "_law_purse", "_law_purse", defArgs s_law_purse, defBody s_law_purse, defScope s_law_purse, [], []⟩) rfl
  have F62 : Fun K "_law_purse" "_law_purse" s_law_purse (He.fAd K ("_law_purse", none)) fd62 := He5.fun_of F62
  have b62 := F62.binds (ps := ["_law_script", "_law_at"]) fun _ _ _ _ _ _ us hl => match us, hl with | [_, _], _ => rfl
  obtain ⟨fd63, F63⟩ := cA.def_ 63 (d := ⟨fun K => He.fAd K ("_law_draw", none), "_law_draw", "_law_draw", defArgs s_law_draw, defBody s_law_draw, defScope s_law_draw, [], []⟩) rfl
  have F63 : Fun K "_law_draw" "_law_draw" s_law_draw (He.fAd K ("_law_draw", none)) fd63 := He5.fun_of F63
  have b63 := F63.binds (ps := ["_law_purse_here", "_law_many"]) fun _ _ _ _ _ _ us hl => match us, hl with | [_, _], _ => rfl
  obtain ⟨fd64, F64⟩ := cA.def_ 64 (d := ⟨fun K => He.fAd K ("_law_pick", none), "_law_pick", "_law_pick", defArgs s_law_pick, defBody s_law_pick, defScope s_law_pick, [], []⟩) rfl
  have F64 : Fun K "_law_pick" "_law_pick" s_law_pick (He.fAd K ("_law_pick", none)) fd64 := He5.fun_of F64
  have b64 := F64.binds (ps := ["_law_purse_here", "_law_items"]) fun _ _ _ _ _ _ us hl => match us, hl with | [_, _], _ => rfl
  obtain ⟨fd65, F65⟩ := cA.def_ 65 (d := ⟨fun K => He.fAd K ("_law_family", none), "_law_family", "_law_family", defArgs s_law_family, defBody s_law_family, defScope s_law_family, [], []⟩) rfl
  have F65 : Fun K "_law_family" "_law_family" s_law_family (He.fAd K ("_law_family", none)) fd65 := He5.fun_of F65
  have b65 := F65.binds (ps := ["_law_purse_here"]) fun _ _ _ _ _ _ us hl => match us, hl with | [_], _ => rfl
  obtain ⟨fd66, F66⟩ := cA.def_ 66 (d := ⟨fun K => He.fAd K ("_law_rule", none), "_law_rule", "_law_rule", defArgs s_law_rule, defBody s_law_rule, defScope s_law_rule, [], []⟩) rfl
  have F66 : Fun K "_law_rule" "_law_rule" s_law_rule (He.fAd K ("_law_rule", none)) fd66 := He5.fun_of F66
  have b66 := F66.binds (ps := ["_law_purse_here", "_law_family_here"]) fun _ _ _ _ _ _ us hl => match us, hl with | [_, _], _ => rfl
  obtain ⟨fd67, F67⟩ := cA.def_ 67 (d := ⟨fun K => He.fAd K ("_law_made", none), "_law_made", "_law_made", defArgs s_law_made, defBody s_law_made, defScope s_law_made, [], []⟩) rfl
  have F67 : Fun K "_law_made" "_law_made" s_law_made (He.fAd K ("_law_made", none)) fd67 := He5.fun_of F67
  have b67 := F67.binds (ps := ["_law_rule_here"]) fun _ _ _ _ _ _ us hl => match us, hl with | [_], _ => rfl
  obtain ⟨fd68, F68⟩ := cA.def_ 68 (d := ⟨fun K => He.fAd K ("_law_are_parts", none), "_law_are_parts", "_law_are_parts", defArgs s_law_are_parts, defBody s_law_are_parts, defScope s_law_are_parts, [], []⟩) rfl
  have F68 : Fun K "_law_are_parts" "_law_are_parts" s_law_are_parts (He.fAd K ("_law_are_parts", none)) fd68 := He5.fun_of F68
  have b68 := F68.binds (ps := ["_law_parts", "_law_every"]) fun _ _ _ _ _ _ us hl => match us, hl with | [_, _], _ => rfl
  obtain ⟨fd69, F69⟩ := cA.def_ 69 (d := ⟨fun K => He.fAd K ("law", none), "law", "law", defArgs s_law, defBody s_law, defScope s_law, [], []⟩) rfl
  have F69 : Fun K "law" "law" s_law (He.fAd K ("law", none)) fd69 := He5.fun_of F69
  have b69 := F69.binds (ps := ["_law_script"]) fun _ _ _ _ _ _ us hl => match us, hl with | [_], _ => rfl
  obtain ⟨fd70, F70⟩ := cA.def_ 70 (d := ⟨fun K => He5.wf K (He.ga K "Rule") "property" "base", "base", "Rule.base", defArgs s_Rule_base, defBody s_Rule_base, defScope s_Rule_base, [], []⟩) rfl
  have F70 : Fun K "base" "Rule.base" s_Rule_base (He5.wf K (He.ga K "Rule") "property" "base") fd70 := He5.fun_of F70
  have b70 := F70.binds (ps := ["self"]) fun _ _ _ _ _ _ us hl => match us, hl with | [_], _ => rfl
  obtain ⟨fd71, F71⟩ := cA.def_ 71 (d := ⟨fun K => He5.wf K (He.ga K "Rule") "property" "kind", "kind", "Rule.kind", defArgs s_Rule_kind, defBody s_Rule_kind, defScope s_Rule_kind, [], []⟩) rfl
  have F71 : Fun K "kind" "Rule.kind" s_Rule_kind (He5.wf K (He.ga K "Rule") "property" "kind") fd71 := He5.fun_of F71
  have b71 := F71.binds (ps := ["self"]) fun _ _ _ _ _ _ us hl => match us, hl with | [_], _ => rfl
  obtain ⟨fd72, F72⟩ := cA.def_ 72 (d := ⟨fun K => He5.wf K (He.ga K "Rule") "property" "most", "most", "Rule.most", defArgs s_Rule_most, defBody s_Rule_most, defScope s_Rule_most, [], []⟩) rfl
  have F72 : Fun K "most" "Rule.most" s_Rule_most (He5.wf K (He.ga K "Rule") "property" "most") fd72 := He5.fun_of F72
  have b72 := F72.binds (ps := ["self"]) fun _ _ _ _ _ _ us hl => match us, hl with | [_], _ => rfl
  obtain ⟨fd73, F73⟩ := cA.def_ 73 (d := ⟨fun K => He5.wf K (He.ga K "Rule") "property" "mantissas", "mantissas", "Rule.mantissas", defArgs s_Rule_mantissas, defBody s_Rule_mantissas, defScope s_Rule_mantissas, [], []⟩) rfl
  have F73 : Fun K "mantissas" "Rule.mantissas" s_Rule_mantissas (He5.wf K (He.ga K "Rule") "property" "mantissas") fd73 := He5.fun_of F73
  have b73 := F73.binds (ps := ["self"]) fun _ _ _ _ _ _ us hl => match us, hl with | [_], _ => rfl
  obtain ⟨fd74, F74⟩ := cA.def_ 74 (d := ⟨fun K => He5.wf K (He.ga K "RangeSet") "property" "base", "base", "RangeSet.base", defArgs s_RangeSet_base, defBody s_RangeSet_base, defScope s_RangeSet_base, [], []⟩) rfl
  have F74 : Fun K "base" "RangeSet.base" s_RangeSet_base (He5.wf K (He.ga K "RangeSet") "property" "base") fd74 := He5.fun_of F74
  have b74 := F74.binds (ps := ["self"]) fun _ _ _ _ _ _ us hl => match us, hl with | [_], _ => rfl
  obtain ⟨fd75, F75⟩ := cA.def_ 75 (d := ⟨fun K => He5.wf K (He.ga K "RangeSet") "classmethod" "every", "every", "RangeSet.every", defArgs s_RangeSet_every, defBody s_RangeSet_every, defScope s_RangeSet_every, [], []⟩) rfl
  have F75 : Fun K "every" "RangeSet.every" s_RangeSet_every (He5.wf K (He.ga K "RangeSet") "classmethod" "every") fd75 := He5.fun_of F75
  have b75 := F75.binds (ps := ["cls", "base"]) fun _ _ _ _ _ _ us hl => match us, hl with | [_, _], _ => rfl
  let A : Adr := {
    a_is_whole := He.fAd K ("is_whole", none)
    d_is_whole := fd0
    a_is_base := He.fAd K ("is_base", none)
    d_is_base := fd1
    a_is_span := He.fAd K ("is_span", none)
    d_is_span := fd2
    a_power_of := He.fAd K ("power_of", none)
    d_power_of := fd3
    a_log_of := He.fAd K ("log_of", none)
    d_log_of := fd4
    a_measure := He.fAd K ("measure", none)
    d_measure := fd5
    a_reach := He.fAd K ("reach", none)
    d_reach := fd6
    a_never_fits := He.fAd K ("never_fits", none)
    d_never_fits := fd7
    a_always_fits := He.fAd K ("always_fits", none)
    d_always_fits := fd8
    a_rungs_of := He.fAd K ("rungs_of", none)
    d_rungs_of := fd9
    a_step_at := He.fAd K ("step_at", none)
    d_step_at := fd10
    a_low_rung := He.fAd K ("low_rung", none)
    d_low_rung := fd11
    a_candidates := He.fAd K ("candidates", none)
    d_candidates := fd12
    a_kind_and_most_fit := He.fAd K ("_kind_and_most_fit", none)
    d_kind_and_most_fit := fd13
    a_mantissas_fit := He.fAd K ("_mantissas_fit", none)
    d_mantissas_fit := fd14
    a_arguments_fit := He.fAd K ("_arguments_fit", none)
    d_arguments_fit := fd15
    a_is_dividing := He.fAd K ("_is_dividing", none)
    d_is_dividing := fd16
    a_Rule_init := He.fAd K ("Rule", some "__init__")
    d_Rule_init := fd17
    a_Rule___eq__ := He.fAd K ("Rule", some "__eq__")
    d_Rule___eq__ := fd18
    a_Rule_step := He.fAd K ("Rule", some "step")
    d_Rule_step := fd19
    a_Rule_marks := He.fAd K ("Rule", some "marks")
    d_Rule_marks := fd20
    a_Rule_count := He.fAd K ("Rule", some "count")
    d_Rule_count := fd21
    a_Rule__fits := He.fAd K ("Rule", some "_fits")
    d_Rule__fits := fd22
    a_check_rule := He.fAd K ("check_rule", none)
    d_check_rule := fd23
    a_check_rules_of_one_base := He.fAd K ("check_rules_of_one_base", none)
    d_check_rules_of_one_base := fd24
    a_check_number := He.fAd K ("check_number", none)
    d_check_number := fd25
    a_comb_of := He.fAd K ("comb_of", none)
    d_comb_of := fd26
    a_residues := He.fAd K ("residues", none)
    d_residues := fd27
    a_fitting_mask := He.fAd K ("fitting_mask", none)
    d_fitting_mask := fd28
    a_counts_by_residue := He.fAd K ("counts_by_residue", none)
    d_counts_by_residue := fd29
    a_counted_mask := He.fAd K ("counted_mask", none)
    d_counted_mask := fd30
    a_touching_mask := He.fAd K ("touching_mask", none)
    d_touching_mask := fd31
    a_key_of := He.fAd K ("key_of", none)
    d_key_of := fd32
    a_rule_of := He.fAd K ("rule_of", none)
    d_rule_of := fd33
    a_keys_of := He.fAd K ("keys_of", none)
    d_keys_of := fd34
    a_compare_steps := He.fAd K ("compare_steps", none)
    d_compare_steps := fd35
    a_holds := He.fAd K ("holds", none)
    d_holds := fd36
    a_states := He.fAd K ("_states", none)
    d_states := fd37
    a_mask_of := He.fAd K ("mask_of", none)
    d_mask_of := fd38
    a_statement_mask := He.fAd K ("_statement_mask", none)
    d_statement_mask := fd39
    a_coarser_mask := He.fAd K ("_coarser_mask", none)
    d_coarser_mask := fd40
    a_digits_of := He.fAd K ("digits_of", none)
    d_digits_of := fd41
    a_sized := He.fAd K ("sized", none)
    d_sized := fd42
    a_quartered := He.fAd K ("quartered", none)
    d_quartered := fd43
    a_row_of := He.fAd K ("row_of", none)
    d_row_of := fd44
    a_shares := He.fAd K ("_shares", none)
    d_shares := fd45
    a_bounds := He.fAd K ("_bounds", none)
    d_bounds := fd46
    a_counting := He.fAd K ("_counting", none)
    d_counting := fd47
    a_lengths_of_rows := He.fAd K ("lengths_of_rows", none)
    d_lengths_of_rows := fd48
    a_has_members := He.fAd K ("has_members", none)
    d_has_members := fd49
    a_check_operand := He.fAd K ("_check_operand", none)
    d_check_operand := fd50
    a_RangeSet_init := He.fAd K ("RangeSet", some "__init__")
    d_RangeSet_init := fd51
    a_RangeSet___and__ := He.fAd K ("RangeSet", some "__and__")
    d_RangeSet___and__ := fd52
    a_RangeSet___or__ := He.fAd K ("RangeSet", some "__or__")
    d_RangeSet___or__ := fd53
    a_RangeSet___invert__ := He.fAd K ("RangeSet", some "__invert__")
    d_RangeSet___invert__ := fd54
    a_RangeSet___le__ := He.fAd K ("RangeSet", some "__le__")
    d_RangeSet___le__ := fd55
    a_RangeSet___eq__ := He.fAd K ("RangeSet", some "__eq__")
    d_RangeSet___eq__ := fd56
    a_RangeSet___bool__ := He.fAd K ("RangeSet", some "__bool__")
    d_RangeSet___bool__ := fd57
    a_counted := He.fAd K ("counted", none)
    d_counted := fd58
    dv_counted := .non
    a_taken := He.fAd K ("taken", none)
    d_taken := fd59
    a_is_factor := He.fAd K ("_is_factor", none)
    d_is_factor := fd60
    a_coarser := He.fAd K ("coarser", none)
    d_coarser := fd61
    dv_coarser := .ref (He.dflAt ("coarser", none) 0 K)
    a_law_purse := He.fAd K ("_law_purse", none)
    d_law_purse := fd62
    a_law_draw := He.fAd K ("_law_draw", none)
    d_law_draw := fd63
    a_law_pick := He.fAd K ("_law_pick", none)
    d_law_pick := fd64
    a_law_family := He.fAd K ("_law_family", none)
    d_law_family := fd65
    a_law_rule := He.fAd K ("_law_rule", none)
    d_law_rule := fd66
    a_law_made := He.fAd K ("_law_made", none)
    d_law_made := fd67
    a_law_are_parts := He.fAd K ("_law_are_parts", none)
    d_law_are_parts := fd68
    a_law := He.fAd K ("law", none)
    d_law := fd69
    a_Rule_base := He5.wf K (He.ga K "Rule") "property" "base"
    d_Rule_base := fd70
    p_Rule_base := He.ma K (He.ga K "Rule") "base"
    a_Rule_kind := He5.wf K (He.ga K "Rule") "property" "kind"
    d_Rule_kind := fd71
    p_Rule_kind := He.ma K (He.ga K "Rule") "kind"
    a_Rule_most := He5.wf K (He.ga K "Rule") "property" "most"
    d_Rule_most := fd72
    p_Rule_most := He.ma K (He.ga K "Rule") "most"
    a_Rule_mantissas := He5.wf K (He.ga K "Rule") "property" "mantissas"
    d_Rule_mantissas := fd73
    p_Rule_mantissas := He.ma K (He.ga K "Rule") "mantissas"
    a_RangeSet_base := He5.wf K (He.ga K "RangeSet") "property" "base"
    d_RangeSet_base := fd74
    p_RangeSet_base := He.ma K (He.ga K "RangeSet") "base"
    a_every := He5.wf K (He.ga K "RangeSet") "classmethod" "every"
    d_every := fd75
    p_every := He.ma K (He.ga K "RangeSet") "every"
    c_RangeSet := He.ga K "RangeSet"
    a_PARTS := He.ga K "PARTS"
    a_KEYS := He.ga K "KEYS"
    c_Rule := He.ga K "Rule"
    a_LEAST := He.ga K "LEAST_MOST" }
  have T : Txt K mg A w := {
    F_Rule_base := F70
    B_Rule_base := b70
    pr_Rule_base := ⟨He.eqO_ok (allB_at cX 0), He.eqO_ok (allB_at cX 1), of_decide_eq_true (allB_at cX 2), recB_is (allB_at cX 3)⟩
    F_Rule_kind := F71
    B_Rule_kind := b71
    pr_Rule_kind := ⟨He.eqO_ok (allB_at cX 4), He.eqO_ok (allB_at cX 5), of_decide_eq_true (allB_at cX 6), recB_is (allB_at cX 7)⟩
    F_Rule_most := F72
    B_Rule_most := b72
    pr_Rule_most := ⟨He.eqO_ok (allB_at cX 8), He.eqO_ok (allB_at cX 9), of_decide_eq_true (allB_at cX 10), recB_is (allB_at cX 11)⟩
    F_Rule_mantissas := F73
    B_Rule_mantissas := b73
    pr_Rule_mantissas := ⟨He.eqO_ok (allB_at cX 12), He.eqO_ok (allB_at cX 13), of_decide_eq_true (allB_at cX 14), recB_is (allB_at cX 15)⟩
    F_RangeSet_base := F74
    B_RangeSet_base := b74
    pr_RangeSet_base := ⟨He.eqO_ok (allB_at cX 16), He.eqO_ok (allB_at cX 17), of_decide_eq_true (allB_at cX 18), recB_is (allB_at cX 19)⟩
    n_len := He.free_ok X G (cA.fact 68 (f := .free "len") rfl)
    n_isinstance := He.free_ok X G (cA.fact 69 (f := .free "isinstance") rfl)
    n_all := He.free_ok X G (cA.fact 70 (f := .free "all") rfl)
    n_int := He.free_ok X G (cA.fact 71 (f := .free "int") rfl)
    n_bool := He.free_ok X G (cA.fact 72 (f := .free "bool") rfl)
    n_str := He.free_ok X G (cA.fact 73 (f := .free "str") rfl)
    n_tuple := He.free_ok X G (cA.fact 74 (f := .free "tuple") rfl)
    n_list := He.free_ok X G (cA.fact 75 (f := .free "list") rfl)
    n_range := He.free_ok X G (cA.fact 76 (f := .free "range") rfl)
    n_reversed := He.free_ok X G (cA.fact 77 (f := .free "reversed") rfl)
    n_zip := He.free_ok X G (cA.fact 78 (f := .free "zip") rfl)
    n_max := He.free_ok X G (cA.fact 79 (f := .free "max") rfl)
    n_min := He.free_ok X G (cA.fact 80 (f := .free "min") rfl)
    n_abs := He.free_ok X G (cA.fact 81 (f := .free "abs") rfl)
    n_sorted := He.free_ok X G (cA.fact 82 (f := .free "sorted") rfl)
    n_set := He.free_ok X G (cA.fact 83 (f := .free "set") rfl)
    n_divmod := He.free_ok X G (cA.fact 84 (f := .free "divmod") rfl)
    n_repr := He.free_ok X G (cA.fact 85 (f := .free "repr") rfl)
    n_enumerate := He.free_ok X G (cA.fact 86 (f := .free "enumerate") rfl)
    F_is_whole := F0
    B_is_whole := b0
    m_is_whole := He.glo_ok X G (cA.fact 0 (f := .glo "is_whole") rfl)
    F_is_base := F1
    B_is_base := b1
    m_is_base := He.glo_ok X G (cA.fact 1 (f := .glo "is_base") rfl)
    F_is_span := F2
    B_is_span := b2
    m_is_span := He.glo_ok X G (cA.fact 2 (f := .glo "is_span") rfl)
    F_power_of := F3
    B_power_of := b3
    m_power_of := He.glo_ok X G (cA.fact 3 (f := .glo "power_of") rfl)
    F_log_of := F4
    B_log_of := b4
    m_log_of := He.glo_ok X G (cA.fact 4 (f := .glo "log_of") rfl)
    F_measure := F5
    B_measure := b5
    m_measure := He.glo_ok X G (cA.fact 5 (f := .glo "measure") rfl)
    F_reach := F6
    B_reach := b6
    m_reach := He.glo_ok X G (cA.fact 6 (f := .glo "reach") rfl)
    F_never_fits := F7
    B_never_fits := b7
    m_never_fits := He.glo_ok X G (cA.fact 7 (f := .glo "never_fits") rfl)
    F_always_fits := F8
    B_always_fits := b8
    m_always_fits := He.glo_ok X G (cA.fact 8 (f := .glo "always_fits") rfl)
    F_rungs_of := F9
    B_rungs_of := b9
    m_rungs_of := He.glo_ok X G (cA.fact 9 (f := .glo "rungs_of") rfl)
    F_step_at := F10
    B_step_at := b10
    m_step_at := He.glo_ok X G (cA.fact 10 (f := .glo "step_at") rfl)
    F_low_rung := F11
    B_low_rung := b11
    m_low_rung := He.glo_ok X G (cA.fact 11 (f := .glo "low_rung") rfl)
    F_candidates := F12
    B_candidates := b12
    m_candidates := He.glo_ok X G (cA.fact 12 (f := .glo "candidates") rfl)
    F_kind_and_most_fit := F13
    B_kind_and_most_fit := b13
    m_kind_and_most_fit := He.glo_ok X G (cA.fact 13 (f := .glo "_kind_and_most_fit") rfl)
    F_mantissas_fit := F14
    B_mantissas_fit := b14
    m_mantissas_fit := He.glo_ok X G (cA.fact 14 (f := .glo "_mantissas_fit") rfl)
    F_arguments_fit := F15
    B_arguments_fit := b15
    m_arguments_fit := He.glo_ok X G (cA.fact 15 (f := .glo "_arguments_fit") rfl)
    F_is_dividing := F16
    B_is_dividing := b16
    m_is_dividing := He.glo_ok X G (cA.fact 16 (f := .glo "_is_dividing") rfl)
    F_Rule_init := F17
    B_Rule_init := b17
    F_Rule___eq__ := F18
    B_Rule___eq__ := b18
    t_Rule___eq__ := He.meth_ok (cA.fact 17 (f := .meth "Rule" "__eq__") rfl)
    F_Rule_step := F19
    B_Rule_step := b19
    t_Rule_step := He.meth_ok (cA.fact 18 (f := .meth "Rule" "step") rfl)
    F_Rule_marks := F20
    B_Rule_marks := b20
    t_Rule_marks := He.meth_ok (cA.fact 19 (f := .meth "Rule" "marks") rfl)
    F_Rule_count := F21
    B_Rule_count := b21
    t_Rule_count := He.meth_ok (cA.fact 20 (f := .meth "Rule" "count") rfl)
    F_Rule__fits := F22
    B_Rule__fits := b22
    t_Rule__fits := He.meth_ok (cA.fact 21 (f := .meth "Rule" "_fits") rfl)
    F_check_rule := F23
    B_check_rule := b23
    m_check_rule := He.glo_ok X G (cA.fact 22 (f := .glo "check_rule") rfl)
    F_check_rules_of_one_base := F24
    B_check_rules_of_one_base := b24
    m_check_rules_of_one_base := He.glo_ok X G (cA.fact 23 (f := .glo "check_rules_of_one_base") rfl)
    F_check_number := F25
    B_check_number := b25
    m_check_number := He.glo_ok X G (cA.fact 24 (f := .glo "check_number") rfl)
    F_comb_of := F26
    B_comb_of := b26
    m_comb_of := He.glo_ok X G (cA.fact 25 (f := .glo "comb_of") rfl)
    F_residues := F27
    B_residues := b27
    m_residues := He.glo_ok X G (cA.fact 26 (f := .glo "residues") rfl)
    F_fitting_mask := F28
    B_fitting_mask := b28
    m_fitting_mask := He.glo_ok X G (cA.fact 27 (f := .glo "fitting_mask") rfl)
    F_counts_by_residue := F29
    B_counts_by_residue := b29
    m_counts_by_residue := He.glo_ok X G (cA.fact 28 (f := .glo "counts_by_residue") rfl)
    F_counted_mask := F30
    B_counted_mask := b30
    m_counted_mask := He.glo_ok X G (cA.fact 29 (f := .glo "counted_mask") rfl)
    F_touching_mask := F31
    B_touching_mask := b31
    m_touching_mask := He.glo_ok X G (cA.fact 30 (f := .glo "touching_mask") rfl)
    F_key_of := F32
    B_key_of := b32
    m_key_of := He.glo_ok X G (cA.fact 31 (f := .glo "key_of") rfl)
    F_rule_of := F33
    B_rule_of := b33
    m_rule_of := He.glo_ok X G (cA.fact 32 (f := .glo "rule_of") rfl)
    F_keys_of := F34
    B_keys_of := b34
    m_keys_of := He.glo_ok X G (cA.fact 33 (f := .glo "keys_of") rfl)
    F_compare_steps := F35
    B_compare_steps := b35
    m_compare_steps := He.glo_ok X G (cA.fact 34 (f := .glo "compare_steps") rfl)
    F_holds := F36
    B_holds := b36
    m_holds := He.glo_ok X G (cA.fact 35 (f := .glo "holds") rfl)
    F_states := F37
    B_states := b37
    m_states := He.glo_ok X G (cA.fact 36 (f := .glo "_states") rfl)
    F_mask_of := F38
    B_mask_of := b38
    m_mask_of := He.glo_ok X G (cA.fact 37 (f := .glo "mask_of") rfl)
    F_statement_mask := F39
    B_statement_mask := b39
    m_statement_mask := He.glo_ok X G (cA.fact 38 (f := .glo "_statement_mask") rfl)
    F_coarser_mask := F40
    B_coarser_mask := b40
    m_coarser_mask := He.glo_ok X G (cA.fact 39 (f := .glo "_coarser_mask") rfl)
    F_digits_of := F41
    B_digits_of := b41
    m_digits_of := He.glo_ok X G (cA.fact 40 (f := .glo "digits_of") rfl)
    F_sized := F42
    B_sized := b42
    m_sized := He.glo_ok X G (cA.fact 41 (f := .glo "sized") rfl)
    F_quartered := F43
    B_quartered := b43
    m_quartered := He.glo_ok X G (cA.fact 42 (f := .glo "quartered") rfl)
    F_row_of := F44
    B_row_of := b44
    m_row_of := He.glo_ok X G (cA.fact 43 (f := .glo "row_of") rfl)
    F_shares := F45
    B_shares := b45
    m_shares := He.glo_ok X G (cA.fact 44 (f := .glo "_shares") rfl)
    F_bounds := F46
    B_bounds := b46
    m_bounds := He.glo_ok X G (cA.fact 45 (f := .glo "_bounds") rfl)
    F_counting := F47
    B_counting := b47
    m_counting := He.glo_ok X G (cA.fact 46 (f := .glo "_counting") rfl)
    F_lengths_of_rows := F48
    B_lengths_of_rows := b48
    m_lengths_of_rows := He.glo_ok X G (cA.fact 47 (f := .glo "lengths_of_rows") rfl)
    F_has_members := F49
    B_has_members := b49
    m_has_members := He.glo_ok X G (cA.fact 48 (f := .glo "has_members") rfl)
    F_check_operand := F50
    B_check_operand := b50
    m_check_operand := He.glo_ok X G (cA.fact 49 (f := .glo "_check_operand") rfl)
    F_RangeSet_init := F51
    B_RangeSet_init := b51
    F_RangeSet___and__ := F52
    B_RangeSet___and__ := b52
    t_RangeSet___and__ := He.meth_ok (cA.fact 50 (f := .meth "RangeSet" "__and__") rfl)
    F_RangeSet___or__ := F53
    B_RangeSet___or__ := b53
    t_RangeSet___or__ := He.meth_ok (cA.fact 51 (f := .meth "RangeSet" "__or__") rfl)
    F_RangeSet___invert__ := F54
    B_RangeSet___invert__ := b54
    t_RangeSet___invert__ := He.meth_ok (cA.fact 52 (f := .meth "RangeSet" "__invert__") rfl)
    F_RangeSet___le__ := F55
    B_RangeSet___le__ := b55
    t_RangeSet___le__ := He.meth_ok (cA.fact 53 (f := .meth "RangeSet" "__le__") rfl)
    F_RangeSet___eq__ := F56
    B_RangeSet___eq__ := b56
    t_RangeSet___eq__ := He.meth_ok (cA.fact 54 (f := .meth "RangeSet" "__eq__") rfl)
    F_RangeSet___bool__ := F57
    B_RangeSet___bool__ := b57
    t_RangeSet___bool__ := He.meth_ok (cA.fact 55 (f := .meth "RangeSet" "__bool__") rfl)
    F_counted := F58
    B_counted := b58
    df_counted := rfl
    B1_counted := b1_58
    m_counted := He.glo_ok X G (cA.fact 56 (f := .glo "counted") rfl)
    F_taken := F59
    B_taken := b59
    m_taken := He.glo_ok X G (cA.fact 57 (f := .glo "taken") rfl)
    F_is_factor := F60
    B_is_factor := b60
    m_is_factor := He.glo_ok X G (cA.fact 58 (f := .glo "_is_factor") rfl)
    F_coarser := F61
    B_coarser := b61
    B1_coarser := b1_61
    df_coarser := ⟨_, rfl, tupB_is (allB_at cX 54)⟩
    m_coarser := He.glo_ok X G (cA.fact 59 (f := .glo "coarser") rfl)
    F_law_purse := F62
    B_law_purse := b62
    m_law_purse := He.glo_ok X G (cA.fact 60 (f := .glo "_law_purse") rfl)
    F_law_draw := F63
    B_law_draw := b63
    m_law_draw := He.glo_ok X G (cA.fact 61 (f := .glo "_law_draw") rfl)
    F_law_pick := F64
    B_law_pick := b64
    m_law_pick := He.glo_ok X G (cA.fact 62 (f := .glo "_law_pick") rfl)
    F_law_family := F65
    B_law_family := b65
    m_law_family := He.glo_ok X G (cA.fact 63 (f := .glo "_law_family") rfl)
    F_law_rule := F66
    B_law_rule := b66
    m_law_rule := He.glo_ok X G (cA.fact 64 (f := .glo "_law_rule") rfl)
    F_law_made := F67
    B_law_made := b67
    m_law_made := He.glo_ok X G (cA.fact 65 (f := .glo "_law_made") rfl)
    F_law_are_parts := F68
    B_law_are_parts := b68
    m_law_are_parts := He.glo_ok X G (cA.fact 66 (f := .glo "_law_are_parts") rfl)
    F_law := F69
    B_law := b69
    m_law := He.glo_ok X G (cA.fact 67 (f := .glo "law") rfl)
    cl := He.cls_ok (cA.fact 88 (f := .cls "Rule") rfl)
    c_Rule := He.glo_ok X G (cA.fact 87 (f := .glo "Rule") rfl)
    mk_Rule := He.mkr_ok (cA.fact 89 (f := .mkr "Rule") rfl)
    na_base := He.noat_ok (cA.fact 90 (f := .noat "Rule" "_base") rfl)
    na_kind := He.noat_ok (cA.fact 91 (f := .noat "Rule" "_kind") rfl)
    na_mantissas := He.noat_ok (cA.fact 92 (f := .noat "Rule" "_mantissas") rfl)
    na_most := He.noat_ok (cA.fact 93 (f := .noat "Rule" "_most") rfl)
    na_dividing := He.noat_ok (cA.fact 94 (f := .noat "Rule" "_dividing") rfl)
    na_rungs := He.noat_ok (cA.fact 95 (f := .noat "Rule" "_rungs") rfl)
    ic := ⟨He.cls_ok (cA.fact 88 (f := .cls "Rule") rfl), He.eqO_ok (allB_at cX 20), He.eqO_ok (allB_at cX 24), of_decide_eq_true (allB_at cX 25), of_decide_eq_true (allB_at cX 21), by unfold PySem.W.kitOne; exact if_pos (beq_self_eq_true _)⟩
    cl2 := He.cls_ok (cA.fact 97 (f := .cls "RangeSet") rfl)
    c_RangeSet := He.glo_ok X G (cA.fact 96 (f := .glo "RangeSet") rfl)
    mk_RangeSet := He.mkr_ok (cA.fact 98 (f := .mkr "RangeSet") rfl)
    nb_base := He.noat_ok (cA.fact 99 (f := .noat "RangeSet" "_base") rfl)
    nb_formula := He.noat_ok (cA.fact 100 (f := .noat "RangeSet" "_formula") rfl)
    ic2 := ⟨He.cls_ok (cA.fact 97 (f := .cls "RangeSet") rfl), He.eqO_ok (allB_at cX 22), He.eqO_ok (allB_at cX 24), of_decide_eq_true (allB_at cX 25), of_decide_eq_true (allB_at cX 23), by unfold PySem.W.kitOne; exact if_pos (beq_self_eq_true _)⟩
    F_every := F75
    B_every := b75
    cr_every := ⟨(allB_at cX 27), He.eqO_ok (allB_at cX 28)⟩
    cm_every := He5.cmet_of (allB_at cX 29) (allB_at cX 30)
    sf2 := (allB_at cX 26)
    m_PARTS := He.glo_ok X G (cA.fact 103 (f := .glo "PARTS") rfl)
    kdP := tab 1 _ rfl
    pa_and := hasB_is (allB_at cX 31)
    pa_or := hasB_is (allB_at cX 32)
    pa_xor := hasB_is (allB_at cX 33)
    pa_counted := He.eqO_ok (allB_at cX 34)
    pa_taken := He.eqO_ok (allB_at cX 35)
    pa_coarser := He.eqO_ok (allB_at cX 36)
    pa_touched := He.eqO_ok (allB_at cX 37)
    m_UNIT := He.int_ok X G (cA.fact 101 (f := .int "UNIT" 4) rfl)
    m_KEYS := He.glo_ok X G (cA.fact 104 (f := .glo "KEYS") rfl)
    kdK := tab 2 _ rfl
    ky_counted := intB_is (allB_at cX 38)
    ky_taken := intB_is (allB_at cX 39)
    ky_coarser := intB_is (allB_at cX 40)
    ky_touched := intB_is (allB_at cX 41)
    ky_all := He.eqO_ok (allB_at cX 42)
    ky_not := He.eqO_ok (allB_at cX 43)
    ky_and := He.eqO_ok (allB_at cX 44)
    ky_or := He.eqO_ok (allB_at cX 45)
    ky_xor := He.eqO_ok (allB_at cX 46)
    pt_all := intB_is (allB_at cX 47)
    pt_not := intB_is (allB_at cX 48)
    pt_and := intB_is (allB_at cX 49)
    pt_or := intB_is (allB_at cX 50)
    pt_xor := intB_is (allB_at cX 51)
    ne_RangeSet := neB_is (allB_at cX 58)
    g_gcd := PySem.W.mg_of X G (He.eqO_ok (allB_at cX 52))
    g_lcm := PySem.W.mg_of X G (He.eqO_ok (allB_at cX 53))
    m_LEAST_MOST := He.glo_ok X G (cA.fact 102 (f := .glo "LEAST_MOST") rfl)
    kd := tab 0 _ rfl
    kd_inside := intB_is (allB_at cX 55)
    kd_cover := intB_is (allB_at cX 56)
    kd_length := intB_is (allB_at cX 57) }
  obtain ⟨oc, od, kV, doc, pm, an, cdv, ct, osl, eF, _, _⟩ := F69.ex
  exact ⟨_, fun s v => .of_eq (by rw [show A.d_law = fd69 from rfl, eF]; rfl), fun base _ _ => ok_law (A := A) T⟩
end Ax

open PySem PySem.W PyProof.Rows in
set_option maxRecDepth 100000 in
set_option maxHeartbeats 0 in
theorem PySem.Challenge.cw_axisticks_k29_whole_ranges_parted_by_rul_holds : PySem.Challenge.rw_axisticks_k29_whole_ranges_parted_by_rul.Holds := by
  w_on; o_law
  refine HandSHeadRun.head_imp (r := Ax.rowK) (q := Ax.vwK) (H := Ax.hkK) (ob := Ax.obK) (M := 20000) (loose := Ax.nmK) (d := HandSHeadRun.topDef Ax.rowK.prog 87) (kwd := []) Ax.obK_is Ax.run_all
    (by kernel_rfl) (by kernel_rfl) (by kernel_rfl) (by rfl) (by first | assumption | decide +kernel) (by decide +kernel) ⟨rfl, rfl, rfl, rfl, rfl, by decide +kernel⟩ ?hw ?hc
  case hw => w_witness2
  case hc =>
    refine L2.walk_ofE (l := PySem.Challenge.rw_axisticks_k29_whole_ranges_parted_by_rul) (n := 63) (k := 22) (x := "_law_script") (CX := L2.CX0) rfl (by decide) (by kernel_rfl) ⟨rfl, by decide, by decide⟩ ?F (fun _ _ _ _ z => z)
    intro w mg fa h Y G hmg0
    obtain ⟨K, KX, c⟩ := Y
    have hmg : mg ("law" : PySem.Str) = some (.ref fa) := by
      have e : (HandSHeadRun.topDef Ax.rowK.prog 87).name = ("law" : PySem.Str) := by kernel_rfl
      rw [← e]
      exact hmg0
    obtain ⟨fd, hb, hF⟩ := Ax.all_mk (l := PySem.Challenge.rw_axisticks_k29_whole_ranges_parted_by_rul) KX G hmg c
    exact ⟨K, fd, Ax.spLaw K, KX, hb, fun H a ns hl _ hS => ⟨a, ns, rfl, hS, hl, fun _ => rfl⟩, hF⟩


