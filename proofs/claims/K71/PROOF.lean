import PyProof.Rows.All
import Wide.All
import OpenK.AllK
import Wide.FinOn
import HandS.ForMost
import HandS.IsInst
import HandS.Wide
import HandS.WideBits
import HandS.More
import HandS.NoneIn
import HandS.SortKw
import HandS.Zip
import HandS.Property
import HandS.Codes
import KE.KMinBuiltin
import HandS.Walk
import HandS.Evl
import HandS.Style
import PyProof.P3Eq
import PyProof.ReprRoads
import PySem.Challenge.RW_axisticks_k71_whole_dividing_in_any_orde
set_option Elab.async false
set_option linter.all false
set_option maxRecDepth 100000
set_option maxHeartbeats 4000000
/-! # The program's defs, one promise each. -/
namespace Ax
open PySem L2
def top (i : Nat) : Stmt := PySem.Challenge.pw_axisticks_k71_whole_dividing_in_any_orde.main.body.getD i (.Pass ⟨0, 0, 0, 0⟩)
abbrev s_is_whole : Stmt := top 2
abbrev s_is_base : Stmt := top 3
abbrev s_is_span : Stmt := top 4
abbrev s_power_of : Stmt := top 11
abbrev s_log_of : Stmt := top 12
abbrev s_measure : Stmt := top 14
abbrev s_reach : Stmt := top 15
abbrev s_rungs_of : Stmt := top 17
abbrev s_step_at : Stmt := top 18
abbrev s_low_rung : Stmt := top 19
abbrev s_kind_and_most_fit : Stmt := top 22
abbrev s_mantissas_fit : Stmt := top 23
abbrev s_arguments_fit : Stmt := top 24
abbrev s_is_dividing : Stmt := top 25
abbrev s_Rule_init : Stmt := inClass (top 26) 0
abbrev s_Rule_step : Stmt := inClass (top 26) 7
abbrev s_Rule_marks : Stmt := inClass (top 26) 8
abbrev s_Rule__fits : Stmt := inClass (top 26) 10
abbrev s_check_rule : Stmt := top 28
abbrev s_shape_of : Stmt := top 30
abbrev s_span_of : Stmt := top 31
abbrev s_widen : Stmt := top 32
abbrev s_next_shape : Stmt := top 33
abbrev s_course : Stmt := top 34
abbrev s_are_rules : Stmt := top 36
abbrev s_check_rules : Stmt := top 37
abbrev s_check_span : Stmt := top 38
abbrev s_reduced : Stmt := top 39
abbrev s_widened : Stmt := top 40
abbrev s_settle : Stmt := top 41
abbrev s_law_purse : Stmt := top 43
abbrev s_law_draw : Stmt := top 44
abbrev s_law_pick : Stmt := top 45
abbrev s_law_raised : Stmt := top 46
abbrev s_law_made_rules : Stmt := top 47
abbrev s_law_drawn_span : Stmt := top 48
abbrev s_law_is_dividing : Stmt := top 49
abbrev s_law_dividing_rules : Stmt := top 50
abbrev s_law_is_within : Stmt := top 51
abbrev s_law_inner : Stmt := top 52
abbrev s_law_ends_alike : Stmt := top 53
abbrev s_law : Stmt := top 54
abbrev s_Rule_base : Stmt := inClass (top 26) 1
abbrev s_Rule_kind : Stmt := inClass (top 26) 2
structure Adr where
  a_is_whole : Addr
  d_is_whole : FuncData
  a_is_base : Addr
  d_is_base : FuncData
  a_is_span : Addr
  d_is_span : FuncData
  a_power_of : Addr
  d_power_of : FuncData
  a_log_of : Addr
  d_log_of : FuncData
  a_measure : Addr
  d_measure : FuncData
  a_reach : Addr
  d_reach : FuncData
  a_rungs_of : Addr
  d_rungs_of : FuncData
  a_step_at : Addr
  d_step_at : FuncData
  a_low_rung : Addr
  d_low_rung : FuncData
  a_kind_and_most_fit : Addr
  d_kind_and_most_fit : FuncData
  a_mantissas_fit : Addr
  d_mantissas_fit : FuncData
  a_arguments_fit : Addr
  d_arguments_fit : FuncData
  a_is_dividing : Addr
  d_is_dividing : FuncData
  a_Rule_init : Addr
  d_Rule_init : FuncData
  a_Rule_step : Addr
  d_Rule_step : FuncData
  a_Rule_marks : Addr
  d_Rule_marks : FuncData
  a_Rule__fits : Addr
  d_Rule__fits : FuncData
  a_check_rule : Addr
  d_check_rule : FuncData
  a_shape_of : Addr
  d_shape_of : FuncData
  a_span_of : Addr
  d_span_of : FuncData
  a_widen : Addr
  d_widen : FuncData
  a_next_shape : Addr
  d_next_shape : FuncData
  a_course : Addr
  d_course : FuncData
  a_are_rules : Addr
  d_are_rules : FuncData
  a_check_rules : Addr
  d_check_rules : FuncData
  a_check_span : Addr
  d_check_span : FuncData
  a_reduced : Addr
  d_reduced : FuncData
  a_widened : Addr
  d_widened : FuncData
  a_settle : Addr
  d_settle : FuncData
  a_law_purse : Addr
  d_law_purse : FuncData
  a_law_draw : Addr
  d_law_draw : FuncData
  a_law_pick : Addr
  d_law_pick : FuncData
  a_law_raised : Addr
  d_law_raised : FuncData
  a_law_made_rules : Addr
  d_law_made_rules : FuncData
  a_law_drawn_span : Addr
  d_law_drawn_span : FuncData
  a_law_is_dividing : Addr
  d_law_is_dividing : FuncData
  a_law_dividing_rules : Addr
  d_law_dividing_rules : FuncData
  a_law_is_within : Addr
  d_law_is_within : FuncData
  a_law_inner : Addr
  d_law_inner : FuncData
  a_law_ends_alike : Addr
  d_law_ends_alike : FuncData
  a_law : Addr
  d_law : FuncData
  a_Rule_base : Addr
  d_Rule_base : FuncData
  p_Rule_base : Addr
  a_Rule_kind : Addr
  d_Rule_kind : FuncData
  p_Rule_kind : Addr
  c_Rule : Addr
  a_LEAST : Addr

structure Txt (K : PySem.W.Frag) (mg : Str → Option Value) (A : Adr) (w : World) : Prop where
  n_len : mg "len" = none
  n_isinstance : mg "isinstance" = none
  n_all : mg "all" = none
  n_int : mg "int" = none
  n_bool : mg "bool" = none
  n_str : mg "str" = none
  n_tuple : mg "tuple" = none
  n_list : mg "list" = none
  n_range : mg "range" = none
  n_reversed : mg "reversed" = none
  n_zip : mg "zip" = none
  n_max : mg "max" = none
  n_min : mg "min" = none
  n_abs : mg "abs" = none
  n_sorted : mg "sorted" = none
  n_set : mg "set" = none
  n_divmod : mg "divmod" = none
  n_repr : mg "repr" = none
  n_enumerate : mg "enumerate" = none
  F_is_whole : Fun K "is_whole" "is_whole" s_is_whole A.a_is_whole A.d_is_whole
  B_is_whole : Binds K A.d_is_whole ["value"] []
  m_is_whole : mg "is_whole" = some (.ref A.a_is_whole)
  F_is_base : Fun K "is_base" "is_base" s_is_base A.a_is_base A.d_is_base
  B_is_base : Binds K A.d_is_base ["value"] []
  m_is_base : mg "is_base" = some (.ref A.a_is_base)
  F_is_span : Fun K "is_span" "is_span" s_is_span A.a_is_span A.d_is_span
  B_is_span : Binds K A.d_is_span ["value"] []
  m_is_span : mg "is_span" = some (.ref A.a_is_span)
  F_power_of : Fun K "power_of" "power_of" s_power_of A.a_power_of A.d_power_of
  B_power_of : Binds K A.d_power_of ["base", "exponent"] []
  m_power_of : mg "power_of" = some (.ref A.a_power_of)
  F_log_of : Fun K "log_of" "log_of" s_log_of A.a_log_of A.d_log_of
  B_log_of : Binds K A.d_log_of ["base", "number"] []
  m_log_of : mg "log_of" = some (.ref A.a_log_of)
  F_measure : Fun K "measure" "measure" s_measure A.a_measure A.d_measure
  B_measure : Binds K A.d_measure ["base", "step", "digits"] []
  m_measure : mg "measure" = some (.ref A.a_measure)
  F_reach : Fun K "reach" "reach" s_reach A.a_reach A.d_reach
  B_reach : Binds K A.d_reach ["kind", "most", "low", "size"] []
  m_reach : mg "reach" = some (.ref A.a_reach)
  F_rungs_of : Fun K "rungs_of" "rungs_of" s_rungs_of A.a_rungs_of A.d_rungs_of
  B_rungs_of : Binds K A.d_rungs_of ["base", "mantissas"] []
  m_rungs_of : mg "rungs_of" = some (.ref A.a_rungs_of)
  F_step_at : Fun K "step_at" "step_at" s_step_at A.a_step_at A.d_step_at
  B_step_at : Binds K A.d_step_at ["rungs", "number"] []
  m_step_at : mg "step_at" = some (.ref A.a_step_at)
  F_low_rung : Fun K "low_rung" "low_rung" s_low_rung A.a_low_rung A.d_low_rung
  B_low_rung : Binds K A.d_low_rung ["base", "rungs", "most", "length", "digits"] []
  m_low_rung : mg "low_rung" = some (.ref A.a_low_rung)
  F_kind_and_most_fit : Fun K "_kind_and_most_fit" "_kind_and_most_fit" s_kind_and_most_fit A.a_kind_and_most_fit A.d_kind_and_most_fit
  B_kind_and_most_fit : Binds K A.d_kind_and_most_fit ["kind", "most"] []
  m_kind_and_most_fit : mg "_kind_and_most_fit" = some (.ref A.a_kind_and_most_fit)
  F_mantissas_fit : Fun K "_mantissas_fit" "_mantissas_fit" s_mantissas_fit A.a_mantissas_fit A.d_mantissas_fit
  B_mantissas_fit : Binds K A.d_mantissas_fit ["base", "mantissas"] []
  m_mantissas_fit : mg "_mantissas_fit" = some (.ref A.a_mantissas_fit)
  F_arguments_fit : Fun K "_arguments_fit" "_arguments_fit" s_arguments_fit A.a_arguments_fit A.d_arguments_fit
  B_arguments_fit : Binds K A.d_arguments_fit ["base", "kind", "mantissas", "most"] []
  m_arguments_fit : mg "_arguments_fit" = some (.ref A.a_arguments_fit)
  F_is_dividing : Fun K "_is_dividing" "_is_dividing" s_is_dividing A.a_is_dividing A.d_is_dividing
  B_is_dividing : Binds K A.d_is_dividing ["base", "rungs"] []
  m_is_dividing : mg "_is_dividing" = some (.ref A.a_is_dividing)
  F_Rule_init : Fun K "__init__" "Rule.__init__" s_Rule_init A.a_Rule_init A.d_Rule_init
  B_Rule_init : Binds K A.d_Rule_init ["self", "base", "kind", "mantissas", "most"] []
  F_Rule_step : Fun K "step" "Rule.step" s_Rule_step A.a_Rule_step A.d_Rule_step
  B_Rule_step : Binds K A.d_Rule_step ["self", "span"] []
  t_Rule_step : Meth K A.c_Rule "step" A.a_Rule_step
  F_Rule_marks : Fun K "marks" "Rule.marks" s_Rule_marks A.a_Rule_marks A.d_Rule_marks
  B_Rule_marks : Binds K A.d_Rule_marks ["self", "span"] []
  t_Rule_marks : Meth K A.c_Rule "marks" A.a_Rule_marks
  F_Rule__fits : Fun K "_fits" "Rule._fits" s_Rule__fits A.a_Rule__fits A.d_Rule__fits
  B_Rule__fits : Binds K A.d_Rule__fits ["self", "step", "span"] []
  t_Rule__fits : Meth K A.c_Rule "_fits" A.a_Rule__fits
  F_check_rule : Fun K "check_rule" "check_rule" s_check_rule A.a_check_rule A.d_check_rule
  B_check_rule : Binds K A.d_check_rule ["rule"] []
  m_check_rule : mg "check_rule" = some (.ref A.a_check_rule)
  F_shape_of : Fun K "shape_of" "shape_of" s_shape_of A.a_shape_of A.d_shape_of
  B_shape_of : Binds K A.d_shape_of ["base", "span"] []
  m_shape_of : mg "shape_of" = some (.ref A.a_shape_of)
  F_span_of : Fun K "span_of" "span_of" s_span_of A.a_span_of A.d_span_of
  B_span_of : Binds K A.d_span_of ["base", "shape"] []
  m_span_of : mg "span_of" = some (.ref A.a_span_of)
  F_widen : Fun K "widen" "widen" s_widen A.a_widen A.d_widen
  B_widen : Binds K A.d_widen ["rule", "span"] []
  m_widen : mg "widen" = some (.ref A.a_widen)
  F_next_shape : Fun K "next_shape" "next_shape" s_next_shape A.a_next_shape A.d_next_shape
  B_next_shape : Binds K A.d_next_shape ["rules", "shape"] []
  m_next_shape : mg "next_shape" = some (.ref A.a_next_shape)
  F_course : Fun K "course" "course" s_course A.a_course A.d_course
  B_course : Binds K A.d_course ["rules", "shape"] []
  m_course : mg "course" = some (.ref A.a_course)
  F_are_rules : Fun K "_are_rules" "_are_rules" s_are_rules A.a_are_rules A.d_are_rules
  B_are_rules : Binds K A.d_are_rules ["rules"] []
  m_are_rules : mg "_are_rules" = some (.ref A.a_are_rules)
  F_check_rules : Fun K "_check_rules" "_check_rules" s_check_rules A.a_check_rules A.d_check_rules
  B_check_rules : Binds K A.d_check_rules ["rules"] []
  m_check_rules : mg "_check_rules" = some (.ref A.a_check_rules)
  F_check_span : Fun K "_check_span" "_check_span" s_check_span A.a_check_span A.d_check_span
  B_check_span : Binds K A.d_check_span ["span"] []
  m_check_span : mg "_check_span" = some (.ref A.a_check_span)
  F_reduced : Fun K "_reduced" "_reduced" s_reduced A.a_reduced A.d_reduced
  B_reduced : Binds K A.d_reduced ["base", "span"] []
  m_reduced : mg "_reduced" = some (.ref A.a_reduced)
  F_widened : Fun K "widened" "widened" s_widened A.a_widened A.d_widened
  B_widened : Binds K A.d_widened ["rule", "span"] []
  m_widened : mg "widened" = some (.ref A.a_widened)
  F_settle : Fun K "settle" "settle" s_settle A.a_settle A.d_settle
  B_settle : Binds K A.d_settle ["rules", "span"] []
  m_settle : mg "settle" = some (.ref A.a_settle)
  F_law_purse : Fun K "_law_purse" "_law_purse" s_law_purse A.a_law_purse A.d_law_purse
  B_law_purse : Binds K A.d_law_purse ["_law_script", "_law_at"] []
  m_law_purse : mg "_law_purse" = some (.ref A.a_law_purse)
  F_law_draw : Fun K "_law_draw" "_law_draw" s_law_draw A.a_law_draw A.d_law_draw
  B_law_draw : Binds K A.d_law_draw ["_law_purse_here", "_law_many"] []
  m_law_draw : mg "_law_draw" = some (.ref A.a_law_draw)
  F_law_pick : Fun K "_law_pick" "_law_pick" s_law_pick A.a_law_pick A.d_law_pick
  B_law_pick : Binds K A.d_law_pick ["_law_purse_here", "_law_items"] []
  m_law_pick : mg "_law_pick" = some (.ref A.a_law_pick)
  F_law_raised : Fun K "_law_raised" "_law_raised" s_law_raised A.a_law_raised A.d_law_raised
  B_law_raised : Binds K A.d_law_raised ["_law_base", "_law_many"] []
  m_law_raised : mg "_law_raised" = some (.ref A.a_law_raised)
  F_law_made_rules : Fun K "_law_made_rules" "_law_made_rules" s_law_made_rules A.a_law_made_rules A.d_law_made_rules
  B_law_made_rules : Binds K A.d_law_made_rules ["_law_rules"] []
  m_law_made_rules : mg "_law_made_rules" = some (.ref A.a_law_made_rules)
  F_law_drawn_span : Fun K "_law_drawn_span" "_law_drawn_span" s_law_drawn_span A.a_law_drawn_span A.d_law_drawn_span
  B_law_drawn_span : Binds K A.d_law_drawn_span ["_law_purse_here", "_law_base"] []
  m_law_drawn_span : mg "_law_drawn_span" = some (.ref A.a_law_drawn_span)
  F_law_is_dividing : Fun K "_law_is_dividing" "_law_is_dividing" s_law_is_dividing A.a_law_is_dividing A.d_law_is_dividing
  B_law_is_dividing : Binds K A.d_law_is_dividing ["_law_base", "_law_heads"] []
  m_law_is_dividing : mg "_law_is_dividing" = some (.ref A.a_law_is_dividing)
  F_law_dividing_rules : Fun K "_law_dividing_rules" "_law_dividing_rules" s_law_dividing_rules A.a_law_dividing_rules A.d_law_dividing_rules
  B_law_dividing_rules : Binds K A.d_law_dividing_rules ["_law_purse_here", "_law_most"] []
  m_law_dividing_rules : mg "_law_dividing_rules" = some (.ref A.a_law_dividing_rules)
  F_law_is_within : Fun K "_law_is_within" "_law_is_within" s_law_is_within A.a_law_is_within A.d_law_is_within
  B_law_is_within : Binds K A.d_law_is_within ["_law_base", "_law_inner_here", "_law_outer"] []
  m_law_is_within : mg "_law_is_within" = some (.ref A.a_law_is_within)
  F_law_inner : Fun K "_law_inner" "_law_inner" s_law_inner A.a_law_inner A.d_law_inner
  B_law_inner : Binds K A.d_law_inner ["_law_purse_here", "_law_span"] []
  m_law_inner : mg "_law_inner" = some (.ref A.a_law_inner)
  F_law_ends_alike : Fun K "_law_ends_alike" "_law_ends_alike" s_law_ends_alike A.a_law_ends_alike A.d_law_ends_alike
  B_law_ends_alike : Binds K A.d_law_ends_alike ["_law_made", "_law_span"] []
  m_law_ends_alike : mg "_law_ends_alike" = some (.ref A.a_law_ends_alike)
  F_law : Fun K "law" "law" s_law A.a_law A.d_law
  B_law : Binds K A.d_law ["_law_script"] []
  m_law : mg "law" = some (.ref A.a_law)
  F_Rule_base : Fun K "base" "Rule.base" s_Rule_base A.a_Rule_base A.d_Rule_base
  B_Rule_base : Binds K A.d_Rule_base ["self"] []
  pr_Rule_base : PropOf K A.c_Rule "base" A.p_Rule_base A.a_Rule_base
  F_Rule_kind : Fun K "kind" "Rule.kind" s_Rule_kind A.a_Rule_kind A.d_Rule_kind
  B_Rule_kind : Binds K A.d_Rule_kind ["self"] []
  pr_Rule_kind : PropOf K A.c_Rule "kind" A.p_Rule_kind A.a_Rule_kind
  cl : Cls K A.c_Rule
  c_Rule : mg "Rule" = some (.ref A.c_Rule)
  mk_Rule : Mk K A.c_Rule A.a_Rule_init
  na_base : NoAttr K A.c_Rule "_base"
  na_kind : NoAttr K A.c_Rule "_kind"
  na_mantissas : NoAttr K A.c_Rule "_mantissas"
  na_most : NoAttr K A.c_Rule "_most"
  na_dividing : NoAttr K A.c_Rule "_dividing"
  na_rungs : NoAttr K A.c_Rule "_rungs"
  ic : C8.InsC K A.c_Rule
  m_LEAST_MOST : mg "LEAST_MOST" = some (.ref A.a_LEAST)
  kd : ∃ es n, KDict K w A.a_LEAST es n
  kd_inside : ∃ t, PySem.W.nsIn K A.a_LEAST "inside" = some (some (.int 1 t))
  kd_cover : ∃ t, PySem.W.nsIn K A.a_LEAST "cover" = some (some (.int 2 t))
  kd_length : ∃ t, PySem.W.nsIn K A.a_LEAST "length" = some (some (.int 1 t))

section
variable {P : Program} {w : World} {K : PySem.W.Frag} {mg : Str → Option Value} {base : Heap} {A : Adr}
/-! ### is_whole -/
/-- any value of a known kind -/
def spWhole (K : PySem.W.Frag) : Sp := fun vs H Q _ => ∃ (v : V) (t : Value) (b1 b2 : Bool), vs = [v] ∧ TyX K H v t ∧ PySem.W.kitOne K t (.type "int") = some b1 ∧ (b1 = true → PySem.W.kitOne K t (.type "bool") = some b2) ∧ Q (.bl (b1 && !b2)) H
abbrev nm_is_whole : List Str := ["value"]
theorem sc_is_whole : FnScope ["value"] ["value"] (defScope s_is_whole) := ⟨rfl, rfl, rfl, by decide +kernel, rfl, by decide +kernel, by decide +kernel⟩
theorem ok_is_whole (T : Txt K mg A w) : FnOk P w K mg base CX0 1 A.a_is_whole A.d_is_whole ["value"] (spWhole K) := by
  refine T.F_is_whole.ok sc_is_whole (fun vs H Q E h => ?_) (fun cdv A0 outer s H vs Q E hr h => ?_)
  · obtain ⟨v, t, b1, b2, rfl, _⟩ := h
    rfl
  · obtain ⟨v, t, b1, b2, rfl, ty, h1, h2, q⟩ := h
    refine ⟨_, (pss_one (ps_ret (pe_and (pe_callB call_isi (by rfl) T.n_isinstance (by decide +kernel) (pa_cons (pv 0) (pa_cons (pe_bltn (v := .ty "int") (by rfl) T.n_int (by decide +kernel) rfl) pa_nil))) (pe_one (pe_not (pe_callB call_isi (by rfl) T.n_isinstance (by decide +kernel) (pa_cons (pv 0) (pa_cons (pe_bltn (v := .ty "bool") (by rfl) T.n_bool (by decide +kernel) rfl) pa_nil)))))))), ?_⟩
    refine ⟨v, rfl, v, .ty "int", t, .type "int", b1, rfl, .ty _, ty, h1, b1, rfl, ?_⟩
    cases b1 with
    | false => exact iteF q
    | true => exact iteT ⟨v, rfl, v, .ty "bool", t, .type "bool", b2, rfl, .ty _, ty, h2 rfl, b2, rfl, q⟩
theorem sp_whole_int {H : Hp} {n : Int} {Q : VK} {E : XK} (q : Q (.bl true) H) : spWhole K [.int n] H Q E :=
  ⟨.int n, .type "int", true, false, rfl, .base (.int n), kit_ty (by decide +kernel), fun _ => kit_ty (by decide +kernel), q⟩
end
end Ax

namespace Ax
theorem pow_pos' {b : Int} (h : 1 ≤ b) (n : Nat) : 1 ≤ b ^ n := by
  induction n with
  | zero => simp
  | succ n ih =>
    rw [Int.pow_succ]
    have := Int.mul_le_mul ih h (by omega) (by omega)
    omega
theorem pow_add' (b : Int) (m n : Nat) : b ^ (m + n) = b ^ m * b ^ n := by
  induction n with
  | zero => simp
  | succ n ih => rw [← Nat.add_assoc, Int.pow_succ, ih, Int.pow_succ, Int.mul_assoc]
theorem pow_le' {b : Int} (h : 1 ≤ b) {m n : Nat} (hm : m ≤ n) : b ^ m ≤ b ^ n := by
  obtain ⟨k, rfl⟩ := Nat.le.dest hm
  rw [pow_add']
  have h1 := pow_pos' h m
  have h2 := pow_pos' h k
  have := Int.mul_le_mul_of_nonneg_left h2 (show (0:Int) ≤ b ^ m by omega)
  omega
theorem pow_lt' {b : Int} (h : 2 ≤ b) {m n : Nat} (hm : m < n) : b ^ m < b ^ n := by
  have h1 := pow_le' (b := b) (by omega) (show m + 1 ≤ n from hm)
  rw [Int.pow_succ] at h1
  have h2 := pow_pos' (b := b) (by omega) m
  have := Int.mul_le_mul_of_nonneg_left h (show (0:Int) ≤ b ^ m by omega)
  omega
theorem sq_pow (s : Int) (n : Nat) : (s * s) ^ n = s ^ (2 * n) := by
  induction n with
  | zero => simp
  | succ n ih =>
    rw [Int.pow_succ, ih, show 2 * (n + 1) = 2 * n + 1 + 1 by omega, Int.pow_succ, Int.pow_succ, Int.mul_assoc]
/-- a turn of power_of -/
theorem turn_odd {r s : Int} {n : Nat} (h : n % 2 = 1) : (r * s) * (s * s) ^ (n / 2) = r * s ^ n := by
  rw [sq_pow, Int.mul_assoc, Int.mul_comm s, ← Int.pow_succ]
  congr 2
  omega
theorem turn_even {r s : Int} {n : Nat} (h : n % 2 = 0) : r * (s * s) ^ (n / 2) = r * s ^ n := by
  rw [sq_pow]
  congr 2
  omega
theorem le_of_prod {r s B : Int} {n : Nat} (hr : 1 ≤ r) (hs : 1 ≤ s) (e : r * s ^ n = B) : r ≤ B ∧ (1 ≤ n → s ≤ B) := by
  have h1 := pow_pos' hs n
  have h2 := Int.mul_le_mul_of_nonneg_left h1 (show (0:Int) ≤ r by omega)
  refine ⟨by omega, fun hn => ?_⟩
  have h3 := pow_le' hs hn
  rw [Int.pow_succ, Int.pow_zero, Int.one_mul] at h3
  have h4 := Int.mul_le_mul_of_nonneg_right hr (show (0:Int) ≤ s ^ n by omega)
  omega
theorem abs_lt_pow {i : Int} {k : Nat} (h0 : 0 ≤ i) (h : i < 2 ^ k) : i.natAbs < 2 ^ k := by
  have e : ((i.natAbs : Nat) : Int) = i := by omega
  have : ((i.natAbs : Nat) : Int) < ((2 ^ k : Nat) : Int) := by rw [e, Int.natCast_pow]; exact h
  exact Int.ofNat_lt.mp this
end Ax
namespace Ax
/-! ### the exponent of the greatest power that is at most a number -/
/-- what log_of's second loop keeps: j squares are left -/
def LogInv (b n : Int) (j : Nat) (E : Nat) (p : Int) : Prop := p = b ^ (E * 2 ^ j) ∧ p ≤ n ∧ n < b ^ ((E + 1) * 2 ^ j)
theorem LogInv.start {b n : Int} {j : Nat} (hn : 1 ≤ n) (h : n < b ^ (2 ^ j)) : LogInv b n j 0 1 := by
  refine ⟨by simp, hn, ?_⟩
  simpa using h
theorem LogInv.yes {b n p : Int} {j E : Nat} (h : LogInv b n (j + 1) E p) (hle : p * b ^ (2 ^ j) ≤ n) : LogInv b n j (2 * E + 1) (p * b ^ (2 ^ j)) := by
  obtain ⟨h1, h2, h3⟩ := h
  refine ⟨?_, hle, ?_⟩
  · rw [h1, ← pow_add']
    congr 1
    rw [Nat.pow_succ, Nat.add_mul, Nat.mul_comm 2 E, Nat.mul_assoc, Nat.mul_comm 2 (2 ^ j), Nat.one_mul]
  · have e : (2 * E + 1 + 1) * 2 ^ j = (E + 1) * 2 ^ (j + 1) := by
      rw [Nat.pow_succ, show 2 * E + 1 + 1 = (E + 1) * 2 by omega, Nat.mul_assoc, Nat.mul_comm 2 (2 ^ j)]
    rw [e]
    exact h3
theorem LogInv.no {b n p : Int} {j E : Nat} (h : LogInv b n (j + 1) E p) (hgt : ¬ p * b ^ (2 ^ j) ≤ n) : LogInv b n j (2 * E) p := by
  obtain ⟨h1, h2, h3⟩ := h
  have e0 : 2 * E * 2 ^ j = E * 2 ^ (j + 1) := by rw [Nat.pow_succ, Nat.mul_comm 2 E, Nat.mul_assoc, Nat.mul_comm 2 (2 ^ j)]
  refine ⟨by rw [e0]; exact h1, h2, ?_⟩
  have e : (2 * E + 1) * 2 ^ j = E * 2 ^ (j + 1) + 2 ^ j := by rw [Nat.add_mul, e0, Nat.one_mul]
  rw [e, pow_add', ← h1]
  omega
theorem LogInv.fin {b n p : Int} {E : Nat} (h : LogInv b n 0 E p) : b ^ E ≤ n ∧ n < b ^ (E + 1) := by
  obtain ⟨h1, h2, h3⟩ := h
  simp only [Nat.pow_zero, Nat.mul_one] at h1 h3
  exact ⟨by omega, h3⟩
theorem sq_two (b : Int) (k : Nat) : b ^ (2 ^ k) * b ^ (2 ^ k) = b ^ (2 ^ (k + 1)) := by
  rw [← pow_add', Nat.pow_succ]
  congr 1
  omega
theorem log_unique {b n : Int} (hb : 2 ≤ b) {E F : Nat} (h1 : b ^ E ≤ n) (h2 : n < b ^ (E + 1)) (h3 : b ^ F ≤ n) (h4 : n < b ^ (F + 1)) : E = F := by
  rcases Nat.lt_trichotomy E F with h | h | h
  · have := pow_le' (b := b) (by omega) (show E + 1 ≤ F from h)
    omega
  · exact h
  · have := pow_le' (b := b) (by omega) (show F + 1 ≤ E from h)
    omega
end Ax
namespace Ax
theorem pow_base_le {a b : Int} (h0 : 1 ≤ a) (h : a ≤ b) (n : Nat) : a ^ n ≤ b ^ n := by
  induction n with
  | zero => simp
  | succ n ih =>
    rw [Int.pow_succ, Int.pow_succ]
    have := pow_pos' h0 n
    exact Int.mul_le_mul ih h (by omega) (by omega)
theorem exp_lt {b : Int} (hb : 2 ≤ b) {m n : Nat} (h : b ^ m < 2 ^ n) : m < n := by
  apply Nat.lt_of_not_le
  intro c
  have h1 := pow_base_le (a := 2) (by decide) hb m
  have h2 := pow_le' (b := 2) (by decide) c
  omega
theorem k_small {b : Int} (hb : 2 ≤ b) {k : Nat} (h : b ^ (2 ^ k) < 2 ^ 8000) : k < 13 := by
  have h1 := exp_lt hb h
  apply Nat.lt_of_not_le
  intro c
  have : 2 ^ 13 ≤ 2 ^ k := Nat.pow_le_pow_right (by decide) c
  have : (2 : Nat) ^ 13 = 8192 := by decide
  omega
end Ax
namespace Ax
/-! ### the exponent as a function; sizes of the least steps -/
noncomputable def lg (b m : Int) : Nat := Classical.epsilon fun E => b ^ E ≤ m ∧ m < b ^ (E + 1)
theorem lg_ex {b m : Int} (hm : 1 ≤ m) : ∀ N : Nat, m < b ^ N → ∃ E, b ^ E ≤ m ∧ m < b ^ (E + 1)
  | 0, h => by
    rw [Int.pow_zero] at h
    omega
  | N + 1, h => by
    by_cases c : m < b ^ N
    · exact lg_ex hm N c
    · exact ⟨N, by omega, h⟩
theorem lt_two_pow (n : Nat) : n < 2 ^ n := Nat.lt_two_pow_self
theorem lg_spec {b m : Int} (hb : 2 ≤ b) (hm : 1 ≤ m) : b ^ lg b m ≤ m ∧ m < b ^ (lg b m + 1) := by
  have h : ∃ E, b ^ E ≤ m ∧ m < b ^ (E + 1) := lg_ex hm m.toNat (by
    have h1 := pow_base_le (a := 2) (by decide) hb m.toNat
    have h2 := lt_two_pow m.toNat
    have h3 : ((m.toNat : Nat) : Int) < ((2 ^ m.toNat : Nat) : Int) := Int.ofNat_lt.mpr h2
    rw [Int.natCast_pow] at h3
    have h4 : ((m.toNat : Nat) : Int) = m := by omega
    rw [h4] at h3
    exact Int.lt_of_lt_of_le h3 h1)
  exact Classical.epsilon_spec h
theorem lg_eq {b m : Int} {E : Nat} (hb : 2 ≤ b) (hm : 1 ≤ m) (h1 : b ^ E ≤ m) (h2 : m < b ^ (E + 1)) : E = lg b m :=
  log_unique hb h1 h2 (lg_spec hb hm).1 (lg_spec hb hm).2
theorem lg_mono {b m M : Int} (hb : 2 ≤ b) (hm : 1 ≤ m) (h : m ≤ M) : lg b m ≤ lg b M := by
  have a := lg_spec hb hm
  have c := lg_spec hb (show 1 ≤ M by omega)
  apply Nat.le_of_not_lt
  intro q
  have := pow_le' (b := b) (by omega) (show lg b M + 1 ≤ lg b m from q)
  omega
/-- the size of the least step of a mantissa that is at least 1, in units of b ^ -top -/
noncomputable def keyOf (b : Int) (top : Nat) (m : Int) : Int := m * b ^ (top - lg b m)
theorem mul_cancel {a b c : Int} (hc : 1 ≤ c) (h : a * c = b * c) : a = b := Int.eq_of_mul_eq_mul_right (by omega) h
theorem dvd_of_mul {m n b : Int} {k : Nat} (h : m * b ^ (k + 1) = n) : n % b = 0 := by
  rw [← h, Int.pow_succ, ← Int.mul_assoc]
  exact Int.mul_emod_left _ _
theorem key_inj' {b m n : Int} {top : Nat} (hb : 2 ≤ b) (hn : n % b ≠ 0) (ln : lg b n ≤ top) (c : lg b m ≤ lg b n) (h : keyOf b top m = keyOf b top n) : m = n := by
  unfold keyOf at h
  have e : top - lg b m = (lg b n - lg b m) + (top - lg b n) := by omega
  rw [e, pow_add', ← Int.mul_assoc] at h
  have h2 := mul_cancel (pow_pos' (by omega) _) h
  cases q : lg b n - lg b m with
  | zero =>
    rw [q, Int.pow_zero, Int.mul_one] at h2
    exact h2
  | succ k =>
    rw [q] at h2
    exact absurd (dvd_of_mul h2) hn
theorem key_inj {b m n : Int} {top : Nat} (hb : 2 ≤ b) (hm : m % b ≠ 0) (hn : n % b ≠ 0) (lm : lg b m ≤ top) (ln : lg b n ≤ top) (h : keyOf b top m = keyOf b top n) : m = n := by
  rcases Nat.le_total (lg b m) (lg b n) with c | c
  · exact key_inj' hb hn ln c h
  · exact (key_inj' hb hm lm c h.symm).symm
theorem key_pos {b m : Int} {top : Nat} (hb : 2 ≤ b) (hm : 1 ≤ m) : 1 ≤ keyOf b top m := by
  have h1 := pow_pos' (b := b) (by omega) (top - lg b m)
  have := Int.mul_le_mul hm h1 (by omega) (by omega)
  unfold keyOf
  omega
theorem key_lt {b m : Int} {top : Nat} (hb : 2 ≤ b) (hm : 1 ≤ m) (h : lg b m ≤ top) : b ^ top ≤ keyOf b top m ∧ keyOf b top m < b ^ (top + 1) := by
  obtain ⟨h1, h2⟩ := lg_spec hb hm
  have h3 := pow_pos' (b := b) (by omega) (top - lg b m)
  have e1 : b ^ top = b ^ lg b m * b ^ (top - lg b m) := by rw [← pow_add']; congr 1; omega
  have e2 : b ^ (top + 1) = b ^ (lg b m + 1) * b ^ (top - lg b m) := by rw [← pow_add']; congr 1; omega
  rw [e1, e2]
  exact ⟨Int.mul_le_mul_of_nonneg_right h1 (by omega), Int.mul_lt_mul_of_pos_right h2 (by omega)⟩
end Ax
namespace Ax
theorem perm_lift {α β : Type} {f : α → β} : ∀ {zs : List β} {ms : List α}, zs.Perm (ms.map f) → ∃ rs : List α, rs.Perm ms ∧ zs = rs.map f
  | [], ms, h => by
    have e := h.length_eq
    rw [List.length_map] at e
    have : ms = [] := List.eq_nil_of_length_eq_zero e.symm
    subst this
    exact ⟨[], .nil, rfl⟩
  | z :: zs, ms, h => by
    have hz : z ∈ ms.map f := h.mem_iff.mp (List.mem_cons_self ..)
    obtain ⟨m, hm, rfl⟩ := List.mem_map.mp hz
    obtain ⟨l1, l2, rfl⟩ := List.append_of_mem hm
    have h2 : (f m :: zs).Perm (f m :: (l1 ++ l2).map f) := by
      refine h.trans ?_
      rw [List.map_append, List.map_cons, List.map_append]
      exact List.perm_middle
    obtain ⟨rs, p, e⟩ := perm_lift ((List.perm_cons _).mp h2)
    refine ⟨m :: rs, ((List.perm_cons m).mpr p).trans List.perm_middle.symm, by rw [e]; rfl⟩
theorem nodup_map {α β : Type} {f : α → β} {ms : List α} (nd : ms.Nodup) (inj : ∀ x ∈ ms, ∀ y ∈ ms, f x = f y → x = y) : (ms.map f).Nodup := by
  unfold List.Nodup
  rw [List.pairwise_map]
  exact List.Pairwise.imp_of_mem (fun {a b} ha hb h z => h (inj a ha b hb z)) nd
theorem strict {zs : List Int} (h : zs.Pairwise (· ≤ ·)) (nd : zs.Nodup) : zs.Pairwise (· < ·) := (h.and nd).imp fun ⟨a, b⟩ => by omega
end Ax

namespace Ax
open PySem L2
section
variable {P : Program} {w : World} {K : PySem.W.Frag} {mg : Str → Option Value} {base : Heap} {A : Adr}
/-- the size that numbers stay below -/
abbrev BIG : Int := 2 ^ 8000
theorem mulBig {i j : Int} (h0 : 0 ≤ i) (h1 : i < 2 ^ 400000) (h2 : 0 ≤ j) (h3 : j < 2 ^ 400000) : CMulW i j :=
  wide_mul (abs_lt_pow h0 h1) (abs_lt_pow h2 h3) (by decide) (by decide) (by decide)
theorem big_le {i : Int} (h : i < BIG) : i < 2 ^ 400000 := Int.lt_of_lt_of_le h (pow_le' (b := 2) (by decide) (by decide))
theorem two_div : CDivW i 2 := ⟨by decide, by decide⟩
/-! ### power_of -/
def spPow : Sp := fun vs H Q _ => ∃ (b : Int) (e : Int), vs = [.int b, .int e] ∧ 1 ≤ b ∧ 0 ≤ e ∧ b ^ e.toNat < BIG ∧ b < BIG ∧ Q (.int (b ^ e.toNat)) H
abbrev nm_power_of : List Str := ["base", "exponent", "result", "square", "rest"]
theorem sc_power_of : FnScope ["base", "exponent", "result", "square", "rest"] ["base", "exponent"] (defScope s_power_of) := ⟨rfl, rfl, rfl, by decide +kernel, rfl, by decide +kernel, by decide +kernel⟩
theorem ok_power_of (T : Txt K mg A w) : FnOk P w K mg base CX0 1 A.a_power_of A.d_power_of ["base", "exponent"] spPow := by
  refine T.F_power_of.ok sc_power_of (fun vs H Q E h => ?_) (fun cdv A0 outer s H vs Q E hr h => ?_)
  · obtain ⟨b, e, rfl, _⟩ := h
    rfl
  · obtain ⟨b, e, rfl, hb, he, hB, hbB, q⟩ := h
    refine ⟨_, (pss_cons (ps_set (i := 2) sc_power_of.nd rfl (Or.inl rfl) pe_int)
  (pss_cons (ps_set (i := 3) sc_power_of.nd rfl (Or.inl rfl) (pv 0))
  (pss_cons (ps_set (i := 4) sc_power_of.nd rfl (Or.inl rfl) (pv 1))
  (pss_cons (ps_while PassesOwn.never (pt_cmpR op_gt (pv 4) pe_int (nomark _))
  (pss_cons (ps_if (pt_cmpR op_eq (pe_op op_mod (pv 4) pe_int) pe_int (nomark _)) (pss_one (ps_set (i := 2) sc_power_of.nd rfl (Or.inl rfl) (pe_op op_mulW (pv 2) (pv 3)))) pss_nil)
  (pss_cons (ps_set (i := 3) sc_power_of.nd rfl (Or.inl rfl) (pe_op op_mulW (pv 3) (pv 3)))
  (pss_one (ps_set (i := 4) sc_power_of.nd rfl (Or.inl rfl) (pe_op op_fdivW (pv 4) pe_int))))))
  (pss_one (ps_ret (pv 2))))))), ?_⟩
    refine ⟨_, rfl, _, rfl, ?_⟩
    refine ⟨fun m σ H' => ∃ r sq rest : Int, σ = [some (.int b), some (.int e), some (.int r), some (.int sq), some (.int rest)] ∧ H' = H ∧ 0 ≤ rest ∧ rest.toNat = m ∧ 1 ≤ r ∧ 1 ≤ sq ∧ r * sq ^ m = b ^ e.toNat ∧ (m = 0 → r < BIG),
      ⟨e.toNat, 1, b, e, rfl, rfl, he, rfl, by decide, hb, by rw [Int.one_mul], fun _ => by show (1 : Int) < 2 ^ 8000; exact Int.lt_of_lt_of_le (by decide : (1 : Int) < 2 ^ 1) (pow_le' (b := 2) (by decide) (by decide))⟩, ?_⟩
    rintro m σ H' ⟨r, sq, rest, rfl, rfl, h0, hm, hr1, hs1, hp, hrB⟩
    refine ⟨_, rfl, _, _, rfl, rfl, _, rfl, ?_⟩
    refine ite2 (fun hc => ?_) (fun hc => ?_)
    · have hc : (0 : Int) < rest := of_decide_eq_true hc
      obtain ⟨rB, sB⟩ := le_of_prod hr1 hs1 hp
      have sB := sB (by omega)
      have hsq : CMulW sq sq := mulBig (by omega) (big_le (by omega)) (by omega) (big_le (by omega))
      have ss1 : 1 ≤ sq * sq := by have := Int.mul_le_mul hs1 hs1 (by omega) (by omega); omega
      refine ⟨fun σ' H2 => ∃ r' : Int, σ' = [some (.int b), some (.int e), some (.int r'), some (.int (sq * sq)), some (.int (rest / 2))] ∧ H2 = H' ∧ 1 ≤ r' ∧ r' * (sq * sq) ^ (m / 2) = b ^ e.toNat, ?_, ?_⟩
      · rintro σ' H2 ⟨r', rfl, rfl, h1, h2⟩
        refine ⟨m / 2, by omega, r', sq * sq, rest / 2, rfl, rfl, by omega, by omega, h1, ss1, h2, fun hz => ?_⟩
        have := (le_of_prod h1 ss1 h2).1
        omega
      · refine ⟨_, rfl, _, _, rfl, rfl, (by show (0 : Int) < 2; decide), rfl, _, rfl, ?_⟩
        refine ite2 (fun hd => ?_) (fun hd => ?_)
        · have hd : V.int (rest % 2) = V.int 1 := of_decide_eq_true hd
          have hd : rest % 2 = 1 := V.int.inj hd
          refine ⟨_, rfl, _, rfl, _, _, rfl, rfl, mulBig (by omega) (big_le (by omega)) (by omega) (big_le (by omega)), ?_⟩
          refine ⟨_, rfl, _, rfl, _, _, rfl, rfl, hsq, ?_⟩
          refine ⟨_, rfl, _, _, rfl, rfl, two_div, ?_⟩
          refine ⟨r * sq, rfl, rfl, ?_, ?_⟩
          · have := Int.mul_le_mul hr1 hs1 (by omega) (by omega)
            omega
          · rw [turn_odd (by omega)]
            exact hp
        · have hd : ¬ V.int (rest % 2) = V.int 1 := fun z => hd (decide_eq_true z)
          have hd : ¬ rest % 2 = 1 := fun z => hd (by rw [z])
          refine ⟨_, rfl, _, rfl, _, _, rfl, rfl, hsq, ?_⟩
          refine ⟨_, rfl, _, _, rfl, rfl, two_div, ?_⟩
          refine ⟨r, rfl, rfl, hr1, ?_⟩
          rw [turn_even (by omega)]
          exact hp
    · have hc : ¬ (0 : Int) < rest := fun z => hc (decide_eq_true z)
      refine ⟨_, rfl, ?_⟩
      have hm0 : m = 0 := by omega
      subst hm0
      rw [Int.pow_zero, Int.mul_one] at hp
      rw [hp]
      exact q
/-! ### log_of -/
def spLog : Sp := fun vs H Q _ => ∃ (b n : Int), vs = [.int b, .int n] ∧ 2 ≤ b ∧ b < BIG ∧ 1 ≤ n ∧ n < BIG ∧ ∀ (E : Nat) (H' : Hp), Same H H' → b ^ E ≤ n → n < b ^ (E + 1) → Q (.int E) H'
/-- the list of squares -/
def Sqs (b : Int) (k : Nat) (sqs : List Int) : Prop := sqs.length = k + 1 ∧ ∀ i, i < k + 1 → sqs[i]? = some (b ^ (2 ^ i))
theorem Sqs.one (b : Int) : Sqs b 0 [b] := ⟨rfl, fun i h => by
  have e : i = 0 := by omega
  subst e
  rw [Nat.pow_zero, Int.pow_succ, Int.pow_zero, Int.one_mul]
  rfl⟩
theorem Sqs.more {b : Int} {k : Nat} {sqs : List Int} (h : Sqs b k sqs) : Sqs b (k + 1) (sqs ++ [b ^ (2 ^ (k + 1))]) := by
  obtain ⟨h1, h2⟩ := h
  refine ⟨by simp [h1], fun i hi => ?_⟩
  by_cases c : i < k + 1
  · rw [List.getElem?_append_left (by omega)]
    exact h2 i c
  · have e : i = k + 1 := by omega
    subst e
    rw [List.getElem?_append_right (by omega), h1]
    simp
theorem at_neg {sqs : List Int} {b : Int} {k : Nat} (h : Sqs b k sqs) : atI (sqs.map V.int) (-1) = some (V.int (b ^ (2 ^ k))) := by
  obtain ⟨h1, h2⟩ := h
  have e : sqs = sqs.dropLast ++ [b ^ (2 ^ k)] := by
    have hne : sqs ≠ [] := by intro z; rw [z] at h1; simp at h1
    have hl := List.dropLast_concat_getLast hne
    have hg : sqs.getLast hne = b ^ (2 ^ k) := by
      have := h2 k (by omega)
      rw [List.getLast_eq_getElem]
      rw [List.getElem?_eq_some_iff] at this
      obtain ⟨hh, hv⟩ := this
      simp only [h1, Nat.add_sub_cancel]
      exact hv
    rw [hg] at hl
    exact hl.symm
  rw [e, List.map_append]
  exact atI_last _ _
abbrev nm_log_of : List Str := ["base", "number", "squares", "exponent", "power", "square"]
theorem sc_log_of : FnScope ["base", "number", "squares", "exponent", "power", "square"] ["base", "number"] (defScope s_log_of) := ⟨rfl, rfl, rfl, by decide +kernel, rfl, by decide +kernel, by decide +kernel⟩
theorem ok_log_of (T : Txt K mg A w) : FnOk P w K mg base CX0 1 A.a_log_of A.d_log_of ["base", "number"] spLog := by
  refine T.F_log_of.ok sc_log_of (fun vs H Q E h => ?_) (fun cdv A0 outer s H vs Q E hr h => ?_)
  · obtain ⟨b, e, rfl, _⟩ := h
    rfl
  · obtain ⟨b, n, rfl, hb, hbB, hn, hnB, q⟩ := h
    refine ⟨_, (pss_cons (ps_set (i := 2) sc_log_of.nd rfl (Or.inl rfl) (pe_lst (pa_cons (pv 0) pa_nil)))
  (pss_cons (ps_while PassesOwn.never (pt_cmpR op_le (pe_op op_mulW (pe_ix ix_list (pv 2) (pe_un un_neg pe_int) (fun _ _ => rfl)) (pe_ix ix_list (pv 2) (pe_un un_neg pe_int) (fun _ _ => rfl))) (pv 1) (nomark _))
  (pss_one (ps_expr (pe_bm PySem.F.plainAttrs_list PySem.F.slot_list_append PySem.F.type_list_append mt_append (pv 2) (pa_cons (pe_op op_mulW (pe_ix ix_list (pv 2) (pe_un un_neg pe_int) (fun _ _ => rfl)) (pe_ix ix_list (pv 2) (pe_un un_neg pe_int) (fun _ _ => rfl))) pa_nil)))))
  (pss_cons (ps_set (i := 3) sc_log_of.nd rfl (Or.inl rfl) pe_int)
  (pss_cons (ps_set (i := 4) sc_log_of.nd rfl (Or.inl rfl) pe_int)
  (pss_cons (ps_for PassesOwn.never rfl (pi_reversed (by rfl) T.n_reversed (pa_cons (pv 2) pa_nil)) (pg_name (i := 5) sc_log_of.nd rfl (Or.inl rfl))
  (pss_cons (ps_set (i := 3) sc_log_of.nd rfl (Or.inl rfl) (pe_op op_mulW pe_int (pv 3)))
  (pss_one (ps_if (pt_cmpR op_le (pe_op op_mulW (pv 4) (pv 5)) (pv 1) (nomark _)) (pss_cons (ps_set (i := 4) sc_log_of.nd rfl (Or.inl rfl) (pe_op op_mulW (pv 4) (pv 5)))
  (pss_one (ps_set (i := 3) sc_log_of.nd rfl (Or.inl rfl) (pe_op op_add (pv 3) pe_int)))) pss_nil))))
  (pss_one (ps_ret (pv 3)))))))), ?_⟩
    refine ⟨_, rfl, by show 1 ≤ sizeLine; decide, fun p hp => ?_⟩
    -- the squares
    refine ⟨fun m σ H' => ∃ (k : Nat) (sqs : List Int), σ = [some (.int b), some (.int n), some (.ref p), none, none, none] ∧ Same H H' ∧ H' p = some (.lst (sqs.map V.int)) ∧ Sqs b k sqs ∧ (b ^ (2 ^ k) ≤ n ∨ k = 0) ∧ m = (b + n - b ^ (2 ^ k)).toNat,
      ⟨_, 0, [b], rfl, fun c o e => by rw [upd_ne (ne_of_none e hp)]; exact e, upd_same, Sqs.one b, .inr rfl, rfl⟩, ?_⟩
    rintro m σ H' ⟨k, sqs, rfl, s1, hL, hS, hk, rfl⟩
    have hl1 : 2 ≤ b ^ (2 ^ k) := by
      have := pow_le' (b := b) (by omega) (show 1 ≤ 2 ^ k from Nat.one_le_two_pow)
      rw [Int.pow_succ, Int.pow_zero, Int.one_mul] at this
      omega
    have hlB : b ^ (2 ^ k) < BIG := by
      rcases hk with h | h
      · omega
      · subst h
        rw [Nat.pow_zero, Int.pow_succ, Int.pow_zero, Int.one_mul]
        exact hbB
    have hk13 := k_small hb hlB
    have hneg : atI (sqs.map V.int) (-1) = some (V.int (b ^ (2 ^ k))) := at_neg hS
    have hmul : CMulW (b ^ (2 ^ k)) (b ^ (2 ^ k)) := mulBig (by omega) (big_le hlB) (by omega) (big_le hlB)
    refine ⟨_, rfl, _, rfl, p, _, _, _, rfl, rfl, SqL.of hL, hneg, _, rfl, _, rfl, p, _, _, _, rfl, rfl, SqL.of hL, hneg, _, _, rfl, rfl, hmul, _, rfl, _, _, rfl, rfl, _, rfl, ?_⟩
    refine ite2 (fun hc => ?_) (fun hc => ?_)
    · have hc : b ^ (2 ^ k) * b ^ (2 ^ k) ≤ n := of_decide_eq_true hc
      refine ⟨fun σ' H2 => σ' = [some (.int b), some (.int n), some (.ref p), none, none, none] ∧ H2 = upd H' p (.lst ((sqs ++ [b ^ (2 ^ (k + 1))]).map V.int)), ?_, ?_⟩
      · rintro σ' H2 ⟨rfl, rfl⟩
        refine ⟨(b + n - b ^ (2 ^ (k + 1))).toNat, ?_, k + 1, _, rfl, fun c o e => ?_, upd_same, hS.more, .inl (by rw [← sq_two]; exact hc), rfl⟩
        · have h2 : b ^ (2 ^ k) < b ^ (2 ^ (k + 1)) := pow_lt' hb (Nat.pow_lt_pow_right (by decide) (Nat.lt_succ_self k))
          have h3 : b ^ (2 ^ (k + 1)) ≤ n := by rw [← sq_two]; exact hc
          omega
        · rw [upd_ne (ne_of_none e hp)]
          exact s1 c o e
      · refine ⟨_, rfl, .inl ⟨rfl, _, SqL.of hL⟩, _, rfl, _, rfl, p, _, _, _, rfl, rfl, SqL.of hL, hneg, _, rfl, _, rfl, p, _, _, _, rfl, rfl, SqL.of hL, hneg, _, _, rfl, rfl, hmul, ?_⟩
        refine ⟨p, _, _, rfl, rfl, hL, ?_, rfl, ?_⟩
        · rw [List.length_map, hS.1]
          exact small1000 (by omega)
        · show upd H' p (HO.lst (List.map V.int sqs ++ [V.int (b ^ 2 ^ k * b ^ 2 ^ k)])) = _
          rw [sq_two, List.map_append]
          rfl
    · have hc : ¬ b ^ (2 ^ k) * b ^ (2 ^ k) ≤ n := fun z => hc (decide_eq_true z)
      rw [sq_two] at hc
      refine ⟨_, rfl, p, _, rfl, SqL.of hL, ?_⟩
      have hlen : (sqs.map V.int).length = k + 1 := by rw [List.length_map]; exact hS.1
      -- the squares from behind
      refine ⟨fun i m σ H2 => i ≤ k + 1 ∧ m = k + 1 - i ∧ H2 = H' ∧ ∃ (E : Nat) (pw : Int) (v : Option V), σ = [some (.int b), some (.int n), some (.ref p), some (.int (E : Int)), some (.int pw), v] ∧ LogInv b n (k + 1 - i) E pw,
        ⟨k + 1, by omega, rfl, rfl, 0, 1, none, rfl, LogInv.start hn (by rw [Nat.sub_zero]; omega)⟩, ?_⟩
      rintro i m σ H2 ⟨hi, rfl, rfl, E, pw, v, rfl, hI⟩
      by_cases hlt : i < k + 1
      · have hget : (sqs.map V.int)[k - i]? = some (V.int (b ^ (2 ^ (k - i)))) := by
          rw [List.getElem?_map, hS.2 (k - i) (by omega)]
          rfl
        refine .inr ⟨⟨by rw [hlen]; exact hlt, _, _, SqL.of hL, by rw [hlen, show k + 1 - 1 - i = k - i by omega]; exact hget⟩, fun σ' H3 => H3 = H2 ∧ ∃ (E : Nat) (pw : Int) (v : Option V), σ' = [some (.int b), some (.int n), some (.ref p), some (.int (E : Int)), some (.int pw), v] ∧ LogInv b n (k - i) E pw, ?_, ?_⟩
        · rintro σ' H3 ⟨rfl, E', pw', v', rfl, hI'⟩
          exact ⟨k - i, by omega, by omega, by omega, rfl, E', pw', v', rfl, by rw [show k + 1 - (i + 1) = k - i by omega]; exact hI'⟩
        · rintro x H3 ⟨rfl, hx⟩
          have hx := hx _ (SqL.of hL)
          rw [hlen, show k + 1 - 1 - i = k - i by omega, hget] at hx
          obtain rfl := Option.some.inj hx
          rw [show k + 1 - i = (k - i) + 1 by omega] at hI
          have hp1 : 1 ≤ pw := by rw [hI.1]; exact pow_pos' (by omega) _
          have hpB : pw < BIG := by have := hI.2.1; omega
          have hs1 : 1 ≤ b ^ (2 ^ (k - i)) := pow_pos' (by omega) _
          have hsB : b ^ (2 ^ (k - i)) < BIG := by
            have := pow_le' (b := b) (by omega) (Nat.pow_le_pow_right (show 0 < 2 by decide) (show k - i ≤ k by omega))
            omega
          have hmul2 : CMulW pw (b ^ (2 ^ (k - i))) := mulBig (by omega) (big_le hpB) (by omega) (big_le hsB)
          have hE : E < 8000 := by
            have h1 : b ^ (E * 2 ^ (k - i + 1)) < 2 ^ 8000 := by rw [← hI.1]; exact hpB
            exact Nat.lt_of_le_of_lt (Nat.le_mul_of_pos_right E (Nat.two_pow_pos _)) (exp_lt hb h1)
          have hmul3 : CMulW 2 (E : Int) := wide_mul (a := 2) (b := 13) (by decide) (by rw [Int.natAbs_natCast]; omega) (by decide) (by decide) (by decide)
          refine ⟨_, rfl, _, _, rfl, rfl, hmul3, ?_⟩
          refine ⟨_, rfl, _, rfl, _, _, rfl, rfl, hmul2, _, rfl, _, _, rfl, rfl, _, rfl, ?_⟩
          refine ite2 (fun hc => ?_) (fun hc => ?_)
          · have hc : pw * b ^ (2 ^ (k - i)) ≤ n := of_decide_eq_true hc
            refine ⟨_, rfl, _, rfl, _, _, rfl, rfl, hmul2, ?_⟩
            refine ⟨_, rfl, _, _, rfl, rfl, ?_⟩
            exact ⟨rfl, 2 * E + 1, _, _, rfl, hI.yes hc⟩
          · have hc : ¬ pw * b ^ (2 ^ (k - i)) ≤ n := fun z => hc (decide_eq_true z)
            exact ⟨rfl, 2 * E, _, _, rfl, hI.no hc⟩
      · have e : i = k + 1 := by omega
        subst e
        rw [Nat.sub_self] at hI
        exact .inl ⟨by show (sqs.map V.int).length ≤ k + 1; rw [hlen]; exact Nat.le_refl _, _, rfl, q E H2 s1 hI.fin.1 hI.fin.2⟩
end
end Ax

namespace Ax
/-! ### kinds, sizes, reaches -/
inductive Kd where | ins | cov | len
  deriving DecidableEq
/-- how often the ends are scaled: the step is a whole number beside them -/
def facZ (b e : Int) : Int := if 0 ≤ e then 1 else b ^ (-e).toNat
def sizZ (b m e : Int) : Int := if 0 ≤ e then m * b ^ e.toNat else m
def reachZ (k : Kd) (most low size : Int) : Int := match k with
  | .len => low + most * size
  | .cov => (low / size + most) * size
  | .ins => (-(-low / size) + most) * size - 1
theorem mul_le_iff {a b c : Int} (h : 0 < c) : a * c ≤ b * c ↔ a ≤ b := ⟨fun q => Int.le_of_mul_le_mul_right q h, fun q => Int.mul_le_mul_of_nonneg_right q (by omega)⟩
theorem mul_lt_iff {a b c : Int} (h : 0 < c) : a * c < b * c ↔ a < b := ⟨fun q => Int.lt_of_mul_lt_mul_right q (by omega), fun q => Int.mul_lt_mul_of_pos_right q h⟩
theorem reach_scale {k : Kd} {most l h s c : Int} (hc : 0 < c) (hs : 0 < s) : h * c ≤ reachZ k most (l * c) (s * c) ↔ h ≤ reachZ k most l s := by
  have d : ∀ x : Int, x * c / (s * c) = x / s := fun x => Int.mul_ediv_mul_of_pos_left x s hc
  cases k with
  | len =>
    show h * c ≤ l * c + most * (s * c) ↔ h ≤ l + most * s
    rw [← Int.mul_assoc, ← Int.add_mul]
    exact mul_le_iff hc
  | cov =>
    show h * c ≤ (l * c / (s * c) + most) * (s * c) ↔ h ≤ (l / s + most) * s
    rw [d, ← Int.mul_assoc]
    exact mul_le_iff hc
  | ins =>
    show h * c ≤ (-(-(l * c) / (s * c)) + most) * (s * c) - 1 ↔ h ≤ (-(-l / s) + most) * s - 1
    rw [← Int.neg_mul, d, ← Int.mul_assoc]
    constructor
    · intro q
      have := (mul_lt_iff hc).mp (show h * c < (-(-l / s) + most) * s * c by omega)
      omega
    · intro q
      have := (mul_lt_iff (c := c) hc).mpr (show h < (-(-l / s) + most) * s by omega)
      omega
/-- a step's size in units of b ^ -N -/
def szN (b N m p : Int) : Int := m * b ^ (N + p).toNat
theorem szN_pos {b N m p : Int} (hb : 1 ≤ b) (hm : 1 ≤ m) : 1 ≤ szN b N m p := by
  have h1 := pow_pos' hb (N + p).toNat
  have := Int.mul_le_mul hm h1 (by omega) (by omega)
  unfold szN
  omega
theorem szN_shift {b N m p c : Int} (h : 0 ≤ N + p) (hc : 0 ≤ c) : szN b (N + c) m p = szN b N m p * b ^ c.toNat := by
  unfold szN
  rw [Int.mul_assoc, ← pow_add']
  congr 2
  omega
/-- whether a step fits: e is its power beside the ends' digits -/
def FitE (b : Int) (k : Kd) (most l h m e : Int) : Prop := h * facZ b e ≤ reachZ k most (l * facZ b e) (sizZ b m e)
theorem fitE_N {b : Int} {k : Kd} {most l h m e N : Int} (hb : 1 ≤ b) (hm : 1 ≤ m) (hN : 0 ≤ N) (he : 0 ≤ N + e) : FitE b k most l h m e ↔ h * b ^ N.toNat ≤ reachZ k most (l * b ^ N.toNat) (szN b N m e) := by
  unfold FitE facZ sizZ
  by_cases c : 0 ≤ e
  · rw [if_pos c, if_pos c, Int.mul_one, Int.mul_one]
    have e1 : szN b N m e = m * b ^ e.toNat * b ^ N.toNat := by
      unfold szN
      rw [Int.mul_assoc, ← pow_add']
      congr 2
      omega
    rw [e1]
    exact (reach_scale (by have := pow_pos' hb N.toNat; omega) (by
      have h1 := pow_pos' hb e.toNat
      have := Int.mul_le_mul hm h1 (by omega) (by omega)
      omega)).symm
  · rw [if_neg c, if_neg c]
    have e1 : N.toNat = (-e).toNat + (N + e).toNat := by omega
    have e2 : szN b N m e = m * b ^ (N + e).toNat := rfl
    rw [e2, e1, pow_add', ← Int.mul_assoc, ← Int.mul_assoc]
    exact (reach_scale (by have := pow_pos' hb (N + e).toNat; omega) (by omega)).symm
/-- a great step fits -/
theorem fit_big {k : Kd} {most l h s : Int} (h1 : 1 ≤ most) (h2 : k = .cov → 2 ≤ most) (hs : h - l < s) (hp : 0 < s) : h ≤ reachZ k most l s := by
  have e1 := Int.emod_add_mul_ediv l s
  have e2 := Int.emod_nonneg l (show s ≠ 0 by omega)
  have e3 := Int.emod_lt_of_pos l hp
  have f1 := Int.emod_add_mul_ediv (-l) s
  have f2 := Int.emod_nonneg (-l) (show s ≠ 0 by omega)
  have f3 := Int.emod_lt_of_pos (-l) hp
  cases k with
  | len =>
    show h ≤ l + most * s
    have := Int.mul_le_mul_of_nonneg_right h1 (show 0 ≤ s by omega)
    omega
  | cov =>
    show h ≤ (l / s + most) * s
    have := Int.mul_le_mul_of_nonneg_right (h2 rfl) (show 0 ≤ s by omega)
    rw [Int.add_mul, Int.mul_comm (l / s)]
    omega
  | ins =>
    show h ≤ (-(-l / s) + most) * s - 1
    have := Int.mul_le_mul_of_nonneg_right h1 (show 0 ≤ s by omega)
    rw [Int.add_mul, Int.neg_mul, Int.mul_comm (-l / s)]
    omega
/-- a small one does not -/
theorem fit_small {k : Kd} {most l h s : Int} (hs : (most + 1) * s ≤ h - l) (hp : 0 < s) : ¬ h ≤ reachZ k most l s := by
  have e1 := Int.emod_add_mul_ediv l s
  have e2 := Int.emod_nonneg l (show s ≠ 0 by omega)
  have f1 := Int.emod_add_mul_ediv (-l) s
  have f3 := Int.emod_lt_of_pos (-l) hp
  rw [Int.add_mul] at hs
  cases k with
  | len =>
    show ¬ h ≤ l + most * s
    omega
  | cov =>
    show ¬ h ≤ (l / s + most) * s
    rw [Int.add_mul, Int.mul_comm (l / s)]
    omega
  | ins =>
    show ¬ h ≤ (-(-l / s) + most) * s - 1
    rw [Int.add_mul, Int.neg_mul, Int.mul_comm (-l / s)]
    omega
/-- a step is less than another one -/
def SLt (b : Int) (x y : Int × Int) : Prop := ∃ N : Int, 0 ≤ N + x.2 ∧ 0 ≤ N + y.2 ∧ szN b N x.1 x.2 < szN b N y.1 y.2
theorem SLt.at {b : Int} (hb : 1 ≤ b) {x y : Int × Int} (h : SLt b x y) {M : Int} (h1 : 0 ≤ M + x.2) (h2 : 0 ≤ M + y.2) : szN b M x.1 x.2 < szN b M y.1 y.2 := by
  obtain ⟨N, a1, a2, a3⟩ := h
  rcases Int.le_total N M with c | c
  · have e : M = N + (M - N) := by omega
    rw [e, szN_shift a1 (by omega), szN_shift a2 (by omega)]
    exact (mul_lt_iff (by have := pow_pos' hb (M - N).toNat; omega)).mpr a3
  · have e : N = M + (N - M) := by omega
    rw [e, szN_shift h1 (by omega), szN_shift h2 (by omega)] at a3
    exact (mul_lt_iff (by have := pow_pos' hb (N - M).toNat; omega)).mp a3
/-! ### the steps in order -/
noncomputable def sAt (b : Int) (rs : List Int) (i : Int) : Int × Int := (rs.getD (i % rs.length).toNat 1, i / rs.length - lg b (rs.getD (i % rs.length).toNat 1))
/-- what is known of the mantissas in the order of their least steps -/
structure Rungs (b : Int) (rs : List Int) (top : Nat) : Prop where
  b2 : 2 ≤ b
  ne : 0 < rs.length
  pos : ∀ m ∈ rs, 1 ≤ m
  top_ : ∀ m ∈ rs, lg b m ≤ top
  st : rs.Pairwise (fun m n => keyOf b top m < keyOf b top n)
section
variable {b : Int} {rs : List Int} {top : Nat}
theorem Rungs.mem (R : Rungs b rs top) (i : Int) : (sAt b rs i).1 ∈ rs := by
  have h1 := Int.emod_nonneg i (show (rs.length : Int) ≠ 0 by have := R.ne; omega)
  have h2 := Int.emod_lt_of_pos i (show 0 < (rs.length : Int) by have := R.ne; omega)
  show rs.getD (i % rs.length).toNat 1 ∈ rs
  rw [List.getD_eq_getElem?_getD, List.getElem?_eq_getElem (show (i % rs.length).toNat < rs.length by omega)]
  exact List.getElem_mem _
/-- between which powers of the base a step's size lies -/
theorem Rungs.size (R : Rungs b rs top) {i N : Int} (hN : (lg b (sAt b rs i).1 : Int) ≤ N + i / rs.length) : szN b N (sAt b rs i).1 (sAt b rs i).2 = (sAt b rs i).1 * b ^ ((N + i / rs.length).toNat - lg b (sAt b rs i).1) := by
  unfold szN
  congr 2
  show (N + (i / rs.length - lg b (sAt b rs i).1)).toNat = _
  omega
theorem Rungs.bounds (R : Rungs b rs top) {i N : Int} (hN : (lg b (sAt b rs i).1 : Int) ≤ N + i / rs.length) : b ^ (N + i / rs.length).toNat ≤ szN b N (sAt b rs i).1 (sAt b rs i).2 ∧ szN b N (sAt b rs i).1 (sAt b rs i).2 < b ^ ((N + i / rs.length).toNat + 1) := by
  rw [R.size hN]
  exact key_lt (top := (N + i / rs.length).toNat) R.b2 (R.pos _ (R.mem i)) (by omega)
theorem keyOf_shift {top top' : Nat} {m : Int} (h : lg b m ≤ top) (h2 : top ≤ top') : keyOf b top' m = keyOf b top m * b ^ (top' - top) := by
  unfold keyOf
  rw [Int.mul_assoc, ← pow_add']
  congr 2
  omega
theorem Rungs.mono (R : Rungs b rs top) {i j N : Int} (hij : i < j) (hi : (top : Int) ≤ N + i / rs.length) : szN b N (sAt b rs i).1 (sAt b rs i).2 < szN b N (sAt b rs j).1 (sAt b rs j).2 := by
  have hn : 0 < (rs.length : Int) := by have := R.ne; omega
  have ti := R.top_ _ (R.mem i)
  have tj := R.top_ _ (R.mem j)
  have dij : i / rs.length ≤ j / rs.length := Int.ediv_le_ediv hn (by omega)
  obtain ⟨a1, a2⟩ := R.bounds (i := i) (N := N) (by omega)
  obtain ⟨c1, c2⟩ := R.bounds (i := j) (N := N) (by omega)
  by_cases q : i / rs.length = j / rs.length
  · have e1 := Int.emod_add_mul_ediv i rs.length
    have e2 := Int.emod_add_mul_ediv j rs.length
    have f1 := Int.emod_nonneg i (show (rs.length : Int) ≠ 0 by omega)
    have f2 := Int.emod_lt_of_pos i hn
    have g1 := Int.emod_nonneg j (show (rs.length : Int) ≠ 0 by omega)
    have g2 := Int.emod_lt_of_pos j hn
    rw [q] at e1
    have lt : (i % rs.length).toNat < (j % rs.length).toNat := by omega
    rw [R.size (by omega), R.size (by omega), q]
    have hp := (List.pairwise_iff_getElem.mp R.st) (i % rs.length).toNat (j % rs.length).toNat (by omega) (by omega) lt
    have ei : (sAt b rs i).1 = rs[(i % rs.length).toNat]'(by omega) := by
      show rs.getD (i % rs.length).toNat 1 = _
      rw [List.getD_eq_getElem?_getD, List.getElem?_eq_getElem (show (i % rs.length).toNat < rs.length by omega)]
      rfl
    have ej : (sAt b rs j).1 = rs[(j % rs.length).toNat]'(by omega) := by
      show rs.getD (j % rs.length).toNat 1 = _
      rw [List.getD_eq_getElem?_getD, List.getElem?_eq_getElem (show (j % rs.length).toNat < rs.length by omega)]
      rfl
    rw [← ei, ← ej] at hp
    have k1 := keyOf_shift (b := b) ti (show top ≤ (N + j / rs.length).toNat by omega)
    have k2 := keyOf_shift (b := b) tj (show top ≤ (N + j / rs.length).toNat by omega)
    show keyOf b (N + j / rs.length).toNat _ < keyOf b (N + j / rs.length).toNat _
    rw [k1, k2]
    exact (mul_lt_iff (by have := pow_pos' (b := b) (by have := R.b2; omega) ((N + j / rs.length).toNat - top); omega)).mpr hp
  · have := pow_le' (b := b) (by have := R.b2; omega) (show (N + i / rs.length).toNat + 1 ≤ (N + j / rs.length).toNat by omega)
    omega
/-- every step has its place -/
theorem Rungs.place (R : Rungs b rs top) {m p : Int} (hm : m ∈ rs) : ∃ i : Int, sAt b rs i = (m, p) := by
  obtain ⟨j, hj, e⟩ := List.getElem_of_mem hm
  refine ⟨(p + lg b m) * rs.length + j, ?_⟩
  have hn : 0 < (rs.length : Int) := by omega
  have e1 : ((p + lg b m) * rs.length + j) % rs.length = j := by
    rw [Int.add_comm, Int.add_mul_emod_self_right]
    exact Int.emod_eq_of_lt (by omega) (by omega)
  have e2 : ((p + lg b m) * rs.length + j) / rs.length = p + lg b m := by
    rw [Int.add_comm, Int.add_mul_ediv_right _ _ (by omega), Int.ediv_eq_zero_of_lt (by omega) (by omega)]
    omega
  unfold sAt
  rw [e1, e2]
  have e3 : rs.getD (j : Int).toNat 1 = m := by
    rw [Int.toNat_natCast, List.getD_eq_getElem?_getD, List.getElem?_eq_getElem hj, e]
    rfl
  rw [e3]
  exact Prod.ext rfl (by show p + (lg b m : Int) - (lg b m : Int) = p; omega)
end
end Ax

namespace Ax
/-- the i-th step fits -/
def FitI (b : Int) (rs : List Int) (k : Kd) (most l h d i : Int) : Prop := FitE b k most l h (sAt b rs i).1 ((sAt b rs i).2 + d)
noncomputable def lowQ (b most l h d : Int) : Int := lg b (h - l) - d - (lg b (most + 1) + 1)
theorem szN_digits {b N m p d : Int} : szN b N m (p + d) = szN b (N + d) m p := by
  unfold szN
  congr 2
  omega
section
variable {b : Int} {rs : List Int} {top : Nat} {k : Kd} {most l h d : Int}
theorem fit_low (R : Rungs b rs top) (hlt : l < h) (hm : 1 ≤ most) {i : Int} (hi : i < lowQ b most l h d * rs.length) : ¬ FitI b rs k most l h d i := by
  have hb := R.b2
  have hn : 0 < (rs.length : Int) := by have := R.ne; omega
  have q1 : i / rs.length < lowQ b most l h d := Int.ediv_lt_of_lt_mul hn hi
  have tm := R.top_ _ (R.mem i)
  have mp := R.pos _ (R.mem i)
  obtain ⟨g1, g2⟩ := lg_spec (b := b) (m := h - l) hb (by omega)
  obtain ⟨g3, g4⟩ := lg_spec (b := b) (m := most + 1) hb (by omega)
  -- units that are small enough
  obtain ⟨N, hN⟩ : ∃ N : Int, N = top + (i / rs.length).natAbs + d.natAbs := ⟨_, rfl⟩
  have b1 := R.bounds (i := i) (N := N + d) (by omega)
  unfold FitI
  rw [fitE_N (N := N) (by omega) mp (by omega) (by show 0 ≤ N + (i / rs.length - lg b (sAt b rs i).1 + d); omega), szN_digits]
  refine fit_small ?_ (by have := szN_pos (b := b) (N := N + d) (p := (sAt b rs i).2) (by omega) mp; omega)
  rw [← Int.sub_mul]
  unfold lowQ at q1
  have p1 := pow_pos' (b := b) (by omega) N.toNat
  have h1 : (most + 1) * szN b (N + d) (sAt b rs i).1 (sAt b rs i).2 ≤ b ^ (lg b (most + 1) + 1) * b ^ ((N + d + i / rs.length).toNat + 1) := by
    have s0 := szN_pos (b := b) (N := N + d) (p := (sAt b rs i).2) (by omega) mp
    exact Int.mul_le_mul (by omega) (by omega) (by omega) (by omega)
  have h2 : b ^ (lg b (most + 1) + 1) * b ^ ((N + d + i / rs.length).toNat + 1) ≤ b ^ lg b (h - l) * b ^ N.toNat := by
    rw [← pow_add', ← pow_add']
    exact pow_le' (by omega) (by omega)
  have h3 := Int.mul_le_mul_of_nonneg_right g1 (show 0 ≤ b ^ N.toNat by omega)
  omega
theorem fit_high (R : Rungs b rs top) (hlt : l < h) (hm : 1 ≤ most) (hc : k = .cov → 2 ≤ most) {i : Int} (hi : (lg b (h - l) - d + 1) * rs.length ≤ i) : FitI b rs k most l h d i := by
  have hb := R.b2
  have hn : 0 < (rs.length : Int) := by have := R.ne; omega
  have q1 : (lg b (h - l) - d + 1 : Int) ≤ i / rs.length := (Int.le_ediv_iff_mul_le hn).mpr hi
  have tm := R.top_ _ (R.mem i)
  have mp := R.pos _ (R.mem i)
  obtain ⟨g1, g2⟩ := lg_spec (b := b) (m := h - l) hb (by omega)
  obtain ⟨N, hN⟩ : ∃ N : Int, N = top + (i / rs.length).natAbs + d.natAbs := ⟨_, rfl⟩
  have b1 := R.bounds (i := i) (N := N + d) (by omega)
  unfold FitI
  rw [fitE_N (N := N) (by omega) mp (by omega) (by show 0 ≤ N + (i / rs.length - lg b (sAt b rs i).1 + d); omega), szN_digits]
  refine fit_big hm hc ?_ (by have := szN_pos (b := b) (N := N + d) (p := (sAt b rs i).2) (by omega) mp; omega)
  rw [← Int.sub_mul]
  have p1 := pow_pos' (b := b) (by omega) N.toNat
  have h2 : b ^ (lg b (h - l) + 1) * b ^ N.toNat ≤ b ^ (N + d + i / rs.length).toNat := by
    rw [← pow_add']
    exact pow_le' (by omega) (by omega)
  have h3 := (mul_lt_iff (c := b ^ N.toNat) (by omega)).mpr g2
  omega
/-- how far the power of a step that comes into question lies from the ends' digits -/
theorem exp_bound (R : Rungs b rs top) (hb : b < 2 ^ 64) (hlt : l < h) (hlen : h - l < 2 ^ 1000) (hm : 1 ≤ most) (hmB : most < 2 ^ 60) (hrB : ∀ m ∈ rs, m < 2 ^ 64) {i : Int} (h1 : lowQ b most l h d * rs.length ≤ i) (h2 : i ≤ (lg b (h - l) - d + 1) * rs.length) :
    b ^ ((sAt b rs i).2 + d).natAbs < 2 ^ 2000 := by
  have hn : 0 < (rs.length : Int) := by have := R.ne; omega
  have q1 : lowQ b most l h d ≤ i / rs.length := (Int.le_ediv_iff_mul_le hn).mpr h1
  have q2 : i / rs.length ≤ (lg b (h - l) - d + 1 : Int) := Int.ediv_le_of_le_mul hn h2
  unfold lowQ at q1
  have hb2 := R.b2
  have mp := R.pos _ (R.mem i)
  have mB := hrB _ (R.mem i)
  have g1 := (lg_spec (b := b) (m := h - l) hb2 (by omega)).1
  have g2 := (lg_spec (b := b) (m := most + 1) hb2 (by omega)).1
  have g3 := (lg_spec (b := b) (m := (sAt b rs i).1) hb2 mp).1
  have e1 : ((sAt b rs i).2 + d).natAbs ≤ lg b (h - l) + (lg b (most + 1) + (lg b (sAt b rs i).1 + (1 + 1))) := by
    show (i / rs.length - lg b (sAt b rs i).1 + d).natAbs ≤ _
    omega
  refine Int.lt_of_le_of_lt (pow_le' (by omega) e1) ?_
  rw [pow_add', pow_add', pow_add', pow_add', Int.pow_succ, Int.pow_zero, Int.one_mul]
  have p1 := pow_pos' (b := b) (by omega) (lg b (h - l))
  have p2 := pow_pos' (b := b) (by omega) (lg b (most + 1))
  have p3 := pow_pos' (b := b) (by omega) (lg b (sAt b rs i).1)
  have c0 : b * b ≤ 2 ^ 64 * 2 ^ 64 := Int.mul_le_mul (by omega) (by omega) (by omega) (by decide)
  have z0 : 0 ≤ b * b := Int.mul_nonneg (by omega) (by omega)
  have c1 : b ^ lg b (sAt b rs i).1 * (b * b) ≤ 2 ^ 64 * (2 ^ 64 * 2 ^ 64) := Int.mul_le_mul (by omega) c0 z0 (by decide)
  have z1 : 0 ≤ b ^ lg b (sAt b rs i).1 * (b * b) := Int.mul_nonneg (by omega) z0
  have c2 : b ^ lg b (most + 1) * (b ^ lg b (sAt b rs i).1 * (b * b)) ≤ 2 ^ 61 * (2 ^ 64 * (2 ^ 64 * 2 ^ 64)) := Int.mul_le_mul (by
    have : (2 : Int) ^ 60 + 1 ≤ 2 ^ 61 := by decide
    omega) c1 z1 (by decide)
  have z2 : 0 ≤ b ^ lg b (most + 1) * (b ^ lg b (sAt b rs i).1 * (b * b)) := Int.mul_nonneg (by omega) z1
  have c3 : b ^ lg b (h - l) * (b ^ lg b (most + 1) * (b ^ lg b (sAt b rs i).1 * (b * b))) ≤ 2 ^ 1000 * (2 ^ 61 * (2 ^ 64 * (2 ^ 64 * 2 ^ 64))) := Int.mul_le_mul (by omega) c2 z2 (by have := pow_pos' (b := 2) (by decide) 1000; omega)
  refine Int.lt_of_le_of_lt c3 ?_
  rw [← pow_add', ← pow_add', ← pow_add', ← pow_add']
  exact pow_lt' (b := 2) (by decide) (by decide)
/-- THE STEP: the least of a rule that fits -/
structure LeastFit (b : Int) (ms : List Int) (k : Kd) (most l h d m p : Int) : Prop where
  mem : m ∈ ms
  fit : FitE b k most l h m (p + d)
  least : ∀ m' ∈ ms, ∀ p' : Int, SLt b (m', p') (m, p) → ¬ FitE b k most l h m' (p' + d)
theorem least_of (R : Rungs b rs top) (hlt : l < h) (hm : 1 ≤ most) {ms : List Int} (pm : rs.Perm ms) {i : Int} (h1 : FitI b rs k most l h d i) (h2 : ∀ j, lowQ b most l h d * rs.length ≤ j → j < i → ¬ FitI b rs k most l h d j) : LeastFit b ms k most l h d (sAt b rs i).1 (sAt b rs i).2 := by
  refine ⟨pm.mem_iff.mp (R.mem i), h1, fun m' hm' p' hs => ?_⟩
  obtain ⟨j, hj⟩ := R.place (p := p') (pm.mem_iff.mpr hm')
  have hji : j < i := by
    apply Int.lt_of_not_ge
    intro c
    rcases Int.lt_or_eq_of_le c with c | c
    · have tm := R.top_ _ (R.mem i)
      have tj := R.top_ _ (R.mem j)
      obtain ⟨N, hN⟩ : ∃ N : Int, N = top + (i / rs.length).natAbs + (j / rs.length).natAbs := ⟨_, rfl⟩
      have a := R.mono (i := i) (j := j) (N := N) c (by omega)
      have a2 : szN b N (sAt b rs j).1 (sAt b rs j).2 < szN b N (sAt b rs i).1 (sAt b rs i).2 := by
        rw [hj]
        refine hs.at (by have := R.b2; omega) ?_ ?_
        · have e : (sAt b rs j).2 = p' := by rw [hj]
          show 0 ≤ N + p'
          rw [← e]
          show 0 ≤ N + (j / rs.length - lg b (sAt b rs j).1)
          omega
        · show 0 ≤ N + (i / rs.length - lg b (sAt b rs i).1)
          omega
      omega
    · subst c
      rw [hj] at hs
      obtain ⟨N, _, _, q⟩ := hs
      exact absurd q (Int.lt_irrefl _)
  have nf : ¬ FitI b rs k most l h d j := by
    by_cases q : lowQ b most l h d * rs.length ≤ j
    · exact h2 j q hji
    · exact fit_low R hlt hm (by omega)
  unfold FitI at nf
  rw [hj] at nf
  exact nf
end
end Ax
namespace Ax
instance {b : Int} {k : Kd} {most l h m e : Int} : Decidable (FitE b k most l h m e) := inferInstanceAs (Decidable (_ ≤ _))
theorem fac_bound {b e : Int} {n : Nat} (hb : 1 ≤ b) (h : b ^ e.natAbs < 2 ^ n) : 1 ≤ facZ b e ∧ facZ b e < 2 ^ n := by
  have h1 := pow_pos' hb e.natAbs
  unfold facZ
  by_cases c : 0 ≤ e
  · rw [if_pos c]
    omega
  · rw [if_neg c, show (-e).toNat = e.natAbs by omega]
    exact ⟨h1, h⟩
theorem siz_bound {b m e : Int} {n : Nat} (hb : 1 ≤ b) (hm : 1 ≤ m) (hmB : m < 2 ^ 64) (h : b ^ e.natAbs < 2 ^ n) : 1 ≤ sizZ b m e ∧ sizZ b m e < 2 ^ (64 + n) := by
  have h1 := pow_pos' hb e.natAbs
  unfold sizZ
  by_cases c : 0 ≤ e
  · rw [if_pos c, show e.toNat = e.natAbs by omega]
    have a := Int.mul_le_mul hm h1 (by omega) (by omega)
    have a1 := Int.mul_lt_mul_of_pos_right hmB (show 0 < b ^ e.natAbs by omega)
    have a2 := Int.mul_lt_mul_of_pos_left h (show (0 : Int) < 2 ^ 64 by decide)
    rw [pow_add']
    omega
  · rw [if_neg c]
    have := pow_le' (b := 2) (by decide) (Nat.le_add_right 64 n)
    omega
end Ax

namespace Ax
open PySem L2
/-! ### kinds, sizes, reaches: the mathematics' own words -/
def Kd.s : Kd → Str
  | .ins => "inside" | .cov => "cover" | .len => "length"
section
variable {P : Program} {w : World} {K : PySem.W.Frag} {mg : Str → Option Value} {base : Heap} {A : Adr}
/-! ### measure -/
def spMeasure (K : PySem.W.Frag) : Sp := fun vs H Q _ => ∃ (b m p d : Int) (t : Addr), vs = [.int b, .ref t, .int d] ∧ SqT K H t [.int m, .int p] ∧ 1 ≤ b ∧ b < BIG ∧ b ^ (p + d).natAbs < BIG ∧ 0 ≤ m ∧ m < BIG ∧
  ∀ (H' : Hp) (q : Addr), Same H H' → H q = none → H' = upd H q (.tup [.int (facZ b (p + d)), .int (sizZ b m (p + d))]) → Q (.ref q) H'
abbrev nm_measure : List Str := ["base", "step", "digits", "mantissa", "power", "exponent"]
theorem sc_measure : FnScope ["base", "step", "digits", "mantissa", "power", "exponent"] ["base", "step", "digits"] (defScope s_measure) := ⟨rfl, rfl, rfl, by decide +kernel, rfl, by decide +kernel, by decide +kernel⟩
theorem ok_measure (T : Txt K mg A w) : FnOk P w K mg base CX0 2 A.a_measure A.d_measure ["base", "step", "digits"] (spMeasure K) := by
  have G_power_of : FnOk P w K mg base CX0 1 A.a_power_of A.d_power_of ["base", "exponent"] spPow := ok_power_of T
  refine T.F_measure.ok sc_measure (fun vs H Q E h => ?_) (fun cdv A0 outer s H vs Q E hr h => ?_)
  · obtain ⟨b, m, p, d, t, rfl, _⟩ := h
    rfl
  · obtain ⟨b, m, p, d, t, rfl, hT, hb, hbB, hpB, hm, hmB, q⟩ := h
    refine ⟨_, (pss_cons (ps_asg (pv 1) (pg_tup (by rfl) (pgs_cons (pg_name (i := 3) sc_measure.nd rfl (Or.inl rfl)) (pgs_cons (pg_name (i := 4) sc_measure.nd rfl (Or.inl rfl)) pgs_nil))))
  (pss_cons (ps_set (i := 5) sc_measure.nd rfl (Or.inl rfl) (pe_op op_add (pv 4) (pv 2)))
  (pss_cons (ps_if (pt_cmpR op_ge (pv 5) pe_int (nomark _)) (pss_one (ps_ret (pe_tup (pa_cons pe_int (pa_cons (pe_op op_mulW (pv 3) (pe_call G_power_of (hr.mono (by decide)) (by rfl) T.m_power_of T.F_power_of.kp T.B_power_of .nil pass0 (pa_cons (pv 0) (pa_cons (pv 5) pa_nil)))) pa_nil))))) pss_nil)
  (pss_one (ps_ret (pe_tup (pa_cons (pe_call G_power_of (hr.mono (by decide)) (by rfl) T.m_power_of T.F_power_of.kp T.B_power_of .nil pass0 (pa_cons (pv 0) (pa_cons (pe_un un_neg (pv 5)) pa_nil))) (pa_cons (pv 3) pa_nil)))))))), ?_⟩
    refine ⟨_, rfl, t, _, rfl, hT, rfl, _, _, rfl, _, _, rfl, rfl, ?_⟩
    refine ⟨_, rfl, _, rfl, _, _, rfl, rfl, ?_⟩
    refine ⟨_, rfl, _, _, rfl, rfl, _, rfl, ?_⟩
    refine ite2 (fun hc => ?_) (fun hc => ?_)
    · have hc : 0 ≤ p + d := of_decide_eq_true hc
      have e1 : facZ b (p + d) = 1 := if_pos hc
      have e2 : sizZ b m (p + d) = m * b ^ (p + d).toNat := if_pos hc
      have hpB' : b ^ (p + d).toNat < BIG := by rw [show (p + d).toNat = (p + d).natAbs by omega]; exact hpB
      refine ⟨_, rfl, _, rfl, _, rfl, b, p + d, rfl, hb, hc, hpB', hbB, ?_⟩
      have hp1 := pow_pos' hb (p + d).toNat
      refine ⟨_, _, rfl, rfl, mulBig hm (big_le hmB) (by omega) (big_le hpB'), (by show 2 ≤ sizeLine; decide), fun r hr0 => ?_⟩
      refine q _ r (fun c o e => ?_) hr0 ?_
      · rw [upd_ne (ne_of_none e hr0)]
        exact e
      · rw [e1, e2]
    · have hc : ¬ 0 ≤ p + d := fun z => hc (decide_eq_true z)
      have e1 : facZ b (p + d) = b ^ (-(p + d)).toNat := if_neg hc
      have e2 : sizZ b m (p + d) = m := if_neg hc
      have hpB' : b ^ (-(p + d)).toNat < BIG := by rw [show (-(p + d)).toNat = (p + d).natAbs by omega]; exact hpB
      refine ⟨_, rfl, _, rfl, _, rfl, b, -(p + d), rfl, hb, by omega, hpB', hbB, ?_⟩
      refine ⟨_, rfl, (by show 2 ≤ sizeLine; decide), fun r hr0 => ?_⟩
      refine q _ r (fun c o e => ?_) hr0 ?_
      · rw [upd_ne (ne_of_none e hr0)]
        exact e
      · rw [e1, e2]
/-! ### reach -/
def spReach : Sp := fun vs H Q _ => ∃ (k : Kd) (most low size : Int), vs = [.str k.s, .int most, .int low, .int size] ∧ 1 ≤ size ∧ size < BIG ∧ -BIG < low ∧ low < BIG ∧ 0 ≤ most ∧ most < BIG ∧ Q (.int (reachZ k most low size)) H
abbrev nm_reach : List Str := ["kind", "most", "low", "size"]
theorem sc_reach : FnScope ["kind", "most", "low", "size"] ["kind", "most", "low", "size"] (defScope s_reach) := ⟨rfl, rfl, rfl, by decide +kernel, rfl, by decide +kernel, by decide +kernel⟩
theorem div_big {i j : Int} (h1 : 1 ≤ j) (h2 : -BIG < i) (h3 : i < BIG) : -BIG ≤ i / j ∧ i / j < BIG := by
  have hB : (0 : Int) < BIG := by show (0 : Int) < 2 ^ 8000; exact Int.lt_of_lt_of_le (by decide) (pow_pos' (b := 2) (by decide) 8000)
  constructor
  · refine (Int.le_ediv_iff_mul_le (by omega)).mpr ?_
    have := Int.mul_le_mul_of_nonneg_left h1 (show (0 : Int) ≤ BIG by omega)
    rw [Int.neg_mul]
    omega
  · refine (Int.ediv_lt_iff_lt_mul (by omega)).mpr ?_
    have := Int.mul_le_mul_of_nonneg_left h1 (show (0 : Int) ≤ BIG by omega)
    omega
theorem size_div {j : Int} (h1 : 1 ≤ j) (h2 : j < BIG) (i : Int) : CDivW i j := wide_div (b := 8000) (by omega) (abs_lt_pow (by omega) h2) (by decide) (by decide)
theorem mulBig' {i j : Int} (h0 : -(BIG + BIG) ≤ i) (h1 : i ≤ BIG + BIG) (h2 : 0 ≤ j) (h3 : j < BIG) : CMulW i j := by
  refine wide_mul (a := 8002) (b := 8000) ?_ (abs_lt_pow h2 h3) (by decide) (by decide) (by decide)
  have e : (2 : Int) ^ 8002 = 2 ^ 8000 * 4 := by
    rw [show 8002 = 8000 + 2 from rfl, pow_add']
    rfl
  have hB : (0 : Int) < BIG := by show (0 : Int) < 2 ^ 8000; exact Int.lt_of_lt_of_le (by decide) (pow_pos' (b := 2) (by decide) 8000)
  rcases Int.le_total 0 i with h | h
  · exact abs_lt_pow h (by rw [e]; show i < BIG * 4; omega)
  · rw [← Int.natAbs_neg]
    exact abs_lt_pow (by omega) (by rw [e]; show -i < BIG * 4; omega)
theorem kd_is (k k' : Kd) : decide (V.str k.s = V.str k'.s) = decide (k = k') := by
  cases k <;> cases k' <;> decide +kernel
theorem ok_reach (T : Txt K mg A w) : FnOk P w K mg base CX0 1 A.a_reach A.d_reach ["kind", "most", "low", "size"] spReach := by
  refine T.F_reach.ok sc_reach (fun vs H Q E h => ?_) (fun cdv A0 outer s H vs Q E hr h => ?_)
  · obtain ⟨k, a, b, c, rfl, _⟩ := h
    rfl
  · obtain ⟨k, most, low, size, rfl, hs, hsB, hlo, hhi, hm, hmB, q⟩ := h
    refine ⟨_, (pss_cons (ps_if (pt_cmpR op_eq (pv 0) pe_str (nomark _)) (pss_one (ps_ret (pe_op op_add (pv 2) (pe_op op_mulW (pv 1) (pv 3))))) pss_nil)
  (pss_cons (ps_if (pt_cmpR op_eq (pv 0) pe_str (nomark _)) (pss_one (ps_ret (pe_op op_mulW (pe_op op_add (pe_op op_fdivW (pv 2) (pv 3)) (pv 1)) (pv 3)))) pss_nil)
  (pss_one (ps_ret (pe_op op_sub (pe_op op_mulW (pe_op op_add (pe_un un_neg (pe_op op_fdivW (pe_un un_neg (pv 2)) (pv 3))) (pv 1)) (pv 3)) pe_int))))), ?_⟩
    have d1 := div_big hs hlo hhi
    have d2 := div_big (i := -low) hs (by omega) (by omega)
    refine ⟨_, rfl, rfl, _, rfl, ?_⟩
    show if (decide (V.str k.s = V.str Kd.len.s)) = true then _ else _
    rw [kd_is]
    cases k with
    | len =>
      refine iteT ?_
      exact ⟨_, rfl, _, rfl, _, rfl, _, _, rfl, rfl, mulBig' (by omega) (by omega) (by omega) hsB, _, _, rfl, rfl, q⟩
    | cov =>
      refine iteF ?_
      refine ⟨_, rfl, rfl, _, rfl, ?_⟩
      show if (decide (V.str Kd.cov.s = V.str Kd.cov.s)) = true then _ else _
      rw [kd_is]
      refine iteT ?_
      exact ⟨_, rfl, _, rfl, _, _, rfl, rfl, size_div hs hsB _, _, rfl, _, _, rfl, rfl, _, rfl, _, _, rfl, rfl, mulBig' (by show -(BIG + BIG) ≤ low / size + most; omega) (by show low / size + most ≤ BIG + BIG; omega) (by omega) hsB, q⟩
    | ins =>
      refine iteF ?_
      refine ⟨_, rfl, rfl, _, rfl, ?_⟩
      show if (decide (V.str Kd.ins.s = V.str Kd.cov.s)) = true then _ else _
      rw [kd_is]
      refine iteF ?_
      exact ⟨_, rfl, _, rfl, _, rfl, _, _, rfl, rfl, size_div hs hsB _, _, rfl, _, rfl, _, _, rfl, rfl, _, rfl, _, _, rfl, rfl, mulBig' (by show -(BIG + BIG) ≤ -(-low / size) + most; omega) (by show -(-low / size) + most ≤ BIG + BIG; omega) (by omega) hsB, _, _, rfl, rfl, q⟩
/-! ### is_span -/
theorem yes_of {σ : L2.St} {H : Hp} {A B : Hp → Prop} (h : A H) : tYes σ H (fun b H3 => if b = true then A H3 else B H3) := by
  show if true = true then A H else B H
  rw [if_pos rfl]
  exact h
def spSpan : Sp := fun vs H Q _ => ∃ (t : Addr) (l h d : Int), vs = [.ref t] ∧ H t = some (.tup [.int l, .int h, .int d]) ∧ l < h ∧ 0 ≤ d ∧ ∀ H', Same H H' → Q (.bl true) H'
abbrev nm_is_span : List Str := ["value", "number", "low", "high", "digits"]
theorem sc_is_span : FnScope ["value", "number", "low", "high", "digits"] ["value"] (defScope s_is_span) := ⟨rfl, rfl, rfl, by decide +kernel, rfl, by decide +kernel, by decide +kernel⟩
theorem ok_is_span (T : Txt K mg A w) : FnOk P w K mg base CX0 2 A.a_is_span A.d_is_span ["value"] spSpan := by
  have G_is_whole : FnOk P w K mg base CX0 1 A.a_is_whole A.d_is_whole ["value"] (spWhole K) := ok_is_whole T
  refine T.F_is_span.ok sc_is_span (fun vs H Q E h => ?_) (fun cdv A0 outer s H vs Q E hr h => ?_)
  · obtain ⟨t, l, h, d, rfl, _⟩ := h
    rfl
  · obtain ⟨t, l, h, d, rfl, hT, hlh, hd, q⟩ := h
    refine ⟨_, (pss_cons (ps_if (PW.pt (pw_or (pt_not (pt_val (pe_callB call_isi (by rfl) T.n_isinstance (by decide +kernel) (pa_cons (pv 0) (pa_cons (pe_bltn (v := .ty "tuple") (by rfl) T.n_tuple (by decide +kernel) rfl) pa_nil))))) (pw_or1 (pt_cmpR op_ne (pe_callB call_len_seq (by rfl) T.n_len (by decide +kernel) (pa_cons (pv 0) pa_nil)) pe_int (nomark _))))) (pss_one (ps_ret pe_bl)) pss_nil)
  (pss_cons (ps_if (pt_not (pt_val (pe_callB (cr_all rfl) (by rfl) T.n_all (by decide +kernel) (pa_cons (pe_lc (own := [("number", 1)]) (g := gName 1) (tt := tYes) rfl sc_is_span.nd (pi_tup (pv 0)) (blkOk_by (own := [("number", 1)]) (N := nm_is_span) (sc := defScope s_is_span) (by decide +kernel)) (fun _ _ _ _ _ => (pg_name (i := 1) sc_is_span.nd rfl (Or.inl rfl))) (fun _ _ _ _ _ => pts_nil) (fun _ _ _ _ _ => (pe_call G_is_whole (hr.mono (by decide)) (by rfl) T.m_is_whole T.F_is_whole.kp T.B_is_whole .nil pass0 (pa_cons (pv 1) pa_nil)))) pa_nil)))) (pss_one (ps_ret pe_bl)) pss_nil)
  (pss_cons (ps_asg (pv 0) (pg_tup (by rfl) (pgs_cons (pg_name (i := 2) sc_is_span.nd rfl (Or.inl rfl)) (pgs_cons (pg_name (i := 3) sc_is_span.nd rfl (Or.inl rfl)) (pgs_cons (pg_name (i := 4) sc_is_span.nd rfl (Or.inl rfl)) pgs_nil)))))
  (pss_one (ps_ret (pe_and (pe_cmpR op_lt (pv 2) (pv 3) (nomark _)) (pe_one (pe_cmpR op_ge (pv 4) pe_int (nomark _))))))))), ?_⟩
    refine ⟨_, rfl, _, .ty "tuple", .type "tuple", .type "tuple", true, rfl, .ty _, .base (.tup hT), kit_ty (by decide +kernel), true, rfl, ?_⟩
    refine iteF ?_
    refine ⟨_, rfl, t, _, rfl, .inr (SqT.of hT), rfl, _, rfl, ?_⟩
    refine iteF ?_
    refine ⟨_, rfl, t, rfl, ⟨_, SqT.of hT⟩, fun D hD => lc_tup (K := K) (a := t) (xs := [.int l, .int h, .int d]) (fun i H' => H' = upd H D (.lst (List.replicate i (.bl true)))) rfl ?_ ?_ ?_⟩
    · rintro i H' _ rfl
      exact SqT.of (by rw [upd_ne (ne_of_none hT hD)]; exact hT)
    · rintro i x H' hi rfl
      obtain ⟨n, rfl⟩ : ∃ n, x = V.int n := by
        match i, hi with
        | 0, hi => exact ⟨l, (Option.some.inj hi).symm⟩
        | 1, hi => exact ⟨h, (Option.some.inj hi).symm⟩
        | 2, hi => exact ⟨d, (Option.some.inj hi).symm⟩
      refine ⟨rfl, yes_of ?_⟩
      refine ⟨_, rfl, .int n, .type "int", true, false, rfl, .base (.int n), kit_ty (by decide +kernel), fun _ => kit_ty (by decide +kernel), ?_⟩
      have hi3 : i < 3 := (List.getElem?_eq_some_iff.mp hi).1
      refine ⟨_, upd_same, ?_, ?_⟩
      · rw [List.length_replicate]
        exact small1000 (by omega)
      · rw [upd_upd, List.replicate_succ']
        rfl
    · rintro H' rfl
      have s1 : Same H (upd H D (.lst (List.replicate 3 (.bl true)))) := fun c o e => by
        rw [upd_ne (ne_of_none e hD)]
        exact e
      refine ⟨D, [true, true, true], rfl, SqL.of upd_same, true, rfl, iteF ?_⟩
      refine ⟨_, rfl, t, _, rfl, SqT.of (s1 _ _ hT), rfl, _, _, rfl, _, _, rfl, _, _, rfl, rfl, ?_⟩
      refine ⟨_, rfl, _, rfl, _, _, rfl, rfl, _, rfl, ?_⟩
      rw [decide_eq_true hlh]
      refine iteT ?_
      refine ⟨_, rfl, _, _, rfl, rfl, ?_⟩
      show Q (.bl (decide (0 ≤ d))) _
      rw [decide_eq_true hd]
      exact q _ s1
end
end Ax

namespace Ax
open PySem L2
/-- what a rule may be made of -/
structure RArgs (b : Int) (k : Kd) (ms : List Int) (most : Int) : Prop where
  b2 : 2 ≤ b
  bB : b < 2 ^ 64
  m1 : 1 ≤ most
  mB : most < 2 ^ 60
  mC : k = .cov → 2 ≤ most
  ne : ms ≠ []
  le : ms.length < 60
  nd : ms.Nodup
  all : ∀ m ∈ ms, 1 ≤ m ∧ m < 2 ^ 64 ∧ m % b ≠ 0
section
variable {P : Program} {w : World} {K : PySem.W.Frag} {mg : Str → Option Value} {base : Heap} {A : Adr}
/-! ### _kind_and_most_fit -/
def spKM : Sp := fun vs H Q _ => ∃ (k : Kd) (most : Int), vs = [.str k.s, .int most] ∧ 1 ≤ most ∧ (k = .cov → 2 ≤ most) ∧ Q (.bl true) H
abbrev nm_kind_and_most_fit : List Str := ["kind", "most"]
theorem sc_kind_and_most_fit : FnScope ["kind", "most"] ["kind", "most"] (defScope s_kind_and_most_fit) := ⟨rfl, rfl, rfl, by decide +kernel, rfl, by decide +kernel, by decide +kernel⟩
def Kd.least : Kd → Int
  | .cov => 2 | _ => 1
theorem kd_in (T : Txt K mg A w) (k : Kd) : ∃ t, PySem.W.nsIn K A.a_LEAST k.s = some (some (.int k.least t)) := by
  cases k with
  | ins => exact T.kd_inside
  | cov => exact T.kd_cover
  | len => exact T.kd_length
theorem ok_kind (T : Txt K mg A w) : FnOk P w K mg base CX0 2 A.a_kind_and_most_fit A.d_kind_and_most_fit ["kind", "most"] spKM := by
  have G_is_whole : FnOk P w K mg base CX0 1 A.a_is_whole A.d_is_whole ["value"] (spWhole K) := ok_is_whole T
  refine T.F_kind_and_most_fit.ok sc_kind_and_most_fit (fun vs H Q E h => ?_) (fun cdv A0 outer s H vs Q E hr h => ?_)
  · obtain ⟨k, m, rfl, _⟩ := h
    rfl
  · obtain ⟨k, m, rfl, hm, hc, q⟩ := h
    obtain ⟨es, n, D⟩ := T.kd
    obtain ⟨tk, hk⟩ := kd_in T k
    refine ⟨_, (pss_cons (ps_if (PW.pt (pw_or (pt_not (pt_val (pe_callB call_isi (by rfl) T.n_isinstance (by decide +kernel) (pa_cons (pv 0) (pa_cons (pe_bltn (v := .ty "str") (by rfl) T.n_str (by decide +kernel) rfl) pa_nil))))) (pw_or1 (pt_cmpR (op_notIn_kd D) (pv 0) (pe_glob (v := .ref A.a_LEAST) rfl T.m_LEAST_MOST rfl) (by rfl))))) (pss_one (ps_ret pe_bl)) pss_nil)
  (pss_one (ps_ret (pe_and (pe_call G_is_whole (hr.mono (by decide)) (by rfl) T.m_is_whole T.F_is_whole.kp T.B_is_whole .nil pass0 (pa_cons (pv 1) pa_nil)) (pe_one (pe_cmpR op_ge (pv 1) (pe_ix ix_kdict (pe_glob (v := .ref A.a_LEAST) rfl T.m_LEAST_MOST rfl) (pv 0) (fun _ _ => rfl)) (nomark _))))))), ?_⟩
    refine ⟨_, rfl, _, .ty "str", .type "str", .type "str", true, rfl, .ty _, .base (.str _), kit_ty (by decide +kernel), true, rfl, ?_⟩
    refine iteF ?_
    refine ⟨_, rfl, k.s, _, rfl, rfl, hk, _, rfl, ?_⟩
    refine iteF ?_
    refine ⟨_, rfl, .int m, .type "int", true, false, rfl, .base (.int m), kit_ty (by decide +kernel), fun _ => kit_ty (by decide +kernel), ?_⟩
    refine ⟨_, rfl, ?_⟩
    refine iteT ?_
    refine ⟨_, rfl, _, rfl, _, k.s, .int k.least, rfl, rfl, ⟨es, n, _, D.at_, D.lit, hk, tk, rfl⟩, _, _, rfl, rfl, ?_⟩
    show Q (.bl (decide (k.least ≤ m))) _
    rw [decide_eq_true (show k.least ≤ m by cases k <;> simp [Kd.least] at * <;> omega)]
    exact q
/-! ### _mantissas_fit -/
def spMF (K : PySem.W.Frag) : Sp := fun vs H Q _ => ∃ (k : Kd) (b most : Int) (ms : List Int) (a : Addr), vs = [.int b, .ref a] ∧ H a = some (.lst (ms.map V.int)) ∧ RArgs b k ms most ∧ ∀ H', Same H H' → Q (.bl true) H'
abbrev nm_mantissas_fit : List Str := ["base", "mantissas", "mantissa"]
theorem sc_mantissas_fit : FnScope ["base", "mantissas", "mantissa"] ["base", "mantissas"] (defScope s_mantissas_fit) := ⟨rfl, rfl, rfl, by decide +kernel, rfl, by decide +kernel, by decide +kernel⟩
theorem map_get {ms : List Int} {i : Nat} {x : V} (h : (ms.map V.int)[i]? = some x) : ∃ m, ms[i]? = some m ∧ x = .int m := by
  rw [List.getElem?_map] at h
  cases e : ms[i]? with
  | none =>
    rw [e] at h
    cases h
  | some m =>
    rw [e] at h
    exact ⟨m, rfl, (Option.some.inj h).symm⟩
theorem same_new {H : Hp} {D : Addr} {o : HO} (hD : H D = none) : Same H (upd H D o) := fun c o e => by
  rw [upd_ne (ne_of_none e hD)]
  exact e
theorem all_true (n : Nat) : (List.replicate n true).all id = true := by
  induction n with
  | zero => rfl
  | succ n ih =>
    rw [List.replicate_succ, List.all_cons, ih]
    rfl
theorem map_rep (n : Nat) : (List.replicate n true).map V.bl = List.replicate n (.bl true) := by
  rw [List.map_replicate]
theorem ok_mf (T : Txt K mg A w) : FnOk P w K mg base CX0 2 A.a_mantissas_fit A.d_mantissas_fit ["base", "mantissas"] (spMF K) := by
  have G_is_whole : FnOk P w K mg base CX0 1 A.a_is_whole A.d_is_whole ["value"] (spWhole K) := ok_is_whole T
  refine T.F_mantissas_fit.ok sc_mantissas_fit (fun vs H Q E h => ?_) (fun cdv A0 outer s H vs Q E hr h => ?_)
  · obtain ⟨k, b, most, ms, a, rfl, _⟩ := h
    rfl
  · obtain ⟨k, b, most, ms, a, rfl, hL, R, q⟩ := h
    have hlen : (ms.map V.int).length = ms.length := List.length_map _
    have hpos : 0 < ms.length := List.length_pos_iff.mpr R.ne
    refine ⟨_, (pss_cons (ps_if (PW.pt (pw_or (pt_not (pt_val (pe_callB call_isi (by rfl) T.n_isinstance (by decide +kernel) (pa_cons (pv 1) (pa_cons (pe_bltn (v := .ty "list") (by rfl) T.n_list (by decide +kernel) rfl) pa_nil))))) (pw_or1 (pt_cmpR op_eq (pe_callB call_len_seq (by rfl) T.n_len (by decide +kernel) (pa_cons (pv 1) pa_nil)) pe_int (nomark _))))) (pss_one (ps_ret pe_bl)) pss_nil)
  (pss_cons (ps_if (pt_not (pt_val (pe_callB (cr_all rfl) (by rfl) T.n_all (by decide +kernel) (pa_cons (pe_lc (own := [("mantissa", 2)]) (g := gName 2) (tt := tYes) rfl sc_mantissas_fit.nd (pi_list (pv 1)) (blkOk_by (own := [("mantissa", 2)]) (N := nm_mantissas_fit) (sc := defScope s_mantissas_fit) (by decide +kernel)) (fun _ _ _ _ _ => (pg_name (i := 2) sc_mantissas_fit.nd rfl (Or.inl rfl))) (fun _ _ _ _ _ => pts_nil) (fun _ _ _ _ _ => (pe_call G_is_whole (hr.mono (by decide)) (by rfl) T.m_is_whole T.F_is_whole.kp T.B_is_whole .nil pass0 (pa_cons (pv 2) pa_nil)))) pa_nil)))) (pss_one (ps_ret pe_bl)) pss_nil)
  (pss_cons (ps_if (pt_cmpR op_ne (RZ.pe_lenSetI rfl T.n_len rfl T.n_set (pv 1)) (pe_callB call_len_seq (by rfl) T.n_len (by decide +kernel) (pa_cons (pv 1) pa_nil)) (nomark _)) (pss_one (ps_ret pe_bl)) pss_nil)
  (pss_one (ps_ret (pe_callB (cr_all rfl) (by rfl) T.n_all (by decide +kernel) (pa_cons (pe_lc (own := [("mantissa", 2)]) (g := gName 2) (tt := tYes) rfl sc_mantissas_fit.nd (pi_list (pv 1)) (blkOk_by (own := [("mantissa", 2)]) (N := nm_mantissas_fit) (sc := defScope s_mantissas_fit) (by decide +kernel)) (fun _ _ _ _ _ => (pg_name (i := 2) sc_mantissas_fit.nd rfl (Or.inl rfl))) (fun _ _ _ _ _ => pts_nil) (fun _ _ _ _ _ => (pe_and (pe_cmpR op_ge (pv 2) pe_int (nomark _)) (pe_one (pe_cmpR op_ne (pe_op op_mod (pv 2) (pv 0)) pe_int (nomark _)))))) pa_nil))))))), ?_⟩
    refine ⟨_, rfl, _, .ty "list", .type "list", .type "list", true, rfl, .ty _, .base (.lst hL), kit_ty (by decide +kernel), true, rfl, ?_⟩
    refine iteF ?_
    refine ⟨_, rfl, a, _, rfl, .inl (SqL.of hL), rfl, _, rfl, ?_⟩
    have z0 : decide (V.int ((ms.map V.int).length : Nat) = V.int 0) = false := decide_eq_false (fun z => by have := V.int.inj z; omega)
    show if (decide (V.int ((ms.map V.int).length : Nat) = V.int 0)) = true then _ else _
    rw [z0]
    refine iteF ?_
    -- the first comprehension
    refine ⟨_, rfl, a, rfl, ⟨_, SqL.of hL⟩, fun D hD => lc_list (K := K) (a := a) (xs := ms.map V.int) (fun i H' => H' = upd H D (.lst (List.replicate i (.bl true)))) rfl ?_ ?_ ?_⟩
    · rintro i H' _ rfl
      exact SqL.of (by rw [upd_ne (ne_of_none hL hD)]; exact hL)
    · rintro i x H' hi rfl
      obtain ⟨n, hn, rfl⟩ := map_get hi
      have hi3 : i < ms.length := (List.getElem?_eq_some_iff.mp hn).1
      refine ⟨rfl, yes_of ?_⟩
      refine ⟨_, rfl, .int n, .type "int", true, false, rfl, .base (.int n), kit_ty (by decide +kernel), fun _ => kit_ty (by decide +kernel), ?_⟩
      refine ⟨_, upd_same, ?_, ?_⟩
      · rw [List.length_replicate]
        exact small1000 (by have := R.le; omega)
      · rw [upd_upd, List.replicate_succ']
        rfl
    · rintro H' rfl
      have s1 : Same H (upd H D (.lst (List.replicate (ms.map V.int).length (.bl true)))) := same_new hD
      refine ⟨D, List.replicate (ms.map V.int).length true, rfl, SqL.of (by rw [map_rep]; exact upd_same), _, rfl, ?_⟩
      rw [all_true]
      refine iteF ?_
      refine ⟨_, rfl, a, ms, rfl, SqL.of (s1 _ _ hL), R.nd, by have := R.le; omega, ?_⟩
      refine ⟨_, rfl, a, _, rfl, .inl (SqL.of (s1 _ _ hL)), rfl, _, rfl, ?_⟩
      rw [hlen] at s1
      rw [hlen, decide_eq_true (rfl : V.int (ms.length : Nat) = V.int (ms.length : Nat))]
      refine iteF ?_
      -- the second one
      refine ⟨_, rfl, a, rfl, ⟨_, SqL.of (s1 _ _ hL)⟩, fun D2 hD2 => lc_list (K := K) (a := a) (xs := ms.map V.int) (fun i H' => H' = upd (upd H D (.lst (List.replicate ms.length (.bl true)))) D2 (.lst (List.replicate i (.bl true)))) rfl ?_ ?_ ?_⟩
      · rintro i H' _ rfl
        exact SqL.of (by rw [upd_ne (ne_of_none (s1 _ _ hL) hD2)]; exact s1 _ _ hL)
      · rintro i x H' hi rfl
        obtain ⟨n, hn, rfl⟩ := map_get hi
        have hi3 : i < ms.length := (List.getElem?_eq_some_iff.mp hn).1
        obtain ⟨n1, n2, n3⟩ := R.all n (List.mem_of_getElem? hn)
        refine ⟨rfl, yes_of ?_⟩
        refine ⟨_, rfl, _, _, rfl, rfl, _, rfl, ?_⟩
        rw [decide_eq_true n1]
        refine iteT ?_
        refine ⟨_, rfl, _, rfl, _, _, rfl, rfl, (by have := R.b2; show 0 < b; omega), rfl, ?_⟩
        refine ⟨_, upd_same, ?_, ?_⟩
        · rw [List.length_replicate]
          exact small1000 (by have := R.le; omega)
        · rw [upd_upd, List.replicate_succ']
          have e : decide (V.int (n % b) = V.int 0) = false := decide_eq_false (fun z => n3 (V.int.inj z))
          show upd _ D2 (HO.lst (List.replicate i (V.bl true) ++ [V.bl (!decide (V.int (n % b) = V.int 0))])) = _
          rw [e]
          rfl
      · rintro H' rfl
        rw [hlen]
        refine ⟨D2, List.replicate ms.length true, rfl, SqL.of (by rw [map_rep]; exact upd_same), ?_⟩
        rw [all_true]
        exact q _ (s1.trans (same_new hD2))
/-! ### is_base -/
def spBase : Sp := fun vs H Q _ => ∃ b : Int, vs = [.int b] ∧ 2 ≤ b ∧ Q (.bl true) H
abbrev nm_is_base : List Str := ["value"]
theorem sc_is_base : FnScope ["value"] ["value"] (defScope s_is_base) := ⟨rfl, rfl, rfl, by decide +kernel, rfl, by decide +kernel, by decide +kernel⟩
theorem ok_is_base (T : Txt K mg A w) : FnOk P w K mg base CX0 2 A.a_is_base A.d_is_base ["value"] spBase := by
  have G_is_whole : FnOk P w K mg base CX0 1 A.a_is_whole A.d_is_whole ["value"] (spWhole K) := ok_is_whole T
  refine T.F_is_base.ok sc_is_base (fun vs H Q E h => ?_) (fun cdv A0 outer s H vs Q E hr h => ?_)
  · obtain ⟨b, rfl, _⟩ := h
    rfl
  · obtain ⟨b, rfl, hb, q⟩ := h
    refine ⟨_, (pss_one (ps_ret (pe_and (pe_call G_is_whole (hr.mono (by decide)) (by rfl) T.m_is_whole T.F_is_whole.kp T.B_is_whole .nil pass0 (pa_cons (pv 0) pa_nil)) (pe_one (pe_cmpR op_ge (pv 0) pe_int (nomark _)))))), ?_⟩
    refine ⟨_, rfl, .int b, .type "int", true, false, rfl, .base (.int b), kit_ty (by decide +kernel), fun _ => kit_ty (by decide +kernel), ?_⟩
    refine ⟨_, rfl, ?_⟩
    refine iteT ?_
    refine ⟨_, rfl, _, _, rfl, rfl, ?_⟩
    show Q (.bl (decide (2 ≤ b))) _
    rw [decide_eq_true hb]
    exact q
/-! ### _arguments_fit -/
def spAF (K : PySem.W.Frag) : Sp := fun vs H Q _ => ∃ (b : Int) (k : Kd) (ms : List Int) (a : Addr) (most : Int), vs = [.int b, .str k.s, .ref a, .int most] ∧ H a = some (.lst (ms.map V.int)) ∧ RArgs b k ms most ∧ ∀ H', Same H H' → Q (.bl true) H'
abbrev nm_arguments_fit : List Str := ["base", "kind", "mantissas", "most"]
theorem sc_arguments_fit : FnScope ["base", "kind", "mantissas", "most"] ["base", "kind", "mantissas", "most"] (defScope s_arguments_fit) := ⟨rfl, rfl, rfl, by decide +kernel, rfl, by decide +kernel, by decide +kernel⟩
theorem ok_af (T : Txt K mg A w) : FnOk P w K mg base CX0 3 A.a_arguments_fit A.d_arguments_fit ["base", "kind", "mantissas", "most"] (spAF K) := by
  have G_is_base : FnOk P w K mg base CX0 2 A.a_is_base A.d_is_base ["value"] spBase := ok_is_base T
  have G_kind_and_most_fit : FnOk P w K mg base CX0 2 A.a_kind_and_most_fit A.d_kind_and_most_fit ["kind", "most"] spKM := ok_kind T
  have G_mantissas_fit : FnOk P w K mg base CX0 2 A.a_mantissas_fit A.d_mantissas_fit ["base", "mantissas"] (spMF K) := ok_mf T
  refine T.F_arguments_fit.ok sc_arguments_fit (fun vs H Q E h => ?_) (fun cdv A0 outer s H vs Q E hr h => ?_)
  · obtain ⟨b, k, ms, a, most, rfl, _⟩ := h
    rfl
  · obtain ⟨b, k, ms, a, most, rfl, hL, R, q⟩ := h
    refine ⟨_, (pss_one (ps_ret (pe_and (pe_call G_is_base (hr.mono (by decide)) (by rfl) T.m_is_base T.F_is_base.kp T.B_is_base .nil pass0 (pa_cons (pv 0) pa_nil)) (pe_and (pe_call G_kind_and_most_fit (hr.mono (by decide)) (by rfl) T.m_kind_and_most_fit T.F_kind_and_most_fit.kp T.B_kind_and_most_fit .nil pass0 (pa_cons (pv 1) (pa_cons (pv 3) pa_nil))) (pe_one (pe_call G_mantissas_fit (hr.mono (by decide)) (by rfl) T.m_mantissas_fit T.F_mantissas_fit.kp T.B_mantissas_fit .nil pass0 (pa_cons (pv 0) (pa_cons (pv 2) pa_nil)))))))), ?_⟩
    refine ⟨_, rfl, b, rfl, R.b2, ?_⟩
    refine ⟨_, rfl, ?_⟩
    refine iteT ?_
    refine ⟨_, rfl, _, rfl, k, most, rfl, R.m1, R.mC, ?_⟩
    refine ⟨_, rfl, ?_⟩
    refine iteT ?_
    exact ⟨_, rfl, _, rfl, k, b, most, ms, a, rfl, hL, R, fun H' s1 => q H' s1⟩
end
end Ax

/-! max and sorted of whole numbers with key=int: the key of a whole number is the number itself, nothing else happens. -/
namespace Ax
open PySem PyProof.Rows
def Keep (h h' : Heap) : Prop := ∀ b o, h.get? b = some o → h'.get? b = some o
theorem Keep.refl (h : Heap) : Keep h h := fun _ _ e => e
theorem Keep.lst {h h' : Heap} {l : Addr} {xs : Array Value} (k : Keep h h') (e : h.IsList l xs) : h'.IsList l xs := let ⟨o, q, r⟩ := e; ⟨o, k _ _ q, r⟩
section
variable {prog : Program} {w : World} {A : Around} {E : Value → Shared → Prop} {s : Shared} {G : Heap} {l I S : Addr} {vs : List Value} {ns : List Int} {R : Result → Shared → Prop} {Q : Value → Shared → Prop}
theorem mx_loop (calm : A.handled = none) (isL : G.IsList l vs.toArray) (allI : IntsAre vs ns) (gI : G.get? I = none) (gS : G.get? S = none) (dif : I ≠ S)
    (fin : ∀ (M : Int) (t : Tok) (h : Heap) (tk : Nat), Keep G h → M ∈ ns → (∀ a ∈ ns, a ≤ M) → R (.ok (.ret (.int M t))) { s with heap := h, toks := tk }) :
    ∀ (r j : Nat) (M : Int) (h : Heap) (tk : Nat) (t t' : Tok) (c : Nat), vs.length - j = r → j ≤ vs.length → Keep G h → h.get? S = some (seqObj "list" #[.int M t, .int M t'] c) → h.IsListIter I l j → M ∈ ns → (∀ i a, i < j → ns[i]? = some a → a ≤ M) →
      codeAny (model prog w) A (.builtin "max.loop" ⟨[.ref I, .type "int", .ref S], []⟩) R { s with heap := h, toks := tk } := by
  have nm : (toString "max" ++ toString ".loop" : String) = "max.loop" := by decide
  have lI : l ≠ I := fun z => by
    obtain ⟨o, e, _⟩ := isL
    rw [z, gI] at e
    cases e
  have W := Walks.list (prog := prog) (w := w) (A := A.in1) calm I l lI vs.toArray
  have sz : vs.toArray.size = vs.length := List.size_toArray ..
  have ln := allI.length
  intro r
  induction r with
  | zero =>
    intro j M h tk t t' c hr hj K hS it hM hb
    have ej : j = vs.length := by omega
    refine codeAny_builtin (PySem.F.entry_max_loop) ?_
    rw [Around.under_plainId (PySem.F.plain_max_loop) _]
    show wpAny _ A.in1 (seqItems? (Value.ref S) >>= _) _ _ _
    refine wpAny_bind (wpAny_seqItems hS rfl ?_)
    show wpAny _ A.in1 (tryCatch (pyNext (Value.ref I)) _ >>= _) _ _ _
    refine wpAny_bind (wpAny_tryCatch (W.done _ _ _ ⟨by rw [sz, ← ej]; exact it, K.lst isL⟩ fun h2 tk2 k2 => ?_))
    have hS2 := k2 S _ (fun z => dif (List.mem_singleton.mp z).symm) hS
    have u := Heap.SameBut.update h2 S (Obj.mapSeq fun _ => (#[] : Array Value))
    show wpAny _ A.in1 (updateSeq S (fun _ => #[]) >>= _) _ _ _
    refine wpAny_bind (wpAny_updateSeq hS2 rfl (wpAny_bind (wpAny_letGo (wpAny_pure ?_))))
    refine fin M t _ _ (fun b o e => ?_) hM fun a ha => ?_
    · have b1 : b ≠ S := fun z => by rw [z, gS] at e; cases e
      have b2 : b ≠ I := fun z => by rw [z, gI] at e; cases e
      exact (u.2 b b1).trans (k2 b o (fun z => b2 (List.mem_singleton.mp z)) (K b o e))
    · obtain ⟨i, hi, ei⟩ := List.getElem_of_mem ha
      exact hb i a (by omega) (by rw [List.getElem?_eq_getElem hi, ei])
  | succ r ih =>
    intro j M h tk t t' c hr hj K hS it hM hb
    have lt : j < vs.length := by omega
    refine codeAny_builtin (PySem.F.entry_max_loop) ?_
    rw [Around.under_plainId (PySem.F.plain_max_loop) _]
    show wpAny _ A.in1 (seqItems? (Value.ref S) >>= _) _ _ _
    refine wpAny_bind (wpAny_seqItems hS rfl ?_)
    show wpAny _ A.in1 (tryCatch (pyNext (Value.ref I)) _ >>= _) _ _ _
    refine wpAny_bind (wpAny_tryCatch (W.item j _ _ _ (by rw [sz]; exact lt) ⟨it, K.lst isL⟩ fun v h2 tk2 at2 st2 k2 => ?_))
    have ev : vs[j]? = some v := by simpa using at2
    obtain ⟨n, en⟩ : ∃ n, ns[j]? = some n := ⟨_, List.getElem?_eq_getElem (by omega)⟩
    obtain ⟨tn, etn⟩ := allI.get j n en
    rw [etn] at ev
    obtain rfl := Option.some.inj ev
    obtain ⟨oI, eI, cI, dI⟩ := id st2.1
    have hS2 := k2 S _ (fun z => dif (List.mem_singleton.mp z).symm) hS
    have K2 : Keep G h2 := fun b o e => k2 b o (fun z => by rw [List.mem_singleton.mp z, gI] at e; cases e) (K b o e)
    show wpAny _ A.in1 (tryCatch (holding [Value.int n tn] (call (.type "int") [Value.int n tn])) _ >>= _) _ _ _
    refine wpAny_bind (wpAny_tryCatch (wpAny_holding (call_int_int ?_)))
    show wpAny _ A.in1 (tryCatch (holding [Value.int n tn, Value.int n tn] (richCompare .Gt (Value.int n tn) (Value.int M t') >>= _)) _ >>= _) _ _ _
    refine wpAny_bind (wpAny_tryCatch (wpAny_holding (wpAny_bind (CmpOf.ints_gt (prog := prog) (w := w) (A := A.in1) (P := fun i v => ∃ t, v = .int (if i = 0 then n else M) t) (fun i => if i = 0 then n else M) (fun i v h => h) 0 1 _ _ _ _ _ ⟨tn, rfl⟩ ⟨t', rfl⟩ ?_))))
    refine wpAny_bind (wpAny_holding (wpAny_truthy_bool ?_))
    refine wpAny_bind (wpAny_letGo (wpAny_pure ?_))
    have better : ∀ i a, i < j + 1 → ns[i]? = some a → a ≤ M ∨ i = j ∧ a = n := fun i a hi e => by
      by_cases q : i = j
      · rw [q, en] at e
        exact .inr ⟨q, (Option.some.inj e).symm⟩
      · exact .inl (hb i a (by omega) e)
    by_cases gt : n > M
    · have u := Heap.SameBut.update h2 S (Obj.mapSeq fun _ => #[Value.int n tn, Value.int n tn])
      obtain ⟨c2, ec2⟩ : ∃ c2, (h2.update S (Obj.mapSeq fun _ => #[Value.int n tn, Value.int n tn])).get? S = some (seqObj "list" #[Value.int n tn, Value.int n tn] c2) := ⟨_, get?_update_seq hS2 fun _ => _⟩
      simp only [if_true, Nat.one_ne_zero, if_false, gt, decide_true]
      refine wpAny_bind (wpAny_updateSeq hS2 rfl (wpAny_bind (wpAny_letGo ?_)))
      rw [nm]
      refine wpAny_pure ⟨plainId_quiet PySem.F.plain_max_loop _, ih (j + 1) n _ _ tn tn c2 (by omega) lt (fun b o e => ?_) ec2 ⟨oI, (u.2 I dif).trans eI, cI, dI⟩ (List.mem_of_getElem? en) fun i a hi e => ?_⟩
      · have b1 : b ≠ S := fun z => by rw [z, gS] at e; cases e
        exact (u.2 b b1).trans (K2 b o e)
      · rcases better i a hi e with q | ⟨_, q⟩ <;> omega
    · simp only [if_true, Nat.one_ne_zero, if_false, gt, decide_false, Bool.false_eq_true]
      refine wpAny_bind (wpAny_letGo ?_)
      rw [nm]
      refine wpAny_pure ⟨plainId_quiet PySem.F.plain_max_loop _, ih (j + 1) M _ _ t t' c (by omega) lt K2 hS2 ⟨oI, eI, cI, dI⟩ hM fun i a hi e => ?_⟩
      rcases better i a hi e with q | ⟨_, q⟩ <;> omega
theorem call_max_int (calm : A.handled = none) (isL : s.heap.IsList l vs.toArray) (allI : IntsAre vs ns) (ne : 0 < vs.length)
    (fin : ∀ (M : Int) (t : Tok) (h : Heap) (tk : Nat), Keep s.heap h → M ∈ ns → (∀ a ∈ ns, a ≤ M) → Q (.int M t) { s with heap := h, toks := tk }) :
    wpAny (model prog w) A (call (.builtin "max") [.ref l] [(Str.ofString "key", .type "int")]) Q E s := by
  have nm : (toString "max" ++ toString ".loop" : String) = "max.loop" := by decide
  have sz : vs.toArray.size = vs.length := List.size_toArray ..
  have ln := allI.length
  refine kmb_tree PySem.F.kind_max PySem.F.plain_max (PySem.F.entry_max) (kmb_max_key _ _) ?_
  show wpAny _ A.in1 (Builtin.Builtins.bindParams "max" ["key", "default"] 0 ⟨[], [(Str.ofString "key", .type "int")]⟩ >>= _) _ _ s
  refine wpAny_bind (wpAny_of_eq (show Builtin.Builtins.bindParams "max" ["key", "default"] 0 ⟨[], [(Str.ofString "key", .type "int")]⟩ = pure [some (.type "int"), none] from rfl) ?_)
  refine wpAny_bind (wpAny_pure (wpAny_bind (wpAny_pyIter_list isL ?_)))
  refine wpAny_bind (wpAny_newList ?_ (Nat.zero_le _))
  rw [nm]
  refine wpAny_pure ⟨plainId_quiet PySem.F.plain_max_loop _, ?_⟩
  obtain ⟨I, eqI⟩ : ∃ I, I = s.heap.objs.size := ⟨_, rfl⟩
  obtain ⟨h1, eq1⟩ : ∃ h1, h1 = s.heap.push { cls := .type "list_iterator", data := .fields #[.ref l, .int 0 0] } := ⟨_, rfl⟩
  obtain ⟨S, eqS⟩ : ∃ S, S = h1.objs.size := ⟨_, rfl⟩
  obtain ⟨h2, eq2⟩ : ∃ h2, h2 = h1.push (seqObj "list" #[] 0) := ⟨_, rfl⟩
  have gI : s.heap.get? I = none := Heap.get?_none_of_le (by omega)
  have szS : S = s.heap.objs.size + 1 := by rw [eqS, eq1]; exact size_push' ..
  have gS : s.heap.get? S = none := Heap.get?_none_of_le (by omega)
  have dif : I ≠ S := by omega
  have lI : l ≠ I := fun z => by
    obtain ⟨o, e, _⟩ := isL
    rw [z, gI] at e
    cases e
  have K2 : Keep s.heap h2 := fun b o e => by rw [eq2, eq1]; exact Heap.get?_push_of_some _ (Heap.get?_push_of_some _ e)
  have eI : h2.get? I = some { cls := .type "list_iterator", data := .fields #[.ref l, .int 0 0] } := by rw [eq2, eq1, eqI]; exact Heap.get?_push_of_some _ (Heap.get?_push_size _ rfl)
  have eS : h2.get? S = some (seqObj "list" #[] 0) := by rw [eq2, eqS]; exact Heap.get?_push_size _ rfl
  show codeAny (model prog w) A (.builtin "max.loop" ⟨[.ref s.heap.objs.size, .type "int", .ref (s.heap.push { cls := .type "list_iterator", data := .fields #[.ref l, .int 0 0] }).objs.size], []⟩) _ { s with heap := (s.heap.push { cls := .type "list_iterator", data := .fields #[.ref l, .int 0 0] }).push (seqObj "list" #[] 0) }
  rw [← eq1, ← eq2, ← eqS, ← eqI]
  have W := Walks.list (prog := prog) (w := w) (A := A.in1) calm I l lI vs.toArray
  refine codeAny_builtin (PySem.F.entry_max_loop) ?_
  rw [Around.under_plainId (PySem.F.plain_max_loop) _]
  show wpAny _ A.in1 (seqItems? (Value.ref S) >>= _) _ _ _
  refine wpAny_bind (wpAny_seqItems eS rfl ?_)
  show wpAny _ A.in1 (tryCatch (pyNext (Value.ref I)) _ >>= _) _ _ _
  refine wpAny_bind (wpAny_tryCatch (W.item 0 _ _ _ (by rw [sz]; exact ne) ⟨⟨_, eI, rfl, rfl⟩, K2.lst isL⟩ fun v h3 tk3 at3 st3 k3 => ?_))
  have ev : vs[0]? = some v := by simpa using at3
  obtain ⟨n, en⟩ : ∃ n, ns[0]? = some n := ⟨_, List.getElem?_eq_getElem (by omega)⟩
  obtain ⟨tn, etn⟩ := allI.get 0 n en
  rw [etn] at ev
  obtain rfl := Option.some.inj ev
  obtain ⟨oI, eI3, cI, dI⟩ := id st3.1
  have hS3 := k3 S _ (fun z => dif (List.mem_singleton.mp z).symm) eS
  have K3 : Keep s.heap h3 := fun b o e => k3 b o (fun z => by rw [List.mem_singleton.mp z, gI] at e; cases e) (K2 b o e)
  show wpAny _ A.in1 (tryCatch (holding [Value.int n tn] (call (.type "int") [Value.int n tn])) _ >>= _) _ _ _
  refine wpAny_bind (wpAny_tryCatch (wpAny_holding (call_int_int ?_)))
  have u := Heap.SameBut.update h3 S (Obj.mapSeq fun _ => #[Value.int n tn, Value.int n tn])
  obtain ⟨c4, ec4⟩ : ∃ c4, (h3.update S (Obj.mapSeq fun _ => #[Value.int n tn, Value.int n tn])).get? S = some (seqObj "list" #[Value.int n tn, Value.int n tn] c4) := ⟨_, get?_update_seq hS3 fun _ => _⟩
  show wpAny _ A.in1 (updateSeq S (fun _ => #[Value.int n tn, Value.int n tn]) >>= _) _ _ _
  refine wpAny_bind (wpAny_updateSeq hS3 rfl ?_)
  rw [nm]
  refine wpAny_pure ⟨plainId_quiet PySem.F.plain_max_loop _, mx_loop (s := s) (G := s.heap) calm isL allI gI gS dif (fun M t h tk k hM hb => fin M t h tk k hM hb) _ 1 n _ _ tn tn c4 rfl ne (fun b o e => ?_) ec4 ⟨oI, (u.2 I dif).trans eI3, cI, dI⟩ (List.mem_of_getElem? en) fun i a hi e => ?_⟩
  · have b1 : b ≠ S := fun z => by rw [z, gS] at e; cases e
    exact (u.2 b b1).trans (K3 b o e)
  · have z : i = 0 := by omega
    rw [z, en] at e
    have := Option.some.inj e
    omega
end
end Ax
namespace Ax
open PySem PySem.Spec PyProof.Rows L2
section
variable {X : Cx}
/-- max(xs, key=int), xs a list of whole numbers -/
def rMaxInt (K : PySem.W.Frag) : List V → List V → Hp → VK → Prop := fun vs zs H Q => ∃ (a : Addr) (ns : List Int), vs = [V.ref a] ∧ zs = [.ty "int"] ∧ SqL K H a (ns.map V.int) ∧ 0 < ns.length ∧ ∀ M, M ∈ ns → (∀ y ∈ ns, y ≤ M) → Q (.int M) H
theorem cr_maxInt (hc : X.calm = true) : CallRK X (.builtin "max") [Str.ofString "key"] (rMaxInt X.K) := by
  intro pins s σ H vs zs us ws Q I r rz h
  obtain ⟨a, ns, rfl, rfl, hs, hne, q⟩ := h
  obtain rfl := Vals.ref1 r
  obtain ⟨w1, rfl, e1⟩ := vals1 rz
  obtain rfl : w1 = Value.type "int" := e1
  obtain ⟨its, rv, hl, hz⟩ := I.list hs
  have hi := rv.ints
  have hlen : its.length = ns.length := by rw [← rv.length, List.length_map]
  exact call_max_int (I.ok.hd hc) hl.isList hi (by omega) fun M t h tk k hM hb => ⟨.int M, H, I.kept k, ⟨t, rfl⟩, q M hM hb⟩
end
end Ax

namespace Ax
open PySem PyProof.Rows
/-! ### sorted with key=int -/
theorem ints_of_pairs : ∀ {ps : List (Int × Value)}, (∀ p ∈ ps, ∃ t, p.2 = .int p.1 t) → IntsAre (ps.map Prod.snd) (ps.map Prod.fst)
  | [], _ => .nil
  | (n, v) :: r, h => by
    obtain ⟨t, e⟩ := h (n, v) (List.mem_cons_self ..)
    cases (show v = Value.int n t from e)
    exact .cons n t (ints_of_pairs fun p hp => h p (List.mem_cons_of_mem _ hp))
theorem zip_pairs : ∀ {vs : List Value} {ns : List Int}, IntsAre vs ns → ∀ p ∈ ns.zip vs, ∃ t, p.2 = .int p.1 t
  | _, _, .nil, p, h => by simp at h
  | _, _, .cons n t r, p, h => by
    rw [List.zip_cons_cons] at h
    rcases List.mem_cons.mp h with e | h
    · rw [e]
      exact ⟨t, rfl⟩
    · exact zip_pairs r p h
/-- all that lives, but for two -/
def rest2 (h : Heap) (L D : Addr) : List (Addr × Obj) := (List.range h.objs.size).filterMap fun b => if b = L ∨ b = D then none else (h.get? b).map fun o => (b, o)
theorem mem_rest2 {h : Heap} {L D b : Addr} {o : Obj} : (b, o) ∈ rest2 h L D ↔ b ≠ L ∧ b ≠ D ∧ h.get? b = some o := by
  unfold rest2
  rw [List.mem_filterMap]
  constructor
  · rintro ⟨c, _, e⟩
    by_cases q : c = L ∨ c = D
    · rw [if_pos q] at e
      cases e
    · rw [if_neg q] at e
      cases eo : h.get? c with
      | none =>
        rw [eo] at e
        cases e
      | some u =>
        rw [eo] at e
        cases e
        exact ⟨fun z => q (.inl z), fun z => q (.inr z), eo⟩
  · rintro ⟨h1, h2, h3⟩
    refine ⟨b, List.mem_range.mpr (Heap.lt_size h3), ?_⟩
    rw [if_neg (fun z => z.elim h1 h2), h3]
    rfl
section
variable {prog : Program} {w : World} {A : Around} {E : Value → Shared → Prop} {s : Shared} {l D L : Addr} {m : Str → Option Value} {vs : List Value} {ns : List Int} {P : PySem.Fin → Shared → Prop}
theorem lsort_int (atD : s.heap.get? D = some (seqObj "list" vs.toArray 0)) (allI : IntsAre vs ns) (few : vs.length < 64) (nsL : s.heap.Ns L m) (dif : D ≠ L)
    (fin : ∀ (h : Heap) (tk : Nat) (out : Array Value) (c : Nat) (ms : List Int), (∀ b o, b ≠ L → b ≠ D → s.heap.get? b = some o → h.get? b = some o) → h.Ns L m → h.get? D = some (seqObj "list" out c) → IntsAre out.toList ms → ms.Perm ns → ms.Pairwise (· ≤ ·) →
      P (.done (.ret .none)) { s with heap := h, toks := tk }) :
    wpAny (model prog w) A (Builtin.«list.sort» ⟨[.ref D], [(Str.ofString "key", .type "int")]⟩) P E s := by
  have e0 : Builtin.«list.sort» ⟨[.ref D], [(Str.ofString "key", .type "int")]⟩ = ksk_tree D (.type "int") false := rfl
  rw [e0]
  have none0 : ∀ b, ({ s.heap with objs := #[] } : Heap).get? b = none := fun b => Heap.get?_none_of_le (Nat.zero_le _)
  have ln := allI.length
  refine ksk_sort (h₀ := { s.heap with objs := #[] }) (L := L) (m := m) (news := rest2 s.heap L D) (kz := ns) (b := false) ⟨nsL, fun b o e => (by rw [none0] at e; cases e), Nat.zero_le _⟩ (fun p hp => ?_) atD dif (none0 D) (fun p hp => ?_) ln.symm few (fun i v k hv hk h tk own F N => ?_) fun h tk out c F N ko => ?_
  · obtain ⟨b, o⟩ := p
    obtain ⟨h1, _, h3⟩ := mem_rest2.mp hp
    exact ⟨h3, h1, none0 b⟩
  · obtain ⟨b, o⟩ := p
    exact (mem_rest2.mp hp).2.1
  · obtain ⟨t, ht⟩ := allI.get i k hk
    rw [ht] at hv
    obtain rfl := Option.some.inj hv
    exact call_int_int ⟨h, tk, t, rfl, rfl, F, N⟩
  · obtain ⟨ps, pp, po, pw⟩ := ko
    have all := zip_pairs allI
    refine fin h tk out c (ps.map Prod.fst) (fun b o h1 h2 h3 => ?_) F.ns (N (D, seqObj "list" out c) (List.mem_cons_self ..)).1 ?_ ?_ ?_
    · exact (N (b, o) (List.mem_cons_of_mem _ (mem_rest2.mpr ⟨h1, h2, h3⟩))).1
    · rw [po]
      exact ints_of_pairs fun p hp => all p (pp.mem_iff.mp hp)
    · have := pp.map Prod.fst
      rwa [List.map_fst_zip (by omega)] at this
    · rw [List.pairwise_map]
      exact pw
end
end Ax
namespace L2
open PySem PySem.Spec PyProof.Rows
section
variable {X : Cx} {pins : List (Addr × Obj)} {σ : St} {H : Hp} {s : Shared} {h' : Heap}
/-- a new object tracked; the frame's own dict may be another object with the same names -/
theorem Inv.laidL {t' : Nat} {T : Addr} {ob : HO} (I : Inv X pins σ H s) (k : ∀ b o, b ≠ X.env.locals → s.heap.get? b = some o → h'.get? b = some o) (hns : ∀ m, s.heap.Ns X.env.locals m → h'.Ns X.env.locals m) (hT : s.heap.objs.size ≤ T)
    (new : ObjOk X.prog X.w (upd H T ob) h' T ob) : Inv X pins σ (upd H T ob) { s with heap := h', toks := t' } := by
  have hn : H T = none := I.hok.fresh hT
  obtain ⟨m0, n0, _⟩ := I.loc
  refine I.step (g' := s.gens) (d' := s.drawn) (ch := []) (fun b hb => nomatch hb) (fun b o h1 _ _ e _ => k b o h1 e) (fun b o h1 _ _ e _ => ⟨o.slots, k b o h1 e⟩)
    (fun b o _ e n => ?_) (fun b o _ e => ?_) (fun b xs e => ?_) (fun b o u e => ?_) (fun b ps e => ⟨#[], ?_⟩) (fun m hm => hns m hm) (fun b u e => ?_) I.bare
  · rw [upd_ne (Nat.ne_of_lt (Nat.lt_of_lt_of_le (Heap.lt_size e) hT))]
    exact n
  · by_cases q : b = X.env.locals
    · obtain ⟨o', _, _, e', _⟩ := hns m0 n0
      exact ⟨o', by rw [q]; exact e'⟩
    · exact ⟨o, k b o q e⟩
  · rw [upd_ne (ne_of_none e hn)]
    exact e
  · rw [upd_ne (ne_of_none e hn)]
    exact e
  · rw [upd_ne (ne_of_none e hn), e, Array.append_empty]
  · by_cases hb : b = T
    · subst hb
      rw [upd_same] at e
      cases e
      exact new
    · rw [upd_ne hb] at e
      refine (I.hok b u e).stay (fun c v hc q => k c v ?_ q) (fun c q => by rw [upd_ne (ne_of_none q hn)]; exact q) fun c xs q => by rw [upd_ne (ne_of_none q hn)]; exact q
      intro z
      have f := I.free
      rw [← z] at f
      rcases hc with y | y
      · rw [y, e] at f
        cases f
      · rw [y] at f
        cases f
end
end L2

namespace Ax
open PySem PySem.Spec PyProof.Rows L2
theorem ns_same {h : Heap} {L : Addr} {m m' : Str → Option Value} (a : h.Ns L m) (b : h.Ns L m') : m' = m := by
  obtain ⟨o, es, ep, e1, e2, _, e3⟩ := a
  obtain ⟨o', es', ep', f1, f2, _, f3⟩ := b
  rw [e1] at f1
  obtain rfl := Option.some.inj f1
  rw [e2] at f2
  cases f2
  funext x
  rw [← f3 x, e3 x]
section
variable {X : Cx}
/-- what is left to do behind the items: a new list of them, sorted -/
theorem sorted_tail {pins : List (Addr × Obj)} {σ : L2.St} {H : Hp} {s : Shared} {ns : List Int} {vs : List Value} {Q : VK} {E : Value → Shared → Prop} (I : Inv X pins σ H s) (allI : IntsAre vs ns) (few : vs.length < 64)
    (q : ∀ (ms : List Int) (p : Addr), ms.Perm ns → ms.Pairwise (· ≤ ·) → H p = none → Q (.ref p) (upd H p (.lst (ms.map V.int)))) :
    wpAny (model X.prog X.w) X.A.in1 (do
      let l ← newList vs
      let _ ← holding [l] (call (.builtin "list.sort") [l] [(Str.ofString "key", .type "int")])
      (ret l : Sem PySem.Fin)) (fun f s' => ∃ v, f = .done (.ret v) ∧ EP X pins σ Q v s') E s := by
  obtain ⟨mL, nsL, _⟩ := I.loc
  have ltL : X.env.locals < s.heap.objs.size := nsL.lt
  refine wpAny_bind (wpAny_newList ?_ (Nat.le_trans (Nat.le_of_lt few) (by decide)))
  have at1 : (s.heap.push (seqObj "list" vs.toArray 0)).get? s.heap.objs.size = some (seqObj "list" vs.toArray 0) := Heap.get?_push_size _ rfl
  have k1 : ∀ b o, s.heap.get? b = some o → (s.heap.push (seqObj "list" vs.toArray 0)).get? b = some o := fun b o e => Heap.get?_push_of_some _ e
  have ns1 : (s.heap.push (seqObj "list" vs.toArray 0)).Ns X.env.locals mL := by
    obtain ⟨o, es, ep, e, r⟩ := nsL
    exact ⟨o, es, ep, k1 _ _ e, r⟩
  refine wpAny_bind (wpAny_holding (wpAny_call_entry_kw slot_list_sort ⟨_, at1, rfl⟩ entry_list_sort ?_ (ksk_l1 _ _)))
  refine lsort_int (s := { s with heap := s.heap.push (seqObj "list" vs.toArray 0) }) at1 allI few ns1 (Nat.ne_of_gt ltL) fun h tk out c ms k n atD iO pm pw => ⟨_, rfl, ?_⟩
  have zl : (ms.map V.int).length ≤ sizeLine := by
    rw [List.length_map, pm.length_eq, ← allI.length, sizeLine_eq]
    omega
  have J : Inv X pins σ (upd H s.heap.objs.size (.lst (ms.map V.int))) { s with heap := h, toks := tk } :=
    Inv.laidL I (fun b o h1 e => k b o h1 (Nat.ne_of_lt (Heap.lt_size e)) (k1 b o e)) (fun m hm => by rw [ns_same nsL hm]; exact n) (Nat.le_refl _)
      (show ObjOk X.prog X.w _ _ _ (.lst (ms.map V.int)) from ⟨zl, out.toList, c, vals_of_ints iO, by rw [Array.toArray_toList]; exact atD⟩)
  exact wpAny_pure ⟨_, rfl, .ref s.heap.objs.size, _, J, rfl, q ms _ pm pw (I.hok.fresh (Nat.le_refl _))⟩
/-- sorted(xs, key=int), xs a list of whole numbers -/
def rSortInt (K : PySem.W.Frag) : List V → List V → Hp → VK → Prop := fun vs zs H Q => ∃ (a : Addr) (ns : List Int), vs = [V.ref a] ∧ zs = [.ty "int"] ∧ SqL K H a (ns.map V.int) ∧ ns.length < 64 ∧
  ∀ (ms : List Int) (p : Addr), ms.Perm ns → ms.Pairwise (· ≤ ·) → H p = none → Q (.ref p) (upd H p (.lst (ms.map V.int)))
theorem cr_sortInt : CallRK X (.builtin "sorted") [Str.ofString "key"] (rSortInt X.K) := by
  intro pins s σ H vs zs us ws Q I r rz h
  obtain ⟨a, ns, rfl, rfl, hs, few, q⟩ := h
  obtain rfl := Vals.ref1 r
  obtain ⟨w1, rfl, e1⟩ := vals1 rz
  obtain rfl : w1 = Value.type "int" := e1
  obtain ⟨its, rv, hl, hz⟩ := I.list hs
  have hi := rv.ints
  have ln : its.length = ns.length := by rw [← rv.length, List.length_map]
  refine call_function_entry_kw kind_sorted plain_sorted entry_sorted (ksk_s1 _ _) ?_
  unfold Builtin.«sorted»
  have kp : ∀ b o, s.heap.get? b = some o → ((s.heap.push (seqObj "list" #[] 0)).update s.heap.objs.size (Obj.mapSeq (· ++ its.toArray))).get? b = some o := fun b o e => by
    rw [Heap.get?_update_ne _ _ _ _ (Nat.ne_of_lt (Heap.lt_size e))]
    exact Heap.get?_push_of_some _ e
  refine wpAny_bind (m := checkCount "sorted" 1 1 _) (wpAny_pure (wpAny_bind (collect_list hl.isList ?_ (Nat.le_trans (Nat.le_of_lt (by omega)) (by decide : 64 ≤ sizeLine)))))
  have I1 : Inv X pins σ H { s with heap := (s.heap.push (seqObj "list" #[] 0)).update s.heap.objs.size (Obj.mapSeq (· ++ its.toArray)), toks := s.toks } := I.kept kp
  exact wpAny_mono (sorted_tail I1 hi (by omega) q) (fun f s' ⟨v, e, z⟩ => by rw [e]; exact ⟨v, rfl, z⟩) fun _ _ e => e
/-- sorted(d, key=int), d a dict whose keys are whole numbers -/
def rSortDInt : List V → List V → Hp → VK → Prop := fun vs zs H Q => ∃ (a : Addr) (kvs : List (Key × V)) (ks : List Int), vs = [V.ref a] ∧ zs = [.ty "int"] ∧ Rd H a (.dK kvs) ∧ kvs.map (·.1) = ks.map Sum.inl ∧ ks.length < 64 ∧
  ∀ (ms : List Int) (p : Addr), ms.Perm ks → ms.Pairwise (· ≤ ·) → H p = none → Q (.ref p) (upd H p (.lst (ms.map V.int)))
theorem cr_sortDInt (calm : X.calm = true) : CallRK X (.builtin "sorted") [Str.ofString "key"] rSortDInt := by
  intro pins s σ H vs zs us ws Q I r rz h
  obtain ⟨a, kvs, ks, rfl, rfl, hd, hks, few, q⟩ := h
  obtain rfl := Vals.ref1 r
  obtain ⟨w1, rfl, e1⟩ := vals1 rz
  obtain rfl : w1 = Value.type "int" := e1
  obtain ⟨z, lo, es, rel, dd⟩ := dk_rd I.hok hd
  obtain ⟨ep, atd⟩ := dd.dictAt
  have keys : es.map (·.1) = ks.map Sum.inl := rel.keys.symm.trans hks
  have ln : es.length = ks.length := by
    have e := congrArg List.length keys
    rwa [List.length_map, List.length_map] at e
  refine call_function_entry_kw kind_sorted plain_sorted entry_sorted (ksk_s1 _ _) ?_
  unfold Builtin.«sorted»
  refine wpAny_bind (m := checkCount "sorted" 1 1 _) (wpAny_pure (wpAny_bind (PySem.W.kdu_collect (A := X.A.in1) (PySem.W.kdl_dict (knd := mixKind X.prog X.w) (kvs := es) (ep := ep) lo) (I.ok.hd calm) atd (by rw [ln]; exact Nat.le_trans (Nat.le_of_lt few) (by decide)) fun h1 tk acc hk hacc => ?_)))
  have la : acc.toList.length = ks.length := by rw [Array.length_toList, hacc.1, ln]
  have allI : IntsAre acc.toList ks := ints_each la fun j v e => by
    obtain ⟨k, x, e1, e2⟩ := hacc.2 j v (by rw [← Array.getElem?_toList]; exact e)
    have e3 : (es.map (·.1))[j]? = some k := by
      rw [List.getElem?_map, e1]
      rfl
    rw [keys, List.getElem?_map] at e3
    cases e4 : ks[j]? with
    | none =>
      rw [e4] at e3
      cases e3
    | some y =>
      rw [e4] at e3
      obtain rfl : Sum.inl y = k := Option.some.inj e3
      rcases keyIs_shape (show keyIs (Sum.inl y) v = true from e2) with ⟨i, t, ek, ev⟩ | ⟨z, t, ek, ev⟩
      · cases ek
        exact ⟨y, t, rfl, ev⟩
      · cases ek
  have I1 : Inv X pins σ H { s with heap := h1, toks := tk } := I.kept hk
  exact wpAny_mono (sorted_tail I1 allI (by rw [la]; exact few) q) (fun f s' ⟨v, e, z⟩ => by rw [e]; exact ⟨v, rfl, z⟩) fun _ _ e => e
end
end Ax

namespace Ax
open PySem L2
section
variable {P : Program} {w : World} {K : PySem.W.Frag} {mg : Str → Option Value} {base : Heap} {A : Adr}
theorem two64 : (2 : Int) ^ 64 < BIG := pow_lt' (b := 2) (by decide) (by decide)
theorem lt_big {i : Int} {n : Nat} (h : i < 2 ^ n) (hn : n ≤ 8000) : i < BIG := Int.lt_of_lt_of_le h (pow_le' (b := 2) (by decide) hn)
/-! ### rungs_of -/
/-- a dict's entry for a mantissa: its size, and the tuple of it and its power -/
def EntAt (H : Hp) (b : Int) (top : Nat) (m : Int) (e : Key × V) : Prop := ∃ t : Addr, e = (.inl (keyOf b top m), .ref t) ∧ H t = some (.tup [.int m, .int (-(lg b m : Int))])
theorem EntAt.same {H H' : Hp} {b : Int} {top : Nat} {m : Int} {e : Key × V} (s : Same H H') (h : EntAt H b top m e) : EntAt H' b top m e := by
  obtain ⟨t, h1, h2⟩ := h
  exact ⟨t, h1, s _ _ h2⟩
abbrev Ents (H : Hp) (b : Int) (top : Nat) : List Int → List (Key × V) → Prop := Paired (EntAt H b top)
theorem Ents.same {H H' : Hp} {b : Int} {top : Nat} (s : Same H H') : ∀ {ms : List Int} {kvs : List (Key × V)}, Ents H b top ms kvs → Ents H' b top ms kvs
  | _, _, .nil => .nil
  | _, _, .cons h t => .cons (h.same s) (Ents.same s t)
theorem Ents.but {H H' : Hp} {b : Int} {top : Nat} (s : ∀ c xs, H c = some (.tup xs) → H' c = some (.tup xs)) : ∀ {ms : List Int} {kvs : List (Key × V)}, Ents H b top ms kvs → Ents H' b top ms kvs
  | _, _, .nil => .nil
  | _, _, .cons ⟨t, h1, h2⟩ r => .cons ⟨t, h1, s _ _ h2⟩ (Ents.but s r)
theorem Ents.snoc {H : Hp} {b : Int} {top : Nat} {m : Int} {e : Key × V} : ∀ {ms : List Int} {kvs : List (Key × V)}, Ents H b top ms kvs → EntAt H b top m e → Ents H b top (ms ++ [m]) (kvs ++ [e])
  | _, _, .nil, h => .cons h .nil
  | _, _, .cons h t, q => .cons h (Ents.snoc t q)
theorem Ents.len {H : Hp} {b : Int} {top : Nat} {ms : List Int} {kvs : List (Key × V)} (h : Ents H b top ms kvs) : ms.length = kvs.length := Paired.length h
theorem Ents.keys {H : Hp} {b : Int} {top : Nat} : ∀ {ms : List Int} {kvs : List (Key × V)}, Ents H b top ms kvs → kvs.map (·.1) = (ms.map (keyOf b top)).map Sum.inl
  | _, _, .nil => rfl
  | _, _, .cons h t => by
    obtain ⟨q, h1, _⟩ := h
    rw [List.map_cons, List.map_cons, List.map_cons, Ents.keys t, h1]
theorem Ents.val {H : Hp} {b : Int} {top : Nat} {m : Int} : ∀ {ms : List Int} {kvs : List (Key × V)}, Ents H b top ms kvs → m ∈ ms → (∀ n ∈ ms, keyOf b top n = keyOf b top m → n = m) → ∃ t, valV kvs (.inl (keyOf b top m)) = some (.ref t) ∧ H t = some (.tup [.int m, .int (-(lg b m : Int))])
  | _, _, .nil, h, _ => nomatch h
  | n :: ms, _, .cons h t, hm, hi => by
    obtain ⟨t0, h1, h2⟩ := h
    by_cases c : keyOf b top n = keyOf b top m
    · have e2 := hi n (List.mem_cons_self ..) c
      subst e2
      exact ⟨t0, by rw [h1]; exact valV_pos rfl, h2⟩
    · have hm2 : m ∈ ms := (List.mem_cons.mp hm).resolve_left fun z => c (by rw [z])
      obtain ⟨t1, k1, k2⟩ := Ents.val t hm2 fun n' hn => hi n' (List.mem_cons_of_mem _ hn)
      refine ⟨t1, ?_, k2⟩
      rw [valV_neg (by rw [h1]; exact fun z => c (Sum.inl.inj z))]
      exact k1
theorem Ents.no {H : Hp} {b : Int} {top : Nat} {k : Int} : ∀ {ms : List Int} {kvs : List (Key × V)}, Ents H b top ms kvs → (∀ n ∈ ms, keyOf b top n ≠ k) → valV kvs (.inl k) = none
  | _, _, .nil, _ => rfl
  | n :: ms, _, .cons h t, hi => by
    obtain ⟨t0, h1, h2⟩ := h
    rw [valV_neg (by rw [h1]; exact fun z => hi n (List.mem_cons_self ..) (Sum.inl.inj z))]
    exact Ents.no t fun n' hn => hi n' (List.mem_cons_of_mem _ hn)
/-- the rungs: mantissas in the order of their least steps of at least 1, each at its tuple -/
abbrev TupsAt (H : Hp) (b : Int) : List Int → List Addr → Prop := Paired fun m t => H t = some (.tup [.int m, .int (-(lg b m : Int))])
theorem TupsAt.same {H H' : Hp} {b : Int} (s : ∀ c xs, H c = some (.tup xs) → H' c = some (.tup xs)) : ∀ {rs : List Int} {ts : List Addr}, TupsAt H b rs ts → TupsAt H' b rs ts
  | _, _, .nil => .nil
  | _, _, .cons h r => .cons (s _ _ h) (TupsAt.same s r)
theorem TupsAt.snoc {H : Hp} {b m : Int} {t : Addr} : ∀ {rs : List Int} {ts : List Addr}, TupsAt H b rs ts → H t = some (.tup [.int m, .int (-(lg b m : Int))]) → TupsAt H b (rs ++ [m]) (ts ++ [t])
  | _, _, .nil, h => .cons h .nil
  | _, _, .cons h r, q => .cons h (TupsAt.snoc r q)
theorem TupsAt.len {H : Hp} {b : Int} {rs : List Int} {ts : List Addr} (h : TupsAt H b rs ts) : rs.length = ts.length := Paired.length h
theorem TupsAt.get {H : Hp} {b : Int} : ∀ {rs : List Int} {ts : List Addr} {i : Nat} {m : Int}, TupsAt H b rs ts → rs[i]? = some m → ∃ t, ts[i]? = some t ∧ H t = some (.tup [.int m, .int (-(lg b m : Int))])
  | _, _, _, _, .nil, h => nomatch h
  | _, _, 0, _, .cons h _, e => by
    obtain rfl := Option.some.inj e
    exact ⟨_, rfl, h⟩
  | _, _, i + 1, _, .cons _ r, e => TupsAt.get (i := i) r e
theorem TupsAt.get2 {H : Hp} {b : Int} : ∀ {rs : List Int} {ts : List Addr} {i : Nat} {t : Addr}, TupsAt H b rs ts → ts[i]? = some t → ∃ m, rs[i]? = some m ∧ H t = some (.tup [.int m, .int (-(lg b m : Int))])
  | _, _, _, _, .nil, h => nomatch h
  | _, _, 0, _, .cons h _, e => by
    obtain rfl := Option.some.inj e
    exact ⟨_, rfl, h⟩
  | _, _, i + 1, _, .cons _ r, e => TupsAt.get2 (i := i) r e
theorem crMin (K : PySem.W.Frag) {X : Cx} (hc : X.calm = true := by rfl) (h : X.K = K := by rfl) : CallR X (.builtin "min") (rMin K) := h ▸ cr_min hc
theorem crMax (K : PySem.W.Frag) {X : Cx} (hc : X.calm = true := by rfl) (h : X.K = K := by rfl) : CallR X (.builtin "max") (rMax K) := h ▸ cr_max hc
def spRungs : Sp := fun vs H Q _ => ∃ (k : Kd) (b most : Int) (ms : List Int) (a : Addr), vs = [.int b, .ref a] ∧ H a = some (.lst (ms.map V.int)) ∧ RArgs b k ms most ∧
  ∀ (H' : Hp) (lr : Addr) (rs : List Int) (ts : List Addr) (M : Int), Same H H' → H lr = none → M ∈ ms → (∀ m ∈ ms, m ≤ M) → H' lr = some (.lst (ts.map V.ref)) → TupsAt H' b rs ts → rs.Perm ms → rs.Pairwise (fun m n => keyOf b (lg b M) m < keyOf b (lg b M) n) → Q (.ref lr) H'
abbrev nm_rungs_of : List Str := ["base", "mantissas", "top", "mantissa", "rungs", "power", "size"]
theorem sc_rungs_of : FnScope ["base", "mantissas", "top", "mantissa", "rungs", "power", "size"] ["base", "mantissas"] (defScope s_rungs_of) := ⟨rfl, rfl, rfl, by decide +kernel, rfl, by decide +kernel, by decide +kernel⟩
theorem ok_rungs (T : Txt K mg A w) : FnOk P w K mg base CX0 2 A.a_rungs_of A.d_rungs_of ["base", "mantissas"] spRungs := by
  have G_log_of : FnOk P w K mg base CX0 1 A.a_log_of A.d_log_of ["base", "number"] spLog := ok_log_of T
  have G_power_of : FnOk P w K mg base CX0 1 A.a_power_of A.d_power_of ["base", "exponent"] spPow := ok_power_of T
  refine T.F_rungs_of.ok sc_rungs_of (fun vs H Q E h => ?_) (fun cdv A0 outer s H vs Q E hr h => ?_)
  · obtain ⟨k, b, most, ms, a, rfl, _⟩ := h
    rfl
  · obtain ⟨k, b, most, ms, a, rfl, hL, R, q⟩ := h
    have hlen : (ms.map V.int).length = ms.length := List.length_map _
    have hpos : 0 < ms.length := List.length_pos_iff.mpr R.ne
    refine ⟨_, (pss_cons (ps_set (i := 2) sc_rungs_of.nd rfl (Or.inl rfl) (pe_call G_log_of (hr.mono (by decide)) (by rfl) T.m_log_of T.F_log_of.kp T.B_log_of .nil pass0 (pa_cons (pv 0) (pa_cons (pe_callB (crMax K) (by rfl) T.n_max (by decide +kernel) (pa_cons (pe_lc (own := [("mantissa", 3)]) (g := gName 3) (tt := tYes) rfl sc_rungs_of.nd (pi_list (pv 1)) (blkOk_by (own := [("mantissa", 3)]) (N := nm_rungs_of) (sc := defScope s_rungs_of) (by decide +kernel)) (fun _ _ _ _ _ => (pg_name (i := 3) sc_rungs_of.nd rfl (Or.inl rfl))) (fun _ _ _ _ _ => pts_nil) (fun _ _ _ _ _ => (pe_callTy call_int1 (by rfl) T.n_int (by decide +kernel) (pa_cons (pv 3) pa_nil)))) pa_nil)) pa_nil))))
  (pss_cons (ps_set (i := 4) sc_rungs_of.nd rfl (Or.inr rfl) pe_dnewK)
  (pss_cons (ps_for PassesOwn.never rfl (pi_list (pv 1)) (pg_name (i := 3) sc_rungs_of.nd rfl (Or.inl rfl))
  (pss_cons (ps_set (i := 5) sc_rungs_of.nd rfl (Or.inl rfl) (pe_un un_neg (pe_call G_log_of (hr.mono (by decide)) (by rfl) T.m_log_of T.F_log_of.kp T.B_log_of .nil pass0 (pa_cons (pv 0) (pa_cons (pv 3) pa_nil)))))
  (pss_one (ps_dput (hu_of hr) (pv 4) (pe_op op_mulW (pv 3) (pe_call G_power_of (hr.mono (by decide)) (by rfl) T.m_power_of T.F_power_of.kp T.B_power_of .nil pass0 (pa_cons (pv 0) (pa_cons (pe_op op_add (pv 2) (pv 5)) pa_nil)))) (pe_tup (pa_cons (pv 3) (pa_cons (pv 5) pa_nil))) rfl))))
  (pss_one (ps_ret (pe_lc (own := [("size", 6)]) (g := gName 6) (tt := tYes) rfl sc_rungs_of.nd (pi_list (pe_callBK (cr_sortDInt rfl) (by rfl) T.n_sorted (by decide +kernel) (pa_cons (pv 4) pa_nil) (pk_cons (pe_bltn (v := .ty "int") (by rfl) T.n_int (by decide +kernel) rfl) pk_nil))) (blkOk_by (own := [("size", 6)]) (N := nm_rungs_of) (sc := defScope s_rungs_of) (by decide +kernel)) (fun _ _ _ _ _ => (pg_name (i := 6) sc_rungs_of.nd rfl (Or.inl rfl))) (fun _ _ _ _ _ => pts_nil) (fun _ _ _ _ _ => (pe_dget (hu_of hr) (pv 4) (pv 6) (fun _ _ => rfl))))))))), ?_⟩
    -- top = log_of(base, max([..]))
    refine ⟨_, rfl, _, rfl, a, rfl, ⟨_, SqL.of hL⟩, fun D0 hD0 => lc_list (K := K) (a := a) (xs := ms.map V.int) (fun i H' => H' = upd H D0 (.lst ((ms.take i).map V.int))) rfl ?_ ?_ ?_⟩
    · rintro i H' _ rfl
      exact SqL.of (by rw [upd_ne (ne_of_none hL hD0)]; exact hL)
    · rintro i x H' hi rfl
      obtain ⟨n, hn, rfl⟩ := map_get hi
      have hi3 : i < ms.length := (List.getElem?_eq_some_iff.mp hn).1
      refine ⟨rfl, yes_of ?_⟩
      refine ⟨_, rfl, .inl ⟨n, rfl, ?_⟩⟩
      refine ⟨_, upd_same, ?_, ?_⟩
      · rw [List.length_map, List.length_take]
        exact small1000 (by have := R.le; omega)
      · rw [upd_upd, List.take_add_one, hn, List.map_append]
        rfl
    rintro H0 rfl
    rw [hlen, List.take_length]
    have s0 : Same H (upd H D0 (.lst (ms.map V.int))) := same_new hD0
    refine ⟨D0, ms, rfl, SqL.of upd_same, hpos, fun M hM hmax => ?_⟩
    obtain ⟨M1, M2, M3⟩ := R.all M hM
    refine ⟨b, M, rfl, R.b2, lt_big R.bB (by decide), M1, lt_big M2 (by decide), fun E1 H1 s1 g1 g2 => ?_⟩
    obtain rfl := lg_eq R.b2 M1 g1 g2
    replace s1 := s0.trans s1
    refine fun d hd => ?_
    have hd0 : H d = none := s1.free hd
    refine ⟨_, rfl, a, rfl, ⟨_, SqL.of (by rw [upd_ne (ne_of_none (s1 _ _ hL) hd)]; exact s1 _ _ hL)⟩, for_list (K := K) (a := a) (xs := ms.map V.int) (fun i σ H' => ∃ (kvs : List (Key × V)) (v1 v2 : Option V), σ = [some (.int b), some (.ref a), some (.int (lg b M : Nat)), v1, some (.ref d), v2, none] ∧ Same H H' ∧ H' d = some (.dK kvs) ∧ Ents H' b (lg b M) (ms.take i) kvs)
      ⟨[], none, none, rfl, s1.trans (same_new hd), upd_same, .nil⟩ (fun i σ H' _ ⟨kvs, v1, v2, _, s2, _⟩ => SqL.of (s2 _ _ hL)) ?_ ?_⟩
    · rintro i y σ H' hi ⟨kvs, v1, v2, rfl, s2, hD, hE⟩
      obtain ⟨m, hm, rfl⟩ := map_get hi
      have hmem : m ∈ ms := List.mem_of_getElem? hm
      obtain ⟨m1, m2, m3⟩ := R.all m hmem
      have lgm := lg_mono R.b2 m1 (hmax m hmem)
      have hi3 : i < ms.length := (List.getElem?_eq_some_iff.mp hm).1
      refine ⟨_, rfl, _, rfl, b, m, rfl, R.b2, lt_big R.bB (by decide), m1, lt_big m2 (by decide), fun E2 H2 s3 g3 g4 => ?_⟩
      obtain rfl := lg_eq R.b2 m1 g3 g4
      refine ⟨_, rfl, ?_⟩
      -- rungs[..] = (mantissa, power)
      refine ⟨_, rfl, _, rfl, (by show 2 ≤ sizeLine; decide), fun t ht => ?_⟩
      have ht2 : H' t = none := s3.free ht
      have eT : ((lg b M : Nat) + -(lg b m : Nat) : Int).toNat = lg b M - lg b m := by omega
      have pB : b ^ (lg b M - lg b m) < BIG := by
        have h1 := pow_le' (b := b) (by have := R.b2; omega) (Nat.sub_le (lg b M) (lg b m))
        have h2 := (lg_spec R.b2 M1).1
        have h3 := lt_big (n := 64) M2 (by decide)
        omega
      have p1 := pow_pos' (b := b) (by have := R.b2; omega) (lg b M - lg b m)
      refine ⟨_, rfl, _, rfl, _, rfl, _, rfl, _, rfl, _, _, rfl, rfl, b, _, rfl, by have := R.b2; omega, ?_, ?_, lt_big R.bB (by decide), ?_⟩
      · show (0 : Int) ≤ (lg b M : Nat) + -(lg b m : Nat)
        omega
      · rw [eT]
        exact pB
      · rw [eT]
        refine ⟨_, _, rfl, rfl, mulBig (by omega) (big_le (lt_big m2 (by decide))) (by omega) (big_le pB), ?_⟩
        have kn : valV kvs (.inl (keyOf b (lg b M) m)) = none := hE.no fun n hn => fun z => by
          obtain ⟨j, hj, ej⟩ := List.getElem_of_mem hn
          rw [List.length_take] at hj
          rw [List.getElem_take] at ej
          have nm : n ∈ ms := by rw [← ej]; exact List.getElem_mem _
          obtain ⟨n1, n2, n3⟩ := R.all n nm
          have e := key_inj R.b2 n3 m3 (lg_mono R.b2 n1 (hmax n nm)) lgm z
          have hj2 : ms[j]'(by omega) = ms[i]'hi3 := by
            rw [ej, e]
            exact ((List.getElem?_eq_some_iff.mp hm).2).symm
          have := (List.getElem_inj R.nd).mp hj2
          omega
        have hd3 : upd H2 t (.tup [.int m, .int (-(lg b m : Int))]) d = some (.dK kvs) := by
          rw [upd_ne (ne_of_none (s3 _ _ hD) ht)]
          exact s3 _ _ hD
        have hlk : kvs.length = i := by
          rw [← hE.len, List.length_take]
          omega
        refine ⟨d, _, rfl, DPut.k (k := .inl (keyOf b (lg b M) m)) hd3 (small1000 (by have := R.le; omega)), ?_⟩
        rw [putK_new _ kn]
        have ntd : t ≠ d := fun z => by
          rw [z, s3 _ _ hD] at ht
          cases ht
        refine ⟨kvs ++ [(.inl (keyOf b (lg b M) m), .ref t)], _, _, rfl, fun c o e => ?_, upd_same, ?_⟩
        · rw [upd_ne (ne_of_none e hd0), upd_ne (ne_of_none (s3 _ _ (s2 _ _ e)) ht)]
          exact s3 _ _ (s2 _ _ e)
        · have et : ms.take (i + 1) = ms.take i ++ [m] := by
            rw [List.take_add_one, hm]
            rfl
          rw [et]
          refine Ents.snoc ?_ ⟨t, rfl, by rw [upd_ne ntd, upd_same]⟩
          exact hE.but fun c xs e => by
            have ncd : c ≠ d := fun z => by
              rw [z, hD] at e
              cases e
            rw [upd_ne ncd, upd_ne (ne_of_none (s3 _ _ e) ht)]
            exact s3 _ _ e
    · rintro σ H' ⟨kvs, v1, v2, rfl, s2, hD, hE⟩
      rw [hlen, List.take_length] at hE
      have few : (ms.map (keyOf b (lg b M))).length < 64 := by rw [List.length_map]; have := R.le; omega
      refine ⟨_, rfl, d, kvs, ms.map (keyOf b (lg b M)), rfl, rfl, .inl hD, hE.keys, few, fun zs p hp1 hp2 hp => ?_⟩
      obtain ⟨rs, pr, rfl⟩ := perm_lift hp1
      have lgle : ∀ m ∈ ms, lg b m ≤ lg b M := fun m hm => lg_mono R.b2 (R.all m hm).1 (hmax m hm)
      have lz : ((rs.map (keyOf b (lg b M))).map V.int).length = rs.length := by rw [List.length_map, List.length_map]
      have s3 : Same H' (upd H' p (.lst ((rs.map (keyOf b (lg b M))).map V.int))) := same_new hp
      have hD3 := s3 _ _ hD
      have hE3 := hE.same s3
      have s03 := s2.trans s3
      refine ⟨p, rfl, ⟨_, SqL.of upd_same⟩, fun D hDn => lc_list (K := K) (a := p) (xs := (rs.map (keyOf b (lg b M))).map V.int) (fun i H'' => ∃ ts : List Addr, H'' = upd (upd H' p (.lst ((rs.map (keyOf b (lg b M))).map V.int))) D (.lst (ts.map V.ref)) ∧ ts.length = i ∧ TupsAt (upd H' p (.lst ((rs.map (keyOf b (lg b M))).map V.int))) b (rs.take i) ts)
        ⟨[], rfl, rfl, .nil⟩ ?_ ?_ ?_⟩
      · rintro i H'' _ ⟨ts, rfl, _⟩
        have npD : p ≠ D := fun z => by rw [← z, upd_same] at hDn; cases hDn
        exact SqL.of (by rw [upd_ne npD, upd_same])
      · rintro i x H'' hi ⟨ts, rfl, ht1, ht2⟩
        obtain ⟨z, hz, rfl⟩ := map_get hi
        rw [List.getElem?_map] at hz
        obtain ⟨m, hm, rfl⟩ : ∃ m, rs[i]? = some m ∧ z = keyOf b (lg b M) m := by
          cases e : rs[i]? with
          | none =>
            rw [e] at hz
            cases hz
          | some m =>
            rw [e] at hz
            exact ⟨m, rfl, (Option.some.inj hz).symm⟩
        have hm2 : m ∈ ms := pr.mem_iff.mp (List.mem_of_getElem? hm)
        obtain ⟨t, hv, htup⟩ := hE3.val hm2 fun n hn e => key_inj R.b2 (R.all n hn).2.2 (R.all m hm2).2.2 (lgle n hn) (lgle m hm2) e
        refine ⟨rfl, yes_of ?_⟩
        have dn := ne_of_none hD3 hDn
        refine ⟨_, rfl, _, rfl, d, .ref t, rfl, ?_, ?_⟩
        · rw [← hv]
          exact DGet.k (k := .inl (keyOf b (lg b M) m)) (by rw [upd_ne dn]; exact hD3)
        · refine ⟨_, upd_same, ?_, ts ++ [t], ?_, ?_, ?_⟩
          · rw [List.length_map, ht1]
            have := (List.getElem?_eq_some_iff.mp hm).1
            rw [pr.length_eq] at this
            exact small1000 (by have := R.le; omega)
          · rw [upd_upd, List.map_append]
            rfl
          · rw [List.length_append, ht1]
            rfl
          · rw [List.take_add_one, hm]
            exact TupsAt.snoc ht2 htup
      · rintro H'' ⟨ts, rfl, ht1, ht2⟩
        rw [lz, List.take_length] at ht2
        have s6 := same_new (o := .lst (ts.map V.ref)) hDn
        refine q _ D rs ts M (s03.trans s6) (s03.free hDn) hM hmax upd_same (ht2.same fun c xs e => s6 _ _ e) pr ?_
        have nd : (rs.map (keyOf b (lg b M))).Nodup := nodup_map (pr.nodup_iff.mpr R.nd) fun x hx y hy e => key_inj R.b2 (R.all x (pr.mem_iff.mp hx)).2.2 (R.all y (pr.mem_iff.mp hy)).2.2 (lgle x (pr.mem_iff.mp hx)) (lgle y (pr.mem_iff.mp hy)) e
        have := strict hp2 nd
        rwa [List.pairwise_map] at this
end
end Ax

namespace Ax
open PySem L2
/-- whether each size divides the next one, the first one times the base behind the last -/
def dvZ (b : Int) (zs : List Int) : Bool := ((zs.zip (zs.drop 1 ++ [b * zs.headD 0])).map fun p => decide (p.2 % p.1 = 0)).all id
theorem cut_one (z : Int) (zs : List Int) : cutV ((z :: zs).map V.int) (some 1) none = zs.map V.int := by
  have e : cutV ((z :: zs).map V.int) (some 1) none = (zs.map V.int).take zs.length := by
    unfold cutV HT.sIx
    simp
  rw [e]
  exact List.take_of_length_le (by rw [List.length_map]; exact Nat.le_refl _)
theorem ref_get {as : List Addr} {i : Nat} {x : V} (h : (as.map V.ref)[i]? = some x) : ∃ a, as[i]? = some a ∧ x = .ref a := by
  rw [List.getElem?_map] at h
  cases e : as[i]? with
  | none =>
    rw [e] at h
    cases h
  | some a =>
    rw [e] at h
    exact ⟨a, rfl, (Option.some.inj h).symm⟩
theorem mul_lt2 {a c x y : Int} (h1 : a < x) (h2 : c < y) (hc : 0 < c) (hx : 0 ≤ x := by decide) : a * c < x * y := by
  have a1 := Int.mul_lt_mul_of_pos_right h1 hc
  have a2 := Int.mul_le_mul_of_nonneg_left (Int.le_of_lt h2) hx
  omega
section
variable {P : Program} {w : World} {K : PySem.W.Frag} {mg : Str → Option Value} {base : Heap} {A : Adr}
/-! ### _is_dividing -/
def spDiv : Sp := fun vs H Q _ => ∃ (b M : Int) (rs : List Int) (ts : List Addr) (lr : Addr), vs = [.int b, .ref lr] ∧ H lr = some (.lst (ts.map V.ref)) ∧ TupsAt H b rs ts ∧ 2 ≤ b ∧ b < 2 ^ 64 ∧ M ∈ rs ∧ rs.length < 60 ∧ (∀ m ∈ rs, 1 ≤ m ∧ m < 2 ^ 64 ∧ m ≤ M) ∧ ∀ H', Same H H' → Q (.bl (dvZ b (rs.map (keyOf b (lg b M))))) H'
abbrev nm_is_dividing : List Str := ["base", "rungs", "lowest", "_", "power", "sizes", "mantissa", "greater", "size", "above"]
theorem sc_is_dividing : FnScope ["base", "rungs", "lowest", "_", "power", "sizes", "mantissa", "greater", "size", "above"] ["base", "rungs"] (defScope s_is_dividing) := ⟨rfl, rfl, rfl, by decide +kernel, rfl, by decide +kernel, by decide +kernel⟩
theorem ok_div (T : Txt K mg A w) : FnOk P w K mg base CX0 2 A.a_is_dividing A.d_is_dividing ["base", "rungs"] spDiv := by
  have G_power_of : FnOk P w K mg base CX0 1 A.a_power_of A.d_power_of ["base", "exponent"] spPow := ok_power_of T
  refine T.F_is_dividing.ok sc_is_dividing (fun vs H Q E h => ?_) (fun cdv A0 outer s H0 vs Q E hr h => ?_)
  · obtain ⟨b, M, rs, ts, lr, rfl, _⟩ := h
    rfl
  · obtain ⟨b, M, rs, ts, lr, rfl, hLr, hT, hb, hbB, hM, hlen0, hrs, q0⟩ := h
    have hlt : ts.length = rs.length := hT.len.symm
    have hpos : 0 < rs.length := List.length_pos_of_mem hM
    refine ⟨_, (pss_cons (ps_set (i := 2) sc_is_dividing.nd rfl (Or.inr rfl) (pe_callB (crMin K) (by rfl) T.n_min (by decide +kernel) (pa_cons (pe_lc (own := [("_", 3), ("power", 4)]) (g := gTup K 2 (gCons (gName 3) (gCons (gName 4) gNil))) (tt := tYes) rfl sc_is_dividing.nd (pi_list (pv 1)) (blkOk_by (own := [("_", 3), ("power", 4)]) (N := nm_is_dividing) (sc := defScope s_is_dividing) (by decide +kernel)) (fun _ _ _ _ _ => (pg_tup (by rfl) (pgs_cons (pg_name (i := 3) sc_is_dividing.nd rfl (Or.inl rfl)) (pgs_cons (pg_name (i := 4) sc_is_dividing.nd rfl (Or.inl rfl)) pgs_nil)))) (fun _ _ _ _ _ => pts_nil) (fun _ _ _ _ _ => (pe_callTy call_int1 (by rfl) T.n_int (by decide +kernel) (pa_cons (pv 4) pa_nil)))) pa_nil)))
  (pss_cons (ps_setLc (i := 5) (own := [("mantissa", 6), ("power", 4)]) (g := gTup K 2 (gCons (gName 6) (gCons (gName 4) gNil))) (tt := tYes) rfl sc_is_dividing.nd rfl rfl (sw_true rfl rfl rfl (by decide +kernel)) (pi_list (pv 1)) (blkOk_by (own := [("mantissa", 6), ("power", 4)]) (N := nm_is_dividing) (sc := defScope s_is_dividing) (by decide +kernel)) (fun _ _ _ _ _ => (pg_tup (by rfl) (pgs_cons (pg_name (i := 6) sc_is_dividing.nd rfl (Or.inl rfl)) (pgs_cons (pg_name (i := 4) sc_is_dividing.nd rfl (Or.inl rfl)) pgs_nil)))) (fun _ _ _ _ _ => pts_nil) (fun _ _ _ _ _ => (pe_op op_mulW (pv 6) (pe_call G_power_of (hr.mono (by decide)) (by rfl) T.m_power_of T.F_power_of.kp T.B_power_of .nil pass0 (pa_cons (pv 0) (pa_cons (pe_op op_sub (pv 4) (pv 2)) pa_nil))))))
  (pss_cons (ps_set (i := 7) sc_is_dividing.nd rfl (Or.inl rfl) (pe_op op_cat (pe_slice sl_list (pv 5) (po_some pe_int) po_none) (pe_lst (pa_cons (pe_op op_mulW (pv 0) (pe_ix ix_list (pv 5) pe_int (fun _ _ => rfl))) pa_nil))))
  (pss_one (ps_ret (pe_callB (cr_all rfl) (by rfl) T.n_all (by decide +kernel) (pa_cons (pe_lc (own := [("size", 8), ("above", 9)]) (g := gTup K 2 (gCons (gName 8) (gCons (gName 9) gNil))) (tt := tYes) rfl sc_is_dividing.nd (pi_zip (by rfl) T.n_zip (pa_cons (pv 5) (pa_cons (pv 7) pa_nil))) (blkOk_by (own := [("size", 8), ("above", 9)]) (N := nm_is_dividing) (sc := defScope s_is_dividing) (by decide +kernel)) (fun _ _ _ _ _ => (pg_tup (by rfl) (pgs_cons (pg_name (i := 8) sc_is_dividing.nd rfl (Or.inl rfl)) (pgs_cons (pg_name (i := 9) sc_is_dividing.nd rfl (Or.inl rfl)) pgs_nil)))) (fun _ _ _ _ _ => pts_nil) (fun _ _ _ _ _ => (pe_cmpR op_eq (pe_op op_mod (pv 9) (pv 8)) pe_int (nomark _)))) pa_nil))))))), ?_⟩
    have lgle : ∀ m ∈ rs, lg b m ≤ lg b M := fun m hm => lg_mono hb (hrs m hm).1 (hrs m hm).2.2
    have lT : (ts.map V.ref).length = rs.length := by rw [List.length_map, hlt]
    -- lowest = min([..])
    refine ⟨_, rfl, lr, rfl, ⟨_, SqL.of hLr⟩, fun D0 hD0 => lc_list (K := K) (a := lr) (xs := ts.map V.ref) (fun i H' => H' = upd H0 D0 (.lst (((rs.take i).map fun m => -(lg b m : Int)).map V.int))) rfl ?_ ?_ ?_⟩
    · rintro i H' _ rfl
      exact SqL.of (by rw [upd_ne (ne_of_none hLr hD0)]; exact hLr)
    · rintro i x H' hi rfl
      obtain ⟨t, ht, rfl⟩ := ref_get hi
      obtain ⟨m, hm, htup⟩ := hT.get2 ht
      have hi3 : i < rs.length := (List.getElem?_eq_some_iff.mp hm).1
      refine ⟨t, _, rfl, SqT.of (by rw [upd_ne (ne_of_none htup hD0)]; exact htup), rfl, _, _, rfl, _, _, rfl, rfl, rfl, yes_of ?_⟩
      refine ⟨_, rfl, .inl ⟨_, rfl, ?_⟩⟩
      refine ⟨_, upd_same, ?_, ?_⟩
      · rw [List.length_map, List.length_map, List.length_take]
        exact small1000 (by omega)
      · rw [upd_upd, List.take_add_one, hm, List.map_append, List.map_append]
        rfl
    rintro H1 rfl
    rw [lT, List.take_length]
    have s1 : Same H0 (upd H0 D0 (.lst ((rs.map fun m => -(lg b m : Int)).map V.int))) := same_new hD0
    refine ⟨D0, rs.map fun m => -(lg b m : Int), rfl, SqL.of upd_same, (by rw [List.length_map]; exact hpos), fun lo hlo hmin => ?_⟩
    obtain rfl : lo = -(lg b M : Int) := by
      obtain ⟨m0, hm0, rfl⟩ := List.mem_map.mp hlo
      have h1 := hmin _ (List.mem_map_of_mem (f := fun m => -(lg b m : Int)) hM)
      have h2 := lgle m0 hm0
      omega
    have hLr1 := s1 _ _ hLr
    have hT1 := hT.same fun c xs e => s1 _ _ e
    clear hLr hT
    generalize upd H0 D0 (.lst ((rs.map fun m => -(lg b m : Int)).map V.int)) = H1 at *
    -- sizes = [..]
    refine ⟨_, rfl, lr, rfl, ⟨_, SqL.of hLr1⟩, fun a hDa => lc_list (K := K) (a := lr) (xs := ts.map V.ref) (fun i H' => H' = upd H1 a (.lst (((rs.take i).map (keyOf b (lg b M))).map V.int))) rfl ?_ ?_ ?_⟩
    · rintro i H' _ rfl
      exact SqL.of (by rw [upd_ne (ne_of_none hLr1 hDa)]; exact hLr1)
    · rintro i x H' hi rfl
      obtain ⟨t, ht, rfl⟩ := ref_get hi
      obtain ⟨m, hm, htup⟩ := hT1.get2 ht
      have hi3 : i < rs.length := (List.getElem?_eq_some_iff.mp hm).1
      have hmm := List.mem_of_getElem? hm
      obtain ⟨m1, m2, m3⟩ := hrs m hmm
      have lgm := lgle m hmm
      have M1 := (hrs M hM).1
      have M2 := (hrs M hM).2.1
      have eT : (-(lg b m : Nat) - -(lg b M : Nat) : Int).toNat = lg b M - lg b m := by omega
      have pB : b ^ (lg b M - lg b m) < BIG := by
        have h1 := pow_le' (b := b) (by omega) (Nat.sub_le (lg b M) (lg b m))
        have h2 := (lg_spec hb M1).1
        have h3 := lt_big (n := 64) M2 (by decide)
        omega
      have p1 := pow_pos' (b := b) (by omega) (lg b M - lg b m)
      refine ⟨t, _, rfl, SqT.of (by rw [upd_ne (ne_of_none htup hDa)]; exact htup), rfl, _, _, rfl, _, _, rfl, rfl, rfl, yes_of ?_⟩
      refine ⟨_, rfl, _, rfl, _, rfl, _, rfl, _, _, rfl, rfl, b, _, rfl, by omega, ?_, ?_, lt_big hbB (by decide), ?_⟩
      · show (0 : Int) ≤ -(lg b m : Nat) - -(lg b M : Nat)
        omega
      · rw [eT]
        exact pB
      · rw [eT]
        refine ⟨_, _, rfl, rfl, mulBig (by omega) (big_le (lt_big m2 (by decide))) (by omega) (big_le pB), ?_⟩
        refine ⟨_, upd_same, ?_, ?_⟩
        · rw [List.length_map, List.length_map, List.length_take]
          exact small1000 (by omega)
        · rw [upd_upd, List.take_add_one, hm, List.map_append, List.map_append]
          rfl
    rintro H2 rfl
    rw [lT, List.take_length]
    have s2 : Same H1 (upd H1 a (.lst ((rs.map (keyOf b (lg b M))).map V.int))) := same_new hDa
    have hL : (upd H1 a (.lst ((rs.map (keyOf b (lg b M))).map V.int))) a = some (.lst ((rs.map (keyOf b (lg b M))).map V.int)) := upd_same
    have q : ∀ H', Same (upd H1 a (.lst ((rs.map (keyOf b (lg b M))).map V.int))) H' → Q (.bl (dvZ b (rs.map (keyOf b (lg b M))))) H' := fun H' s3 => q0 _ ((s1.trans s2).trans s3)
    have hz : ∀ z ∈ rs.map (keyOf b (lg b M)), 1 ≤ z ∧ z < 2 ^ 200 := fun z hz => by
      obtain ⟨m, hm, rfl⟩ := List.mem_map.mp hz
      have k1 := key_pos (top := lg b M) hb (hrs m hm).1
      have k2 := (key_lt (top := lg b M) hb (hrs m hm).1 (lgle m hm)).2
      have k3 := (lg_spec hb (hrs M hM).1).1
      have k5 := (hrs M hM).2.1
      rw [Int.pow_succ] at k2
      have k4 := mul_lt2 (show b ^ lg b M < 2 ^ 64 by omega) hbB (by omega)
      refine ⟨k1, Int.lt_trans k2 (Int.lt_trans k4 ?_)⟩
      rw [← pow_add']
      exact pow_lt' (b := 2) (by decide) (by decide)
    have hne : rs.map (keyOf b (lg b M)) ≠ [] := fun z => by
      have e1 := congrArg List.length z
      rw [List.length_map, List.length_nil] at e1
      omega
    have hlen : (rs.map (keyOf b (lg b M))).length < 60 := by rw [List.length_map]; exact hlen0
    generalize upd H1 a (.lst ((rs.map (keyOf b (lg b M))).map V.int)) = H at *
    generalize rs.map (keyOf b (lg b M)) = zs at *
    clear hLr1 hT1 s1 s2 q0 hlo hmin
    obtain ⟨z0, zr, rfl⟩ : ∃ z0 zr, zs = z0 :: zr := by
      cases zs with
      | nil => exact absurd rfl hne
      | cons z r => exact ⟨z, r, rfl⟩
    obtain ⟨z1, z2⟩ := hz z0 (List.mem_cons_self ..)
    refine ⟨_, rfl, _, rfl, a, _, rfl, SqL.of hL, fun p hp => ?_⟩
    rw [cut_one]
    have nap : a ≠ p := ne_of_none hL hp
    refine ⟨_, rfl, _, rfl, a, _, _, _, rfl, rfl, SqL.of (by rw [upd_ne nap]; exact hL), atI_nat (j := 0) rfl, _, _, rfl, rfl, mulBig (by omega) (big_le (lt_big hbB (by decide))) (by omega) (big_le (lt_big z2 (by decide))), (by show 1 ≤ sizeLine; decide), fun p2 hp2 => ?_⟩
    have np : p ≠ p2 := fun z => by
      rw [← z, upd_same] at hp2
      cases hp2
    refine ⟨p, p2, _, _, rfl, rfl, by rw [upd_ne np, upd_same], upd_same, ?_, fun p3 hp3 => ?_⟩
    · rw [List.length_map]
      simp only [List.length_cons] at hlen
      exact Nat.le_of_lt (small1000 (by show zr.length + 1 ≤ 1000; omega))
    · have s1 : Same H (upd (upd H p (.lst (zr.map V.int))) p2 (.lst [.int (b * z0)])) := (same_new hp).trans (same_new hp2)
      have s3 : Same H _ := s1.trans (same_new (o := .lst (zr.map V.int ++ [V.int (b * z0)])) hp3)
      have eg : zr.map V.int ++ [V.int (b * z0)] = (zr ++ [b * z0]).map V.int := by rw [List.map_append]; rfl
      have lenE : ((z0 :: zr).map V.int).length = ((zr ++ [b * z0]).map V.int).length := by simp
      have minE : ((z0 :: zr).map V.int).length = min ((z0 :: zr).map V.int).length ((zr ++ [b * z0]).map V.int).length := by rw [← lenE]; simp
      have lz : ((z0 :: zr).map V.int).length = (z0 :: zr).length := List.length_map _
      refine ⟨_, rfl, _, rfl, a, p3, _, _, rfl, SqL.of (s3 _ _ hL), SqL.of upd_same, fun D hD => ?_⟩
      refine lc_it (walk_zip (K := K) (a := a) (b := p3) minE) (fun i H' => Same _ H' ∧ H' D = some (.lst ((((z0 :: zr).zip (zr ++ [b * z0])).take i).map fun p => V.bl (decide (p.2 % p.1 = 0))))) ⟨same_new hD, upd_same⟩ (fun i H' _ ⟨s5, _⟩ => ⟨SqL.of (s5 _ _ (s3 _ _ hL)), SqL.of (xs := (zr ++ [b * z0]).map V.int) (s5 _ _ (by rw [← eg]; exact upd_same))⟩) ?_ ?_
      · rintro i x H' H2 hi ⟨s5, hD2⟩ ⟨Tt, x1, y1, rfl, hT, rfl, hx, hy⟩
        obtain ⟨zi, hzi, rfl⟩ := map_get hx
        obtain ⟨gi, hgi, rfl⟩ := map_get hy
        obtain ⟨c1, c2⟩ := hz zi (List.mem_of_getElem? hzi)
        refine ⟨Tt, _, rfl, SqT.of upd_same, rfl, _, _, rfl, _, _, rfl, rfl, rfl, yes_of ?_⟩
        refine ⟨_, rfl, _, rfl, _, _, rfl, rfl, (by show 0 < zi; omega), rfl, ?_⟩
        have nDT : D ≠ Tt := ne_of_none hD2 hT
        have hpair : ((z0 :: zr).zip (zr ++ [b * z0]))[i]? = some (zi, gi) := by
          rw [List.getElem?_zip_eq_some]
          exact ⟨hzi, hgi⟩
        refine ⟨_, by rw [upd_ne nDT]; exact hD2, ?_, fun c o e => ?_, ?_⟩
        · rw [List.length_map, List.length_take]
          rw [lz] at hi
          exact small1000 (by omega)
        · have ncD : c ≠ D := ne_of_none e hD
          rw [upd_ne ncD, upd_ne (ne_of_none (s5 _ _ e) hT)]
          exact s5 _ _ e
        · rw [upd_same, List.take_add_one, hpair, List.map_append]
          have ed : decide (V.int (gi % zi) = V.int 0) = decide (gi % zi = 0) := by
            by_cases c : gi % zi = 0
            · rw [c]
              simp
            · rw [decide_eq_false c, decide_eq_false (fun z => c (V.int.inj z))]
          show some (HO.lst (_ ++ [V.bl (decide (V.int (gi % zi) = V.int 0))])) = _
          rw [ed]
          rfl
      · rintro H' ⟨s5, hD2⟩
        have lp : ((z0 :: zr).zip (zr ++ [b * z0])).length = ((z0 :: zr).map V.int).length := by simp
        rw [← lp, List.take_length] at hD2
        refine ⟨D, ((z0 :: zr).zip (zr ++ [b * z0])).map fun p => decide (p.2 % p.1 = 0), rfl, SqL.of (by rw [hD2, List.map_map]; rfl), ?_⟩
        exact q _ (s3.trans s5)
end
end Ax

namespace Ax
open PySem L2
/-! ### a rule's object -/
def rf1 (b : Int) : List (Str × V) := putF "_base" (.int b) []
def rf2 (b : Int) (k : Kd) : List (Str × V) := putF "_kind" (.str k.s) (rf1 b)
def rf3 (b : Int) (k : Kd) (lm : Addr) : List (Str × V) := putF "_mantissas" (.ref lm) (rf2 b k)
def rf4 (b : Int) (k : Kd) (lm : Addr) (most : Int) : List (Str × V) := putF "_most" (.int most) (rf3 b k lm)
def rf5 (b : Int) (k : Kd) (lm : Addr) (most : Int) (dv : Bool) : List (Str × V) := putF "_dividing" (.bl dv) (rf4 b k lm most)
def rf (b : Int) (k : Kd) (lm : Addr) (most : Int) (dv : Bool) (lr : Addr) : List (Str × V) := putF "_rungs" (.ref lr) (rf5 b k lm most dv)
section
variable (b : Int) (k : Kd) (lm lr : Addr) (most : Int) (dv : Bool)
theorem rf_lookup (f : Str) : (rf b k lm most dv lr).lookup f = if f = "_rungs" then some (.ref lr) else if f = "_dividing" then some (.bl dv) else if f = "_most" then some (.int most) else if f = "_mantissas" then some (.ref lm) else if f = "_kind" then some (.str k.s) else if f = "_base" then some (.int b) else none := by
  unfold rf rf5 rf4 rf3 rf2 rf1
  simp only [lookup_putF, List.lookup_nil]
theorem rf_rungs : (rf b k lm most dv lr).lookup ("_rungs" : Str) = some (.ref lr) := by rw [rf_lookup, if_pos rfl]
theorem rf_dividing : (rf b k lm most dv lr).lookup ("_dividing" : Str) = some (.bl dv) := by rw [rf_lookup, if_neg (by decide +kernel), if_pos rfl]
theorem rf_most : (rf b k lm most dv lr).lookup ("_most" : Str) = some (.int most) := by rw [rf_lookup, if_neg (by decide +kernel), if_neg (by decide +kernel), if_pos rfl]
theorem rf_mantissas : (rf b k lm most dv lr).lookup ("_mantissas" : Str) = some (.ref lm) := by rw [rf_lookup, if_neg (by decide +kernel), if_neg (by decide +kernel), if_neg (by decide +kernel), if_pos rfl]
theorem rf_kind : (rf b k lm most dv lr).lookup ("_kind" : Str) = some (.str k.s) := by rw [rf_lookup, if_neg (by decide +kernel), if_neg (by decide +kernel), if_neg (by decide +kernel), if_neg (by decide +kernel), if_pos rfl]
theorem rf_base : (rf b k lm most dv lr).lookup ("_base" : Str) = some (.int b) := by rw [rf_lookup, if_neg (by decide +kernel), if_neg (by decide +kernel), if_neg (by decide +kernel), if_neg (by decide +kernel), if_neg (by decide +kernel), if_pos rfl]
end
/-- a rule's own parts: its dict, its lists, what they hold -/
structure RD where
  dx : Addr
  lm : Addr
  lr : Addr
  ms' : List Int
  rs : List Int
  ts : List Addr
  top : Nat
  dv : Bool
structure RX (C : Addr) (H : Hp) (r : Addr) (b : Int) (k : Kd) (ms : List Int) (most : Int) (D : RD) : Prop where
  at_ : H r = some (.ins C D.dx (rf b k D.lm most D.dv D.lr))
  lm_ : H D.lm = some (.lst (D.ms'.map V.int))
  pm : D.ms'.Perm ms
  ps : D.ms'.Pairwise (· ≤ ·)
  lr_ : H D.lr = some (.lst (D.ts.map V.ref))
  tup : TupsAt H b D.rs D.ts
  pr : D.rs.Perm ms
  top_ : ∀ m ∈ ms, lg b m ≤ D.top
  st : D.rs.Pairwise (fun m n => keyOf b D.top m < keyOf b D.top n)
  dv_ : D.dv = dvZ b (D.rs.map (keyOf b D.top))
theorem RX.same {C : Addr} {H H' : Hp} {r : Addr} {b : Int} {k : Kd} {ms : List Int} {most : Int} {D : RD} (x : RX C H r b k ms most D) (s : Same H H') : RX C H' r b k ms most D :=
  ⟨s _ _ x.at_, s _ _ x.lm_, x.pm, x.ps, s _ _ x.lr_, x.tup.same fun c xs e => s _ _ e, x.pr, x.top_, x.st, x.dv_⟩
/-- a list apart may change -/
theorem RX.but {C : Addr} {H H' : Hp} {r p : Addr} {b : Int} {k : Kd} {ms : List Int} {most : Int} {D : RD} {xs : List V} (x : RX C H r b k ms most D) (hp : H p = some (.lst xs)) (n1 : D.lm ≠ p) (n2 : D.lr ≠ p) (s : ∀ c o, c ≠ p → H c = some o → H' c = some o) : RX C H' r b k ms most D :=
  ⟨s _ _ (ne_of x.at_ hp (by intro z; cases z)) x.at_, s _ _ n1 x.lm_, x.pm, x.ps, s _ _ n2 x.lr_, x.tup.same fun c xs e => s _ _ (ne_of e hp (by intro z; cases z)) e, x.pr, x.top_, x.st, x.dv_⟩
section
variable {P : Program} {w : World} {K : PySem.W.Frag} {mg : Str → Option Value} {base : Heap} {A : Adr}
/-- between the stores of __init__ -/
structure Mid (C : Addr) (H Hc : Hp) (r dx a lr : Addr) (b : Int) (ms rs : List Int) (ts : List Addr) (fs : List (Str × V)) : Prop where
  at_ : Hc r = some (.ins C dx fs)
  kp : ∀ c o, c ≠ r → H c = some o → Hc c = some o
  la : Hc a = some (.lst (ms.map V.int))
  ll : Hc lr = some (.lst (ts.map V.ref))
  tp : TupsAt Hc b rs ts
theorem Mid.same {C : Addr} {H Hc Hn : Hp} {r dx a lr : Addr} {b : Int} {ms rs : List Int} {ts : List Addr} {fs : List (Str × V)} (m : Mid C H Hc r dx a lr b ms rs ts fs) (s : Same Hc Hn) : Mid C H Hn r dx a lr b ms rs ts fs :=
  ⟨s _ _ m.at_, fun c o h e => s _ _ (m.kp c o h e), s _ _ m.la, s _ _ m.ll, m.tp.same fun c xs e => s _ _ e⟩
theorem Mid.fld {C : Addr} {H Hc : Hp} {r dx a lr : Addr} {b : Int} {ms rs : List Int} {ts : List Addr} {fs : List (Str × V)} (m : Mid C H Hc r dx a lr b ms rs ts fs) (gs : List (Str × V)) : Mid C H (upd Hc r (.ins C dx gs)) r dx a lr b ms rs ts gs := by
  have n1 : a ≠ r := ne_of m.la m.at_ (by intro z; cases z)
  have n2 : lr ≠ r := ne_of m.ll m.at_ (by intro z; cases z)
  refine ⟨upd_same, fun c o h e => by rw [upd_ne h]; exact m.kp c o h e, by rw [upd_ne n1]; exact m.la, by rw [upd_ne n2]; exact m.ll, m.tp.same fun c xs e => ?_⟩
  rw [upd_ne (ne_of e m.at_ (by intro z; cases z))]
  exact e
theorem Mid.fresh {C : Addr} {H Hc : Hp} {r dx a lr : Addr} {b : Int} {ms rs : List Int} {ts : List Addr} {fs : List (Str × V)} (m : Mid C H Hc r dx a lr b ms rs ts fs) {l : Addr} (h : Hc l = none) : H l = none := by
  have n := (ne_of_none m.at_ h).symm
  cases e : H l with
  | none => rfl
  | some o =>
    rw [m.kp l o n e] at h
    cases h
theorem fewF {fs : List (Str × V)} (h : fs.length ≤ 6) : fs.length < 1000 := by omega
theorem l1 (b : Int) : (rf1 b).length ≤ 1 := length_putF _ _ _
theorem l2 (b : Int) (k : Kd) : (rf2 b k).length ≤ 2 := Nat.le_trans (length_putF _ _ _) (Nat.succ_le_succ (l1 b))
theorem l3 (b : Int) (k : Kd) (lm : Addr) : (rf3 b k lm).length ≤ 3 := Nat.le_trans (length_putF _ _ _) (Nat.succ_le_succ (l2 b k))
theorem l4 (b : Int) (k : Kd) (lm : Addr) (most : Int) : (rf4 b k lm most).length ≤ 4 := Nat.le_trans (length_putF _ _ _) (Nat.succ_le_succ (l3 b k lm))
theorem l5 (b : Int) (k : Kd) (lm : Addr) (most : Int) (dv : Bool) : (rf5 b k lm most dv).length ≤ 5 := Nat.le_trans (length_putF _ _ _) (Nat.succ_le_succ (l4 b k lm most))
def spInit (A : Adr) : Sp := fun vs H Q _ => ∃ (r dx a : Addr) (b : Int) (k : Kd) (ms : List Int) (most : Int), vs = [.ref r, .int b, .str k.s, .ref a, .int most] ∧ H r = some (.ins A.c_Rule dx []) ∧ H a = some (.lst (ms.map V.int)) ∧ RArgs b k ms most ∧
  ∀ (H' : Hp) (D : RD), (∀ c o, c ≠ r → H c = some o → H' c = some o) → RX A.c_Rule H' r b k ms most D → H D.lm = none → H D.lr = none → Q .non H'
abbrev nm_Rule_init : List Str := ["self", "base", "kind", "mantissas", "most", "rungs"]
theorem sc_Rule_init : FnScope ["self", "base", "kind", "mantissas", "most", "rungs"] ["self", "base", "kind", "mantissas", "most"] (defScope s_Rule_init) := ⟨rfl, rfl, rfl, by decide +kernel, rfl, by decide +kernel, by decide +kernel⟩
theorem ok_init (T : Txt K mg A w) : FnOk P w K mg base CX0 4 A.a_Rule_init A.d_Rule_init ["self", "base", "kind", "mantissas", "most"] (spInit A) := by
  have G_arguments_fit : FnOk P w K mg base CX0 3 A.a_arguments_fit A.d_arguments_fit ["base", "kind", "mantissas", "most"] (spAF K) := ok_af T
  have G_rungs_of : FnOk P w K mg base CX0 2 A.a_rungs_of A.d_rungs_of ["base", "mantissas"] spRungs := ok_rungs T
  have G_is_dividing : FnOk P w K mg base CX0 2 A.a_is_dividing A.d_is_dividing ["base", "rungs"] spDiv := ok_div T
  refine T.F_Rule_init.ok sc_Rule_init (fun vs H Q E h => ?_) (fun cdv A0 outer s H vs Q E hr h => ?_)
  · obtain ⟨r, dx, a, b, k, ms, most, rfl, _⟩ := h
    rfl
  · obtain ⟨r, dx, a, b, k, ms, most, rfl, hR, hL, R, q⟩ := h
    refine ⟨_, (pss_cons (ps_if (pt_not (pt_val (pe_call G_arguments_fit (hr.mono (by decide)) (by rfl) T.m_arguments_fit T.F_arguments_fit.kp T.B_arguments_fit .nil pass0 (pa_cons (pv 1) (pa_cons (pv 2) (pa_cons (pv 3) (pa_cons (pv 4) pa_nil))))))) (pss_one ps_never) pss_nil)
  (pss_cons (ps_set (i := 5) sc_Rule_init.nd rfl (Or.inl rfl) (pe_call G_rungs_of (hr.mono (by decide)) (by rfl) T.m_rungs_of T.F_rungs_of.kp T.B_rungs_of .nil pass0 (pa_cons (pv 1) (pa_cons (pv 3) pa_nil))))
  (pss_cons (ps_fld (pv 0) (pv 1) rfl)
  (pss_cons (ps_fld (pv 0) (pv 2) rfl)
  (pss_cons (ps_fld (pv 0) (pe_callBK cr_sortInt (by rfl) T.n_sorted (by decide +kernel) (pa_cons (pv 3) pa_nil) (pk_cons (pe_bltn (v := .ty "int") (by rfl) T.n_int (by decide +kernel) rfl) pk_nil)) rfl)
  (pss_cons (ps_fld (pv 0) (pv 4) rfl)
  (pss_cons (ps_fld (pv 0) (pe_call G_is_dividing (hr.mono (by decide)) (by rfl) T.m_is_dividing T.F_is_dividing.kp T.B_is_dividing .nil pass0 (pa_cons (pv 1) (pa_cons (pv 5) pa_nil))) rfl)
  (pss_one (ps_fld (pv 0) (pv 5) rfl))))))))), ?_⟩
    refine ⟨_, rfl, _, rfl, _, rfl, _, rfl, b, k, ms, a, most, rfl, hL, R, fun H1 s1 => ?_⟩
    refine ⟨_, rfl, iteF ?_⟩
    refine ⟨_, rfl, _, rfl, k, b, most, ms, a, rfl, s1 _ _ hL, R, fun G0 lr rs ts M s2 hlr hM hmax hD hE pr st => ?_⟩
    have m0 : Mid A.c_Rule H G0 r dx a lr b ms rs ts [] :=
      ⟨s2 _ _ (s1 _ _ hR), fun c o _ e => s2 _ _ (s1 _ _ e), s2 _ _ (s1 _ _ hL), hD, hE⟩
    -- self._base = base; self._kind = kind
    refine ⟨_, rfl, _, rfl, r, A.c_Rule, dx, [], rfl, m0.at_, T.cl, T.na_base, (by decide), ?_⟩
    have m1 := m0.fld (rf1 b)
    refine ⟨_, rfl, _, rfl, r, A.c_Rule, dx, rf1 b, rfl, m1.at_, T.cl, T.na_kind, fewF (Nat.le_trans (l1 b) (by decide)), ?_⟩
    have m2 := m1.fld (rf2 b k)
    -- self._mantissas = sorted(mantissas, key=int)
    refine ⟨_, rfl, a, ms, rfl, rfl, SqL.of m2.la, (by have := R.le; omega), fun ms' lm hp3 hp4 hlm => ?_⟩
    have m2' := m2.same (same_new (o := .lst (ms'.map V.int)) hlm)
    have lm2 := upd_same (H := upd (upd G0 r (.ins A.c_Rule dx (rf1 b))) r (.ins A.c_Rule dx (rf2 b k))) (a := lm) (o := .lst (ms'.map V.int))
    refine ⟨_, rfl, r, A.c_Rule, dx, rf2 b k, rfl, m2'.at_, T.cl, T.na_mantissas, fewF (Nat.le_trans (l2 b k) (by decide)), ?_⟩
    have m3 := m2'.fld (rf3 b k lm)
    have nlr : lm ≠ r := ne_of lm2 m2'.at_ (by intro z; cases z)
    have lm3 := (upd_ne (o := .ins A.c_Rule dx (rf3 b k lm)) nlr).trans lm2
    -- self._most = most
    refine ⟨_, rfl, _, rfl, r, A.c_Rule, dx, rf3 b k lm, rfl, m3.at_, T.cl, T.na_most, fewF (Nat.le_trans (l3 b k lm) (by decide)), ?_⟩
    have m4 := m3.fld (rf4 b k lm most)
    have lm4 := (upd_ne (o := .ins A.c_Rule dx (rf4 b k lm most)) nlr).trans lm3
    -- self._dividing = _is_dividing(base, rungs)
    have lgle : ∀ m ∈ ms, lg b m ≤ lg b M := fun m hm => lg_mono R.b2 (R.all m hm).1 (hmax m hm)
    have rlen : rs.length < 60 := by rw [pr.length_eq]; exact R.le
    refine ⟨_, rfl, _, rfl, b, M, rs, ts, lr, rfl, m4.ll, m4.tp, R.b2, R.bB, pr.mem_iff.mpr hM, rlen, fun m hm => ⟨(R.all m (pr.mem_iff.mp hm)).1, (R.all m (pr.mem_iff.mp hm)).2.1, hmax m (pr.mem_iff.mp hm)⟩, fun H5 s5 => ?_⟩
    have m4' := m4.same s5
    have lm4' := s5 _ _ lm4
    generalize hdv : dvZ b (rs.map (keyOf b (lg b M))) = dv
    refine ⟨_, rfl, r, A.c_Rule, dx, rf4 b k lm most, rfl, m4'.at_, T.cl, T.na_dividing, fewF (Nat.le_trans (l4 b k lm most) (by decide)), ?_⟩
    have m5 := m4'.fld (rf5 b k lm most dv)
    have lm5 := (upd_ne (o := .ins A.c_Rule dx (rf5 b k lm most dv)) nlr).trans lm4'
    -- self._rungs = rungs
    refine ⟨_, rfl, _, rfl, r, A.c_Rule, dx, rf5 b k lm most dv, rfl, m5.at_, T.cl, T.na_rungs, fewF (Nat.le_trans (l5 b k lm most dv) (by decide)), ?_⟩
    have m6 := m5.fld (rf b k lm most dv lr)
    refine q _ ⟨dx, lm, lr, ms', rs, ts, lg b M, dv⟩ m6.kp ⟨m6.at_, ?_, hp3, hp4, m6.ll, m6.tp, pr, lgle, st, hdv.symm⟩ (m2.fresh hlm) (s1.free hlr)
    rw [upd_ne nlr]
    exact lm5
end
end Ax

namespace Ax
open PySem L2
section
variable {P : Program} {w : World} {K : PySem.W.Frag} {mg : Str → Option Value} {base : Heap} {A : Adr}
theorem RX.rungs {C : Addr} {H : Hp} {r : Addr} {b : Int} {k : Kd} {ms : List Int} {most : Int} {D : RD} (x : RX C H r b k ms most D) (R : RArgs b k ms most) : Rungs b D.rs D.top :=
  ⟨R.b2, by rw [x.pr.length_eq]; exact List.length_pos_iff.mpr R.ne, fun m hm => (R.all m (x.pr.mem_iff.mp hm)).1, fun m hm => x.top_ m (x.pr.mem_iff.mp hm), x.st⟩
theorem RX.len {C : Addr} {H : Hp} {r : Addr} {b : Int} {k : Kd} {ms : List Int} {most : Int} {D : RD} (x : RX C H r b k ms most D) : (D.ts.map V.ref).length = D.rs.length := by
  rw [List.length_map, x.tup.len]
/-! ### step_at -/
def spAt (A : Adr) : Sp := fun vs H Q _ => ∃ (r : Addr) (i : Int) (b : Int) (k : Kd) (ms : List Int) (most : Int) (D : RD), vs = [.ref D.lr, .int i] ∧ RX A.c_Rule H r b k ms most D ∧ RArgs b k ms most ∧
  ∀ (H' : Hp) (q : Addr), Same H H' → H q = none → H' q = some (.tup [.int (sAt b D.rs i).1, .int (sAt b D.rs i).2]) → Q (.ref q) H'
abbrev nm_step_at : List Str := ["rungs", "number", "power", "place", "mantissa", "shift"]
theorem sc_step_at : FnScope ["rungs", "number", "power", "place", "mantissa", "shift"] ["rungs", "number"] (defScope s_step_at) := ⟨rfl, rfl, rfl, by decide +kernel, rfl, by decide +kernel, by decide +kernel⟩
theorem ok_step_at (T : Txt K mg A w) : FnOk P w K mg base CX0 1 A.a_step_at A.d_step_at ["rungs", "number"] (spAt A) := by
  refine T.F_step_at.ok sc_step_at (fun vs H Q E h => ?_) (fun cdv A0 outer s H vs Q E hr h => ?_)
  · obtain ⟨r, i, b, k, ms, most, D, rfl, _⟩ := h
    rfl
  · obtain ⟨r, i, b, k, ms, most, D, rfl, x, R, q⟩ := h
    have X := x.rungs R
    have hn : 0 < (D.rs.length : Int) := by have := X.ne; omega
    have hl : ((D.ts.map V.ref).length : Int) = D.rs.length := by rw [x.len]
    have lrs : D.rs.length < 60 := by rw [x.pr.length_eq]; exact R.le
    refine ⟨_, (pss_cons (ps_asg (pe_callB call_divmodW (by rfl) T.n_divmod (by decide +kernel) (pa_cons (pv 1) (pa_cons (pe_callB call_len_seq (by rfl) T.n_len (by decide +kernel) (pa_cons (pv 0) pa_nil)) pa_nil))) (pg_tup (by rfl) (pgs_cons (pg_name (i := 2) sc_step_at.nd rfl (Or.inl rfl)) (pgs_cons (pg_name (i := 3) sc_step_at.nd rfl (Or.inl rfl)) pgs_nil))))
  (pss_cons (ps_asg (pe_ix ix_list (pv 0) (pv 3) (fun _ _ => rfl)) (pg_tup (by rfl) (pgs_cons (pg_name (i := 4) sc_step_at.nd rfl (Or.inl rfl)) (pgs_cons (pg_name (i := 5) sc_step_at.nd rfl (Or.inl rfl)) pgs_nil))))
  (pss_one (ps_ret (pe_tup (pa_cons (pv 4) (pa_cons (pe_op op_add (pv 2) (pv 5)) pa_nil))))))), ?_⟩
    refine ⟨_, rfl, _, rfl, D.lr, _, rfl, .inl (SqL.of x.lr_), i, _, rfl, ⟨by omega, PyProof.noPylong_of_log2 ?_⟩, fun q1 hq1 => ?_⟩
    · rw [hl, Int.natAbs_natCast]
      exact Nat.lt_of_le_of_lt (Nat.log2_le_self _) (by omega)
    refine ⟨q1, _, rfl, SqT.of upd_same, rfl, _, _, rfl, _, _, rfl, rfl, ?_⟩
    have s1 : Same H (upd H q1 (.tup [.int (i / ((D.ts.map V.ref).length : Nat)), .int (i % ((D.ts.map V.ref).length : Nat))])) := same_new hq1
    have x1 := x.same s1
    have f1 := Int.emod_nonneg i (show (D.rs.length : Int) ≠ 0 by omega)
    have f2 := Int.emod_lt_of_pos i hn
    have lt : (i % D.rs.length).toNat < D.rs.length := by omega
    have eg : D.rs[(i % D.rs.length).toNat]? = some (sAt b D.rs i).1 := by
      show _ = some (D.rs.getD (i % D.rs.length).toNat 1)
      rw [List.getD_eq_getElem?_getD, List.getElem?_eq_getElem lt]
      rfl
    obtain ⟨t, ht, htup⟩ := x1.tup.get eg
    have hat : atI (D.ts.map V.ref) (i % ((D.ts.map V.ref).length : Nat)) = some (.ref t) := by
      refine at_of (j := (i % D.rs.length).toNat) (by rw [hl]; omega) ?_
      rw [List.getElem?_map, ht]
      rfl
    refine ⟨_, rfl, _, rfl, D.lr, _, _, _, rfl, rfl, SqL.of x1.lr_, hat, ?_⟩
    refine ⟨t, _, rfl, SqT.of htup, rfl, _, _, rfl, _, _, rfl, rfl, ?_⟩
    refine ⟨_, rfl, _, rfl, _, rfl, _, _, rfl, rfl, (by show 2 ≤ sizeLine; decide), fun q2 hq2 => ?_⟩
    refine q _ q2 (s1.trans (same_new hq2)) (s1.free hq2) ?_
    rw [upd_same, hl]
    rfl
/-! ### low_rung -/
def spLow (A : Adr) : Sp := fun vs H Q _ => ∃ (r : Addr) (l h d : Int) (b : Int) (k : Kd) (ms : List Int) (most : Int) (D : RD), vs = [.int b, .ref D.lr, .int most, .int (h - l), .int d] ∧ RX A.c_Rule H r b k ms most D ∧ RArgs b k ms most ∧ l < h ∧ h - l < 2 ^ 1000 ∧ 0 ≤ d ∧ d < 2 ^ 20 ∧
  ∀ H' : Hp, Same H H' → Q (.int (lowQ b most l h d * D.rs.length)) H'
abbrev nm_low_rung : List Str := ["base", "rungs", "most", "length", "digits", "spare"]
theorem sc_low_rung : FnScope ["base", "rungs", "most", "length", "digits", "spare"] ["base", "rungs", "most", "length", "digits"] (defScope s_low_rung) := ⟨rfl, rfl, rfl, by decide +kernel, rfl, by decide +kernel, by decide +kernel⟩
theorem ok_low (T : Txt K mg A w) : FnOk P w K mg base CX0 2 A.a_low_rung A.d_low_rung ["base", "rungs", "most", "length", "digits"] (spLow A) := by
  have G_log_of : FnOk P w K mg base CX0 1 A.a_log_of A.d_log_of ["base", "number"] spLog := ok_log_of T
  refine T.F_low_rung.ok sc_low_rung (fun vs H Q E h => ?_) (fun cdv A0 outer s H vs Q E hr h => ?_)
  · obtain ⟨r, l, h, d, b, k, ms, most, D, rfl, _⟩ := h
    rfl
  · obtain ⟨r, l, h, d, b, k, ms, most, D, rfl, x, R, hlt, hB, hd, hdB, q⟩ := h
    have X := x.rungs R
    have lrs : D.rs.length < 60 := by rw [x.pr.length_eq]; exact R.le
    refine ⟨_, (pss_cons (ps_set (i := 5) sc_low_rung.nd rfl (Or.inl rfl) (pe_op op_add (pe_call G_log_of (hr.mono (by decide)) (by rfl) T.m_log_of T.F_log_of.kp T.B_log_of .nil pass0 (pa_cons (pv 0) (pa_cons (pe_op op_add (pv 2) pe_int) pa_nil))) pe_int))
  (pss_one (ps_ret (pe_op op_mulW (pe_op op_sub (pe_op op_sub (pe_call G_log_of (hr.mono (by decide)) (by rfl) T.m_log_of T.F_log_of.kp T.B_log_of .nil pass0 (pa_cons (pv 0) (pa_cons (pv 3) pa_nil))) (pv 4)) (pv 5)) (pe_callB call_len_seq (by rfl) T.n_len (by decide +kernel) (pa_cons (pv 1) pa_nil)))))), ?_⟩
    have mB := R.mB
    have m1 := R.m1
    have m61 : most + 1 < 2 ^ 61 := by
      have : (2 : Int) ^ 60 + 1 ≤ 2 ^ 61 := by decide
      omega
    refine ⟨_, rfl, _, rfl, _, _, rfl, rfl,
      b, most + 1, rfl, R.b2, lt_big R.bB (by decide), by omega, lt_big (n := 61) m61 (by decide), fun E1 H1 s1 g1 g2 => ?_⟩
    obtain rfl := lg_eq R.b2 (by omega) g1 g2
    refine ⟨_, _, rfl, rfl, ?_⟩
    have x1 := x.same s1
    refine ⟨_, rfl, _, rfl, b, h - l, rfl, R.b2, lt_big R.bB (by decide), by omega, lt_big (n := 1000) hB (by decide), fun E2 H2 s2 g3 g4 => ?_⟩
    obtain rfl := lg_eq R.b2 (by omega) g3 g4
    have x2 := x1.same s2
    refine ⟨_, rfl, _, _, rfl, rfl, _, rfl, _, _, rfl, rfl, ?_⟩
    refine ⟨_, rfl, D.lr, _, rfl, .inl (SqL.of x2.lr_), _, _, rfl, rfl, ?_, ?_⟩
    · have e1 := exp_lt R.b2 (Int.lt_of_le_of_lt g3 hB)
      have e2 := exp_lt (n := 61) R.b2 (Int.lt_of_le_of_lt g1 m61)
      refine wide_mul (a := 30) (b := 30) ?_ ?_ (by decide) (by decide) (by decide)
      · have : (2 : Nat) ^ 30 = 1073741824 := by decide
        have : (2 : Int) ^ 20 = 1048576 := by decide
        omega
      · rw [x.len, Int.natAbs_natCast]
        have : (2 : Nat) ^ 30 = 1073741824 := by decide
        omega
    · have e := q H2 (s1.trans s2)
      rw [x.len]
      exact e
end
end Ax

namespace Ax
open PySem L2
section
variable {P : Program} {w : World} {K : PySem.W.Frag} {mg : Str → Option Value} {base : Heap} {A : Adr}
/-! ### _fits -/
def spFits (A : Adr) : Sp := fun vs H Q _ => ∃ (r t sp : Addr) (m p l h d : Int) (b : Int) (k : Kd) (ms : List Int) (most : Int) (D : RD), vs = [.ref r, .ref t, .ref sp] ∧ RX A.c_Rule H r b k ms most D ∧ RArgs b k ms most ∧
  H t = some (.tup [.int m, .int p]) ∧ H sp = some (.tup [.int l, .int h, .int d]) ∧ 1 ≤ m ∧ m < 2 ^ 64 ∧ b ^ (p + d).natAbs < 2 ^ 2000 ∧ l.natAbs < 2 ^ 1500 ∧ h.natAbs < 2 ^ 1500 ∧
  ∀ H' : Hp, Same H H' → Q (.bl (decide (FitE b k most l h m (p + d)))) H'
abbrev nm_Rule__fits : List Str := ["self", "step", "span", "low", "high", "digits", "factor", "size"]
theorem sc_Rule__fits : FnScope ["self", "step", "span", "low", "high", "digits", "factor", "size"] ["self", "step", "span"] (defScope s_Rule__fits) := ⟨rfl, rfl, rfl, by decide +kernel, rfl, by decide +kernel, by decide +kernel⟩
theorem ok_fits (T : Txt K mg A w) : FnOk P w K mg base CX0 3 A.a_Rule__fits A.d_Rule__fits ["self", "step", "span"] (spFits A) := by
  have G_measure : FnOk P w K mg base CX0 2 A.a_measure A.d_measure ["base", "step", "digits"] (spMeasure K) := ok_measure T
  have G_reach : FnOk P w K mg base CX0 1 A.a_reach A.d_reach ["kind", "most", "low", "size"] spReach := ok_reach T
  refine T.F_Rule__fits.ok sc_Rule__fits (fun vs H Q E h => ?_) (fun cdv A0 outer s H vs Q E hr h => ?_)
  · obtain ⟨r, t, sp, m, p, l, h, d, b, k, ms, most, D, rfl, _⟩ := h
    rfl
  · obtain ⟨r, t, sp, m, p, l, h, d, b, k, ms, most, D, rfl, x, R, ht, hsp, m1, mB, eB, lB, hB, q⟩ := h
    have b1 : 1 ≤ b := by have := R.b2; omega
    obtain ⟨f1, f2⟩ := fac_bound b1 eB
    obtain ⟨z1, z2⟩ := siz_bound b1 m1 mB eB
    have fN : (facZ b (p + d)).natAbs < 2 ^ 2000 := abs_lt_pow (by omega) f2
    have lf : (l * facZ b (p + d)).natAbs < 2 ^ 3500 := wide_lt lB fN
    have lf2 : (((l * facZ b (p + d)).natAbs : Nat) : Int) < 2 ^ 3500 := by
      have := Int.ofNat_lt.mpr lf
      rwa [Int.natCast_pow] at this
    have lf3 : (2 : Int) ^ 3500 < BIG := pow_lt' (b := 2) (by decide) (by decide)
    refine ⟨_, (pss_cons (ps_asg (pv 2) (pg_tup (by rfl) (pgs_cons (pg_name (i := 3) sc_Rule__fits.nd rfl (Or.inl rfl)) (pgs_cons (pg_name (i := 4) sc_Rule__fits.nd rfl (Or.inl rfl)) (pgs_cons (pg_name (i := 5) sc_Rule__fits.nd rfl (Or.inl rfl)) pgs_nil)))))
  (pss_cons (ps_asg (pe_call G_measure (hr.mono (by decide)) (by rfl) T.m_measure T.F_measure.kp T.B_measure .nil pass0 (pa_cons (pe_fld (pv 0) rfl) (pa_cons (pv 1) (pa_cons (pv 5) pa_nil)))) (pg_tup (by rfl) (pgs_cons (pg_name (i := 6) sc_Rule__fits.nd rfl (Or.inl rfl)) (pgs_cons (pg_name (i := 7) sc_Rule__fits.nd rfl (Or.inl rfl)) pgs_nil))))
  (pss_one (ps_ret (pe_cmpR op_le (pe_op op_mulW (pv 4) (pv 6)) (pe_call G_reach (hr.mono (by decide)) (by rfl) T.m_reach T.F_reach.kp T.B_reach .nil pass0 (pa_cons (pe_fld (pv 0) rfl) (pa_cons (pe_fld (pv 0) rfl) (pa_cons (pe_op op_mulW (pv 3) (pv 6)) (pa_cons (pv 7) pa_nil))))) (nomark _)))))), ?_⟩
    refine ⟨_, rfl, sp, _, rfl, SqT.of hsp, rfl, _, _, rfl, _, _, rfl, _, _, rfl, rfl, ?_⟩
    refine ⟨_, rfl, r, A.c_Rule, D.dx, _, _, rfl, x.at_, T.cl, T.na_base, rf_base _ _ _ _ _ _, _, rfl, _, rfl, b, m, p, d, t, rfl, SqT.of ht, b1, lt_big R.bB (by decide), lt_big (n := 2000) eB (by decide), by omega, lt_big mB (by decide), ?_⟩
    rintro H1 q1 s1 hq1 rfl
    refine ⟨q1, _, rfl, SqT.of upd_same, rfl, _, _, rfl, _, _, rfl, rfl, ?_⟩
    have x1 := x.same s1
    refine ⟨_, rfl, _, rfl, _, _, rfl, rfl, wide_mul hB fN (by decide) (by decide) (by decide), ?_⟩
    refine ⟨_, rfl, r, A.c_Rule, D.dx, _, _, rfl, x1.at_, T.cl, T.na_kind, rf_kind _ _ _ _ _ _, _, rfl, r, A.c_Rule, D.dx, _, _, rfl, x1.at_, T.cl, T.na_most, rf_most _ _ _ _ _ _, _, rfl, _, rfl, _, _, rfl, rfl, wide_mul lB fN (by decide) (by decide) (by decide), _, rfl, ?_⟩
    refine ⟨k, most, l * facZ b (p + d), sizZ b m (p + d), rfl, z1, lt_big (n := 2064) z2 (by decide), by omega, by omega, by have := R.m1; omega, lt_big R.mB (by decide), ?_⟩
    exact ⟨_, _, rfl, rfl, q _ s1⟩
/-! ### step -/
/-- the ranges that are asked -/
structure Rng (l h d : Int) : Prop where
  lt : l < h
  len : h - l < 2 ^ 1000
  lo : l.natAbs < 2 ^ 1500
  hi : h.natAbs < 2 ^ 1500
  d0 : 0 ≤ d
  dB : d < 2 ^ 20
def spStep (A : Adr) : Sp := fun vs H Q _ => ∃ (r sp : Addr) (l h d : Int) (b : Int) (k : Kd) (ms : List Int) (most : Int) (D : RD), vs = [.ref r, .ref sp] ∧ RX A.c_Rule H r b k ms most D ∧ RArgs b k ms most ∧
  H sp = some (.tup [.int l, .int h, .int d]) ∧ Rng l h d ∧
  ∀ (H' : Hp) (q : Addr) (m p : Int), Same H H' → H q = none → H' q = some (.tup [.int m, .int p]) → LeastFit b ms k most l h d m p → b ^ (p + d).natAbs < 2 ^ 2000 → (lg b (h - l) : Int) - (lg b (most + 1) + 1) ≤ p + d + lg b m → Q (.ref q) H'
abbrev nm_Rule_step : List Str := ["self", "span", "low", "high", "digits", "number"]
theorem sc_Rule_step : FnScope ["self", "span", "low", "high", "digits", "number"] ["self", "span"] (defScope s_Rule_step) := ⟨rfl, rfl, rfl, by decide +kernel, rfl, by decide +kernel, by decide +kernel⟩
theorem ok_step (T : Txt K mg A w) : FnOk P w K mg base CX0 4 A.a_Rule_step A.d_Rule_step ["self", "span"] (spStep A) := by
  have G_is_span : FnOk P w K mg base CX0 2 A.a_is_span A.d_is_span ["value"] spSpan := ok_is_span T
  have G_low_rung : FnOk P w K mg base CX0 2 A.a_low_rung A.d_low_rung ["base", "rungs", "most", "length", "digits"] (spLow A) := ok_low T
  have G_step_at : FnOk P w K mg base CX0 1 A.a_step_at A.d_step_at ["rungs", "number"] (spAt A) := ok_step_at T
  have G_Rule__fits : FnOk P w K mg base CX0 3 A.a_Rule__fits A.d_Rule__fits ["self", "step", "span"] (spFits A) := ok_fits T
  refine T.F_Rule_step.ok sc_Rule_step (fun vs H Q E h => ?_) (fun cdv A0 outer s H vs Q E hr h => ?_)
  · obtain ⟨r, sp, l, h, d, b, k, ms, most, D, rfl, _⟩ := h
    rfl
  · obtain ⟨r, sp, l, h, d, b, k, ms, most, D, rfl, x, R, hsp, G, q⟩ := h
    have X := x.rungs R
    have rB : ∀ m ∈ D.rs, m < 2 ^ 64 := fun m hm => (R.all m (x.pr.mem_iff.mp hm)).2.1
    have noF : (rf b k D.lm most D.dv D.lr).lookup ("_fits" : Str) = none := by
      rw [rf_lookup, if_neg (by decide +kernel), if_neg (by decide +kernel), if_neg (by decide +kernel), if_neg (by decide +kernel), if_neg (by decide +kernel), if_neg (by decide +kernel)]
    refine ⟨_, (pss_cons (ps_if (pt_not (pt_val (pe_call G_is_span (hr.mono (by decide)) (by rfl) T.m_is_span T.F_is_span.kp T.B_is_span .nil pass0 (pa_cons (pv 1) pa_nil)))) (pss_one ps_never) pss_nil)
  (pss_cons (ps_asg (pv 1) (pg_tup (by rfl) (pgs_cons (pg_name (i := 2) sc_Rule_step.nd rfl (Or.inl rfl)) (pgs_cons (pg_name (i := 3) sc_Rule_step.nd rfl (Or.inl rfl)) (pgs_cons (pg_name (i := 4) sc_Rule_step.nd rfl (Or.inl rfl)) pgs_nil)))))
  (pss_cons (ps_set (i := 5) sc_Rule_step.nd rfl (Or.inl rfl) (pe_call G_low_rung (hr.mono (by decide)) (by rfl) T.m_low_rung T.F_low_rung.kp T.B_low_rung .nil pass0 (pa_cons (pe_fld (pv 0) rfl) (pa_cons (pe_fld (pv 0) rfl) (pa_cons (pe_fld (pv 0) rfl) (pa_cons (pe_op op_sub (pv 3) (pv 2)) (pa_cons (pv 4) pa_nil)))))))
  (pss_cons (ps_while PassesOwn.never (pt_not (pt_val (pe_meth (pv 0) T.cl T.t_Rule__fits G_Rule__fits (hr.mono (by decide)) T.B_Rule__fits .nil pass0 (pa_cons (pe_call G_step_at (hr.mono (by decide)) (by rfl) T.m_step_at T.F_step_at.kp T.B_step_at .nil pass0 (pa_cons (pe_fld (pv 0) rfl) (pa_cons (pv 5) pa_nil))) (pa_cons (pv 1) pa_nil)))))
  (pss_one (ps_set (i := 5) sc_Rule_step.nd rfl (Or.inl rfl) (pe_op op_add (pv 5) pe_int))))
  (pss_one (ps_ret (pe_call G_step_at (hr.mono (by decide)) (by rfl) T.m_step_at T.F_step_at.kp T.B_step_at .nil pass0 (pa_cons (pe_fld (pv 0) rfl) (pa_cons (pv 5) pa_nil))))))))), ?_⟩
    refine ⟨_, rfl, sp, l, h, d, rfl, hsp, G.lt, G.d0, fun H1 s1 => ⟨_, rfl, ?_⟩⟩
    refine iteF ?_
    have x1 := x.same s1
    refine ⟨_, rfl, sp, _, rfl, SqT.of (s1 _ _ hsp), rfl, _, _, rfl, _, _, rfl, _, _, rfl, rfl, ?_⟩
    refine ⟨_, rfl, r, A.c_Rule, D.dx, _, _, rfl, x1.at_, T.cl, T.na_base, rf_base _ _ _ _ _ _, _, rfl, r, A.c_Rule, D.dx, _, _, rfl, x1.at_, T.cl, T.na_rungs, rf_rungs _ _ _ _ _ _, _, rfl, r, A.c_Rule, D.dx, _, _, rfl, x1.at_, T.cl, T.na_most, rf_most _ _ _ _ _ _, _, rfl, _, rfl, _, _, rfl, rfl, _, rfl, r, l, h, d, b, k, ms, most, D, rfl, x1, R, G.lt, G.len, G.d0, G.dB, fun H2 s2 => ?_⟩
    have x2 := x1.same s2
    have s02 : Same H H2 := s1.trans s2
    have hR := fit_high (k := k) X G.lt R.m1 R.mC (Int.le_refl ((lg b (h - l) - d + 1) * D.rs.length)) (d := d)
    have hn : 0 < (D.rs.length : Int) := by have := X.ne; omega
    refine ⟨fun m σ H' => ∃ (i : Int), σ = [some (.ref r), some (.ref sp), some (.int l), some (.int h), some (.int d), some (.int i)] ∧ Same H H' ∧
        lowQ b most l h d * D.rs.length ≤ i ∧ i ≤ (lg b (h - l) - d + 1) * D.rs.length ∧ (∀ j, lowQ b most l h d * D.rs.length ≤ j → j < i → ¬ FitI b D.rs k most l h d j) ∧ m = ((lg b (h - l) - d + 1) * D.rs.length - i).toNat,
      ⟨_, lowQ b most l h d * D.rs.length, rfl, s02, Int.le_refl _, Int.mul_le_mul_of_nonneg_right (by unfold lowQ; omega) (by omega), fun j h1 h2 => by omega, rfl⟩, ?_⟩
    rintro m σ H' ⟨i, rfl, s4, i1, i2, i3, rfl⟩
    have x4 := x.same s4
    have eB := exp_bound X R.bB G.lt G.len R.m1 R.mB rB i1 i2
    -- self._fits(step_at(self._rungs, number), span)
    refine ⟨_, rfl, r, D.dx, _, rfl, x4.at_, noF, _, rfl, r, A.c_Rule, D.dx, _, _, rfl, x4.at_, T.cl, T.na_rungs, rf_rungs _ _ _ _ _ _, _, rfl, r, i, b, k, ms, most, D, rfl, x4, R, fun H3 t s3 ht0 ht => ?_⟩
    have x5 := x4.same s3
    have s43 := s4.trans s3
    refine ⟨_, rfl, r, t, sp, _, _, l, h, d, b, k, ms, most, D, rfl, x5, R, ht, s43 _ _ hsp, X.pos _ (X.mem i), rB _ (X.mem i), eB, G.lo, G.hi, fun H5 s5 => ⟨_, rfl, ?_⟩⟩
    have s05 := s43.trans s5
    have x6 := x.same s05
    by_cases c : FitE b k most l h (sAt b D.rs i).1 ((sAt b D.rs i).2 + d)
    · rw [decide_eq_true c]
      refine iteF ⟨_, rfl, r, A.c_Rule, D.dx, _, _, rfl, x6.at_, T.cl, T.na_rungs, rf_rungs _ _ _ _ _ _, _, rfl, r, i, b, k, ms, most, D, rfl, x6, R, fun H7 t7 s7 ht7 e7 => ?_⟩
      refine q H7 t7 _ _ (s05.trans s7) (s05.free ht7) e7 (least_of X G.lt R.m1 x.pr c i3) eB ?_
      have q1 : lowQ b most l h d ≤ i / D.rs.length := (Int.le_ediv_iff_mul_le hn).mpr i1
      unfold lowQ at q1
      show (lg b (h - l) : Int) - (lg b (most + 1) + 1) ≤ (i / D.rs.length - lg b (sAt b D.rs i).1) + d + lg b (sAt b D.rs i).1
      omega
    · rw [decide_eq_false c]
      have ilt : i < (lg b (h - l) - d + 1) * D.rs.length := by
        rcases Int.lt_or_eq_of_le i2 with z | z
        · exact z
        · rw [z] at c
          exact absurd hR c
      refine iteT ⟨fun σ' H6 => σ' = [some (.ref r), some (.ref sp), some (.int l), some (.int h), some (.int d), some (.int (i + 1))] ∧ Same H H6, ?_, ?_⟩
      · rintro σ' H6 ⟨rfl, s6⟩
        refine ⟨((lg b (h - l) - d + 1) * D.rs.length - (i + 1)).toNat, by omega, i + 1, rfl, s6, by omega, by omega, fun j h1 h2 => ?_, rfl⟩
        by_cases e : j = i
        · rw [e]
          exact c
        · exact i3 j h1 (by omega)
      · exact ⟨_, rfl, _, _, rfl, rfl, rfl, s05⟩
end
end Ax

namespace L2
open PySem PySem.Spec PyProof.Rows
/-- a power that is not too great -/
def CPowX (i j : Int) : Prop := 0 ≤ j ∧ (Builtin.Int.intBits i : Int) * j ≤ 2 ^ 27
theorem op_powX {X : Cx} : OpR X (binaryOp .Pow) (rI CPowX fun i j => .int (i ^ j.toNat)) := opI fun _ _ _ _ _ _ _ hc q => pow_int hc.1 hc.2 q
end L2
namespace Ax
open PySem L2
section
variable {P : Program} {w : World} {K : PySem.W.Frag} {mg : Str → Option Value} {base : Heap} {A : Adr}
/-! ### the purse of draws -/
abbrev PM : Int := (10 ^ (40 : Int).toNat) ^ (10 : Int).toNat
/-- a purse that at most t draws have been taken from -/
def Purse (H : Hp) (p : Addr) (t : Nat) : Prop := ∃ a c u : Int, H p = some (.lst [.int a, .int c, .int u]) ∧ 0 ≤ a ∧ a < PM ∧ 0 ≤ c ∧ c < 2 ^ 31 ∧ 0 ≤ u ∧ u ≤ t
/-- all but the purse is kept -/
def Kp (p : Addr) (H H' : Hp) : Prop := ∀ c o, c ≠ p → H c = some o → H' c = some o
theorem Kp.refl (p : Addr) (H : Hp) : Kp p H H := fun _ _ _ e => e
theorem Kp.trans {p : Addr} {H H1 H2 : Hp} (a : Kp p H H1) (b : Kp p H1 H2) : Kp p H H2 := fun c o h e => b c o h (a c o h e)
theorem Same.kp {H H' : Hp} (s : Same H H') (p : Addr) : Kp p H H' := fun c o _ e => s c o e
theorem Purse.same {H H' : Hp} {p : Addr} {t : Nat} (x : Purse H p t) (s : Same H H') : Purse H' p t := by
  obtain ⟨a, c, u, h, r⟩ := x
  exact ⟨a, c, u, s _ _ h, r⟩
theorem Purse.le {H : Hp} {p : Addr} {t t' : Nat} (x : Purse H p t) (h : t ≤ t') : Purse H p t' := by
  obtain ⟨a, c, u, h1, h2, h3, h4, h5, h6, h7⟩ := x
  exact ⟨a, c, u, h1, h2, h3, h4, h5, h6, by omega⟩
theorem Purse.some {H : Hp} {p : Addr} {t : Nat} (x : Purse H p t) : ∃ xs, H p = some (.lst xs) := by
  obtain ⟨a, c, u, h, _⟩ := x
  exact ⟨_, h⟩
theorem Purse.ne {H : Hp} {p l : Addr} {t : Nat} (x : Purse H p t) (h : H l = none) : l ≠ p := by
  obtain ⟨xs, e⟩ := x.some
  exact (ne_of_none e h).symm
/-- what was free before is free, behind an all-but-the-purse step -/
theorem Kp.free {p : Addr} {H H' : Hp} {l : Addr} {t' : Nat} (k : Kp p H H') (y : Purse H' p t') (h : H' l = none) : H l = none := by
  have n := y.ne h
  cases e : H l with
  | none => rfl
  | some o =>
    rw [k l o n e] at h
    cases h
theorem PM_lt : PM < 2 ^ 1400 := by
  show ((10 : Int) ^ 40) ^ 10 < 2 ^ 1400
  decide +kernel
def spPurse (K : PySem.W.Frag) : Sp := fun vs H Q _ => ∃ (s : Addr) (ns : List Int) (i : Nat), vs = [.ref s, .int i] ∧ SqL K H s (ns.map V.int) ∧ ns.length ≤ 63 ∧ ∀ (H' : Hp) (p : Addr), Same H H' → H p = none → Purse H' p 0 → Q (.ref p) H'
abbrev nm_law_purse : List Str := ["_law_script", "_law_at", "_law_cell"]
theorem sc_law_purse : FnScope ["_law_script", "_law_at", "_law_cell"] ["_law_script", "_law_at"] (defScope s_law_purse) := ⟨rfl, rfl, rfl, by decide +kernel, rfl, by decide +kernel, by decide +kernel⟩
theorem ok_purse (T : Txt K mg A w) : FnOk P w K mg base CX0 1 A.a_law_purse A.d_law_purse ["_law_script", "_law_at"] (spPurse K) := by
  refine T.F_law_purse.ok sc_law_purse (fun vs H Q E h => ?_) (fun cdv A0 outer s H vs Q E hr h => ?_)
  · obtain ⟨r, ns, i, rfl, _⟩ := h
    rfl
  · obtain ⟨r, ns, i, rfl, hS, hl, q⟩ := h
    refine ⟨_, (pss_cons (ps_set (i := 2) sc_law_purse.nd rfl (Or.inl rfl) pe_int)
  (pss_cons (ps_if (pt_cmpR op_lt (pv 1) (pe_callB call_len_seq (by rfl) T.n_len (by decide +kernel) (pa_cons (pv 0) pa_nil)) (nomark _)) (pss_one (ps_set (i := 2) sc_law_purse.nd rfl (Or.inl rfl) (pe_ix ix_list (pv 0) (pv 1) (fun _ _ => rfl)))) pss_nil)
  (pss_one (ps_ret (pe_lst (pa_cons (pe_op op_mod (pe_callTy call_int1 (by rfl) T.n_int (by decide +kernel) (pa_cons (pe_callB (call_max2 rfl) (by rfl) T.n_max (by decide +kernel) (pa_cons (pe_op op_sub (pv 2) (pe_op op_pow pe_int pe_int)) (pa_cons pe_int pa_nil))) pa_nil)) (pe_op op_powX (pe_op op_pow pe_int pe_int) pe_int)) (pa_cons (pe_op op_mod (pe_callTy call_int1 (by rfl) T.n_int (by decide +kernel) (pa_cons (pv 2) pa_nil)) pe_int) (pa_cons pe_int pa_nil)))))))), ?_⟩
    have lm : (ns.map V.int).length = ns.length := List.length_map _
    -- behind the cell
    have rest : ∀ c : Int, ∀ p, H p = none → Q (.ref p) (upd H p (.lst [.int ((if 0 > c - 10 ^ (18 : Int).toNat then 0 else c - 10 ^ (18 : Int).toNat) % PM), .int (c % 2147483629), .int 0])) := fun c p hp => by
      refine q _ p (same_new hp) hp ⟨_, _, _, upd_same, Int.emod_nonneg _ ?_, Int.emod_lt_of_pos _ ?_, Int.emod_nonneg _ (by decide), ?_, by decide, by decide⟩
      · show ((10 : Int) ^ 40) ^ 10 ≠ 0
        decide +kernel
      · show 0 < ((10 : Int) ^ 40) ^ 10
        decide +kernel
      · have := Int.emod_lt_of_pos c (show (0 : Int) < 2147483629 by decide)
        have : (2 : Int) ^ 31 = 2147483648 := by decide
        omega
    refine ⟨_, rfl, _, rfl, r, _, rfl, .inl hS, _, _, rfl, rfl, _, rfl, ?_⟩
    refine ite2 (fun hc => ?_) (fun hc => ?_)
    · have hc : (i : Int) < ((ns.map V.int).length : Nat) := of_decide_eq_true hc
      have hi : i < ns.length := by omega
      refine ⟨_, rfl, _, rfl, r, _, _, _, rfl, rfl, hS, atI_nat (by rw [List.getElem?_map, List.getElem?_eq_getElem hi]; rfl), ?_⟩
      refine ⟨_, rfl, _, _, rfl, rfl, ⟨by decide, by decide, by decide⟩, _, _, rfl, rfl, _, _, rfl, .inl ⟨_, rfl, _, _, rfl, rfl, ⟨by decide, by decide, by decide⟩, _, _, rfl, rfl, ⟨by decide, by decide +kernel⟩, _, _, rfl, rfl, ?_, _, rfl, .inl ⟨_, rfl, _, _, rfl, rfl, (by show (0 : Int) < 2147483629; decide), ?_⟩⟩⟩
      · show 0 < ((10 : Int) ^ 40) ^ 10
        decide +kernel
      · exact ⟨(by show 3 ≤ sizeLine; decide), fun p hp => rest _ p hp⟩
    · refine ⟨_, rfl, _, _, rfl, rfl, ⟨by decide, by decide, by decide⟩, _, _, rfl, rfl, _, _, rfl, .inl ⟨_, rfl, _, _, rfl, rfl, ⟨by decide, by decide, by decide⟩, _, _, rfl, rfl, ⟨by decide, by decide +kernel⟩, _, _, rfl, rfl, ?_, _, rfl, .inl ⟨_, rfl, _, _, rfl, rfl, (by show (0 : Int) < 2147483629; decide), ?_⟩⟩⟩
      · show 0 < ((10 : Int) ^ 40) ^ 10
        decide +kernel
      · exact ⟨(by show 3 ≤ sizeLine; decide), fun p hp => rest _ p hp⟩
/-! ### a draw -/
theorem mulS {i j : Int} (h0 : 0 ≤ i) (h1 : i < 18446744073709551616) (h2 : 0 ≤ j) (h3 : j < 18446744073709551616) : CMulW i j :=
  wide_mul (a := 64) (b := 64) (abs_lt_pow h0 h1) (abs_lt_pow h2 h3) (by decide) (by decide) (by decide)
theorem ofNat_le {t : Nat} {u : Int} (h : u ≤ t) (ht : t ≤ 2 ^ 20) : u < 2 ^ 21 := by
  have : (2 : Nat) ^ 20 = 1048576 := by decide
  have : (2 : Int) ^ 21 = 2097152 := by decide
  omega
theorem nab {i : Int} {n : Nat} (h0 : 0 ≤ i) (h : i < 2 ^ n) : i.natAbs < 2 ^ n := abs_lt_pow h0 h
theorem atL {xs : List V} {j : Nat} {v : V} (h : xs[j]? = some v) : atI xs (j : Int) = some v := atI_nat h
def spDraw : Sp := fun vs H Q _ => ∃ (p : Addr) (many : Int) (t : Nat), vs = [.ref p, .int many] ∧ Purse H p t ∧ t ≤ 2 ^ 20 ∧ 0 < many ∧ many < 2 ^ 2000 ∧ ∀ (H' : Hp) (n : Int), Kp p H H' → Purse H' p (t + 1) → 0 ≤ n → n < many → Q (.int n) H'
abbrev nm_law_draw : List Str := ["_law_purse_here", "_law_many", "_law_drawn", "_law_turn", "_law_number"]
theorem sc_law_draw : FnScope ["_law_purse_here", "_law_many", "_law_drawn", "_law_turn", "_law_number"] ["_law_purse_here", "_law_many"] (defScope s_law_draw) := ⟨rfl, rfl, rfl, by decide +kernel, rfl, by decide +kernel, by decide +kernel⟩
theorem ok_draw (T : Txt K mg A w) : FnOk P w K mg base CX0 1 A.a_law_draw A.d_law_draw ["_law_purse_here", "_law_many"] spDraw := by
  refine T.F_law_draw.ok sc_law_draw (fun vs H Q E h => ?_) (fun cdv A0 outer s H vs Q E hr h => ?_)
  · obtain ⟨p, many, t, rfl, _⟩ := h
    rfl
  · obtain ⟨p, many, t, rfl, ⟨a, c, u, hp, a0, aB, c0, cB, u0, uB⟩, ht, m0, mB, q⟩ := h
    refine ⟨_, (pss_cons (ps_if (pt_cmpR op_gt (pe_ix ix_list (pv 0) pe_int (fun _ _ => rfl)) pe_int (nomark _)) (pss_cons (ps_set (i := 2) sc_law_draw.nd rfl (Or.inl rfl) (pe_op op_mod (pe_callTy call_int1 (by rfl) T.n_int (by decide +kernel) (pa_cons (pe_ix ix_list (pv 0) pe_int (fun _ _ => rfl)) pa_nil)) (pv 1)))
  (pss_cons (ps_asg (pe_op op_fdivW (pe_ix ix_list (pv 0) pe_int (fun _ _ => rfl)) (pv 1)) (pg_sub (pv 0) pe_int set_list))
  (pss_one (ps_ret (pv 2))))) pss_nil)
  (pss_cons (ps_set (i := 3) sc_law_draw.nd rfl (Or.inl rfl) (pe_op op_add (pe_ix ix_list (pv 0) pe_int (fun _ _ => rfl)) pe_int))
  (pss_cons (ps_asg (pv 3) (pg_sub (pv 0) pe_int set_list))
  (pss_cons (ps_set (i := 4) sc_law_draw.nd rfl (Or.inl rfl) (pe_op op_mod (pe_callTy call_int1 (by rfl) T.n_int (by decide +kernel) (pa_cons (pe_op op_mulW (pe_op op_add (pe_ix ix_list (pv 0) pe_int (fun _ _ => rfl)) (pe_op op_mulW pe_int (pv 3))) (pe_op op_add (pe_op op_mulW (pv 3) (pv 3)) pe_int)) pa_nil)) pe_int))
  (pss_cons (ps_set (i := 4) sc_law_draw.nd rfl (Or.inl rfl) (pe_op op_mod (pe_callTy call_int1 (by rfl) T.n_int (by decide +kernel) (pa_cons (pe_op op_add (pe_op op_mulW (pv 4) (pv 4)) (pv 3)) pa_nil)) pe_int))
  (pss_one (ps_ret (pe_op op_mod (pe_op op_fdivW (pe_op op_mod (pe_callTy call_int1 (by rfl) T.n_int (by decide +kernel) (pa_cons (pe_op op_mulW (pv 4) pe_int) pa_nil)) pe_int) pe_int) (pv 1))))))))), ?_⟩
    refine ⟨_, rfl, p, _, _, _, rfl, rfl, SqL.of hp, atL (j := 0) rfl, _, _, rfl, rfl, _, rfl, ?_⟩
    have kp : ∀ xs, Kp p H (upd H p (.lst xs)) := fun xs b o n e => by
      rw [upd_ne n]
      exact e
    refine ite2 (fun hc => ?_) (fun hc => ?_)
    · have hc : 0 < a := of_decide_eq_true hc
      refine ⟨_, rfl, p, _, _, _, rfl, rfl, SqL.of hp, atL (j := 0) rfl, .inl ⟨_, rfl, _, rfl, _, _, rfl, rfl, m0, ?_⟩⟩
      refine ⟨_, rfl, p, _, _, _, rfl, rfl, SqL.of hp, atL (j := 0) rfl, _, rfl, _, _, rfl, rfl, size_div (by omega) (lt_big mB (by decide)) _, ?_⟩
      refine ⟨_, rfl, p, _, _, 0, rfl, rfl, hp, rfl, ?_⟩
      refine ⟨_, rfl, q _ _ (kp _) ⟨_, _, _, upd_same, Int.ediv_nonneg a0 (by omega), Int.lt_of_le_of_lt (Int.ediv_le_self _ a0) aB, c0, cB, u0, by omega⟩ (Int.emod_nonneg _ (by omega)) (Int.emod_lt_of_pos _ m0)⟩
    · refine ⟨_, rfl, p, _, _, _, rfl, rfl, SqL.of hp, atL (j := 2) rfl, _, _, rfl, rfl, ?_⟩
      have u1 := ofNat_le uB ht
      have e21 : (2 : Int) ^ 21 = 2097152 := by decide
      have e31 : (2 : Int) ^ 31 = 2147483648 := by decide
      refine ⟨_, rfl, _, rfl, p, _, _, 2, rfl, rfl, hp, rfl, ?_⟩
      have v1 : (u + 1) * (u + 1) ≤ 2097152 * 2097152 := Int.mul_le_mul (by omega) (by omega) (by omega) (by decide)
      have v0 : 0 ≤ (u + 1) * (u + 1) := Int.mul_nonneg (by omega) (by omega)
      refine ⟨_, rfl, p, _, _, _, rfl, rfl, SqL.of upd_same, atL (j := 1) rfl, _, rfl, _, _, rfl, rfl, mulS (by decide) (by decide) (by omega) (by omega), _, _, rfl, rfl, ?_⟩
      refine ⟨_, rfl, _, rfl, _, _, rfl, rfl, mulS (by omega) (by omega) (by omega) (by omega), _, _, rfl, rfl, _, _, rfl, rfl, mulS (by omega) (by omega) (by omega) (by omega), .inl ⟨_, rfl, _, _, rfl, rfl, (by show (0 : Int) < 2147483629; decide), ?_⟩⟩
      have g10 : 0 ≤ (((c + 104729 * (u + 1)) * ((u + 1) * (u + 1) + 7919)) % 2147483629) := Int.emod_nonneg _ (by decide)
      have g11 : (((c + 104729 * (u + 1)) * ((u + 1) * (u + 1) + 7919)) % 2147483629) < 2147483629 := Int.emod_lt_of_pos _ (by decide)
      refine ⟨_, rfl, _, rfl, _, _, rfl, rfl, mulS g10 (Int.lt_trans g11 (by decide)) g10 (Int.lt_trans g11 (by decide)), _, rfl, _, _, rfl, rfl, .inl ⟨_, rfl, _, _, rfl, rfl, (by show (0 : Int) < 2147483587; decide), ?_⟩⟩
      have g20 : 0 ≤ (((((c + 104729 * (u + 1)) * ((u + 1) * (u + 1) + 7919)) % 2147483629) * (((c + 104729 * (u + 1)) * ((u + 1) * (u + 1) + 7919)) % 2147483629) + (u + 1)) % 2147483587) := Int.emod_nonneg _ (by decide)
      have g21 : (((((c + 104729 * (u + 1)) * ((u + 1) * (u + 1) + 7919)) % 2147483629) * (((c + 104729 * (u + 1)) * ((u + 1) * (u + 1) + 7919)) % 2147483629) + (u + 1)) % 2147483587) < 2147483587 := Int.emod_lt_of_pos _ (by decide)
      refine ⟨_, rfl, _, _, rfl, rfl, mulS g20 (Int.lt_trans g21 (by decide)) (by decide) (by decide), .inl ⟨_, rfl, _, _, rfl, rfl, (by show (0 : Int) < 2147483647; decide), _, _, rfl, rfl, ⟨by decide, by decide⟩, _, rfl, _, _, rfl, rfl, m0, ?_⟩⟩
      exact q _ _ (kp _) ⟨a, c, u + 1, upd_same, a0, aB, c0, cB, by omega, by omega⟩ (Int.emod_nonneg _ (by omega)) (Int.emod_lt_of_pos _ m0)
end
end Ax

namespace Ax
open PySem L2
section
variable {P : Program} {w : World} {K : PySem.W.Frag} {mg : Str → Option Value} {base : Heap} {A : Adr}
theorem two20 {t : Nat} {n : Nat} (h : t ≤ 2 ^ 20) (hn : n < 2 ^ 1000) : (n : Int) < 2 ^ 2000 := by
  have h1 : ((n : Nat) : Int) < ((2 ^ 1000 : Nat) : Int) := Int.ofNat_lt.mpr hn
  rw [Int.natCast_pow] at h1
  exact Int.lt_trans h1 (pow_lt' (b := 2) (by decide) (by decide))
theorem small2000 {n : Int} (h : n < 18446744073709551616) : n < 2 ^ 2000 := Int.lt_of_lt_of_le (show n < 2 ^ 64 from h) (pow_le' (b := 2) (by decide) (by decide))
/-! ### _law_pick -/
def spPick : Sp := fun vs H Q _ => ∃ (p l : Addr) (xs : List V) (t : Nat), vs = [.ref p, .ref l] ∧ Purse H p t ∧ t ≤ 2 ^ 20 ∧ H l = some (.lst xs) ∧ l ≠ p ∧ 0 < xs.length ∧ xs.length ≤ 1000 ∧ ∀ (H' : Hp) (i : Nat) (x : V), Kp p H H' → Purse H' p (t + 1) → xs[i]? = some x → Q x H'
abbrev nm_law_pick : List Str := ["_law_purse_here", "_law_items"]
theorem sc_law_pick : FnScope ["_law_purse_here", "_law_items"] ["_law_purse_here", "_law_items"] (defScope s_law_pick) := ⟨rfl, rfl, rfl, by decide +kernel, rfl, by decide +kernel, by decide +kernel⟩
theorem ok_pick (T : Txt K mg A w) : FnOk P w K mg base CX0 2 A.a_law_pick A.d_law_pick ["_law_purse_here", "_law_items"] spPick := by
  have G_law_draw : FnOk P w K mg base CX0 1 A.a_law_draw A.d_law_draw ["_law_purse_here", "_law_many"] spDraw := ok_draw T
  refine T.F_law_pick.ok sc_law_pick (fun vs H Q E h => ?_) (fun cdv A0 outer s H vs Q E hr h => ?_)
  · obtain ⟨p, l, xs, t, rfl, _⟩ := h
    rfl
  · obtain ⟨p, l, xs, t, rfl, hP, ht, hl, nlp, h0, h1, q⟩ := h
    refine ⟨_, (pss_one (ps_ret (pe_ix ix_list (pv 1) (pe_call G_law_draw (hr.mono (by decide)) (by rfl) T.m_law_draw T.F_law_draw.kp T.B_law_draw .nil pass0 (pa_cons (pv 0) (pa_cons (pe_callB call_len_seq (by rfl) T.n_len (by decide +kernel) (pa_cons (pv 1) pa_nil)) pa_nil))) (fun _ _ => rfl)))), ?_⟩
    refine ⟨_, rfl, _, rfl, _, rfl, l, _, rfl, .inl (SqL.of hl), p, _, t, rfl, hP, ht, by omega, small2000 (by omega), fun H' n k P' n0 n1 => ?_⟩
    have hn : n.toNat < xs.length := by omega
    refine ⟨l, _, n, xs[n.toNat], rfl, rfl, SqL.of (k _ _ nlp hl), at_of (j := n.toNat) (by omega) (List.getElem?_eq_getElem hn), q H' n.toNat _ k P' (List.getElem?_eq_getElem hn)⟩
/-- what a pick out of a written list of whole numbers gives -/
theorem pick_int {ms : List Int} {i : Nat} {x : V} {P : Int → Prop} (h : (ms.map V.int)[i]? = some x) (hp : ∀ m ∈ ms, P m) : ∃ m, x = .int m ∧ P m := by
  obtain ⟨m, hm, rfl⟩ := map_get h
  exact ⟨m, rfl, hp m (List.mem_of_getElem? hm)⟩
/-! ### _law_raised -/
def spTimes : Sp := fun vs H Q _ => ∃ (b n : Int), vs = [.int b, .int n] ∧ 1 ≤ b ∧ b < BIG ∧ -(2 ^ 62) ≤ n ∧ n < 2 ^ 62 ∧ b ^ n.toNat < BIG ∧ Q (.int (b ^ n.toNat)) H
abbrev nm_law_raised : List Str := ["_law_base", "_law_many", "_law_found", "_law_turn"]
theorem sc_law_raised : FnScope ["_law_base", "_law_many", "_law_found", "_law_turn"] ["_law_base", "_law_many"] (defScope s_law_raised) := ⟨rfl, rfl, rfl, by decide +kernel, rfl, by decide +kernel, by decide +kernel⟩
theorem ok_times (T : Txt K mg A w) : FnOk P w K mg base CX0 1 A.a_law_raised A.d_law_raised ["_law_base", "_law_many"] spTimes := by
  refine T.F_law_raised.ok sc_law_raised (fun vs H Q E h => ?_) (fun cdv A0 outer s H vs Q E hr h => ?_)
  · obtain ⟨b, n, rfl, _⟩ := h
    rfl
  · obtain ⟨b, n, rfl, hb, hbB, n1, n2, hB, q⟩ := h
    refine ⟨_, (pss_cons (ps_set (i := 2) sc_law_raised.nd rfl (Or.inl rfl) pe_int)
  (pss_cons (ps_for PassesOwn.never rfl (pi_range1 rfl T.n_range (pa_cons (pv 1) pa_nil)) (pg_name (i := 3) sc_law_raised.nd rfl (Or.inl rfl))
  (pss_one (ps_set (i := 2) sc_law_raised.nd rfl (Or.inl rfl) (pe_op op_mulW (pv 2) (pv 0)))))
  (pss_one (ps_ret (pv 2))))), ?_⟩
    refine ⟨_, rfl, n, rfl, n1, n2, for_range (lo := 0) (n := n.toNat) (fun i σ H' => ∃ v : Option V, σ = [some (.int b), some (.int n), some (.int (b ^ i)), v] ∧ H' = H) ⟨none, by rw [Int.pow_zero]; rfl, rfl⟩ ?_ ?_⟩
    · rintro i σ H' hi ⟨v, rfl, rfl⟩
      have h1 := pow_le' hb (show i ≤ n.toNat by omega)
      have h2 := pow_pos' hb i
      refine ⟨_, rfl, _, rfl, _, _, rfl, rfl, mulBig (by omega) (big_le (by omega)) (by omega) (big_le hbB), ?_⟩
      exact ⟨_, by rw [Int.pow_succ]; rfl, rfl⟩
    · rintro σ H' ⟨v, rfl, rfl⟩
      exact ⟨_, rfl, q⟩
theorem kpNew {p l : Addr} {H : Hp} {o : HO} (h : H l = none) : Kp p H (upd H l o) := fun c u _ e => by
  rw [upd_ne (ne_of_none e h)]
  exact e
end
end Ax

namespace Ax
theorem siz_pos {b m e : Int} (hb : 1 ≤ b) (hm : 1 ≤ m) : 1 ≤ sizZ b m e := by
  unfold sizZ
  split
  · have h1 := pow_pos' hb e.toNat
    have := Int.mul_le_mul hm h1 (by omega) (by omega)
    omega
  · exact hm
theorem least_le {b : Int} {ms : List Int} {k1 k2 : Kd} {n1 n2 l h d m1 p1 m2 p2 : Int} (L1 : LeastFit b ms k1 n1 l h d m1 p1) (L2 : LeastFit b ms k2 n2 l h d m2 p2) (imp : ∀ m ∈ ms, ∀ e, FitE b k2 n2 l h m e → FitE b k1 n1 l h m e) {N : Int} (q1 : 0 ≤ N + p1) (q2 : 0 ≤ N + p2) :
    szN b N m1 p1 ≤ szN b N m2 p2 := by
  apply Int.not_lt.mp
  intro c
  exact L1.least m2 L2.mem p2 ⟨N, q2, q1, c⟩ (imp m2 L2.mem _ L2.fit)
section
variable {l h s n : Int}
theorem div_facts (l : Int) (hs : 0 < s) : s * (l / s) ≤ l ∧ l < s * (l / s) + s := by
  have e1 := Int.emod_add_mul_ediv l s
  have e2 := Int.emod_nonneg l (show s ≠ 0 by omega)
  have e3 := Int.emod_lt_of_pos l hs
  omega
theorem len_ins (hs : 0 < s) (q : h ≤ reachZ .len n l s) : h ≤ reachZ .ins (n + 1) l s := by
  obtain ⟨f1, f2⟩ := div_facts (-l) hs
  have q : h ≤ l + n * s := q
  show h ≤ (-(-l / s) + (n + 1)) * s - 1
  rw [Int.add_mul, Int.neg_mul, Int.mul_comm (-l / s), Int.add_mul]
  omega
theorem cov_len (hs : 0 < s) (q : h ≤ reachZ .cov n l s) : h ≤ reachZ .len n l s := by
  obtain ⟨f1, f2⟩ := div_facts l hs
  have q : h ≤ (l / s + n) * s := q
  rw [Int.add_mul, Int.mul_comm (l / s)] at q
  show h ≤ l + n * s
  omega
theorem len_cov (hs : 0 < s) (q : h ≤ reachZ .len n l s) : h ≤ reachZ .cov (n + 1) l s := by
  obtain ⟨f1, f2⟩ := div_facts l hs
  have q : h ≤ l + n * s := q
  show h ≤ (l / s + (n + 1)) * s
  rw [Int.add_mul, Int.mul_comm (l / s), Int.add_mul]
  omega
theorem ins_cov (hs : 0 < s) (q : h ≤ reachZ .ins n l s) : h ≤ reachZ .cov (n + 1) l s := by
  obtain ⟨f1, f2⟩ := div_facts l hs
  obtain ⟨g1, g2⟩ := div_facts (-l) hs
  have q : h ≤ (-(-l / s) + n) * s - 1 := q
  rw [Int.add_mul, Int.neg_mul, Int.mul_comm (-l / s)] at q
  show h ≤ (l / s + (n + 1)) * s
  rw [Int.add_mul, Int.mul_comm (l / s), Int.add_mul]
  -- the least multiple at or above l is at most one step above the greatest at or below it
  have c : -(s * (-l / s)) ≤ s * (l / s) + s := by
    apply Int.not_lt.mp
    intro z
    have z2 : s * (l / s + 1) < s * (-(-l / s)) := by
      rw [Int.mul_add, Int.mul_one, Int.mul_neg]
      exact z
    have z3 : l / s + 1 < -(-l / s) := Int.lt_of_mul_lt_mul_left z2 (by omega)
    have z4 := Int.mul_le_mul_of_nonneg_left (show l / s + 1 + 1 ≤ -(-l / s) by omega) (show 0 ≤ s by omega)
    rw [Int.mul_add, Int.mul_add, Int.mul_one, Int.mul_neg] at z4
    omega
  omega
end
end Ax

namespace Ax
/-- the first and the last mark, in whole numbers -/
def fstZ (k : Kd) (l s : Int) : Int := if k = .cov then l / s else -(-l / s)
def lstZ (k : Kd) (h s : Int) : Int := if k = .cov then -(-h / s) else h / s
end Ax
namespace Ax
/-! ### of two least steps that fit there is one -/
theorem least_one {b : Int} {ms : List Int} {k : Kd} {n l h d m1 p1 m2 p2 : Int} (hb : 2 ≤ b) (hm : ∀ m ∈ ms, 1 ≤ m ∧ m % b ≠ 0) (L1 : LeastFit b ms k n l h d m1 p1) (L2 : LeastFit b ms k n l h d m2 p2) : m1 = m2 ∧ p1 = p2 := by
  obtain ⟨N, hN⟩ : ∃ N : Int, N = p1.natAbs + p2.natAbs := ⟨_, rfl⟩
  have a := least_le L1 L2 (fun m _ e q => q) (N := N) (by omega) (by omega)
  have c := least_le L2 L1 (fun m _ e q => q) (N := N) (by omega) (by omega)
  have e : szN b N m1 p1 = szN b N m2 p2 := by omega
  unfold szN at e
  rcases Int.le_total p1 p2 with q | q
  · have x : (N + p2).toNat = (p2 - p1).toNat + (N + p1).toNat := by omega
    rw [x, pow_add', ← Int.mul_assoc] at e
    have y := mul_cancel (pow_pos' (by omega) _) e
    cases z : (p2 - p1).toNat with
    | zero =>
      rw [z, Int.pow_zero, Int.mul_one] at y
      exact ⟨y, by omega⟩
    | succ j =>
      rw [z] at y
      exact absurd (dvd_of_mul y.symm) (hm m1 L1.mem).2
  · have x : (N + p1).toNat = (p1 - p2).toNat + (N + p2).toNat := by omega
    rw [x, pow_add', ← Int.mul_assoc] at e
    have y := mul_cancel (pow_pos' (by omega) _) e
    cases z : (p1 - p2).toNat with
    | zero =>
      rw [z, Int.pow_zero, Int.mul_one] at y
      exact ⟨y, by omega⟩
    | succ j =>
      rw [z] at y
      exact absurd (dvd_of_mul y) (hm m2 L2.mem).2
/-! ### how many marks -/
section
variable {k : Kd} {l h s n : Int}
theorem lt_div_iff {x y s : Int} (hs : 0 < s) : y / s < x ↔ y < x * s := Int.ediv_lt_iff_lt_mul hs
theorem le_div_iff {x y s : Int} (hs : 0 < s) : x ≤ y / s ↔ x * s ≤ y := Int.le_ediv_iff_mul_le hs
theorem ceil_facts (l : Int) (hs : 0 < s) : l ≤ s * (-(-l / s)) ∧ s * (-(-l / s)) < l + s := by
  obtain ⟨f1, f2⟩ := div_facts (-l) hs
  rw [Int.mul_neg]
  omega
theorem floor_ceil (l : Int) (hs : 0 < s) : l / s ≤ -(-l / s) ∧ -(-l / s) ≤ l / s + 1 := by
  obtain ⟨f1, f2⟩ := div_facts l hs
  obtain ⟨g1, g2⟩ := ceil_facts l hs
  constructor
  · apply Int.not_lt.mp
    intro z
    have := Int.mul_le_mul_of_nonneg_left (show -(-l / s) + 1 ≤ l / s by omega) (show 0 ≤ s by omega)
    rw [Int.mul_add, Int.mul_one] at this
    omega
  · apply Int.not_lt.mp
    intro z
    have := Int.mul_le_mul_of_nonneg_left (show l / s + 1 + 1 ≤ -(-l / s) by omega) (show 0 ≤ s by omega)
    rw [Int.mul_add, Int.mul_add, Int.mul_one] at this
    omega
theorem marks_most (hs : 0 < s) (q : h ≤ reachZ k n l s) : lstZ k h s - fstZ k l s + 1 ≤ n + (if k = .ins then 0 else 1) := by
  obtain ⟨c1, c2⟩ := floor_ceil l hs
  unfold fstZ lstZ
  cases k with
  | ins =>
    rw [if_neg (by decide), if_neg (by decide), if_pos rfl]
    have q : h ≤ (-(-l / s) + n) * s - 1 := q
    have := (lt_div_iff hs (y := h) (x := -(-l / s) + n)).mpr (by omega)
    omega
  | cov =>
    rw [if_pos rfl, if_pos rfl, if_neg (by decide)]
    have q : h ≤ (l / s + n) * s := q
    have := (le_div_iff hs (y := -h) (x := -(l / s + n))).mpr (by rw [Int.neg_mul]; omega)
    omega
  | len =>
    rw [if_neg (by decide), if_neg (by decide), if_neg (by decide)]
    have q : h ≤ l + n * s := q
    obtain ⟨f1, f2⟩ := div_facts l hs
    have := (lt_div_iff hs (y := h) (x := l / s + n + 1)).mpr (by rw [Int.add_mul, Int.add_mul, Int.one_mul, Int.mul_comm (l / s)]; omega)
    omega
theorem marks_least (hs : 0 < s) (lt : l < h) : (if k = .cov then 2 else 0) ≤ lstZ k h s - fstZ k l s + 1 := by
  obtain ⟨c1, c2⟩ := floor_ceil l hs
  obtain ⟨f1, f2⟩ := div_facts l hs
  obtain ⟨g1, g2⟩ := ceil_facts h hs
  have mono : l / s ≤ h / s := Int.ediv_le_ediv hs (by omega)
  unfold fstZ lstZ
  by_cases c : k = .cov
  · rw [if_pos c, if_pos c, if_pos c]
    have : l / s < -(-h / s) := by
      apply Int.not_le.mp
      intro z
      have := Int.mul_le_mul_of_nonneg_left z (show 0 ≤ s by omega)
      omega
    omega
  · rw [if_neg c, if_neg c, if_neg c]
    omega
/-- the law's own words of what fits -/
def fitL (k : Kd) (n l h s : Int) : Bool := match k with
  | .ins => decide (h / s - (0 - (0 - l) / s) + 1 ≤ n)
  | .cov => decide (0 - (0 - h) / s - l / s ≤ n)
  | .len => decide (h - l ≤ n * s)
theorem fitL_eq (hs : 0 < s) : fitL k n l h s = decide (h ≤ reachZ k n l s) := by
  have e : ∀ x : Int, 0 - x = -x := fun x => by omega
  cases k with
  | ins =>
    show decide (h / s - (0 - (0 - l) / s) + 1 ≤ n) = decide (h ≤ (-(-l / s) + n) * s - 1)
    rw [e, e]
    have := lt_div_iff hs (y := h) (x := -(-l / s) + n)
    apply decide_eq_decide.mpr
    omega
  | cov =>
    show decide (0 - (0 - h) / s - l / s ≤ n) = decide (h ≤ (l / s + n) * s)
    rw [e, e]
    have := le_div_iff hs (y := -h) (x := -(l / s + n))
    rw [Int.neg_mul] at this
    apply decide_eq_decide.mpr
    omega
  | len =>
    show decide (h - l ≤ n * s) = decide (h ≤ l + n * s)
    apply decide_eq_decide.mpr
    omega
end
end Ax

namespace Ax
/-! ### ranges within, upside down, times the base -/
theorem least_gen {b : Int} {ms1 : List Int} {k1 : Kd} {n1 l1 h1 d m1 p1 m2 p2 : Int} (L1 : LeastFit b ms1 k1 n1 l1 h1 d m1 p1) (hin : m2 ∈ ms1) (fit : FitE b k1 n1 l1 h1 m2 (p2 + d)) {N : Int} (q1 : 0 ≤ N + p1) (q2 : 0 ≤ N + p2) :
    szN b N m1 p1 ≤ szN b N m2 p2 := by
  apply Int.not_lt.mp
  intro c
  exact L1.least m2 hin p2 ⟨N, q2, q1, c⟩ fit
theorem reach_in {k : Kd} {n l h l' h' s : Int} (hs : 0 < s) (h1 : l ≤ l') (h2 : h' ≤ h) (q : h ≤ reachZ k n l s) : h' ≤ reachZ k n l' s := by
  cases k with
  | len =>
    have q : h ≤ l + n * s := q
    show h' ≤ l' + n * s
    omega
  | cov =>
    have q : h ≤ (l / s + n) * s := q
    have m : l / s ≤ l' / s := Int.ediv_le_ediv hs h1
    have := Int.mul_le_mul_of_nonneg_right (show l / s + n ≤ l' / s + n by omega) (show 0 ≤ s by omega)
    show h' ≤ (l' / s + n) * s
    omega
  | ins =>
    have q : h ≤ (-(-l / s) + n) * s - 1 := q
    have m : -l' / s ≤ -l / s := Int.ediv_le_ediv hs (by omega)
    have := Int.mul_le_mul_of_nonneg_right (show -(-l / s) + n ≤ -(-l' / s) + n by omega) (show 0 ≤ s by omega)
    show h' ≤ (-(-l' / s) + n) * s - 1
    omega
theorem reach_more {k : Kd} {n n' l h s : Int} (hs : 0 < s) (h1 : n ≤ n') (q : h ≤ reachZ k n l s) : h ≤ reachZ k n' l s := by
  cases k with
  | len =>
    have q : h ≤ l + n * s := q
    have := Int.mul_le_mul_of_nonneg_right h1 (show 0 ≤ s by omega)
    show h ≤ l + n' * s
    omega
  | cov =>
    have q : h ≤ (l / s + n) * s := q
    have := Int.mul_le_mul_of_nonneg_right (show l / s + n ≤ l / s + n' by omega) (show 0 ≤ s by omega)
    show h ≤ (l / s + n') * s
    omega
  | ins =>
    have q : h ≤ (-(-l / s) + n) * s - 1 := q
    have := Int.mul_le_mul_of_nonneg_right (show -(-l / s) + n ≤ -(-l / s) + n' by omega) (show 0 ≤ s by omega)
    show h ≤ (-(-l / s) + n') * s - 1
    omega
theorem reach_flip {k : Kd} {n l h s : Int} (hs : 0 < s) : -l ≤ reachZ k n (-h) s ↔ h ≤ reachZ k n l s := by
  cases k with
  | len =>
    show -l ≤ -h + n * s ↔ h ≤ l + n * s
    omega
  | cov =>
    show -l ≤ (-h / s + n) * s ↔ h ≤ (l / s + n) * s
    have a := le_div_iff hs (x := -(l / s + n)) (y := -h)
    have c := le_div_iff hs (x := -(-h / s + n)) (y := l)
    rw [Int.neg_mul] at a c
    omega
  | ins =>
    show -l ≤ (-(- -h / s) + n) * s - 1 ↔ h ≤ (-(-l / s) + n) * s - 1
    rw [Int.neg_neg]
    have a := lt_div_iff hs (x := -(-l / s) + n) (y := h)
    have c := lt_div_iff hs (x := -(h / s) + n) (y := -l)
    omega
section
variable {b : Int} {ms : List Int} {k : Kd} {n l h d m p : Int}
theorem fitE_in {l' h' e : Int} (hb : 1 ≤ b) (hm : 1 ≤ m) (h1 : l ≤ l') (h2 : h' ≤ h) (q : FitE b k n l h m e) : FitE b k n l' h' m e := by
  have f1 : 1 ≤ facZ b e := by
    unfold facZ
    split
    · decide
    · exact pow_pos' hb _
  unfold FitE at q ⊢
  exact reach_in (by have := siz_pos (e := e) hb hm; omega) (Int.mul_le_mul_of_nonneg_right h1 (by omega)) (Int.mul_le_mul_of_nonneg_right h2 (by omega)) q
theorem fitE_more {n' e : Int} (hb : 1 ≤ b) (hm : 1 ≤ m) (h1 : n ≤ n') (q : FitE b k n l h m e) : FitE b k n' l h m e :=
  reach_more (by have := siz_pos (e := e) hb hm; omega) h1 q
theorem fitE_flip {e : Int} (hb : 1 ≤ b) (hm : 1 ≤ m) : FitE b k n (-h) (-l) m e ↔ FitE b k n l h m e := by
  unfold FitE
  rw [Int.neg_mul, Int.neg_mul]
  exact reach_flip (by have := siz_pos (e := e) hb hm; omega)
theorem fitE_base {e : Int} (hb : 1 ≤ b) (hm : 1 ≤ m) : FitE b k n (l * b) (h * b) m (e + 1) ↔ FitE b k n l h m e := by
  obtain ⟨N, hN⟩ : ∃ N : Nat, N = e.natAbs := ⟨_, rfl⟩
  rw [fitE_N (N := N) hb hm (by omega) (by omega), fitE_N (N := N + 1) hb hm (by omega) (by omega)]
  have e1 : szN b N m (e + 1) = szN b (N + 1) m e := by
    unfold szN
    rw [show (N : Int) + (e + 1) = N + 1 + e by omega]
  have e2 : ∀ x : Int, x * b * b ^ (N : Int).toNat = x * b ^ ((N : Int) + 1).toNat := fun x => by
    rw [show ((N : Int) + 1).toNat = N + 1 by omega, Int.toNat_natCast, Int.pow_succ, Int.mul_assoc, Int.mul_comm b]
  rw [e1, e2, e2]
theorem LeastFit.flip (hb : 1 ≤ b) (hm : ∀ m ∈ ms, 1 ≤ m) (L : LeastFit b ms k n l h d m p) : LeastFit b ms k n (-h) (-l) d m p :=
  ⟨L.mem, (fitE_flip hb (hm m L.mem)).mpr L.fit, fun m' hm' p' s q => L.least m' hm' p' s ((fitE_flip hb (hm m' hm')).mp q)⟩
theorem SLt.up {x y : Int × Int} (h : SLt b x (y.1, y.2 + 1)) : SLt b (x.1, x.2 - 1) y := by
  obtain ⟨N, h1, h2, h3⟩ := h
  have h1 : 0 ≤ N + x.2 := h1
  have h2 : 0 ≤ N + (y.2 + 1) := h2
  refine ⟨N + 1, by show 0 ≤ N + 1 + (x.2 - 1); omega, by omega, ?_⟩
  have h3 : x.1 * b ^ (N + x.2).toNat < y.1 * b ^ (N + (y.2 + 1)).toNat := h3
  show x.1 * b ^ (N + 1 + (x.2 - 1)).toNat < y.1 * b ^ (N + 1 + y.2).toNat
  rw [show N + 1 + (x.2 - 1) = N + x.2 by omega, show N + 1 + y.2 = N + (y.2 + 1) by omega]
  exact h3
theorem LeastFit.base (hb : 1 ≤ b) (hm : ∀ m ∈ ms, 1 ≤ m) (L : LeastFit b ms k n l h d m p) : LeastFit b ms k n (l * b) (h * b) d m (p + 1) := by
  refine ⟨L.mem, ?_, fun m' hm' p' s q => ?_⟩
  · rw [show p + 1 + d = p + d + 1 by omega]
    exact (fitE_base hb (hm m L.mem)).mpr L.fit
  · refine L.least m' hm' (p' - 1) (SLt.up (x := (m', p')) (y := (m, p)) s) ?_
    rw [show p' + d = p' - 1 + d + 1 by omega] at q
    exact (fitE_base hb (hm m' hm')).mp q
end
end Ax

namespace Ax
/-! # the same range told with more digits -/
theorem fac_siz {b m p : Int} (x : Nat) (b1 : 1 ≤ b) : ∃ c : Int, 1 ≤ c ∧ facZ b (p + x) * b ^ x = facZ b p * c ∧ sizZ b m (p + x) = sizZ b m p * c := by
  unfold facZ sizZ
  by_cases h : 0 ≤ p
  · refine ⟨b ^ x, pow_pos' b1 x, ?_, ?_⟩
    · rw [if_pos h, if_pos (by omega)]
    · rw [if_pos h, if_pos (by omega), Int.mul_assoc, ← pow_add']
      congr 2
      omega
  · by_cases h2 : 0 ≤ p + x
    · refine ⟨b ^ (p + x).toNat, pow_pos' b1 _, ?_, ?_⟩
      · rw [if_neg h, if_pos h2, Int.one_mul, ← pow_add']
        congr 1
        omega
      · rw [if_neg h, if_pos h2]
    · refine ⟨1, Int.le_refl _, ?_, ?_⟩
      · rw [if_neg h, if_neg h2, Int.mul_one, ← pow_add']
        congr 1
        omega
      · rw [if_neg h, if_neg h2, Int.mul_one]
theorem fst_scale {k : Kd} {l s c : Int} (hc : 1 ≤ c) (hs : 1 ≤ s) : fstZ k (l * c) (s * c) = fstZ k l s := by
  have d : ∀ x : Int, x * c / (s * c) = x / s := fun x => Int.mul_ediv_mul_of_pos_left x s (by omega)
  unfold fstZ
  rw [d, ← Int.neg_mul, d]
theorem lst_scale {k : Kd} {h s c : Int} (hc : 1 ≤ c) (hs : 1 ≤ s) : lstZ k (h * c) (s * c) = lstZ k h s := by
  have d : ∀ x : Int, x * c / (s * c) = x / s := fun x => Int.mul_ediv_mul_of_pos_left x s (by omega)
  unfold lstZ
  rw [d, ← Int.neg_mul, d]
theorem marks_wide {k : Kd} {b l h m p : Int} (x : Nat) (b1 : 1 ≤ b) (m1 : 1 ≤ m) : fstZ k (l * b ^ x * facZ b (p + x)) (sizZ b m (p + x)) = fstZ k (l * facZ b p) (sizZ b m p) ∧ lstZ k (h * b ^ x * facZ b (p + x)) (sizZ b m (p + x)) = lstZ k (h * facZ b p) (sizZ b m p) := by
  obtain ⟨c, c1, e1, e2⟩ := fac_siz (m := m) (p := p) x b1
  have z1 := siz_pos (b := b) (m := m) (e := p) b1 m1
  have r : ∀ y : Int, y * b ^ x * facZ b (p + x) = y * facZ b p * c := fun y => by
    rw [Int.mul_assoc, Int.mul_comm (b ^ x), e1, ← Int.mul_assoc]
  rw [r, r, e2, fst_scale c1 z1, lst_scale c1 z1]
  exact ⟨rfl, rfl⟩
theorem fitE_pow {b m n l h : Int} {k : Kd} (b1 : 1 ≤ b) (m1 : 1 ≤ m) : ∀ (x : Nat) {e : Int}, FitE b k n (l * b ^ x) (h * b ^ x) m (e + x) ↔ FitE b k n l h m e
  | 0, e => by rw [Int.pow_zero, Int.mul_one, Int.mul_one, Int.natCast_zero, Int.add_zero]
  | x + 1, e => by
    rw [Int.pow_succ, ← Int.mul_assoc, ← Int.mul_assoc, show (e + ((x + 1 : Nat) : Int)) = (e + x) + 1 by omega, fitE_base b1 m1]
    exact fitE_pow b1 m1 x
theorem LeastFit.wide {b : Int} {ms : List Int} {k : Kd} {n l h d m p : Int} (L : LeastFit b ms k n l h d m p) (x : Nat) (b1 : 1 ≤ b) (hall : ∀ m ∈ ms, 1 ≤ m) : LeastFit b ms k n (l * b ^ x) (h * b ^ x) (d + x) m p := by
  refine ⟨L.mem, ?_, fun m' hm p' hs => ?_⟩
  · rw [← Int.add_assoc]
    exact (fitE_pow b1 (hall m L.mem) x).mpr L.fit
  · rw [← Int.add_assoc]
    exact fun z => L.least m' hm p' hs ((fitE_pow b1 (hall m' hm) x).mp z)
theorem LeastFit.at0 {b : Int} {ms : List Int} {k : Kd} {n l h d m p : Int} (L : LeastFit b ms k n l h d m p) : LeastFit b ms k n l h 0 m (p + d) := by
  refine ⟨L.mem, by rw [Int.add_zero]; exact L.fit, fun m' hm p' hs hf => ?_⟩
  rw [Int.add_zero] at hf
  obtain ⟨N, h1, h2, h3⟩ := hs
  have e : p' = (p' - d) + d := by omega
  rw [e] at hf
  refine L.least m' hm (p' - d) ⟨N + d, by omega, by show 0 ≤ N + d + p; have h2 : 0 ≤ N + (p + d) := h2; omega, ?_⟩ hf
  unfold szN at h3 ⊢
  have h3 : m' * b ^ (N + p').toNat < m * b ^ (N + (p + d)).toNat := h3
  show m' * b ^ (N + d + (p' - d)).toNat < m * b ^ (N + d + p).toNat
  rw [show N + d + (p' - d) = N + p' by omega, show N + d + p = N + (p + d) by omega]
  exact h3
theorem log_small {x : Int} {n : Nat} (h : x.natAbs < 2 ^ n) (hn : n ≤ 1920) (n0 : 0 < n) : x.natAbs.log2 < 1920 := by
  by_cases c : x.natAbs = 0
  · rw [c]
    decide
  · have := (Nat.log2_lt c).mpr h
    omega
theorem marks_small {k : Kd} {l s : Int} {n : Nat} (h : l.natAbs < 2 ^ n) : (fstZ k l s).natAbs < 2 ^ n ∧ (lstZ k l s).natAbs < 2 ^ n := by
  have d : ∀ x : Int, (x / s).natAbs ≤ x.natAbs := fun x => Int.natAbs_ediv_le_natAbs x s
  have d1 := d l
  have d2 := d (-l)
  rw [Int.natAbs_neg] at d2
  unfold fstZ lstZ
  constructor <;> split <;> omega
end Ax

namespace Ax
/-! # ranges widened in rounds -/
abbrev Tri := Int × Int × Int
/-- two triples that tell the same range -/
def Eq3 (b : Int) (T U : Tri) : Prop := ∃ i j : Nat, T.1 * b ^ i = U.1 * b ^ j ∧ T.2.1 * b ^ i = U.2.1 * b ^ j ∧ T.2.2 + i = U.2.2 + j
theorem Eq3.refl (b : Int) (T : Tri) : Eq3 b T T := ⟨0, 0, rfl, rfl, rfl⟩
theorem Eq3.symm {b : Int} {T U : Tri} (h : Eq3 b T U) : Eq3 b U T := by
  obtain ⟨i, j, h1, h2, h3⟩ := h
  exact ⟨j, i, h1.symm, h2.symm, h3.symm⟩
theorem mul_pow3 (x b : Int) (i j : Nat) : x * b ^ i * b ^ j = x * b ^ (i + j) := by rw [Int.mul_assoc, ← pow_add']
theorem Eq3.trans {b : Int} {T U W : Tri} (h : Eq3 b T U) (g : Eq3 b U W) : Eq3 b T W := by
  obtain ⟨i, j, h1, h2, h3⟩ := h
  obtain ⟨k, n, g1, g2, g3⟩ := g
  refine ⟨i + k, j + n, ?_, ?_, by omega⟩
  · rw [← mul_pow3, h1, mul_pow3, Nat.add_comm j k, ← mul_pow3, g1, mul_pow3, Nat.add_comm n j]
  · rw [← mul_pow3, h2, mul_pow3, Nat.add_comm j k, ← mul_pow3, g2, mul_pow3, Nat.add_comm n j]
theorem Eq3.shift {b : Int} {T U : Tri} (h : Eq3 b T U) (c : Int) : Eq3 b (T.1, T.2.1, T.2.2 + c) (U.1, U.2.1, U.2.2 + c) := by
  obtain ⟨i, j, h1, h2, h3⟩ := h
  exact ⟨i, j, h1, h2, by show T.2.2 + c + i = U.2.2 + c + j; omega⟩
/-- times a power -/
theorem Eq3.up (b : Int) (l h d : Int) (n : Nat) : Eq3 b (l, h, d) (l * b ^ n, h * b ^ n, d + n) :=
  ⟨n, 0, by show l * b ^ n = l * b ^ n * b ^ 0; rw [Int.pow_zero, Int.mul_one], by show h * b ^ n = h * b ^ n * b ^ 0; rw [Int.pow_zero, Int.mul_one], by show d + n = d + n + ((0 : Nat) : Int); omega⟩
/-- the shortest telling with no digits too many -/
def Red (b : Int) (T : Tri) : Prop := 0 ≤ T.2.2 ∧ (T.2.2 = 0 ∨ ¬ (T.1 % b = 0 ∧ T.2.1 % b = 0))
theorem dvd_pow_pos {b x y : Int} {n : Nat} (hn : 0 < n) (h : x = y * b ^ n) : x % b = 0 := by
  obtain ⟨m, rfl⟩ : ∃ m, n = m + 1 := ⟨n - 1, by omega⟩
  exact dvd_of_mul h.symm
theorem Red.uniq {b : Int} {T U : Tri} (b1 : 1 ≤ b) (e : Eq3 b T U) (r : Red b T) (s : Red b U) : T = U := by
  obtain ⟨i, j, h1, h2, h3⟩ := e
  obtain ⟨l, h, d⟩ := T
  obtain ⟨l', h', d'⟩ := U
  obtain ⟨r1, r2⟩ := r
  obtain ⟨s1, s2⟩ := s
  have h1 : l * b ^ i = l' * b ^ j := h1
  have h2 : h * b ^ i = h' * b ^ j := h2
  have h3 : d + i = d' + j := h3
  have r1 : 0 ≤ d := r1
  have s1 : 0 ≤ d' := s1
  have r2 : d = 0 ∨ ¬ (l % b = 0 ∧ h % b = 0) := r2
  have s2 : d' = 0 ∨ ¬ (l' % b = 0 ∧ h' % b = 0) := s2
  have can : ∀ {x y : Int} {m n : Nat}, m ≤ n → x * b ^ m = y * b ^ n → x = y * b ^ (n - m) := fun {x y m n} le e => by
    refine mul_cancel (pow_pos' b1 m) ?_
    rw [mul_pow3, show n - m + m = n by omega]
    exact e
  rcases Nat.lt_trichotomy i j with c | c | c
  · have e1 := can (Nat.le_of_lt c) h1
    have e2 := can (Nat.le_of_lt c) h2
    rcases r2 with z | z
    · omega
    · exact absurd ⟨dvd_pow_pos (by omega) e1, dvd_pow_pos (by omega) e2⟩ z
  · subst c
    have e1 := mul_cancel (pow_pos' b1 i) h1
    have e2 := mul_cancel (pow_pos' b1 i) h2
    obtain rfl : d = d' := by omega
    rw [e1, e2]
  · have e1 := can (Nat.le_of_lt c) h1.symm
    have e2 := can (Nat.le_of_lt c) h2.symm
    rcases s2 with z | z
    · omega
    · exact absurd ⟨dvd_pow_pos (by omega) e1, dvd_pow_pos (by omega) e2⟩ z
/-- the ends widened by a step -/
def wLo (b l m e : Int) : Int := l * facZ b e / sizZ b m e * sizZ b m e
def wHi (b h m e : Int) : Int := -(-(h * facZ b e) / sizZ b m e) * sizZ b m e
theorem fac_siz2 {b m p : Int} (x : Nat) : facZ b (p + x) * b ^ x = facZ b p * b ^ (x + (-(p + x)).toNat - (-p).toNat) ∧ sizZ b m (p + x) = sizZ b m p * b ^ (x + (-(p + x)).toNat - (-p).toNat) := by
  unfold facZ sizZ
  by_cases h : 0 ≤ p
  · rw [if_pos h, if_pos (show 0 ≤ p + (x : Int) by omega), if_pos (show 0 ≤ p + (x : Int) by omega), if_pos h, show x + (-(p + x)).toNat - (-p).toNat = x by omega, Int.mul_assoc, ← pow_add']
    refine ⟨rfl, ?_⟩
    congr 2
    omega
  · by_cases h2 : 0 ≤ p + x
    · rw [if_neg h, if_pos h2, if_pos h2, if_neg h, Int.one_mul, ← pow_add']
      refine ⟨?_, ?_⟩ <;> congr 2 <;> omega
    · rw [if_neg h, if_neg h2, if_neg h2, if_neg h, show x + (-(p + x)).toNat - (-p).toNat = 0 by omega, Int.pow_zero, Int.mul_one, Int.mul_one, ← pow_add']
      refine ⟨?_, rfl⟩
      congr 1
      omega
theorem wid_scale {b m q : Int} (b1 : 1 ≤ b) (m1 : 1 ≤ m) (x : Nat) (y : Int) : wLo b (y * b ^ x) m (q + x) = wLo b y m q * b ^ (x + (-(q + x)).toNat - (-q).toNat) ∧ wHi b (y * b ^ x) m (q + x) = wHi b y m q * b ^ (x + (-(q + x)).toNat - (-q).toNat) := by
  obtain ⟨e1, e2⟩ := fac_siz2 (b := b) (m := m) (p := q) x
  have z1 := siz_pos (b := b) (m := m) (e := q) b1 m1
  have c1 := pow_pos' b1 (x + (-(q + x)).toNat - (-q).toNat)
  generalize b ^ (x + (-(q + x)).toNat - (-q).toNat) = c at *
  have r : y * b ^ x * facZ b (q + x) = y * facZ b q * c := by
    rw [Int.mul_assoc, Int.mul_comm (b ^ x), e1, ← Int.mul_assoc]
  have d : ∀ z : Int, z * c / (sizZ b m q * c) = z / sizZ b m q := fun z => Int.mul_ediv_mul_of_pos_left z _ (by omega)
  unfold wLo wHi
  rw [r, e2, d, ← Int.neg_mul, d]
  exact ⟨(Int.mul_assoc ..).symm, (Int.mul_assoc ..).symm⟩
/-- what a widening makes of a range by its least step -/
def wTri (b m q : Int) (T : Tri) : Tri := (wLo b T.1 m q, wHi b T.2.1 m q, T.2.2 + (-q).toNat)
theorem wTri_scale {b m q : Int} (b1 : 1 ≤ b) (m1 : 1 ≤ m) (x : Nat) (T : Tri) : Eq3 b (wTri b m (q + x) (T.1 * b ^ x, T.2.1 * b ^ x, T.2.2 + x)) (wTri b m q T) := by
  obtain ⟨e1, _⟩ := wid_scale (q := q) b1 m1 x T.1
  obtain ⟨_, e2⟩ := wid_scale (q := q) b1 m1 x T.2.1
  refine ⟨0, x + (-(q + x)).toNat - (-q).toNat, ?_, ?_, ?_⟩
  · show wLo b (T.1 * b ^ x) m (q + x) * b ^ 0 = _
    rw [Int.pow_zero, Int.mul_one]
    exact e1
  · show wHi b (T.2.1 * b ^ x) m (q + x) * b ^ 0 = _
    rw [Int.pow_zero, Int.mul_one]
    exact e2
  · show T.2.2 + x + ((-(q + x)).toNat : Int) + ((0 : Nat) : Int) = T.2.2 + ((-q).toNat : Int) + ((x + (-(q + x)).toNat - (-q).toNat : Nat) : Int)
    omega
/-- U is T widened -/
def Wid (b : Int) (ms : List Int) (most : Int) (T U : Tri) : Prop := ∃ T0 : Tri, Eq3 b T T0 ∧ ∃ m q, LeastFit b ms .cov most T0.1 T0.2.1 0 m q ∧ Eq3 b (wTri b m q T0) U
section
variable {b : Int} {ms : List Int} {most : Int}
theorem Wid.to {T U U' : Tri} (h : Wid b ms most T U) (e : Eq3 b U U') : Wid b ms most T U' := by
  obtain ⟨T0, e0, m, q, L, e1⟩ := h
  exact ⟨T0, e0, m, q, L, e1.trans e⟩
theorem Wid.fro {T T' U : Tri} (h : Wid b ms most T U) (e : Eq3 b T' T) : Wid b ms most T' U := by
  obtain ⟨T0, e0, m, q, L, e1⟩ := h
  exact ⟨T0, e.trans e0, m, q, L, e1⟩
theorem Wid.of {T : Tri} {m q : Int} (L : LeastFit b ms .cov most T.1 T.2.1 0 m q) : Wid b ms most T (wTri b m q T) := ⟨T, Eq3.refl b T, m, q, L, Eq3.refl ..⟩
theorem LeastFit.wide0 {k : Kd} {n l h m q : Int} (L : LeastFit b ms k n l h 0 m q) (x : Nat) (b1 : 1 ≤ b) (hall : ∀ m ∈ ms, 1 ≤ m) : LeastFit b ms k n (l * b ^ x) (h * b ^ x) 0 m (q + x) := by
  have := (L.wide x b1 hall).at0
  rwa [Int.zero_add] at this
theorem Wid.det {T T' U U' : Tri} (b2 : 2 ≤ b) (hall : ∀ m ∈ ms, 1 ≤ m ∧ m % b ≠ 0) (h : Wid b ms most T U) (h' : Wid b ms most T' U') (e : Eq3 b T T') : Eq3 b U U' := by
  obtain ⟨A, a0, m, q, L, a1⟩ := h
  obtain ⟨B, b0, m', q', L', b1'⟩ := h'
  have b1 : 1 ≤ b := by omega
  have hm : ∀ m ∈ ms, 1 ≤ m := fun m h => (hall m h).1
  obtain ⟨i, j, f1, f2, f3⟩ := (a0.symm.trans e).trans b0
  have L1 := L.wide0 i b1 hm
  have L2 := L'.wide0 j b1 hm
  rw [f1, f2] at L1
  obtain ⟨rfl, e2⟩ := least_one b2 hall L1 L2
  have m1 := hm m L.mem
  have s1 := wTri_scale (q := q) b1 m1 i A
  have s2 := wTri_scale (q := q') b1 m1 j B
  rw [f1, f2, f3, e2] at s1
  exact (a1.symm.trans (s1.symm.trans s2)).trans b1'
theorem Wid.shift {T U : Tri} (h : Wid b ms most T U) (c : Int) : Wid b ms most (T.1, T.2.1, T.2.2 + c) (U.1, U.2.1, U.2.2 + c) := by
  obtain ⟨A, a0, m, q, L, a1⟩ := h
  refine ⟨(A.1, A.2.1, A.2.2 + c), a0.shift c, m, q, L, ?_⟩
  have := a1.shift c
  refine Eq3.trans ?_ this
  show Eq3 b (wLo b A.1 m q, wHi b A.2.1 m q, A.2.2 + c + (-q).toNat) (wLo b A.1 m q, wHi b A.2.1 m q, A.2.2 + (-q).toNat + c)
  rw [show A.2.2 + c + ((-q).toNat : Int) = A.2.2 + (-q).toNat + c by omega]
  exact Eq3.refl ..
end
/-- a cover rule's heads and greatest number -/
abbrev CRu := List Int × Int
def Round (b : Int) : List CRu → Tri → Tri → Prop
  | [], T, U => Eq3 b T U
  | r :: rs, T, U => ∃ V, Wid b r.1 r.2 T V ∧ Round b rs V U
def AllHd (b : Int) (rs : List CRu) : Prop := ∀ r ∈ rs, ∀ m ∈ r.1, 1 ≤ m ∧ m % b ≠ 0
section
variable {b : Int}
theorem Round.to : ∀ {rs : List CRu} {T U U' : Tri}, Round b rs T U → Eq3 b U U' → Round b rs T U'
  | [], _, _, _, h, e => Eq3.trans h e
  | _ :: _, _, _, _, ⟨V, h1, h2⟩, e => ⟨V, h1, Round.to h2 e⟩
theorem Round.fro : ∀ {rs : List CRu} {T T' U : Tri}, Round b rs T U → Eq3 b T' T → Round b rs T' U
  | [], _, _, _, h, e => Eq3.trans e h
  | _ :: _, _, _, _, ⟨V, h1, h2⟩, e => ⟨V, h1.fro e, h2⟩
theorem Round.det (b2 : 2 ≤ b) : ∀ {rs : List CRu} {T T' U U' : Tri}, AllHd b rs → Round b rs T U → Round b rs T' U' → Eq3 b T T' → Eq3 b U U'
  | [], _, _, _, _, _, h, h', e => h.symm.trans (e.trans h')
  | r :: rs, _, _, _, _, ha, ⟨V, h1, h2⟩, ⟨V', h1', h2'⟩, e => Round.det b2 (fun r h => ha r (List.mem_cons_of_mem _ h)) h2 h2' (Wid.det b2 (ha r (List.mem_cons_self ..)) h1 h1' e)
theorem Round.shift : ∀ {rs : List CRu} {T U : Tri}, Round b rs T U → ∀ c : Int, Round b rs (T.1, T.2.1, T.2.2 + c) (U.1, U.2.1, U.2.2 + c)
  | [], _, _, h, c => Eq3.shift h c
  | _ :: _, _, _, ⟨V, h1, h2⟩, c => ⟨(V.1, V.2.1, V.2.2 + c), h1.shift c, Round.shift h2 c⟩
theorem Round.snoc : ∀ {rs : List CRu} {T U W : Tri} {r : CRu}, Round b rs T U → Wid b r.1 r.2 U W → Round b (rs ++ [r]) T W
  | [], _, _, W, _, h, w => ⟨W, w.fro h, Eq3.refl b W⟩
  | _ :: _, _, _, _, _, ⟨V, h1, h2⟩, w => ⟨V, h1, Round.snoc h2 w⟩
def Rounds (b : Int) (rs : List CRu) : Nat → Tri → Tri → Prop
  | 0, T, U => Eq3 b T U
  | n + 1, T, U => ∃ V, Rounds b rs n T V ∧ Round b rs V U
theorem Rounds.to {rs : List CRu} : ∀ {n : Nat} {T U U' : Tri}, Rounds b rs n T U → Eq3 b U U' → Rounds b rs n T U'
  | 0, _, _, _, h, e => Eq3.trans h e
  | _ + 1, _, _, _, ⟨V, h1, h2⟩, e => ⟨V, h1, h2.to e⟩
theorem Rounds.det (b2 : 2 ≤ b) {rs : List CRu} (ha : AllHd b rs) : ∀ {n : Nat} {T T' U U' : Tri}, Rounds b rs n T U → Rounds b rs n T' U' → Eq3 b T T' → Eq3 b U U'
  | 0, _, _, _, _, h, h', e => h.symm.trans (e.trans h')
  | _ + 1, _, _, _, _, ⟨V, h1, h2⟩, ⟨V', h1', h2'⟩, e => Round.det b2 ha h2 h2' (Rounds.det b2 ha h1 h1' e)
theorem Rounds.app {rs : List CRu} {m : Nat} : ∀ {n : Nat} {T V U : Tri}, Rounds b rs m T V → Rounds b rs n V U → Rounds b rs (m + n) T U
  | 0, _, _, _, h, g => h.to g
  | _ + 1, _, _, _, h, ⟨W, g1, g2⟩ => ⟨W, Rounds.app h g1, g2⟩
theorem Rounds.fix {rs : List CRu} {T : Tri} (h : Round b rs T T) : ∀ n : Nat, Rounds b rs n T T
  | 0 => Eq3.refl b T
  | n + 1 => ⟨T, Rounds.fix h n, h⟩
end
/-- bounds of a widened range -/
structure Cov (b : Int) (ms : List Int) (most : Int) : Prop where
  b2 : 2 ≤ b
  b10 : b ≤ 10
  m2 : 2 ≤ most
  m6 : most ≤ 6
  ne : ms ≠ []
  le : ms.length ≤ 4
  nd : ms.Nodup
  all : ∀ m ∈ ms, 1 ≤ m ∧ m ≤ 25 ∧ m % b ≠ 0
section
variable {b : Int} {ms : List Int} {most : Int}
theorem Cov.hd (C : Cov b ms most) : ∀ m ∈ ms, 1 ≤ m ∧ m % b ≠ 0 := fun m h => ⟨(C.all m h).1, (C.all m h).2.2⟩
/-- the least step is not finer than that -/
theorem Cov.fine (C : Cov b ms most) {l h m q : Int} (lt : l < h) (L : LeastFit b ms .cov most l h 0 m q) : (b : Int) ^ (-q).toNat ≤ 150 := by
  obtain ⟨m1, m25, _⟩ := C.all m L.mem
  have b1 : 1 ≤ b := by have := C.b2; omega
  by_cases c : 0 ≤ q
  · rw [show (-q).toNat = 0 by omega, Int.pow_zero]
    decide
  · have f := L.fit
    rw [Int.add_zero] at f
    unfold FitE facZ sizZ at f
    rw [if_neg c, if_neg c] at f
    have f : h * b ^ (-q).toNat ≤ (l * b ^ (-q).toNat / m + most) * m := f
    obtain ⟨d1, d2⟩ := div_facts (l * b ^ (-q).toNat) (show 0 < m by omega)
    rw [Int.add_mul, Int.mul_comm (l * b ^ (-q).toNat / m)] at f
    have g : (h - l) * b ^ (-q).toNat ≤ most * m := by
      rw [Int.sub_mul]
      omega
    have p1 := pow_pos' b1 (-q).toNat
    have g2 := Int.mul_le_mul_of_nonneg_right (show 1 ≤ h - l by omega) (show 0 ≤ b ^ (-q).toNat by omega)
    have g3 := Int.mul_le_mul C.m6 m25 (by omega) (by decide)
    omega
/-- nor coarser than that -/
theorem Cov.coarse (C : Cov b ms most) {l h m q : Int} (lt : l < h) (L : LeastFit b ms .cov most l h 0 m q) (q0 : 0 ≤ q) : sizZ b m q ≤ 250 * (h - l) := by
  obtain ⟨m1, m25, _⟩ := C.all m L.mem
  have b1 : 1 ≤ b := by have := C.b2; omega
  obtain ⟨g1, g2⟩ := lg_spec (b := b) (m := h - l) C.b2 (by omega)
  -- the power just above the length fits
  have fit : FitE b .cov most l h m ((lg b (h - l) + 1 : Nat) + 0 : Int) := by
    rw [Int.add_zero]
    unfold FitE facZ sizZ
    rw [if_pos (by omega), if_pos (by omega), Int.mul_one, Int.mul_one, Int.toNat_natCast]
    have p1 := pow_pos' b1 (lg b (h - l) + 1)
    have := Int.mul_le_mul_of_nonneg_right m1 (show 0 ≤ b ^ (lg b (h - l) + 1) by omega)
    exact fit_big (k := .cov) (by have := C.m2; omega) (fun _ => C.m2) (by omega) (by omega)
  have le := least_gen L L.mem fit (N := 0) (by omega) (by omega)
  unfold szN at le
  rw [Int.zero_add, Int.zero_add, Int.toNat_natCast] at le
  unfold sizZ
  rw [if_pos q0]
  refine Int.le_trans le ?_
  rw [Int.pow_succ, ← Int.mul_assoc]
  have p1 := pow_pos' b1 (lg b (h - l))
  have e1 : m * b ^ lg b (h - l) ≤ 25 * (h - l) := Int.mul_le_mul m25 g1 (by omega) (by decide)
  have e2 := Int.mul_le_mul e1 C.b10 (by omega) (by omega)
  omega
theorem Cov.wide (C : Cov b ms most) {l h m q : Int} (lt : l < h) (L : LeastFit b ms .cov most l h 0 m q) {M : Int} (hl : -M ≤ l) (hh : h ≤ M) :
    wLo b l m q < wHi b h m q ∧ -(1024 * M) ≤ wLo b l m q ∧ wHi b h m q ≤ 1024 * M ∧ (-q).toNat ≤ 7 := by
  obtain ⟨m1, m25, _⟩ := C.all m L.mem
  have b1 : 1 ≤ b := by have := C.b2; omega
  have s1 := siz_pos (b := b) (m := m) (e := q) b1 m1
  have fine := C.fine lt L
  have n7 : (-q).toNat ≤ 7 := by
    apply Nat.le_of_lt_succ
    apply Nat.lt_of_not_le
    intro c
    have h1 := pow_base_le (a := 2) (b := b) (by decide) C.b2 (-q).toNat
    have h2 := pow_le' (b := 2) (by decide) c
    have h3 : (2 : Int) ^ 8 = 256 := by decide
    omega
  have fz : 1 ≤ facZ b q ∧ facZ b q ≤ 150 := by
    unfold facZ
    split
    · exact ⟨by decide, by decide⟩
    · exact ⟨pow_pos' b1 _, fine⟩
  have sz : sizZ b m q ≤ 250 * (h - l) := by
    by_cases c : 0 ≤ q
    · exact C.coarse lt L c
    · unfold sizZ
      rw [if_neg c]
      omega
  obtain ⟨d1, d2⟩ := div_facts (l * facZ b q) (show 0 < sizZ b m q by omega)
  obtain ⟨c1, c2⟩ := ceil_facts (h * facZ b q) (show 0 < sizZ b m q by omega)
  have f := L.fit
  rw [Int.add_zero] at f
  unfold FitE at f
  have f : h * facZ b q ≤ (l * facZ b q / sizZ b m q + most) * sizZ b m q := f
  have M1 : 0 ≤ M := by omega
  have g1 : -(150 * M) ≤ l * facZ b q := by
    have a1 := Int.mul_le_mul_of_nonneg_right hl (show 0 ≤ facZ b q by omega)
    have a2 := Int.mul_le_mul_of_nonneg_left fz.2 M1
    rw [Int.neg_mul] at a1
    omega
  have g2 : h * facZ b q ≤ 150 * M := by
    have a1 := Int.mul_le_mul_of_nonneg_right hh (show 0 ≤ facZ b q by omega)
    have a2 := Int.mul_le_mul_of_nonneg_left fz.2 M1
    omega
  have g3 := (mul_lt_iff (c := facZ b q) (by omega)).mpr lt
  unfold wLo wHi
  rw [Int.mul_comm (l * facZ b q / sizZ b m q), Int.mul_comm (-(-(h * facZ b q) / sizZ b m q))]
  exact ⟨by omega, by omega, by omega, n7⟩
end
end Ax

namespace Ax
/-! # all steps of a rule about a length, in order; the first one that fits -/
abbrev Tz := Int × Int × Int
theorem sorted_split (s : Int) : ∀ {zs : List Tz}, zs.Pairwise (fun x y => x.1 ≤ y.1) →
    zs.take (zs.filter fun z => decide (z.1 < s)).length = zs.filter (fun z => decide (z.1 < s)) ∧ zs.drop (zs.filter fun z => decide (z.1 < s)).length = zs.filter (fun z => decide (s ≤ z.1))
  | [], _ => ⟨rfl, rfl⟩
  | z :: r, h => by
    have h2 := List.pairwise_cons.mp h
    obtain ⟨i1, i2⟩ := sorted_split s h2.2
    by_cases c : z.1 < s
    · have c2 : ¬ s ≤ z.1 := by omega
      rw [List.filter_cons, if_pos (decide_eq_true c), List.filter_cons, if_neg (by rw [decide_eq_false c2]; decide)]
      exact ⟨by rw [List.length_cons, List.take_succ_cons, i1], by rw [List.length_cons, List.drop_succ_cons, i2]⟩
    · have e : (z :: r).filter (fun z => decide (z.1 < s)) = [] := List.filter_eq_nil_iff.mpr fun x hx => by
        have : z.1 ≤ x.1 := by
          rcases List.mem_cons.mp hx with q | q
          · rw [q]
            exact Int.le_refl _
          · exact h2.1 x q
        rw [decide_eq_false (show ¬ x.1 < s by omega)]
        decide
      have e2 : (z :: r).filter (fun z => decide (s ≤ z.1)) = z :: r := List.filter_eq_self.mpr fun x hx => by
        have : z.1 ≤ x.1 := by
          rcases List.mem_cons.mp hx with q | q
          · rw [q]
            exact Int.le_refl _
          · exact h2.1 x q
        exact decide_eq_true (by omega)
      rw [e, e2]
      exact ⟨rfl, rfl⟩
/-- a new one put in at its place -/
def putIn (x : Tz) (zs : List Tz) : List Tz := zs.take (zs.filter fun z => decide (z.1 < x.1)).length ++ [x] ++ zs.drop (zs.filter fun z => decide (z.1 < x.1)).length
theorem putIn_sorted {x : Tz} {zs : List Tz} (h : zs.Pairwise fun x y => x.1 ≤ y.1) : (putIn x zs).Pairwise fun x y => x.1 ≤ y.1 := by
  obtain ⟨e1, e2⟩ := sorted_split x.1 h
  unfold putIn
  rw [e1, e2, List.append_assoc]
  refine List.pairwise_append.mpr ⟨h.filter _, List.pairwise_append.mpr ⟨List.pairwise_singleton _ _, h.filter _, ?_⟩, ?_⟩
  · intro a ha c hc
    rw [List.mem_singleton.mp ha]
    exact of_decide_eq_true (List.mem_filter.mp hc).2
  · intro a ha c hc
    have h1 : a.1 < x.1 := of_decide_eq_true (List.mem_filter.mp ha).2
    rcases List.mem_append.mp hc with q | q
    · rw [List.mem_singleton.mp q]
      omega
    · have h2 : x.1 ≤ c.1 := of_decide_eq_true (List.mem_filter.mp q).2
      omega
theorem putIn_mem {x z : Tz} {zs : List Tz} (h : zs.Pairwise fun x y => x.1 ≤ y.1) : z ∈ putIn x zs ↔ z = x ∨ z ∈ zs := by
  obtain ⟨e1, e2⟩ := sorted_split x.1 h
  unfold putIn
  rw [e1, e2]
  simp only [List.mem_append, List.mem_singleton, List.mem_filter, decide_eq_true_eq]
  constructor
  · rintro ((⟨a, _⟩ | a) | ⟨a, _⟩)
    · exact .inr a
    · exact .inl a
    · exact .inr a
  · rintro (a | a)
    · exact .inl (.inr a)
    · by_cases c : z.1 < x.1
      · exact .inl (.inl ⟨a, c⟩)
      · exact .inr ⟨a, by omega⟩
theorem putIn_len {x : Tz} {zs : List Tz} : (putIn x zs).length = zs.length + 1 := by
  unfold putIn
  rw [List.length_append, List.length_append, List.length_take, List.length_drop, List.length_singleton]
  have := List.length_filter_le (fun z : Tz => decide (z.1 < x.1)) zs
  omega
/-- the list about a length: powers from P0 up to below W, and of the next power the first heads -/
structure Szs (b : Int) (hs part : List Int) (P0 W : Nat) (zs : List Tz) : Prop where
  st : zs.Pairwise fun x y => x.1 ≤ y.1
  of : ∀ z ∈ zs, ∃ m, ∃ e : Nat, m ∈ hs ∧ P0 ≤ e ∧ (e < W ∨ (e = W ∧ m ∈ part)) ∧ z = (m * b ^ e, m, (e : Int))
  all : ∀ m ∈ hs, ∀ e : Nat, P0 ≤ e → e < W → (m * b ^ e, m, (e : Int)) ∈ zs
  nxt : ∀ m ∈ part, (m * b ^ W, m, (W : Int)) ∈ zs
theorem Szs.put {b : Int} {hs part : List Int} {P0 W : Nat} {zs : List Tz} (S : Szs b hs part P0 W zs) {m : Int} (hm : m ∈ hs) (hW : P0 ≤ W) : Szs b hs (part ++ [m]) P0 W (putIn (m * b ^ W, m, (W : Int)) zs) := by
  refine ⟨putIn_sorted S.st, fun z hz => ?_, fun n hn e h1 h2 => (putIn_mem S.st).mpr (.inr (S.all n hn e h1 h2)), fun n hn => ?_⟩
  · rcases (putIn_mem S.st).mp hz with q | q
    · exact ⟨m, W, hm, hW, .inr ⟨rfl, List.mem_append_right _ (List.mem_singleton.mpr rfl)⟩, q⟩
    · obtain ⟨n, e, h1, h2, h3, h4⟩ := S.of z q
      exact ⟨n, e, h1, h2, h3.imp id fun y => ⟨y.1, List.mem_append_left _ y.2⟩, h4⟩
  · rcases List.mem_append.mp hn with q | q
    · exact (putIn_mem S.st).mpr (.inr (S.nxt n q))
    · rw [List.mem_singleton.mp q]
      exact (putIn_mem S.st).mpr (.inl rfl)
theorem Szs.next {b : Int} {hs : List Int} {P0 W : Nat} {zs : List Tz} (S : Szs b hs hs P0 W zs) : Szs b hs [] P0 (W + 1) zs :=
  ⟨S.st, fun z hz => by
    obtain ⟨m, e, h1, h2, h3, h4⟩ := S.of z hz
    exact ⟨m, e, h1, h2, .inl (by omega), h4⟩, fun m hm e h1 h2 => by
    by_cases c : e = W
    · rw [c]
      exact S.nxt m hm
    · exact S.all m hm e h1 (by omega), fun _ h => nomatch h⟩
theorem Szs.nil {b : Int} {hs : List Int} {P0 : Nat} : Szs b hs [] P0 P0 [] :=
  ⟨.nil, fun _ h => (nomatch h), fun m _ e h1 h2 => absurd h2 (by omega), fun _ h => nomatch h⟩
/-- the whole list -/
structure Whole (b : Int) (hs : List Int) (L : Int) (zs : List Tz) : Prop where
  ex : ∃ P0 W : Nat, Szs b hs [] P0 W zs ∧ P0 < W ∧ 10 * b * L < b ^ W ∧ (P0 = 0 ∨ b ^ P0 * 225 < L)
section
variable {b most l h : Int} {hs : List Int} {k : Kd}
theorem fit_at {m : Int} {e : Nat} (b2 : 2 ≤ b) (m1 : 1 ≤ m) : FitE b k most l h m ((e : Int) - 9) ↔ h * b ^ 9 ≤ reachZ k most (l * b ^ 9) (m * b ^ e) := by
  have := fitE_N (b := b) (k := k) (most := most) (l := l) (h := h) (m := m) (e := (e : Int) - 9) (N := 9) (by omega) m1 (by decide) (by omega)
  rw [this]
  unfold szN
  rw [show ((9 : Int) + ((e : Int) - 9)).toNat = e by omega]
  exact Iff.rfl
/-- THE FIRST that fits is the least -/
theorem first_least {zs pre post : List Tz} {m e : Int} (Wh : Whole b hs ((h - l) * b ^ 9) zs) (b2 : 2 ≤ b) (lt : l < h) (m1 : 1 ≤ most) (m6 : most ≤ 6) (hc : k = .cov → 2 ≤ most) (hd : ∀ m ∈ hs, 1 ≤ m ∧ m ≤ 25) {s : Int}
    (ez : zs = pre ++ (s, m, e) :: post) (un : ∀ z ∈ pre, ¬ h * b ^ 9 ≤ reachZ k most (l * b ^ 9) z.1) (fit : h * b ^ 9 ≤ reachZ k most (l * b ^ 9) s) : LeastFit b hs k most l h 0 m (e - 9) := by
  obtain ⟨P0, W, S, PW, big, low⟩ := Wh.ex
  obtain ⟨m0, e0, hm, he, _, q⟩ := S.of (s, m, e) (by rw [ez]; simp)
  cases q
  have b1 : 1 ≤ b := by omega
  have st := S.st
  rw [ez] at st
  obtain ⟨_, st2, _⟩ := List.pairwise_append.mp st
  have after := (List.pairwise_cons.mp st2).1
  have p9 := pow_pos' (b := b) b1 9
  -- one that is in the list and smaller is ahead
  have ahead : ∀ z ∈ zs, z.1 < m * b ^ e0 → ¬ h * b ^ 9 ≤ reachZ k most (l * b ^ 9) z.1 := fun z hz c => by
    rw [ez] at hz
    rcases List.mem_append.mp hz with y | y
    · exact un z y
    · rcases List.mem_cons.mp y with y | y
      · rw [y] at c
        exact absurd c (Int.lt_irrefl _)
      · have := after z y
        have this : m * b ^ e0 ≤ z.1 := this
        omega
  refine ⟨hm, by rw [Int.add_zero]; exact (fit_at b2 (hd m hm).1).mpr fit, fun m' hm' p' hs' hf => ?_⟩
  rw [Int.add_zero] at hf
  obtain ⟨n1, n25⟩ := hd m' hm'
  by_cases c1 : p' + 9 < P0
  · -- too small
    obtain ⟨N, hN⟩ : ∃ N : Int, N = 9 + p'.natAbs := ⟨_, rfl⟩
    have hf' := (fitE_N b1 n1 (N := N) (by omega) (by omega)).mp hf
    refine fit_small ?_ ?_ hf'
    · unfold szN
      rw [← Int.sub_mul]
      have eN : N.toNat = 9 + (N - 9).toNat := by omega
      rw [eN, pow_add']
      have asc : (h - l) * (b ^ 9 * b ^ (N - 9).toNat) = (h - l) * b ^ 9 * b ^ (N - 9).toNat := (Int.mul_assoc ..).symm
      have pN := pow_pos' (b := b) b1 (N - 9).toNat
      have pp := pow_pos' (b := b) b1 (N + p').toNat
      have L1 : 1 ≤ h - l := by omega
      have s1 : (most + 1) * (m' * b ^ (N + p').toNat) ≤ 175 * b ^ (N + p').toNat := by
        rw [← Int.mul_assoc]
        refine Int.mul_le_mul_of_nonneg_right ?_ (by omega)
        have := Int.mul_le_mul (show most + 1 ≤ 7 by omega) n25 (by omega) (by decide)
        omega
      rcases low with z | z
      · have e1 : b ^ (N + p').toNat ≤ b ^ (N - 9).toNat := pow_le' b1 (by omega)
        have q1 := pow_base_le (a := 2) (b := b) (by decide) b2 9
        have q2 : (2 : Int) ^ 9 = 512 := by decide
        have q3 := Int.mul_le_mul (show (175 : Int) ≤ b ^ 9 by omega) e1 (by omega) (by omega)
        have q4 := Int.mul_le_mul_of_nonneg_right L1 (show 0 ≤ b ^ 9 by omega)
        have q5 := Int.mul_le_mul_of_nonneg_right q4 (show 0 ≤ b ^ (N - 9).toNat by omega)
        rw [Int.one_mul] at q5
        omega
      · have e1 : b ^ (N + p').toNat ≤ b ^ (P0 + (N - 9).toNat) := pow_le' b1 (by omega)
        rw [pow_add'] at e1
        have pP := pow_pos' (b := b) b1 P0
        have q3 := Int.mul_le_mul_of_nonneg_left e1 (show (0 : Int) ≤ 175 by decide)
        have q6 : 175 * b ^ P0 ≤ (h - l) * b ^ 9 := by omega
        have q7 := Int.mul_le_mul_of_nonneg_right q6 (show 0 ≤ b ^ (N - 9).toNat by omega)
        rw [Int.mul_assoc] at q7
        omega
    · have := szN_pos (b := b) (N := N) (m := m') (p := p') b1 n1
      omega
  · obtain ⟨E, hE⟩ : ∃ E : Nat, (E : Int) = p' + 9 := ⟨(p' + 9).toNat, by omega⟩
    have lt2 : m' * b ^ E < m * b ^ e0 := by
      have := hs'.at b1 (M := 9) (by show 0 ≤ 9 + p'; omega) (by show 0 ≤ 9 + ((e0 : Int) - 9); omega)
      unfold szN at this
      have this : m' * b ^ ((9 : Int) + p').toNat < m * b ^ ((9 : Int) + ((e0 : Int) - 9)).toNat := this
      rw [show ((9 : Int) + p').toNat = E by omega, show ((9 : Int) + ((e0 : Int) - 9)).toNat = e0 by omega] at this
      exact this
    by_cases c2 : E < W
    · have hz := S.all m' hm' E (by omega) c2
      refine ahead _ hz lt2 ?_
      rw [show p' = (E : Int) - 9 by omega] at hf
      exact (fit_at b2 n1).mp hf
    · -- a great one is not smaller
      have hz := S.all m' hm' (W - 1) (by omega) (by omega)
      have f1 : h * b ^ 9 ≤ reachZ k most (l * b ^ 9) (m' * b ^ (W - 1)) := by
        have pw := pow_pos' (b := b) b1 (W - 1)
        have eW : b ^ W = b ^ (W - 1) * b := by
          rw [← Int.pow_succ]
          congr 1
          omega
        have q1 : 10 * ((h - l) * b ^ 9) < b ^ (W - 1) := by
          rw [eW, Int.mul_comm 10 b, Int.mul_assoc, Int.mul_comm (b ^ (W - 1)) b] at big
          exact Int.lt_of_mul_lt_mul_left big (by omega)
        have q2 := Int.mul_le_mul_of_nonneg_right n1 (show 0 ≤ b ^ (W - 1) by omega)
        have q3 := Int.mul_le_mul_of_nonneg_right (show 1 ≤ h - l by omega) (show 0 ≤ b ^ 9 by omega)
        refine fit_big m1 hc ?_ (by omega)
        rw [← Int.sub_mul]
        omega
      have le : m' * b ^ (W - 1) ≤ m' * b ^ E := Int.mul_le_mul_of_nonneg_left (pow_le' b1 (by omega)) (by omega)
      exact ahead _ hz (by show m' * b ^ (W - 1) < _; omega) f1
/-- there is one -/
theorem some_fit {zs : List Tz} (Wh : Whole b hs ((h - l) * b ^ 9) zs) (b2 : 2 ≤ b) (lt : l < h) (m1 : 1 ≤ most) (hc : k = .cov → 2 ≤ most) (hd : ∀ m ∈ hs, 1 ≤ m ∧ m ≤ 25) (ne : hs ≠ []) : ∃ z ∈ zs, h * b ^ 9 ≤ reachZ k most (l * b ^ 9) z.1 := by
  obtain ⟨P0, W, S, PW, big, low⟩ := Wh.ex
  obtain ⟨m', r, e⟩ : ∃ m' r, hs = m' :: r := by
    cases hs with
    | nil => exact absurd rfl ne
    | cons x r => exact ⟨x, r, rfl⟩
  have hm' : m' ∈ hs := by rw [e]; exact List.mem_cons_self ..
  obtain ⟨n1, n25⟩ := hd m' hm'
  have b1 : 1 ≤ b := by omega
  refine ⟨_, S.all m' hm' (W - 1) (by omega) (by omega), ?_⟩
  have p9 := pow_pos' (b := b) b1 9
  have pw := pow_pos' (b := b) b1 (W - 1)
  have eW : b ^ W = b ^ (W - 1) * b := by
    rw [← Int.pow_succ]
    congr 1
    omega
  have q1 : 10 * ((h - l) * b ^ 9) < b ^ (W - 1) := by
    rw [eW, Int.mul_comm 10 b, Int.mul_assoc, Int.mul_comm (b ^ (W - 1)) b] at big
    exact Int.lt_of_mul_lt_mul_left big (by omega)
  have q2 := Int.mul_le_mul_of_nonneg_right n1 (show 0 ≤ b ^ (W - 1) by omega)
  have q3 := Int.mul_le_mul_of_nonneg_right (show 1 ≤ h - l by omega) (show 0 ≤ b ^ 9 by omega)
  show h * b ^ 9 ≤ reachZ k most (l * b ^ 9) (m' * b ^ (W - 1))
  refine fit_big m1 hc ?_ (by omega)
  rw [← Int.sub_mul]
  omega
end
end Ax

namespace Ax
/-! # the sizes about a length, head by head; the first one that fits -/
structure CSz (b most L : Int) (hs part : List Int) (zs : List Tz) : Prop where
  st : zs.Pairwise fun x y => x.1 ≤ y.1
  of : ∀ z ∈ zs, ∃ m, ∃ e : Nat, m ∈ hs ∧ z = (m * b ^ e, m, (e : Int))
  all : ∀ m ∈ part, ∃ P : Nat, (P = 0 ∨ m * b ^ (P - 1) * most < L) ∧ L ≤ m * b ^ P * most ∧ ∀ e : Nat, P ≤ e → e < P + 4 → (m * b ^ e, m, (e : Int)) ∈ zs
/-- a head's sizes on the way in: from P up to below P + j -/
structure CPut (b most L : Int) (hs part : List Int) (m : Int) (P j : Nat) (zs : List Tz) : Prop where
  base : CSz b most L hs part zs
  now : ∀ e : Nat, P ≤ e → e < P + j → (m * b ^ e, m, (e : Int)) ∈ zs
section
variable {b most L : Int} {hs part : List Int} {zs : List Tz}
theorem CSz.nil : CSz b most L hs [] [] := ⟨.nil, fun _ h => (nomatch h), fun _ h => nomatch h⟩
theorem CSz.begin {m : Int} {P : Nat} (S : CSz b most L hs part zs) : CPut b most L hs part m P 0 zs := ⟨S, fun e h1 h2 => absurd h2 (by omega)⟩
theorem CPut.put {m : Int} {P j : Nat} (S : CPut b most L hs part m P j zs) (hm : m ∈ hs) : CPut b most L hs part m P (j + 1) (putIn (m * b ^ (P + j), m, ((P + j : Nat) : Int)) zs) := by
  obtain ⟨S, nw⟩ := S
  refine ⟨⟨putIn_sorted S.st, fun z hz => ?_, fun n hn => ?_⟩, fun e h1 h2 => (putIn_mem S.st).mpr ?_⟩
  · rcases (putIn_mem S.st).mp hz with q | q
    · exact ⟨m, P + j, hm, q⟩
    · exact S.of z q
  · obtain ⟨P', a, c, d⟩ := S.all n hn
    exact ⟨P', a, c, fun e h1 h2 => (putIn_mem S.st).mpr (.inr (d e h1 h2))⟩
  · by_cases c : e = P + j
    · rw [c]
      exact .inl rfl
    · exact .inr (nw e h1 (by omega))
theorem CPut.done {m : Int} {P : Nat} (S : CPut b most L hs part m P 4 zs) (h1 : P = 0 ∨ m * b ^ (P - 1) * most < L) (h2 : L ≤ m * b ^ P * most) : CSz b most L hs (part ++ [m]) zs := by
  obtain ⟨S, nw⟩ := S
  refine ⟨S.st, S.of, fun n hn => ?_⟩
  rcases List.mem_append.mp hn with q | q
  · exact S.all n q
  · rw [List.mem_singleton.mp q]
    exact ⟨P, h1, h2, nw⟩
end
section
variable {b most l h : Int} {hs : List Int}
theorem fit12 {m : Int} {e : Nat} (b1 : 1 ≤ b) (m1 : 1 ≤ m) : FitE b .cov most l h m ((e : Int) - 12) ↔ h * b ^ 12 ≤ reachZ .cov most (l * b ^ 12) (m * b ^ e) := by
  have := fitE_N (b := b) (k := .cov) (most := most) (l := l) (h := h) (m := m) (e := (e : Int) - 12) (N := 12) b1 m1 (by decide) (by omega)
  rw [this]
  unfold szN
  rw [show ((12 : Int) + ((e : Int) - 12)).toNat = e by omega]
  exact Iff.rfl
/-- by the count of the gaps -/
theorem fit_gaps {x y s : Int} (hs : 0 < s) : y ≤ reachZ .cov most x s ↔ (0 - (0 - y) / s) - x / s ≤ most := by
  show y ≤ (x / s + most) * s ↔ _
  have a := le_div_iff hs (x := -(x / s + most)) (y := -y)
  rw [Int.neg_mul] at a
  rw [show 0 - y = -y by omega]
  omega
theorem no_fit {x y s : Int} (hs : 0 < s) (h : s * most < y - x) : ¬ y ≤ reachZ .cov most x s := by
  intro q
  have q : y ≤ (x / s + most) * s := q
  obtain ⟨d1, d2⟩ := div_facts x hs
  rw [Int.add_mul, Int.mul_comm (x / s), Int.mul_comm most] at q
  omega
theorem does_fit {x y s b m : Int} (b2 : 2 ≤ b) (m2 : 2 ≤ most) (hs : 1 ≤ s) (lt : x < y) (h : y - x ≤ s * most) : y ≤ reachZ .cov most x (s * b) := by
  show y ≤ (x / (s * b) + most) * (s * b)
  have sb : s * 2 ≤ s * b := Int.mul_le_mul_of_nonneg_left b2 (by omega)
  obtain ⟨d1, d2⟩ := div_facts x (show 0 < s * b by omega)
  rw [Int.add_mul, Int.mul_comm (x / (s * b))]
  -- most - 1 of them are long enough
  have e1 : s * most ≤ (most - 1) * (s * b) := by
    have t1 := Int.mul_le_mul_of_nonneg_left sb (show 0 ≤ most - 1 by omega)
    have t2 : (most - 1) * (s * 2) = s * most + s * (most - 2) := by
      rw [Int.mul_comm (most - 1), Int.mul_assoc, ← Int.mul_add]
      congr 1
      omega
    have t3 := Int.mul_nonneg (show 0 ≤ s by omega) (show 0 ≤ most - 2 by omega)
    omega
  rw [Int.sub_mul, Int.one_mul] at e1
  omega
theorem first12 {zs pre post : List Tz} {m e s : Int} (S : CSz b most ((h - l) * b ^ 12) hs hs zs) (b2 : 2 ≤ b) (lt : l < h) (m2 : 2 ≤ most) (m6 : most ≤ 6) (hd : ∀ m ∈ hs, 1 ≤ m ∧ m ≤ 25)
    (ez : zs = pre ++ (s, m, e) :: post) (un : ∀ z ∈ pre, ¬ h * b ^ 12 ≤ reachZ .cov most (l * b ^ 12) z.1) (fit : h * b ^ 12 ≤ reachZ .cov most (l * b ^ 12) s) :
    LeastFit b hs .cov most l h 0 m (e - 12) ∧ m ∈ hs ∧ ∃ n : Nat, e = n ∧ s = m * b ^ n := by
  obtain ⟨m0, e0, hm, q⟩ := S.of (s, m, e) (by rw [ez]; simp)
  cases q
  have b1 : 1 ≤ b := by omega
  refine ⟨?_, hm, e0, rfl, rfl⟩
  have st := S.st
  rw [ez] at st
  obtain ⟨_, st2, _⟩ := List.pairwise_append.mp st
  have after := (List.pairwise_cons.mp st2).1
  have p12 := pow_pos' (b := b) b1 12
  have ahead : ∀ z ∈ zs, z.1 < m * b ^ e0 → ¬ h * b ^ 12 ≤ reachZ .cov most (l * b ^ 12) z.1 := fun z hz c => by
    rw [ez] at hz
    rcases List.mem_append.mp hz with y | y
    · exact un z y
    · rcases List.mem_cons.mp y with y | y
      · rw [y] at c
        exact absurd c (Int.lt_irrefl _)
      · have := after z y
        have this : m * b ^ e0 ≤ z.1 := this
        omega
  refine ⟨hm, by rw [Int.add_zero]; exact (fit12 b1 (hd m hm).1).mpr fit, fun m' hm' p' hs' hf => ?_⟩
  rw [Int.add_zero] at hf
  obtain ⟨n1, n25⟩ := hd m' hm'
  obtain ⟨P, low, high, at_⟩ := S.all m' hm'
  have small : ∀ E : Nat, (E : Int) = p' + 12 → m' * b ^ E < m * b ^ e0 := fun E hE => by
    have := hs'.at b1 (M := 12) (by show 0 ≤ 12 + p'; omega) (by show 0 ≤ 12 + ((e0 : Int) - 12); omega)
    unfold szN at this
    have this : m' * b ^ ((12 : Int) + p').toNat < m * b ^ ((12 : Int) + ((e0 : Int) - 12)).toNat := this
    rw [show ((12 : Int) + p').toNat = E by omega, show ((12 : Int) + ((e0 : Int) - 12)).toNat = e0 by omega] at this
    exact this
  have hL : h * b ^ 12 - l * b ^ 12 = (h - l) * b ^ 12 := (Int.sub_mul ..).symm
  have hLt : l * b ^ 12 < h * b ^ 12 := (mul_lt_iff (by omega)).mpr lt
  by_cases c0 : p' + 12 < 0
  · -- finer than all
    have f := hf
    unfold FitE facZ sizZ at f
    rw [if_neg (by omega), if_neg (by omega)] at f
    refine no_fit (by omega) ?_ f
    rw [← Int.sub_mul]
    have g1 := pow_le' b1 (show 12 ≤ (-p').toNat by omega)
    have g2 := pow_base_le (a := 2) (b := b) (by decide) b2 12
    have g3 : (2 : Int) ^ 12 = 4096 := by decide
    have g4 := Int.mul_le_mul_of_nonneg_right (show 1 ≤ h - l by omega) (show 0 ≤ b ^ (-p').toNat by omega)
    have g5 := Int.mul_le_mul n25 m6 (by omega) (by decide)
    omega
  · obtain ⟨E, hE⟩ : ∃ E : Nat, (E : Int) = p' + 12 := ⟨(p' + 12).toNat, by omega⟩
    have lt2 := small E hE
    rw [show p' = (E : Int) - 12 by omega] at hf
    have hf := (fit12 b1 n1).mp hf
    have pE := pow_pos' b1 E
    have sE : 1 ≤ m' * b ^ E := by
      have := Int.mul_le_mul_of_nonneg_right n1 (show 0 ≤ b ^ E by omega)
      omega
    by_cases c1 : E < P
    · rcases low with z | z
      · omega
      · refine no_fit (by omega) ?_ hf
        rw [hL]
        have t := Int.mul_le_mul_of_nonneg_left (pow_le' b1 (show E ≤ P - 1 by omega)) (show 0 ≤ m' by omega)
        have t2 := Int.mul_le_mul_of_nonneg_right t (show 0 ≤ most by omega)
        omega
    · by_cases c2 : E < P + 4
      · exact ahead _ (at_ E (by omega) c2) lt2 hf
      · have hz := at_ (P + 1) (by omega) (by omega)
        have pP := pow_pos' b1 P
        have sP : 1 ≤ m' * b ^ P := by
          have := Int.mul_le_mul_of_nonneg_right n1 (show 0 ≤ b ^ P by omega)
          omega
        have f1 : h * b ^ 12 ≤ reachZ .cov most (l * b ^ 12) (m' * b ^ (P + 1)) := by
          rw [Int.pow_succ b P, ← Int.mul_assoc]
          exact does_fit (m := m') (b := b) b2 m2 sP hLt (by rw [hL]; exact high)
        have le : m' * b ^ (P + 1) ≤ m' * b ^ E := Int.mul_le_mul_of_nonneg_left (pow_le' b1 (by omega)) (by omega)
        exact ahead _ hz (by show m' * b ^ (P + 1) < _; omega) f1
theorem some12 {zs : List Tz} (S : CSz b most ((h - l) * b ^ 12) hs hs zs) (b2 : 2 ≤ b) (lt : l < h) (m2 : 2 ≤ most) (hd : ∀ m ∈ hs, 1 ≤ m ∧ m ≤ 25) (ne : hs ≠ []) : ∃ z ∈ zs, h * b ^ 12 ≤ reachZ .cov most (l * b ^ 12) z.1 := by
  obtain ⟨m', r, e⟩ : ∃ m' r, hs = m' :: r := by
    cases hs with
    | nil => exact absurd rfl ne
    | cons x r => exact ⟨x, r, rfl⟩
  have hm' : m' ∈ hs := by rw [e]; exact List.mem_cons_self ..
  obtain ⟨n1, n25⟩ := hd m' hm'
  obtain ⟨P, low, high, at_⟩ := S.all m' hm'
  have b1 : 1 ≤ b := by omega
  have p12 := pow_pos' (b := b) b1 12
  have pP := pow_pos' b1 P
  have sP : 1 ≤ m' * b ^ P := by
    have := Int.mul_le_mul_of_nonneg_right n1 (show 0 ≤ b ^ P by omega)
    omega
  refine ⟨_, at_ (P + 1) (by omega) (by omega), ?_⟩
  show h * b ^ 12 ≤ reachZ .cov most (l * b ^ 12) (m' * b ^ (P + 1))
  rw [Int.pow_succ b P, ← Int.mul_assoc]
  exact does_fit (m := m') (b := b) b2 m2 sP ((mul_lt_iff (by omega)).mpr lt) (by rw [← Int.sub_mul]; exact high)
/-- what the law's widening tells is the widened range -/
theorem wid12 {m : Int} {n : Nat} (b1 : 1 ≤ b) (m1 : 1 ≤ m) {d : Int} : Eq3 b (wTri b m ((n : Int) - 12) (l, h, d)) (l * b ^ 12 / (m * b ^ n) * (m * b ^ n), (0 - (0 - h * b ^ 12) / (m * b ^ n)) * (m * b ^ n), d + 12) := by
  have s := (wTri_scale (b := b) (m := m) (q := (n : Int) - 12) b1 m1 12 (l, h, d)).symm
  have e : wTri b m ((n : Int) - 12 + ((12 : Nat) : Int)) (l * b ^ 12, h * b ^ 12, d + ((12 : Nat) : Int)) = (l * b ^ 12 / (m * b ^ n) * (m * b ^ n), (0 - (0 - h * b ^ 12) / (m * b ^ n)) * (m * b ^ n), d + 12) := by
    unfold wTri wLo wHi facZ sizZ
    rw [show ((n : Int) - 12 + ((12 : Nat) : Int)) = n by omega, if_pos (by omega), if_pos (by omega), Int.toNat_natCast, Int.mul_one, Int.mul_one, show (-(n : Int)).toNat = 0 by omega, show 0 - (0 - h * b ^ 12) / (m * b ^ n) = -(-(h * b ^ 12) / (m * b ^ n)) by rw [show 0 - h * b ^ 12 = -(h * b ^ 12) by omega]; omega]
    rw [show d + ((12 : Nat) : Int) + ((0 : Nat) : Int) = d + 12 by omega]
  rw [e] at s
  exact s
end
end Ax
namespace Ax
theorem Red.small {b : Int} {T U : Tri} (b1 : 1 ≤ b) (e : Eq3 b T U) (r : Red b T) (d0 : 0 ≤ U.2.2) (lt : U.1 < U.2.1) {M : Int} (hl : -M ≤ U.1) (hh : U.2.1 ≤ M) : T.1 < T.2.1 ∧ -M ≤ T.1 ∧ T.2.1 ≤ M ∧ T.2.2 ≤ U.2.2 := by
  obtain ⟨i, j, h1, h2, h3⟩ := e
  obtain ⟨l, h, d⟩ := T
  obtain ⟨l', h', d'⟩ := U
  obtain ⟨r1, r2⟩ := r
  have h1 : l * b ^ i = l' * b ^ j := h1
  have h2 : h * b ^ i = h' * b ^ j := h2
  have h3 : d + i = d' + j := h3
  have r1 : 0 ≤ d := r1
  have r2 : d = 0 ∨ ¬ (l % b = 0 ∧ h % b = 0) := r2
  have d0 : 0 ≤ d' := d0
  have lt : l' < h' := lt
  have hl : -M ≤ l' := hl
  have hh : h' ≤ M := hh
  have can : ∀ {x y : Int} {m n : Nat}, m ≤ n → x * b ^ m = y * b ^ n → x = y * b ^ (n - m) := fun {x y m n} le e => by
    refine mul_cancel (pow_pos' b1 m) ?_
    rw [mul_pow3, show n - m + m = n by omega]
    exact e
  have ij : j ≤ i := by
    apply Nat.le_of_not_lt
    intro c
    have e1 := can (Nat.le_of_lt c) h1
    have e2 := can (Nat.le_of_lt c) h2
    rcases r2 with z | z
    · omega
    · exact absurd ⟨dvd_pow_pos (by omega) e1, dvd_pow_pos (by omega) e2⟩ z
  have e1 := can ij h1.symm
  have e2 := can ij h2.symm
  have p := pow_pos' b1 (i - j)
  have big : ∀ x : Int, x.natAbs ≤ (x * b ^ (i - j)).natAbs := fun x => by
    rw [Int.natAbs_mul]
    exact Nat.le_mul_of_pos_right _ (by omega)
  have g1 := big l
  have g2 := big h
  rw [← e1] at g1
  rw [← e2] at g2
  have lt2 : l < h := by
    rw [e1, e2] at lt
    exact (mul_lt_iff (by omega)).mp lt
  exact ⟨lt2, by show -M ≤ l; omega, by show h ≤ M; omega, by show d ≤ d'; omega⟩
end Ax

namespace Ax
open PySem L2
theorem gN {i : Nat} {v : V} {σ σ' : L2.St} {H : Hp} {Q : L2.St → Hp → Prop} (e : σ.set i (some v) = σ') (h : Q σ' H) : gName i v σ H Q := by
  subst e
  exact h
theorem norm2 {F : L2.St → Hp → Prop} {σ σ' : L2.St} {H : Hp} (e : σ = σ') (h : F σ' H) : F σ H := by
  subst e
  exact h
theorem norm3 {F : L2.St → Hp → Prop} {σ σ' : L2.St} {H H' : Hp} (e : σ = σ') (e2 : H = H') (h : F σ' H') : F σ H := by
  subst e
  subst e2
  exact h
section
variable {P : Program} {w : World} {K : PySem.W.Frag} {mg : Str → Option Value} {base : Heap} {A : Adr}
/-! ### properties -/
def spPB (A : Adr) : Sp := fun vs H Q _ => ∃ (r : Addr) (b : Int) (k : Kd) (ms : List Int) (most : Int) (D : RD), vs = [.ref r] ∧ RX A.c_Rule H r b k ms most D ∧ Q (.int b) H
def spPK (A : Adr) : Sp := fun vs H Q _ => ∃ (r : Addr) (b : Int) (k : Kd) (ms : List Int) (most : Int) (D : RD), vs = [.ref r] ∧ RX A.c_Rule H r b k ms most D ∧ Q (.str k.s) H
abbrev nm_Rule_base : List Str := ["self"]
theorem sc_Rule_base : FnScope ["self"] ["self"] (defScope s_Rule_base) := ⟨rfl, rfl, rfl, by decide +kernel, rfl, by decide +kernel, by decide +kernel⟩
abbrev nm_Rule_kind : List Str := ["self"]
theorem sc_Rule_kind : FnScope ["self"] ["self"] (defScope s_Rule_kind) := ⟨rfl, rfl, rfl, by decide +kernel, rfl, by decide +kernel, by decide +kernel⟩
theorem ok_pb (T : Txt K mg A w) : FnOk P w K mg base CX0 1 A.a_Rule_base A.d_Rule_base ["self"] (spPB A) := by
  refine T.F_Rule_base.ok sc_Rule_base (fun vs H Q E h => ?_) (fun cdv A0 outer s H vs Q E hr h => ?_)
  · obtain ⟨r, b, k, ms, most, D, rfl, _⟩ := h
    rfl
  · obtain ⟨r, b, k, ms, most, D, rfl, x, q⟩ := h
    refine ⟨_, (pss_one (ps_ret (pe_fld (pv 0) rfl))), ?_⟩
    exact ⟨_, rfl, r, A.c_Rule, D.dx, _, _, rfl, x.at_, T.cl, T.na_base, rf_base _ _ _ _ _ _, q⟩
theorem ok_pk (T : Txt K mg A w) : FnOk P w K mg base CX0 1 A.a_Rule_kind A.d_Rule_kind ["self"] (spPK A) := by
  refine T.F_Rule_kind.ok sc_Rule_kind (fun vs H Q E h => ?_) (fun cdv A0 outer s H vs Q E hr h => ?_)
  · obtain ⟨r, b, k, ms, most, D, rfl, _⟩ := h
    rfl
  · obtain ⟨r, b, k, ms, most, D, rfl, x, q⟩ := h
    refine ⟨_, (pss_one (ps_ret (pe_fld (pv 0) rfl))), ?_⟩
    exact ⟨_, rfl, r, A.c_Rule, D.dx, _, _, rfl, x.at_, T.cl, T.na_kind, rf_kind _ _ _ _ _ _, q⟩
/-! ### check_number, _check_span -/
def spCS : Sp := fun vs H Q _ => ∃ (t : Addr) (l h d : Int), vs = [.ref t] ∧ H t = some (.tup [.int l, .int h, .int d]) ∧ l < h ∧ 0 ≤ d ∧ ∀ H', Same H H' → Q .non H'
abbrev nm_check_span : List Str := ["span"]
theorem sc_check_span : FnScope ["span"] ["span"] (defScope s_check_span) := ⟨rfl, rfl, rfl, by decide +kernel, rfl, by decide +kernel, by decide +kernel⟩
theorem ok_cs (T : Txt K mg A w) : FnOk P w K mg base CX0 3 A.a_check_span A.d_check_span ["span"] spCS := by
  have G_is_span : FnOk P w K mg base CX0 2 A.a_is_span A.d_is_span ["value"] spSpan := ok_is_span T
  refine T.F_check_span.ok sc_check_span (fun vs H Q E h => ?_) (fun cdv A0 outer s H vs Q E hr h => ?_)
  · obtain ⟨t, l, h, d, rfl, _⟩ := h
    rfl
  · obtain ⟨t, l, h, d, rfl, ht, lt, d0, q⟩ := h
    refine ⟨_, (pss_one (ps_if (pt_not (pt_val (pe_call G_is_span (hr.mono (by decide)) (by rfl) T.m_is_span T.F_is_span.kp T.B_is_span .nil pass0 (pa_cons (pv 0) pa_nil)))) (pss_one ps_never) pss_nil)), ?_⟩
    refine ⟨_, rfl, t, l, h, d, rfl, ht, lt, d0, fun H1 s1 => ⟨_, rfl, ?_⟩⟩
    exact iteF (q H1 s1)
/-! ### shape_of, span_of -/
/-- the ends without their common powers of the base -/
structure Shp (b l h l' h' : Int) (n : Nat) : Prop where
  lo : l = l' * b ^ n
  hi : h = h' * b ^ n
  no : ¬ (l' % b = 0 ∧ h' % b = 0)
def spShape : Sp := fun vs H Q _ => ∃ (t : Addr) (b l h d : Int), vs = [.int b, .ref t] ∧ H t = some (.tup [.int l, .int h, .int d]) ∧ 2 ≤ b ∧ b < BIG ∧ l < h ∧
  ∀ (H' : Hp) (q : Addr) (l' h' : Int) (n : Nat), Same H H' → H q = none → H' q = some (.tup [.int l', .int h', .int (-d + n)]) → Shp b l h l' h' n → Q (.ref q) H'
abbrev nm_shape_of : List Str := ["base", "span", "low", "high", "digits", "power"]
theorem sc_shape_of : FnScope ["base", "span", "low", "high", "digits", "power"] ["base", "span"] (defScope s_shape_of) := ⟨rfl, rfl, rfl, by decide +kernel, rfl, by decide +kernel, by decide +kernel⟩
theorem ok_shape (T : Txt K mg A w) : FnOk P w K mg base CX0 1 A.a_shape_of A.d_shape_of ["base", "span"] spShape := by
  refine T.F_shape_of.ok sc_shape_of (fun vs H Q E h => ?_) (fun cdv A0 outer s H vs Q E hr h => ?_)
  · obtain ⟨t, b, l, h, d, rfl, _⟩ := h
    rfl
  · obtain ⟨t, b, l, h, d, rfl, ht, b2, bB, lt, q⟩ := h
    refine ⟨_, (pss_cons (ps_asg (pv 1) (pg_tup (by rfl) (pgs_cons (pg_name (i := 2) sc_shape_of.nd rfl (Or.inl rfl)) (pgs_cons (pg_name (i := 3) sc_shape_of.nd rfl (Or.inl rfl)) (pgs_cons (pg_name (i := 4) sc_shape_of.nd rfl (Or.inl rfl)) pgs_nil)))))
  (pss_cons (ps_set (i := 5) sc_shape_of.nd rfl (Or.inl rfl) (pe_un un_neg (pv 4)))
  (pss_cons (ps_while PassesOwn.never (PW.pt (pw_and (pt_cmpR op_eq (pe_op op_mod (pv 2) (pv 0)) pe_int (nomark _)) (pw_and1 (pt_cmpR op_eq (pe_op op_mod (pv 3) (pv 0)) pe_int (nomark _)))))
  (pss_cons (ps_set (i := 2) sc_shape_of.nd rfl (Or.inl rfl) (pe_op op_fdivW (pv 2) (pv 0)))
  (pss_cons (ps_set (i := 3) sc_shape_of.nd rfl (Or.inl rfl) (pe_op op_fdivW (pv 3) (pv 0)))
  (pss_one (ps_set (i := 5) sc_shape_of.nd rfl (Or.inl rfl) (pe_op op_add (pv 5) pe_int))))))
  (pss_one (ps_ret (pe_tup (pa_cons (pv 2) (pa_cons (pv 3) (pa_cons (pv 5) pa_nil))))))))), ?_⟩
    refine ⟨_, rfl, t, _, rfl, SqT.of ht, rfl, _, _, rfl, _, _, rfl, _, _, rfl, rfl, ?_⟩
    refine ⟨_, rfl, _, rfl, ?_⟩
    refine ⟨fun m σ H' => ∃ (l' h' : Int) (n : Nat), σ = [some (.int b), some (.ref t), some (.int l'), some (.int h'), some (.int d), some (.int (-d + n))] ∧ H' = H ∧ l = l' * b ^ n ∧ h = h' * b ^ n ∧ m = l'.natAbs + h'.natAbs, ⟨_, l, h, 0, by rw [Int.natCast_zero, Int.add_zero]; rfl, rfl, by rw [Int.pow_zero, Int.mul_one], by rw [Int.pow_zero, Int.mul_one], rfl⟩, ?_⟩
    rintro m σ H' ⟨l', h', n, rfl, rfl, e1, e2, rfl⟩
    refine ⟨_, rfl, _, rfl, _, _, rfl, rfl, (by show 0 < b; omega), rfl, _, rfl, ?_⟩
    have fin : Shp b l h l' h' n → tRet (tTup (tCons (tVar 2) (tCons (tVar 3) (tCons (tVar 5) tNil)))) { nx := fun x H' => Q V.non H', rt := Q } [some (V.int b), some (V.ref t), some (V.int l'), some (V.int h'), some (V.int d), some (V.int (-d + n))] H' := fun S =>
      ⟨_, rfl, _, rfl, _, rfl, (by show 3 ≤ sizeLine; decide), fun q1 hq1 => q _ q1 l' h' n (same_new hq1) hq1 upd_same S⟩
    refine ite2 (fun hc => ?_) (fun hc => ?_)
    · have hc : l' % b = 0 := by
        have := of_decide_eq_true hc
        exact V.int.inj this
      refine ⟨_, rfl, _, rfl, _, _, rfl, rfl, (by show 0 < b; omega), rfl, _, rfl, ?_⟩
      refine ite2 (fun hd => ?_) (fun hd => ?_)
      · have hd : h' % b = 0 := by
          have := of_decide_eq_true hd
          exact V.int.inj this
        have el : l' / b * b = l' := by have := Int.emod_add_mul_ediv l' b; rw [Int.mul_comm]; omega
        have eh : h' / b * b = h' := by have := Int.emod_add_mul_ediv h' b; rw [Int.mul_comm]; omega
        refine ⟨fun σ' H'' => σ' = [some (.int b), some (.ref t), some (.int (l' / b)), some (.int (h' / b)), some (.int d), some (.int (-d + n + 1))] ∧ H'' = H', ?_, ?_⟩
        · rintro σ' H'' ⟨rfl, rfl⟩
          refine ⟨(l' / b).natAbs + (h' / b).natAbs, ?_, l' / b, h' / b, n + 1, ?_, rfl, ?_, ?_, rfl⟩
          · have half : ∀ x : Int, x / b * b = x → (x / b).natAbs ≤ x.natAbs ∧ (x ≠ 0 → (x / b).natAbs < x.natAbs) := fun x ex => by
              have e : x.natAbs = (x / b).natAbs * b.natAbs := by rw [← Int.natAbs_mul, ex]
              have b2' : 2 ≤ b.natAbs := by omega
              have g : (x / b).natAbs * 2 ≤ (x / b).natAbs * b.natAbs := Nat.mul_le_mul_left _ b2'
              exact ⟨by omega, fun nz => by omega⟩
            obtain ⟨a1, a2⟩ := half l' el
            obtain ⟨c1, c2⟩ := half h' eh
            by_cases z : l' = 0
            · have : h' ≠ 0 := fun y => by
                rw [z, Int.zero_mul] at e1
                rw [y, Int.zero_mul] at e2
                omega
              have := c2 this
              omega
            · have := a2 z
              omega
          · rw [show -d + ((n + 1 : Nat) : Int) = -d + n + 1 by omega]
          · rw [Int.pow_succ, Int.mul_comm (b ^ n), ← Int.mul_assoc, el]
            exact e1
          · rw [Int.pow_succ, Int.mul_comm (b ^ n), ← Int.mul_assoc, eh]
            exact e2
        · refine ⟨_, rfl, _, rfl, _, _, rfl, rfl, size_div (by omega) bB _, ?_⟩
          refine ⟨_, rfl, _, rfl, _, _, rfl, rfl, size_div (by omega) bB _, ?_⟩
          exact ⟨_, rfl, _, _, rfl, rfl, rfl, rfl⟩
      · exact fin ⟨e1, e2, fun z => hd (decide_eq_true (congrArg V.int z.2))⟩
    · exact fin ⟨e1, e2, fun z => hc (decide_eq_true (congrArg V.int z.1))⟩
/-! ### span_of -/
abbrev nm_span_of : List Str := ["base", "shape", "low", "high", "power", "factor"]
theorem sc_span_of : FnScope ["base", "shape", "low", "high", "power", "factor"] ["base", "shape"] (defScope s_span_of) := ⟨rfl, rfl, rfl, by decide +kernel, rfl, by decide +kernel, by decide +kernel⟩
def spSpanOf : Sp := fun vs H Q _ => ∃ (t : Addr) (b l h p : Int), vs = [.int b, .ref t] ∧ H t = some (.tup [.int l, .int h, .int p]) ∧ 2 ≤ b ∧ b < BIG ∧ l.natAbs < 2 ^ 1400 ∧ h.natAbs < 2 ^ 1400 ∧ b ^ p.toNat < 2 ^ 7000 ∧
  ∀ (H' : Hp) (q : Addr), Same H H' → H q = none → H' q = some (.tup [.int (l * b ^ p.toNat), .int (h * b ^ p.toNat), .int (-p).toNat]) → Q (.ref q) H'
theorem ok_span_of (T : Txt K mg A w) : FnOk P w K mg base CX0 2 A.a_span_of A.d_span_of ["base", "shape"] spSpanOf := by
  have G_power_of : FnOk P w K mg base CX0 1 A.a_power_of A.d_power_of ["base", "exponent"] spPow := ok_power_of T
  refine T.F_span_of.ok sc_span_of (fun vs H Q E h => ?_) (fun cdv A0 outer s H vs Q E hr h => ?_)
  · obtain ⟨t, b, l, h, p, rfl, _⟩ := h
    rfl
  · obtain ⟨t, b, l, h, p, rfl, ht, b2, bB, lN, hN, pB, q⟩ := h
    refine ⟨_, (pss_cons (ps_asg (pv 1) (pg_tup (by rfl) (pgs_cons (pg_name (i := 2) sc_span_of.nd rfl (Or.inl rfl)) (pgs_cons (pg_name (i := 3) sc_span_of.nd rfl (Or.inl rfl)) (pgs_cons (pg_name (i := 4) sc_span_of.nd rfl (Or.inl rfl)) pgs_nil)))))
  (pss_cons (ps_if (pt_cmpR op_lt (pv 4) pe_int (nomark _)) (pss_one (ps_ret (pe_tup (pa_cons (pv 2) (pa_cons (pv 3) (pa_cons (pe_un un_neg (pv 4)) pa_nil)))))) pss_nil)
  (pss_cons (ps_set (i := 5) sc_span_of.nd rfl (Or.inl rfl) (pe_call G_power_of (hr.mono (by decide)) (by rfl) T.m_power_of T.F_power_of.kp T.B_power_of .nil pass0 (pa_cons (pv 0) (pa_cons (pv 4) pa_nil))))
  (pss_one (ps_ret (pe_tup (pa_cons (pe_op op_mulW (pv 2) (pv 5)) (pa_cons (pe_op op_mulW (pv 3) (pv 5)) (pa_cons pe_int pa_nil))))))))), ?_⟩
    refine ⟨_, rfl, t, _, rfl, SqT.of ht, rfl, _, _, rfl, _, _, rfl, _, _, rfl, rfl, ?_⟩
    have p1 := pow_pos' (b := b) (by omega) p.toNat
    have pN : (b ^ p.toNat).natAbs < 2 ^ 7000 := abs_lt_pow (by omega) pB
    refine ⟨_, rfl, _, _, rfl, rfl, _, rfl, ?_⟩
    refine ite2 (fun hc => ?_) (fun hc => ?_)
    · have hc : p < 0 := of_decide_eq_true hc
      refine ⟨_, rfl, _, rfl, _, rfl, _, rfl, (by show 3 ≤ sizeLine; decide), fun q1 hq1 => ?_⟩
      refine q _ q1 (same_new hq1) hq1 ?_
      rw [upd_same, show p.toNat = 0 by omega, Int.pow_zero, Int.mul_one, Int.mul_one, show (((-p).toNat : Nat) : Int) = -p by omega]
    · have hc : ¬ p < 0 := fun z => hc (decide_eq_true z)
      refine ⟨_, rfl, _, rfl, b, p, rfl, by omega, by omega, lt_big (n := 7000) pB (by decide), bB, ?_⟩
      refine ⟨_, rfl, _, rfl, _, _, rfl, rfl, wide_mul lN pN (by decide) (by decide) (by decide), _, rfl, _, rfl, _, _, rfl, rfl, wide_mul hN pN (by decide) (by decide) (by decide), (by show 3 ≤ sizeLine; decide), fun q1 hq1 => ?_⟩
      refine q _ q1 (same_new hq1) hq1 ?_
      rw [upd_same, show (((-p).toNat : Nat) : Int) = 0 by omega]
/-! ### widen -/
def spWiden (A : Adr) : Sp := fun vs H Q _ => ∃ (r sp : Addr) (l h d : Int) (b : Int) (k : Kd) (ms : List Int) (most : Int) (D : RD), vs = [.ref r, .ref sp] ∧ RX A.c_Rule H r b k ms most D ∧ RArgs b k ms most ∧ H sp = some (.tup [.int l, .int h, .int d]) ∧ Rng l h d ∧
  ∀ (H' : Hp) (q : Addr) (m p : Int), Same H H' → H q = none → LeastFit b ms k most l h d m p → b ^ (p + d).natAbs < 2 ^ 2000 → (lg b (h - l) : Int) - (lg b (most + 1) + 1) ≤ p + d + lg b m → H' q = some (.tup [.int (wLo b l m (p + d)), .int (wHi b h m (p + d)), .int (if -p > d then -p else d)]) → Q (.ref q) H'
abbrev nm_widen : List Str := ["rule", "span", "low", "high", "digits", "step", "factor", "size"]
theorem sc_widen : FnScope ["rule", "span", "low", "high", "digits", "step", "factor", "size"] ["rule", "span"] (defScope s_widen) := ⟨rfl, rfl, rfl, by decide +kernel, rfl, by decide +kernel, by decide +kernel⟩
theorem ok_widen (T : Txt K mg A w) : FnOk P w K mg base CX0 5 A.a_widen A.d_widen ["rule", "span"] (spWiden A) := by
  have G_measure : FnOk P w K mg base CX0 2 A.a_measure A.d_measure ["base", "step", "digits"] (spMeasure K) := ok_measure T
  have G_Rule_step : FnOk P w K mg base CX0 4 A.a_Rule_step A.d_Rule_step ["self", "span"] (spStep A) := ok_step T
  have G_Rule_base := ok_pb (P := P) (base := base) T
  refine T.F_widen.ok sc_widen (fun vs H Q E h => ?_) (fun cdv A0 outer s H vs Q E hr h => ?_)
  · obtain ⟨r, sp, l, h, d, b, k, ms, most, D, rfl, _⟩ := h
    rfl
  · obtain ⟨r, sp, l, h, d, b, k, ms, most, D, rfl, x, R, hsp, rng, q⟩ := h
    have noS : (rf b k D.lm most D.dv D.lr).lookup ("step" : Str) = none := by
      rw [rf_lookup, if_neg (by decide +kernel), if_neg (by decide +kernel), if_neg (by decide +kernel), if_neg (by decide +kernel), if_neg (by decide +kernel), if_neg (by decide +kernel)]
    have b1 : 1 ≤ b := by have := R.b2; omega
    refine ⟨_, (pss_cons (ps_asg (pv 1) (pg_tup (by rfl) (pgs_cons (pg_name (i := 2) sc_widen.nd rfl (Or.inl rfl)) (pgs_cons (pg_name (i := 3) sc_widen.nd rfl (Or.inl rfl)) (pgs_cons (pg_name (i := 4) sc_widen.nd rfl (Or.inl rfl)) pgs_nil)))))
  (pss_cons (ps_set (i := 5) sc_widen.nd rfl (Or.inl rfl) (pe_meth (pv 0) T.cl T.t_Rule_step G_Rule_step (hr.mono (by decide)) T.B_Rule_step .nil pass0 (pa_cons (pv 1) pa_nil)))
  (pss_cons (ps_asg (pe_call G_measure (hr.mono (by decide)) (by rfl) T.m_measure T.F_measure.kp T.B_measure .nil pass0 (pa_cons (pe_prop (pv 0) T.cl T.pr_Rule_base G_Rule_base (hr.mono (by decide)) T.B_Rule_base .nil pass0 rfl) (pa_cons (pv 5) (pa_cons (pv 4) pa_nil)))) (pg_tup (by rfl) (pgs_cons (pg_name (i := 6) sc_widen.nd rfl (Or.inl rfl)) (pgs_cons (pg_name (i := 7) sc_widen.nd rfl (Or.inl rfl)) pgs_nil))))
  (pss_cons (ps_set (i := 2) sc_widen.nd rfl (Or.inl rfl) (pe_op op_mulW (pe_op op_fdivW (pe_op op_mulW (pv 2) (pv 6)) (pv 7)) (pv 7)))
  (pss_cons (ps_set (i := 3) sc_widen.nd rfl (Or.inl rfl) (pe_op op_mulW (pe_un un_neg (pe_op op_fdivW (pe_op op_mulW (pe_un un_neg (pv 3)) (pv 6)) (pv 7))) (pv 7)))
  (pss_one (ps_ret (pe_tup (pa_cons (pv 2) (pa_cons (pv 3) (pa_cons (pe_callB (call_max2 rfl) (by rfl) T.n_max (by decide +kernel) (pa_cons (pe_callTy call_int1 (by rfl) T.n_int (by decide +kernel) (pa_cons (pv 4) pa_nil)) (pa_cons (pe_un un_neg (pe_ix ix_tup (pv 5) pe_int (fun _ _ => rfl))) pa_nil))) pa_nil))))))))))), ?_⟩
    refine ⟨_, rfl, sp, _, rfl, SqT.of hsp, rfl, _, _, rfl, _, _, rfl, _, _, rfl, rfl, ?_⟩
    refine ⟨_, rfl, r, D.dx, _, rfl, x.at_, noS, _, rfl, r, sp, l, h, d, b, k, ms, most, D, rfl, x, R, hsp, rng, fun H1 st m p s1 hst0 hst LF eB low => ?_⟩
    have x1 := x.same s1
    obtain ⟨m1, mB, _⟩ := R.all m LF.mem
    obtain ⟨f1, f2⟩ := fac_bound b1 eB
    obtain ⟨z1, z2⟩ := siz_bound b1 m1 mB eB
    have fN : (facZ b (p + d)).natAbs < 2 ^ 2000 := abs_lt_pow (by omega) f2
    have zB : sizZ b m (p + d) < BIG := lt_big (n := 2064) z2 (by decide)
    refine ⟨_, rfl, r, D.dx, _, rfl, x1.at_, r, b, k, ms, most, D, rfl, x1, _, rfl, _, rfl, b, m, p, d, st, rfl, SqT.of hst, b1, lt_big R.bB (by decide), lt_big (n := 2000) eB (by decide), by omega, lt_big mB (by decide), ?_⟩
    rintro H2 q2 s2 hq2 rfl
    refine ⟨q2, _, rfl, SqT.of upd_same, rfl, _, _, rfl, _, _, rfl, rfl, ?_⟩
    have lf : (l * facZ b (p + d)).natAbs < 2 ^ 3500 := wide_lt rng.lo fN
    have hf : (-h * facZ b (p + d)).natAbs < 2 ^ 3500 := wide_lt (by rw [Int.natAbs_neg]; exact rng.hi) fN
    have dv : ∀ y : Int, y.natAbs < 2 ^ 3500 → (y / sizZ b m (p + d)).natAbs < 2 ^ 3500 := fun y hy => Nat.lt_of_le_of_lt (Int.natAbs_ediv_le_natAbs y _) hy
    have zN : (sizZ b m (p + d)).natAbs < 2 ^ 2064 := abs_lt_pow (by omega) z2
    refine ⟨_, rfl, _, rfl, _, _, rfl, rfl, wide_mul rng.lo fN (by decide) (by decide) (by decide), _, rfl, _, _, rfl, rfl, size_div z1 zB _, _, rfl, _, _, rfl, rfl, wide_mul (dv _ lf) zN (by decide) (by decide) (by decide), ?_⟩
    refine ⟨_, rfl, _, rfl, _, rfl, _, _, rfl, rfl, wide_mul (i := -h) (by rw [Int.natAbs_neg]; exact rng.hi) fN (by decide) (by decide) (by decide), _, rfl, _, _, rfl, rfl, size_div z1 zB _, _, rfl, _, rfl, _, _, rfl, rfl, wide_mul (by rw [Int.natAbs_neg]; exact dv _ hf) zN (by decide) (by decide) (by decide), ?_⟩
    refine gN (σ' := [some (.ref r), some (.ref sp), some (.int (wLo b l m (p + d))), some (.int (wHi b h m (p + d))), some (.int d), some (.ref st), some (.int (facZ b (p + d))), some (.int (sizZ b m (p + d)))]) (by rw [Int.neg_mul]; rfl) ?_
    have hst2 := s2 _ _ hst
    refine ⟨_, rfl, _, rfl, _, rfl, .inl ⟨d, rfl, _, rfl, st, _, _, _, rfl, rfl, SqT.of hst2, atL (j := 1) rfl, p, rfl, d, -p, rfl, (by show 3 ≤ sizeLine; decide), fun q3 hq3 => ?_⟩⟩
    exact q _ q3 m p ((s1.trans s2).trans (same_new hq3)) ((s1.trans s2).free hq3) LF eB low upd_same
end
end Ax

namespace Ax
open PySem L2
/-! ### rules in a list -/
abbrev RlsAt (C : Addr) (b : Int) (H : Hp) : List CRu → List Addr → Prop := Paired fun x a => ∃ D, RX C H a b .cov x.1 x.2 D
theorem RlsAt.same {C : Addr} {b : Int} {H H' : Hp} (s : Same H H') : ∀ {rs : List CRu} {as : List Addr}, RlsAt C b H rs as → RlsAt C b H' rs as
  | _, _, .nil => .nil
  | _, _, .cons ⟨D, x⟩ r => .cons ⟨D, x.same s⟩ (RlsAt.same s r)
theorem RlsAt.len {C : Addr} {b : Int} {H : Hp} {rs : List CRu} {as : List Addr} (h : RlsAt C b H rs as) : rs.length = as.length := Paired.length h
theorem RlsAt.get {C : Addr} {b : Int} {H : Hp} : ∀ {rs : List CRu} {as : List Addr} {i : Nat} {a : Addr}, RlsAt C b H rs as → as[i]? = some a → ∃ x, rs[i]? = some x ∧ ∃ D, RX C H a b .cov x.1 x.2 D
  | _, _, _, _, .nil, h => nomatch h
  | _, _, 0, _, .cons h _, e => by
    obtain rfl := Option.some.inj e
    exact ⟨_, rfl, h⟩
  | _, _, i + 1, _, .cons _ r, e => RlsAt.get (i := i) r e
theorem RlsAt.first {C : Addr} {b : Int} {H : Hp} {rs : List CRu} {as : List Addr} (h : RlsAt C b H rs as) (ne : rs ≠ []) : ∃ a, as[0]? = some a ∧ ∃ x, x ∈ rs ∧ ∃ D, RX C H a b .cov x.1 x.2 D := by
  cases h with
  | nil => exact absurd rfl ne
  | cons h r => exact ⟨_, rfl, _, List.mem_cons_self .., h⟩
def CovAll (b : Int) (rs : List CRu) : Prop := ∀ r ∈ rs, Cov b r.1 r.2
theorem CovAll.hd {b : Int} {rs : List CRu} (h : CovAll b rs) : AllHd b rs := fun r hr => (h r hr).hd
theorem _root_.Ax.Cov.args {b : Int} {hs : List Int} {most : Int} (d : Cov b hs most) : RArgs b .cov hs most := by
  have e60 : (2 : Int) ^ 60 = 1152921504606846976 := by decide
  have e64 : (2 : Int) ^ 64 = 18446744073709551616 := by decide
  obtain ⟨h1, h2, h3, h4, h6, h7, h8, h9⟩ := d
  exact ⟨h1, by omega, by omega, by omega, fun _ => h3, h6, by omega, h8, fun m hm => by
    obtain ⟨a, c, e⟩ := h9 m hm
    exact ⟨a, by omega, e⟩⟩
theorem rng_of {M l h d : Int} {n : Nat} (lt : l < h) (hl : -M ≤ l) (hh : h ≤ M) (hM : M ≤ 2 ^ n) (hn : n ≤ 900) (d0 : 0 ≤ d) (dB : d < 2 ^ 20) : Rng l h d := by
  have e1 : (2 : Int) ^ n ≤ 2 ^ 900 := pow_le' (b := 2) (by decide) hn
  have e2 : (2 : Int) ^ 900 * 2 = 2 ^ 901 := (Int.pow_succ 2 900).symm
  have e3 : (2 : Int) ^ 901 < 2 ^ 1000 := pow_lt' (b := 2) (by decide) (by decide)
  have e4 : (2 : Int) ^ 900 < 2 ^ 1500 := pow_lt' (b := 2) (by decide) (by decide)
  have e5 : (((2 : Nat) ^ 1500 : Nat) : Int) = 2 ^ 1500 := Int.natCast_pow ..
  refine ⟨lt, by omega, ?_, ?_, d0, dB⟩
  · have : (l.natAbs : Int) < ((2 ^ 1500 : Nat) : Int) := by rw [e5]; omega
    exact Int.ofNat_lt.mp this
  · have : (h.natAbs : Int) < ((2 ^ 1500 : Nat) : Int) := by rw [e5]; omega
    exact Int.ofNat_lt.mp this
theorem abs_of {M l h : Int} {n : Nat} (lt : l < h) (hl : -M ≤ l) (hh : h ≤ M) (hM : M < 2 ^ n) : l.natAbs < 2 ^ n ∧ h.natAbs < 2 ^ n := by
  have e5 : (((2 : Nat) ^ n : Nat) : Int) = 2 ^ n := Int.natCast_pow ..
  have a : (l.natAbs : Int) < ((2 ^ n : Nat) : Int) := by rw [e5]; omega
  have c : (h.natAbs : Int) < ((2 ^ n : Nat) : Int) := by rw [e5]; omega
  exact ⟨Int.ofNat_lt.mp a, Int.ofNat_lt.mp c⟩
theorem Shp.bound {b l h l' h' M : Int} {n : Nat} (S : Shp b l h l' h' n) (b1 : 1 ≤ b) (lt : l < h) (hl : -M ≤ l) (hh : h ≤ M) : l' < h' ∧ -M ≤ l' ∧ h' ≤ M ∧ b ^ n ≤ M := by
  obtain ⟨e1, e2, _⟩ := S
  have p := pow_pos' b1 n
  have lt' : l' < h' := by
    rw [e1, e2] at lt
    exact (mul_lt_iff (by omega)).mp lt
  have big : ∀ x : Int, x.natAbs ≤ (x * b ^ n).natAbs := fun x => by
    rw [Int.natAbs_mul]
    exact Nat.le_mul_of_pos_right _ (by omega)
  have g1 := big l'
  have g2 := big h'
  rw [← e1] at g1
  rw [← e2] at g2
  refine ⟨lt', by omega, by omega, ?_⟩
  have big2 : ∀ x : Int, x ≠ 0 → (b ^ n).natAbs ≤ (x * b ^ n).natAbs := fun x nz => by
    rw [Int.natAbs_mul]
    exact Nat.le_mul_of_pos_left _ (by omega)
  by_cases z : l' = 0
  · have := big2 h' (by omega)
    rw [← e2] at this
    omega
  · have := big2 l' z
    rw [← e1] at this
    omega
theorem Shp.eq3 {b l h l' h' d : Int} {n : Nat} (S : Shp b l h l' h' n) : Eq3 b (l, h, d) (l', h', d - n) :=
  ⟨0, n, by show l * b ^ 0 = _; rw [Int.pow_zero, Int.mul_one]; exact S.lo, by show h * b ^ 0 = _; rw [Int.pow_zero, Int.mul_one]; exact S.hi, by show d + ((0 : Nat) : Int) = d - n + n; omega⟩
section
variable {P : Program} {w : World} {K : PySem.W.Frag} {mg : Str → Option Value} {base : Heap} {A : Adr}
/-! ### next_shape -/
def spNext (A : Adr) : Sp := fun vs H Q _ => ∃ (L t : Addr) (as : List Addr) (rs : List CRu) (b l h p M : Int), vs = [.ref L, .ref t] ∧ H L = some (.lst (as.map V.ref)) ∧ RlsAt A.c_Rule b H rs as ∧ CovAll b rs ∧ rs ≠ [] ∧ rs.length ≤ 3 ∧
  H t = some (.tup [.int l, .int h, .int p]) ∧ l < h ∧ -M ≤ l ∧ h ≤ M ∧ M ≤ 2 ^ 860 ∧
  ∀ (H' : Hp) (q : Addr) (l' h' p' : Int), Same H H' → H q = none → H' q = some (.tup [.int l', .int h', .int p']) → l' < h' → -(M * 1024 ^ rs.length) ≤ l' → h' ≤ M * 1024 ^ rs.length → ¬ (l' % b = 0 ∧ h' % b = 0) → Round b rs (l, h, -p) (l', h', -p') → b ^ (p' - p).toNat ≤ M * 1024 ^ rs.length → Q (.ref q) H'
abbrev nm_next_shape : List Str := ["rules", "shape", "base", "low", "high", "power", "span", "rule", "more"]
theorem sc_next_shape : FnScope ["rules", "shape", "base", "low", "high", "power", "span", "rule", "more"] ["rules", "shape"] (defScope s_next_shape) := ⟨rfl, rfl, rfl, by decide +kernel, rfl, by decide +kernel, by decide +kernel⟩
theorem ok_next (T : Txt K mg A w) : FnOk P w K mg base CX0 6 A.a_next_shape A.d_next_shape ["rules", "shape"] (spNext A) := by
  have G_widen : FnOk P w K mg base CX0 5 A.a_widen A.d_widen ["rule", "span"] (spWiden A) := ok_widen T
  have G_shape_of : FnOk P w K mg base CX0 1 A.a_shape_of A.d_shape_of ["base", "span"] spShape := ok_shape T
  have G_Rule_base := ok_pb (P := P) (base := base) T
  refine T.F_next_shape.ok sc_next_shape (fun vs H Q E h => ?_) (fun cdv A0 outer s H vs Q E hr h => ?_)
  · obtain ⟨L, t, as, rs, b, l, h, p, M, rfl, _⟩ := h
    rfl
  · obtain ⟨L, t, as, rs, b, l, h, p, M, rfl, hL, RA, CA, ne, le3, ht, lt, hl, hh, hM, q⟩ := h
    obtain ⟨a0, ea0, x0, hx0, D0, X0⟩ := RA.first ne
    have b2 := (CA x0 hx0).b2
    have b10 := (CA x0 hx0).b10
    have b1 : 1 ≤ b := by omega
    refine ⟨_, (pss_cons (ps_set (i := 2) sc_next_shape.nd rfl (Or.inl rfl) (pe_prop (pe_ix ix_list (pv 0) pe_int (fun _ _ => rfl)) T.cl T.pr_Rule_base G_Rule_base (hr.mono (by decide)) T.B_Rule_base .nil pass0 rfl))
  (pss_cons (ps_asg (pv 1) (pg_tup (by rfl) (pgs_cons (pg_name (i := 3) sc_next_shape.nd rfl (Or.inl rfl)) (pgs_cons (pg_name (i := 4) sc_next_shape.nd rfl (Or.inl rfl)) (pgs_cons (pg_name (i := 5) sc_next_shape.nd rfl (Or.inl rfl)) pgs_nil)))))
  (pss_cons (ps_set (i := 6) sc_next_shape.nd rfl (Or.inl rfl) (pe_tup (pa_cons (pv 3) (pa_cons (pv 4) (pa_cons pe_int pa_nil)))))
  (pss_cons (ps_for PassesOwn.never rfl (pi_list (pv 0)) (pg_name (i := 7) sc_next_shape.nd rfl (Or.inl rfl))
  (pss_one (ps_set (i := 6) sc_next_shape.nd rfl (Or.inl rfl) (pe_call G_widen (hr.mono (by decide)) (by rfl) T.m_widen T.F_widen.kp T.B_widen .nil pass0 (pa_cons (pv 7) (pa_cons (pv 6) pa_nil))))))
  (pss_cons (ps_asg (pe_call G_shape_of (hr.mono (by decide)) (by rfl) T.m_shape_of T.F_shape_of.kp T.B_shape_of .nil pass0 (pa_cons (pv 2) (pa_cons (pv 6) pa_nil))) (pg_tup (by rfl) (pgs_cons (pg_name (i := 3) sc_next_shape.nd rfl (Or.inl rfl)) (pgs_cons (pg_name (i := 4) sc_next_shape.nd rfl (Or.inl rfl)) (pgs_cons (pg_name (i := 8) sc_next_shape.nd rfl (Or.inl rfl)) pgs_nil)))))
  (pss_one (ps_ret (pe_tup (pa_cons (pv 3) (pa_cons (pv 4) (pa_cons (pe_op op_add (pv 5) (pv 8)) pa_nil))))))))))), ?_⟩
    refine ⟨_, rfl, L, _, _, .ref a0, rfl, rfl, SqL.of hL, atL (j := 0) (by rw [List.getElem?_map, ea0]; rfl), a0, D0.dx, _, rfl, X0.at_, a0, b, .cov, x0.1, x0.2, D0, rfl, X0, ?_⟩
    refine ⟨_, rfl, t, _, rfl, SqT.of ht, rfl, _, _, rfl, _, _, rfl, _, _, rfl, rfl, ?_⟩
    refine ⟨_, rfl, _, rfl, (by show 3 ≤ sizeLine; decide), fun sp hsp => ?_⟩
    have s0 := same_new (o := .tup [.int l, .int h, .int 0]) hsp
    have M1 : 1 ≤ M := by omega
    refine ⟨_, rfl, L, rfl, ⟨_, SqL.of (s0 _ _ hL)⟩, for_list (K := K) (a := L) (xs := as.map V.ref) (fun i σ H' => ∃ (sp1 : Addr) (l1 h1 d1 : Int) (v7 : Option V), σ = [some (.ref L), some (.ref t), some (.int b), some (.int l), some (.int h), some (.int p), some (.ref sp1), v7, none] ∧ Same H H' ∧ H' sp1 = some (.tup [.int l1, .int h1, .int d1]) ∧ l1 < h1 ∧ -(M * 1024 ^ i) ≤ l1 ∧ h1 ≤ M * 1024 ^ i ∧ 0 ≤ d1 ∧ d1 ≤ 7 * (i : Int) ∧ Round b (rs.take i) (l, h, 0) (l1, h1, d1))
      ⟨sp, l, h, 0, _, rfl, s0, upd_same, lt, by rw [Int.pow_zero]; omega, by rw [Int.pow_zero]; omega, Int.le_refl _, by omega, Eq3.refl ..⟩ (fun i σ H' _ ⟨_, _, _, _, _, _, s, _⟩ => SqL.of (s _ _ hL)) ?_ ?_⟩
    · rintro i y σ H' hi ⟨sp1, l1, h1, d1, v7, rfl, s1, hs1, lt1, bl1, bh1, d0, d7, RO⟩
      obtain ⟨a, ha, rfl⟩ := ref_get hi
      obtain ⟨x, hx, D, X⟩ := (RA.same s1).get ha
      have mem := List.mem_of_getElem? hx
      have C := CA x mem
      have hi3 : i < 3 := by
        have := (List.getElem?_eq_some_iff.mp hx).1
        omega
      have pw : (1024 : Int) ^ i ≤ 1024 ^ 3 := pow_le' (by decide) (by omega)
      have Mi : M * 1024 ^ i ≤ 2 ^ 890 := by
        have := Int.mul_le_mul hM pw (by have := pow_pos' (b := 1024) (by decide) i; omega) (by have := pow_pos' (b := 2) (by decide) 860; omega)
        rwa [show (1024 : Int) ^ 3 = 2 ^ 30 by decide, ← pow_add'] at this
      have rng := rng_of (d := d1) lt1 bl1 bh1 Mi (by decide) d0 (by omega)
      refine ⟨_, rfl, _, rfl, a, sp1, l1, h1, d1, b, .cov, x.1, x.2, D, rfl, X, C.args, hs1, rng, fun H2 q2 m pp s2 hq2 LF _ _ hq22 => ?_⟩
      have LF0 := LF.at0
      obtain ⟨w1, w2, w3, w4⟩ := C.wide lt1 LF0 bl1 bh1
      have eM : 1024 * (M * 1024 ^ i) = M * 1024 ^ (i + 1) := by
        rw [Int.pow_succ, Int.mul_comm, Int.mul_assoc]
      rw [eM] at w2 w3
      refine ⟨q2, _, _, _, _, rfl, s1.trans s2, hq22, w1, w2, w3, by split <;> omega, ?_, ?_⟩
      · split <;> omega
      · rw [List.take_add_one, hx]
        refine RO.snoc (r := x) ?_
        have := Wid.of (T := (l1, h1, d1)) LF0
        unfold wTri at this
        rw [show (if -pp > d1 then -pp else d1) = d1 + ((-(pp + d1)).toNat : Int) by split <;> omega]
        exact this
    · rintro σ H' ⟨sp1, l1, h1, d1, v7, rfl, s1, hs1, lt1, bl1, bh1, d0, d7, RO⟩
      have el : (as.map V.ref).length = rs.length := by rw [List.length_map, RA.len]
      rw [el] at bl1 bh1 d7 RO
      rw [List.take_length] at RO
      have hb : b < BIG := lt_big (n := 64) (by omega) (by decide)
      refine ⟨_, rfl, _, rfl, sp1, b, l1, h1, d1, rfl, hs1, b2, hb, lt1, fun H2 q2 l2 h2 n s2 hq2 hq22 S => ?_⟩
      refine ⟨q2, _, rfl, SqT.of hq22, rfl, _, _, rfl, _, _, rfl, _, _, rfl, rfl, ?_⟩
      refine ⟨_, rfl, _, rfl, _, rfl, _, rfl, _, _, rfl, rfl, (by show 3 ≤ sizeLine; decide), fun q3 hq3 => ?_⟩
      obtain ⟨z1, z2, z3, z4⟩ := S.bound b1 lt1 bl1 bh1
      have s3 := s1.trans s2
      refine q _ q3 l2 h2 (p + (-d1 + n)) (s3.trans (same_new hq3)) (s3.free hq3) upd_same z1 z2 z3 S.no ?_ ?_
      · have r1 := RO.shift (-p)
        have r2 := (S.eq3 (d := d1)).shift (-p)
        have r3 := r1.to r2
        have r3 : Round b rs (l, h, 0 + -p) (l2, h2, d1 - n + -p) := r3
        rw [show (0 : Int) + -p = -p by omega, show d1 - n + -p = -(p + (-d1 + n)) by omega] at r3
        exact r3
      · exact Int.le_trans (pow_le' b1 (by omega)) z4
end
end Ax

namespace Ax
open PySem L2
theorem eqv3 (a b c x y z : Int) : PyData.eqv (.tuple [.int a, .int b, .int c]) (.tuple [.int x, .int y, .int z]) = decide ((a, b, c) = (x, y, z)) := by
  simp [PyData.eqv, PyData.eqvAll, Prod.mk.injEq, Bool.decide_and]
  rfl
section
variable {P : Program} {w : World} {K : PySem.W.Frag} {mg : Str → Option Value} {base : Heap} {A : Adr}
/-! ### shape_behind -/
/-! ### _are_rules, _check_rules -/
theorem ixL (K : PySem.W.Frag) {X : Cx} (h : X.K = K := by rfl) : IxR X (rIxL K) := h ▸ ix_list
def spAre (A : Adr) : Sp := fun vs H Q _ => ∃ (L : Addr) (as : List Addr) (rs : List CRu) (b : Int), vs = [.ref L] ∧ H L = some (.lst (as.map V.ref)) ∧ RlsAt A.c_Rule b H rs as ∧ rs ≠ [] ∧ rs.length ≤ 3 ∧ ∀ H', Same H H' → Q (.bl true) H'
abbrev nm_are_rules : List Str := ["rules", "rule"]
theorem sc_are_rules : FnScope ["rules", "rule"] ["rules"] (defScope s_are_rules) := ⟨rfl, rfl, rfl, by decide +kernel, rfl, by decide +kernel, by decide +kernel⟩
theorem ok_are (T : Txt K mg A w) : FnOk P w K mg base CX0 3 A.a_are_rules A.d_are_rules ["rules"] (spAre A) := by
  have G_Rule_base := ok_pb (P := P) (base := base) T
  have G_Rule_kind := ok_pk (P := P) (base := base) T
  refine T.F_are_rules.ok sc_are_rules (fun vs H Q E h => ?_) (fun cdv A0 outer s H vs Q E hr h => ?_)
  · obtain ⟨L, as, rs, b, rfl, _⟩ := h
    rfl
  · obtain ⟨L, as, rs, b, rfl, hL, RA, ne, le3, q⟩ := h
    have el : (as.map V.ref).length = rs.length := by rw [List.length_map, RA.len]
    have pos : 0 < rs.length := List.length_pos_iff.mpr ne
    obtain ⟨a0, ea0, x0, hx0, D0, X0⟩ := RA.first ne
    refine ⟨_, (pss_cons (ps_if (PW.pt (pw_or (pt_not (pt_val (pe_callB call_isi (by rfl) T.n_isinstance (by decide +kernel) (pa_cons (pv 0) (pa_cons (pe_bltn (v := .ty "list") (by rfl) T.n_list (by decide +kernel) rfl) pa_nil))))) (pw_or1 (pt_cmpR op_eq (pe_callB call_len_seq (by rfl) T.n_len (by decide +kernel) (pa_cons (pv 0) pa_nil)) pe_int (nomark _))))) (pss_one (ps_ret pe_bl)) pss_nil)
  (pss_cons (ps_if (pt_not (pt_val (pe_callB (cr_all rfl) (by rfl) T.n_all (by decide +kernel) (pa_cons (pe_lc (own := [("rule", 1)]) (g := gName 1) (tt := tYes) rfl sc_are_rules.nd (pi_list (pv 0)) (blkOk_by (own := [("rule", 1)]) (N := nm_are_rules) (sc := defScope s_are_rules) (by decide +kernel)) (fun _ _ _ _ _ => (pg_name (i := 1) sc_are_rules.nd rfl (Or.inl rfl))) (fun _ _ _ _ _ => pts_nil) (fun _ _ _ _ _ => (pe_and (pe_callB (C8.call_isC T.ic) (by rfl) T.n_isinstance (by decide +kernel) (pa_cons (pv 1) (pa_cons (pe_glob (v := .ref A.c_Rule) rfl T.c_Rule rfl) pa_nil))) (pe_one (pe_cmpR op_eq (pe_prop (pv 1) T.cl T.pr_Rule_kind G_Rule_kind (hr.mono (by decide)) T.B_Rule_kind .nil pass0 rfl) pe_str (nomark _)))))) pa_nil)))) (pss_one (ps_ret pe_bl)) pss_nil)
  (pss_one (ps_ret (pe_callB (cr_all rfl) (by rfl) T.n_all (by decide +kernel) (pa_cons (pe_lc (own := [("rule", 1)]) (g := gName 1) (tt := tYes) rfl sc_are_rules.nd (pi_list (pv 0)) (blkOk_by (own := [("rule", 1)]) (N := nm_are_rules) (sc := defScope s_are_rules) (by decide +kernel)) (fun _ _ _ _ _ => (pg_name (i := 1) sc_are_rules.nd rfl (Or.inl rfl))) (fun _ _ _ _ _ => pts_nil) (fun _ _ _ _ _ => (pe_cmpR op_eq (pe_prop (pv 1) T.cl T.pr_Rule_base G_Rule_base (hr.mono (by decide)) T.B_Rule_base .nil pass0 rfl) (pe_prop (pe_ix (ixL K) (pv 0) pe_int (fun _ _ => rfl)) T.cl T.pr_Rule_base G_Rule_base (hr.mono (by decide)) T.B_Rule_base .nil pass0 rfl) (nomark _)))) pa_nil)))))), ?_⟩
    refine ⟨_, rfl, _, .ty "list", .type "list", .type "list", true, rfl, .ty _, .base (.lst hL), kit_ty (by decide +kernel), true, rfl, ?_⟩
    refine iteF ?_
    refine ⟨_, rfl, L, _, rfl, .inl (SqL.of hL), rfl, _, rfl, ?_⟩
    refine ite2 (fun hc => absurd (V.int.inj (of_decide_eq_true hc)) (by rw [el]; omega)) (fun _ => ?_)
    refine ⟨_, rfl, L, rfl, ⟨_, SqL.of hL⟩, fun D hD => lc_list (K := K) (a := L) (xs := as.map V.ref) (fun i H' => H' = upd H D (.lst (List.replicate i (.bl true)))) rfl ?_ ?_ ?_⟩
    · rintro i H' _ rfl
      exact SqL.of (by rw [upd_ne (ne_of_none hL hD)]; exact hL)
    · rintro i x H' hi rfl
      obtain ⟨a, ha, rfl⟩ := ref_get hi
      obtain ⟨x, hx, DD, X⟩ := RA.get ha
      have X2 := X.same (same_new (o := .lst (List.replicate i (.bl true))) hD)
      have hi3 : i < 3 := by
        have := (List.getElem?_eq_some_iff.mp hx).1
        omega
      refine ⟨rfl, yes_of ?_⟩
      refine ⟨_, rfl, a, DD.dx, _, rfl, X2.at_, true, rfl, iteT ?_⟩
      refine ⟨_, rfl, a, DD.dx, _, rfl, X2.at_, a, b, .cov, x.1, x.2, DD, rfl, X2, rfl, _, upd_same, ?_, ?_⟩
      · rw [List.length_replicate]
        exact small1000 (by omega)
      · rw [upd_upd, List.replicate_succ']
        rfl
    · rintro H1 rfl
      rw [el]
      have s1 : Same H (upd H D (.lst (List.replicate rs.length (.bl true)))) := same_new hD
      refine ⟨D, List.replicate rs.length true, rfl, SqL.of (by rw [upd_same, List.map_replicate]), true, by rw [List.all_replicate]; simp, iteF ?_⟩
      have hL1 := s1 _ _ hL
      have RA1 := RA.same s1
      have X01 := X0.same s1
      clear hL RA X0
      generalize upd H D (.lst (List.replicate rs.length (.bl true))) = H1 at *
      refine ⟨_, rfl, L, rfl, ⟨_, SqL.of hL1⟩, fun D2 hD2 => lc_list (K := K) (a := L) (xs := as.map V.ref) (fun i H' => H' = upd H1 D2 (.lst (List.replicate i (.bl true)))) rfl ?_ ?_ ?_⟩
      · rintro i H' _ rfl
        exact SqL.of (by rw [upd_ne (ne_of_none hL1 hD2)]; exact hL1)
      · rintro i x H' hi rfl
        obtain ⟨a, ha, rfl⟩ := ref_get hi
        obtain ⟨x, hx, DD, X⟩ := RA1.get ha
        have s2 := same_new (o := .lst (List.replicate i (.bl true))) hD2
        have X2 := X.same s2
        have X02 := X01.same s2
        have hi3 : i < 3 := by
          have := (List.getElem?_eq_some_iff.mp hx).1
          omega
        refine ⟨rfl, yes_of ?_⟩
        refine ⟨_, rfl, a, DD.dx, _, rfl, X2.at_, a, b, .cov, x.1, x.2, DD, rfl, X2, ?_⟩
        refine ⟨_, rfl, L, _, _, .ref a0, rfl, rfl, SqL.of (s2 _ _ hL1), atL (j := 0) (by rw [List.getElem?_map, ea0]; rfl), a0, D0.dx, _, rfl, X02.at_, a0, b, .cov, x0.1, x0.2, D0, rfl, X02, rfl, _, upd_same, ?_, ?_⟩
        · rw [List.length_replicate]
          exact small1000 (by omega)
        · rw [upd_upd, List.replicate_succ', decide_eq_true rfl]
      · rintro H3 rfl
        rw [el]
        refine ⟨D2, List.replicate rs.length true, rfl, SqL.of (by rw [upd_same, List.map_replicate]), ?_⟩
        have ea : (List.replicate rs.length true).all id = true := by rw [List.all_replicate]; simp
        show Q (.bl ((List.replicate rs.length true).all id)) _
        rw [ea]
        exact q _ (s1.trans (same_new hD2))
abbrev nm_check_rules : List Str := ["rules"]
theorem sc_check_rules : FnScope ["rules"] ["rules"] (defScope s_check_rules) := ⟨rfl, rfl, rfl, by decide +kernel, rfl, by decide +kernel, by decide +kernel⟩
def spChR (A : Adr) : Sp := fun vs H Q _ => ∃ (L : Addr) (as : List Addr) (rs : List CRu) (b : Int), vs = [.ref L] ∧ H L = some (.lst (as.map V.ref)) ∧ RlsAt A.c_Rule b H rs as ∧ rs ≠ [] ∧ rs.length ≤ 3 ∧ ∀ H', Same H H' → Q .non H'
theorem ok_chr (T : Txt K mg A w) : FnOk P w K mg base CX0 4 A.a_check_rules A.d_check_rules ["rules"] (spChR A) := by
  have G_are_rules : FnOk P w K mg base CX0 3 A.a_are_rules A.d_are_rules ["rules"] (spAre A) := ok_are T
  refine T.F_check_rules.ok sc_check_rules (fun vs H Q E h => ?_) (fun cdv A0 outer s H vs Q E hr h => ?_)
  · obtain ⟨L, as, rs, b, rfl, _⟩ := h
    rfl
  · obtain ⟨L, as, rs, b, rfl, hL, RA, ne, le3, q⟩ := h
    refine ⟨_, (pss_one (ps_if (pt_not (pt_val (pe_call G_are_rules (hr.mono (by decide)) (by rfl) T.m_are_rules T.F_are_rules.kp T.B_are_rules .nil pass0 (pa_cons (pv 0) pa_nil)))) (pss_one ps_never) pss_nil)), ?_⟩
    refine ⟨_, rfl, L, as, rs, b, rfl, hL, RA, ne, le3, fun H1 s1 => ⟨_, rfl, ?_⟩⟩
    exact iteF (q H1 s1)
end
end Ax

namespace Ax
/-! # rounds: how many there are before a range comes back -/
def Lad (b : Int) (ms : List Int) (s : Int) : Prop := ∃ m ∈ ms, ∃ e : Nat, s = m * b ^ e
structure Stp (b : Int) (ms : List Int) (most x y s : Int) : Prop where
  lad : Lad b ms s
  fit : y ≤ reachZ .cov most x s
  least : ∀ s', Lad b ms s' → y ≤ reachZ .cov most x s' → s ≤ s'
/-- a round, seen by its last rule -/
structure Rd (b : Int) (ms : List Int) (most x y s x' y' : Int) : Prop where
  ex : ∃ u v, u ≤ x ∧ y ≤ v ∧ Stp b ms most u v s ∧ x' = u / s * s ∧ y' = -(-v / s) * s
section
variable {b : Int} {ms : List Int} {most x y s x' y' s2 x2 y2 : Int}
theorem Lad.pos (b1 : 1 ≤ b) (hall : ∀ m ∈ ms, 1 ≤ m) (h : Lad b ms s) : 1 ≤ s := by
  obtain ⟨m, hm, e, rfl⟩ := h
  have h1 := hall m hm
  have h2 := pow_pos' b1 e
  have := Int.mul_le_mul h1 h2 (by decide) (by omega)
  omega
theorem Rd.facts (b1 : 1 ≤ b) (hall : ∀ m ∈ ms, 1 ≤ m) (R : Rd b ms most x y s x' y') : 1 ≤ s ∧ x' ≤ x ∧ y ≤ y' ∧ (∃ a, x' = a * s) ∧ (∃ c, y' = c * s) ∧ y' - x' ≤ most * s := by
  obtain ⟨u, v, h1, h2, S, rfl, rfl⟩ := R.ex
  have s1 := S.lad.pos b1 hall
  obtain ⟨d1, _⟩ := div_facts u (show 0 < s by omega)
  obtain ⟨c1, _⟩ := ceil_facts v (show 0 < s by omega)
  have f : v ≤ (u / s + most) * s := S.fit
  have g : -(u / s + most) ≤ -v / s := (le_div_iff (by omega)).mpr (by rw [Int.neg_mul]; omega)
  rw [Int.mul_comm] at d1 c1
  refine ⟨s1, by omega, by omega, ⟨_, rfl⟩, ⟨_, rfl⟩, ?_⟩
  rw [← Int.sub_mul]
  exact Int.mul_le_mul_of_nonneg_right (by omega) (by omega)
theorem Rd.mono (b1 : 1 ≤ b) (hall : ∀ m ∈ ms, 1 ≤ m) (R : Rd b ms most x y s x' y') (R2 : Rd b ms most x' y' s2 x2 y2) : s ≤ s2 := by
  obtain ⟨u, v, h1, h2, S, rfl, rfl⟩ := R.ex
  obtain ⟨u2, v2, g1, g2, S2, _, _⟩ := R2.ex
  have s1 := S.lad.pos b1 hall
  have s21 := S2.lad.pos b1 hall
  obtain ⟨d1, _⟩ := div_facts u (show 0 < s by omega)
  obtain ⟨c1, _⟩ := ceil_facts v (show 0 < s by omega)
  rw [Int.mul_comm] at d1 c1
  exact S.least s2 S2.lad (reach_in (by omega) (by omega) (by omega) S2.fit)
theorem Stp.flip (b1 : 1 ≤ b) (hall : ∀ m ∈ ms, 1 ≤ m) (S : Stp b ms most x y s) : Stp b ms most (-y) (-x) s :=
  ⟨S.lad, (reach_flip (by have := S.lad.pos b1 hall; omega)).mpr S.fit, fun s' l f => S.least s' l ((reach_flip (by have := l.pos b1 hall; omega)).mp f)⟩
theorem Rd.flip (b1 : 1 ≤ b) (hall : ∀ m ∈ ms, 1 ≤ m) (R : Rd b ms most x y s x' y') : Rd b ms most (-y) (-x) s (-y') (-x') := by
  obtain ⟨u, v, h1, h2, S, rfl, rfl⟩ := R.ex
  exact ⟨-v, -u, by omega, by omega, S.flip b1 hall, by rw [Int.neg_mul, Int.neg_neg], by rw [Int.neg_neg, Int.neg_mul]⟩
/-! ### how many sizes there are -/
theorem cnt_le {l : List Int} {s t : Int} (h : s ≤ t) : l.countP (fun z => decide (z < s)) ≤ l.countP (fun z => decide (z < t)) :=
  List.countP_mono_left fun z _ hz => by
    have hz : z < s := of_decide_eq_true hz
    exact decide_eq_true (by omega)
theorem cnt_lt : ∀ {l : List Int} {s t : Int}, s ∈ l → s < t → l.countP (fun z => decide (z < s)) + 1 ≤ l.countP (fun z => decide (z < t))
  | z :: l, s, t, hm, h => by
    rw [List.countP_cons, List.countP_cons]
    rcases List.mem_cons.mp hm with rfl | hm
    · have := cnt_le (l := l) (Int.le_of_lt h)
      rw [if_neg (by simp), if_pos (decide_eq_true h)]
      omega
    · have := cnt_lt hm h
      by_cases c : z < s
      · rw [if_pos (decide_eq_true c), if_pos (decide_eq_true (show z < t by omega))]
        omega
      · rw [if_neg (by simpa using c)]
        omega
def ladL (b : Int) (ms : List Int) : List Int := (List.range 90).flatMap fun e => ms.map fun m => m * b ^ e
theorem sum_const (k : Nat) : ∀ l : List Nat, (l.map fun _ => k).sum = l.length * k
  | [] => by simp
  | _ :: l => by
    rw [List.map_cons, List.sum_cons, sum_const k l, List.length_cons, Nat.add_mul]
    omega
theorem ladL_len (b : Int) (ms : List Int) : (ladL b ms).length = 90 * ms.length := by
  unfold ladL
  rw [List.length_flatMap]
  simp only [List.length_map]
  rw [sum_const, List.length_range]
theorem lad_mem (b2 : 2 ≤ b) (hall : ∀ m ∈ ms, 1 ≤ m) (h : Lad b ms s) (lt : s < 2 ^ 90) : s ∈ ladL b ms := by
  obtain ⟨m, hm, e, rfl⟩ := h
  have m1 := hall m hm
  have e90 : e < 90 := by
    apply Nat.lt_of_not_le
    intro c
    have h1 := pow_le' (b := 2) (by decide) c
    have h2 := pow_base_le (a := 2) (b := b) (by decide) b2 e
    have h3 := Int.mul_le_mul_of_nonneg_right m1 (show 0 ≤ b ^ e by have := pow_pos' (b := b) (by omega) e; omega)
    omega
  exact List.mem_flatMap.mpr ⟨e, List.mem_range.mpr e90, List.mem_map.mpr ⟨m, hm, rfl⟩⟩
end
/-! ### where nought is not within -/
section
variable {b : Int} {ms : List Int} {most : Int} {X Y S : Nat → Int} {N : Nat}
theorem nested (b1 : 1 ≤ b) (hall : ∀ m ∈ ms, 1 ≤ m) (hR : ∀ n < N, Rd b ms most (X n) (Y n) (S n) (X (n + 1)) (Y (n + 1))) : ∀ {i j : Nat}, i ≤ j → j ≤ N → X j ≤ X i ∧ Y i ≤ Y j := by
  intro i j h
  obtain ⟨k, rfl⟩ := Nat.exists_eq_add_of_le h
  clear h
  induction k with
  | zero => exact fun _ => ⟨Int.le_refl _, Int.le_refl _⟩
  | succ k ih =>
    intro hj
    have hj : i + k < N := hj
    obtain ⟨_, h1, h2, _⟩ := (hR _ hj).facts b1 hall
    obtain ⟨g1, g2⟩ := ih (by omega)
    show X (i + k + 1) ≤ X i ∧ Y i ≤ Y (i + k + 1)
    exact ⟨by omega, by omega⟩
theorem mul_gap {a c s : Int} (s1 : 1 ≤ s) (h : a * s < c * s) : a * s + s ≤ c * s := by
  have : a < c := Int.lt_of_mul_lt_mul_right h (by omega)
  have := Int.mul_le_mul_of_nonneg_right (show a + 1 ≤ c by omega) (show 0 ≤ s by omega)
  rw [Int.add_mul, Int.one_mul] at this
  exact this
theorem big76 {k : Nat} (h : (7 : Int) ^ k ≤ 6 ^ k * (6 * 2 ^ 90)) : k ≤ 420 := by
  apply Nat.le_of_lt_succ
  apply Nat.lt_of_not_le
  intro c
  obtain ⟨j, rfl⟩ := Nat.exists_eq_add_of_le c
  have h0 : (6 : Int) ^ 421 * (6 * 2 ^ 90) < 7 ^ 421 := by decide +kernel
  have h1 := pow_base_le (a := 6) (b := 7) (by decide) (by decide) j
  have p6 := pow_pos' (b := 6) (by decide) j
  rw [pow_add', pow_add'] at h
  have h2 : (6 : Int) ^ 421 * (6 * 2 ^ 90) * 6 ^ j < 7 ^ 421 * 6 ^ j := Int.mul_lt_mul_of_pos_right h0 (by omega)
  have h3 : (7 : Int) ^ 421 * 6 ^ j ≤ 7 ^ 421 * 7 ^ j := Int.mul_le_mul_of_nonneg_left h1 (by decide +kernel)
  have h4 : (6 : Int) ^ 421 * 6 ^ j * (6 * 2 ^ 90) = 6 ^ 421 * (6 * 2 ^ 90) * 6 ^ j := by
    rw [Int.mul_assoc, Int.mul_comm (6 ^ j), ← Int.mul_assoc]
  have h5 : (6 : Int) ^ (420 + 1) = 6 ^ 421 := rfl
  have h6 : (7 : Int) ^ (420 + 1) = 7 ^ 421 := rfl
  rw [h5, h6] at h
  rw [h4] at h
  exact absurd (Int.lt_of_le_of_lt (Int.le_trans h3 h) h2) (Int.lt_irrefl _)
theorem phase1 (b2 : 2 ≤ b) (hall : ∀ m ∈ ms, 1 ≤ m) (m6 : most ≤ 6) (l4 : ms.length ≤ 4) (hR : ∀ n < N, Rd b ms most (X n) (Y n) (S n) (X (n + 1)) (Y (n + 1))) (ch : ∀ n < N, X n ≠ X (n + 1) ∨ Y n ≠ Y (n + 1)) (lt : X 0 < Y 0) (pos : 0 < X N) (x0 : X 0 < 2 ^ 90) : N ≤ 781 := by
  have b1 : 1 ≤ b := by omega
  have bound : ∀ n, n < N → 1 ≤ S n ∧ S n ≤ X (n + 1) ∧ S n < 2 ^ 90 := fun n hn => by
    obtain ⟨s1, _, _, ⟨a, ea⟩, _, _⟩ := (hR n hn).facts b1 hall
    have g1 := (nested b1 hall hR (i := n + 1) (j := N) hn (Nat.le_refl _)).1
    have g0 := (nested b1 hall hR (i := 0) (j := n + 1) (Nat.zero_le _) hn).1
    have : S n ≤ X (n + 1) := Int.le_of_dvd (by omega) ⟨a, by rw [ea, Int.mul_comm]⟩
    exact ⟨s1, this, by omega⟩
  have key : ∀ n, n < N → ∃ k : Nat, n ≤ k + (ladL b ms).countP (fun z => decide (z < S n)) ∧ (7 : Int) ^ k ≤ 6 ^ k * (Y (n + 1) - X (n + 1)) := by
    intro n
    induction n with
    | zero =>
      intro h
      obtain ⟨g1, g2⟩ := nested b1 hall hR (i := 0) (j := 1) (Nat.zero_le _) h
      exact ⟨0, Nat.zero_le _, by rw [Int.pow_zero, Int.pow_zero]; show 1 ≤ 1 * (Y 1 - X 1); omega⟩
    | succ n ih =>
      intro h
      obtain ⟨k, h1, h2⟩ := ih (by omega)
      have p6 := pow_pos' (b := 6) (by decide) k
      have R1 := hR n (by omega)
      have R2 := hR (n + 1) h
      have mo := R1.mono b1 hall R2
      obtain ⟨s1, _, _, ⟨a, ea⟩, ⟨c, ec⟩, len⟩ := R1.facts b1 hall
      obtain ⟨s1', q1, q2, ⟨a', ea'⟩, ⟨c', ec'⟩, len'⟩ := R2.facts b1 hall
      have len6 : Y (n + 1) - X (n + 1) ≤ 6 * S n := Int.le_trans len (Int.mul_le_mul_of_nonneg_right m6 (by omega))
      by_cases e : S (n + 1) = S n
      · refine ⟨k + 1, by rw [e]; omega, ?_⟩
        rw [e] at ea' ec'
        have gap : 7 * (Y (n + 1) - X (n + 1)) ≤ 6 * (Y (n + 1 + 1) - X (n + 1 + 1)) := by
          rcases ch (n + 1) h with z | z
          · have := mul_gap s1 (show a' * S n < a * S n by rw [← ea', ← ea]; omega)
            rw [← ea', ← ea] at this
            omega
          · have := mul_gap s1 (show c * S n < c' * S n by rw [← ec', ← ec]; omega)
            rw [← ec', ← ec] at this
            omega
        have t1 := Int.mul_le_mul_of_nonneg_left gap (show (0 : Int) ≤ 6 ^ k by omega)
        rw [Int.pow_succ, Int.pow_succ, Int.mul_assoc, Int.mul_comm (7 ^ k) 7]
        refine Int.le_trans ?_ t1
        rw [← Int.mul_assoc, Int.mul_comm (6 ^ k) 7, Int.mul_assoc]
        exact Int.mul_le_mul_of_nonneg_left h2 (by decide)
      · refine ⟨k, ?_, Int.le_trans h2 (Int.mul_le_mul_of_nonneg_left (by omega) (by omega))⟩
        have lad : Lad b ms (S n) := by
          obtain ⟨u, v, _, _, St, _⟩ := R1.ex
          exact St.lad
        have := cnt_lt (lad_mem b2 hall lad (bound n (by omega)).2.2) (show S n < S (n + 1) by omega)
        omega
  cases N with
  | zero => omega
  | succ N =>
    obtain ⟨k, h1, h2⟩ := key N (by omega)
    obtain ⟨s1, s2, s3⟩ := bound N (by omega)
    obtain ⟨_, _, _, _, _, len⟩ := (hR N (by omega)).facts b1 hall
    have len6 : Y (N + 1) - X (N + 1) ≤ 6 * S N := Int.le_trans len (Int.mul_le_mul_of_nonneg_right m6 (by omega))
    have p6 := pow_pos' (b := 6) (by decide) k
    have k420 := big76 (Int.le_trans h2 (Int.mul_le_mul_of_nonneg_left (show Y (N + 1) - X (N + 1) ≤ 6 * 2 ^ 90 by omega) (by omega)))
    have c1 : (ladL b ms).countP (fun z => decide (z < S N)) ≤ 360 := Nat.le_trans List.countP_le_length (by rw [ladL_len]; omega)
    omega
theorem phase1' (b2 : 2 ≤ b) (hall : ∀ m ∈ ms, 1 ≤ m) (m6 : most ≤ 6) (l4 : ms.length ≤ 4) (hR : ∀ n < N, Rd b ms most (X n) (Y n) (S n) (X (n + 1)) (Y (n + 1))) (ch : ∀ n < N, X n ≠ X (n + 1) ∨ Y n ≠ Y (n + 1)) (lt : X 0 < Y 0) (neg : Y N < 0) (y0 : -(2 ^ 90) < Y 0) : N ≤ 781 :=
  phase1 (X := fun n => -Y n) (Y := fun n => -X n) (S := S) b2 hall m6 l4 (fun n h => (hR n h).flip (by omega) hall) (fun n h => by
    rcases ch n h with z | z
    · exact .inr (by show -X n ≠ -X (n + 1); omega)
    · exact .inl (by show -Y n ≠ -Y (n + 1); omega)) (by show -Y 0 < -X 0; omega) (by show 0 < -Y N; omega) (by show -Y 0 < 2 ^ 90; omega)
/-! ### where nought is within: few shapes -/
theorem nodup_le {α : Type} [DecidableEq α] : ∀ {l L : List α}, l.Nodup → (∀ x ∈ l, x ∈ L) → l.length ≤ L.length
  | [], _, _, _ => Nat.zero_le _
  | a :: l, L, nd, h => by
    have n2 := List.nodup_cons.mp nd
    have ha := h a (List.mem_cons_self ..)
    have := nodup_le (l := l) (L := L.erase a) n2.2 fun x hx => by
      have ne : x ≠ a := fun z => n2.1 (by rw [← z]; exact hx)
      exact (List.mem_erase_of_ne ne).mpr (h x (List.mem_cons_of_mem _ hx))
    rw [List.length_erase_of_mem ha] at this
    have := List.length_pos_of_mem ha
    rw [List.length_cons]
    omega
/-- two ranges that differ by a power of the base -/
def SameS (b x y x' y' : Int) : Prop := ∃ i j : Nat, x * b ^ i = x' * b ^ j ∧ y * b ^ i = y' * b ^ j
def keyL (ms : List Int) : List (Int × Nat × Nat) := ms.flatMap fun m => (List.range 7).flatMap fun a => (List.range (7 - a)).map fun c => (m, a, c)
theorem keyL_len (ms : List Int) : (keyL ms).length = 28 * ms.length := by
  unfold keyL
  rw [List.length_flatMap]
  simp only [List.length_flatMap, List.length_map, List.length_range]
  induction ms with
  | nil => rfl
  | cons m l ih =>
    rw [List.map_cons, List.sum_cons, ih, List.length_cons, show ((List.range 7).map fun a => 7 - a).sum = 28 by decide]
    omega
theorem phase0 (b2 : 2 ≤ b) (hall : ∀ m ∈ ms, 1 ≤ m) (m6 : most ≤ 6) (hR : ∀ n < N, Rd b ms most (X n) (Y n) (S n) (X (n + 1)) (Y (n + 1))) (x0 : X 0 ≤ 0) (y0 : 0 ≤ Y 0) (df : ∀ i j, i < j → j ≤ N → ¬ SameS b (X i) (Y i) (X j) (Y j)) : N ≤ 28 * ms.length := by
  have b1 : 1 ≤ b := by omega
  have ex : ∀ n : Nat, ∃ k : Int × Nat × Nat, n < N → k ∈ keyL ms ∧ ∃ e : Nat, X (n + 1) = -((k.2.1 : Int) * k.1) * b ^ e ∧ Y (n + 1) = ((k.2.2 : Int) * k.1) * b ^ e := fun n => by
    by_cases h : n < N
    · obtain ⟨s1, _, _, ⟨a, ea⟩, ⟨c, ec⟩, len⟩ := (hR n h).facts b1 hall
      obtain ⟨g1, g2⟩ := nested b1 hall hR (i := 0) (j := n + 1) (Nat.zero_le _) h
      obtain ⟨u, v, _, _, ⟨⟨m, hm, e, es⟩, _, _⟩, _⟩ := (hR n h).ex
      have a0 : a ≤ 0 := Int.le_of_mul_le_mul_right (show a * S n ≤ 0 * S n by rw [Int.zero_mul, ← ea]; omega) (by omega)
      have c0 : 0 ≤ c := Int.le_of_mul_le_mul_right (show 0 * S n ≤ c * S n by rw [Int.zero_mul, ← ec]; omega) (by omega)
      have ac : c - a ≤ 6 := Int.le_of_mul_le_mul_right (show (c - a) * S n ≤ 6 * S n by
        rw [Int.sub_mul, ← ea, ← ec]
        exact Int.le_trans len (Int.mul_le_mul_of_nonneg_right m6 (by omega))) (by omega)
      refine ⟨(m, (-a).toNat, c.toNat), fun _ => ⟨?_, e, ?_, ?_⟩⟩
      · exact List.mem_flatMap.mpr ⟨m, hm, List.mem_flatMap.mpr ⟨_, List.mem_range.mpr (by omega), List.mem_map.mpr ⟨_, List.mem_range.mpr (by omega), rfl⟩⟩⟩
      · show X (n + 1) = -((((-a).toNat : Nat) : Int) * m) * b ^ e
        rw [ea, es, show (((-a).toNat : Nat) : Int) = -a by omega, Int.neg_mul a m, Int.neg_neg, Int.mul_assoc]
      · show Y (n + 1) = ((c.toNat : Nat) : Int) * m * b ^ e
        rw [ec, es, show ((c.toNat : Nat) : Int) = c by omega, Int.mul_assoc]
    · exact ⟨(0, 0, 0), fun z => absurd z h⟩
  obtain ⟨k, hk⟩ : ∃ k : Nat → Int × Nat × Nat, ∀ n, n < N → k n ∈ keyL ms ∧ ∃ e : Nat, X (n + 1) = -(((k n).2.1 : Int) * (k n).1) * b ^ e ∧ Y (n + 1) = (((k n).2.2 : Int) * (k n).1) * b ^ e := ⟨fun n => (ex n).choose, fun n => (ex n).choose_spec⟩
  have nd : ((List.range N).map k).Nodup := by
    refine List.pairwise_map.mpr (List.Pairwise.imp_of_mem (fun {i j} hi hj h e => ?_) List.pairwise_lt_range)
    obtain ⟨_, p, p1, p2⟩ := hk i (List.mem_range.mp hi)
    obtain ⟨_, q, q1, q2⟩ := hk j (List.mem_range.mp hj)
    refine df (i + 1) (j + 1) (by omega) (by have := List.mem_range.mp hj; omega) ⟨q, p, ?_, ?_⟩
    · rw [p1, q1, e, Int.mul_assoc, Int.mul_assoc, Int.mul_comm (b ^ p)]
    · rw [p2, q2, e]
      exact Int.mul_right_comm _ _ _
  have := nodup_le nd fun x hx => by
    obtain ⟨n, hn, rfl⟩ := List.mem_map.mp hx
    exact (hk n (List.mem_range.mp hn)).1
  rw [List.length_map, List.length_range, keyL_len] at this
  omega
theorem first_of {P : Nat → Prop} : ∀ {N : Nat}, P N → ∃ n, n ≤ N ∧ P n ∧ ∀ k < n, ¬ P k
  | 0, h => ⟨0, Nat.le_refl _, h, fun k hk => absurd hk (Nat.not_lt_zero k)⟩
  | N + 1, h => by
    by_cases c : ∃ k, k ≤ N ∧ P k
    · obtain ⟨k, hk, pk⟩ := c
      have go : ∀ j, j ≤ N → P j → ∃ n, n ≤ N + 1 ∧ P n ∧ ∀ k < n, ¬ P k := by
        intro j
        induction j using Nat.strongRecOn with
        | ind j ih =>
          intro hj pj
          by_cases d : ∃ i, i < j ∧ P i
          · obtain ⟨i, hi, pi⟩ := d
            exact ih i hi (by omega) pi
          · exact ⟨j, by omega, pj, fun i hi pi => d ⟨i, hi, pi⟩⟩
      exact go k hk pk
    · exact ⟨N + 1, Nat.le_refl _, h, fun k hk pk => c ⟨k, by omega, pk⟩⟩
/-- a chain of rounds whose ranges differ, also by powers of the base, is short -/
theorem chain_short (b2 : 2 ≤ b) (hall : ∀ m ∈ ms, 1 ≤ m) (m6 : most ≤ 6) (l4 : ms.length ≤ 4) (hR : ∀ n < N, Rd b ms most (X n) (Y n) (S n) (X (n + 1)) (Y (n + 1))) (lt : X 0 < Y 0) (x0 : X 0 < 2 ^ 90) (y0 : -(2 ^ 90) < Y 0) (df : ∀ i j, i < j → j ≤ N → ¬ SameS b (X i) (Y i) (X j) (Y j)) : N ≤ 894 := by
  have b1 : 1 ≤ b := by omega
  have ch : ∀ n < N, X n ≠ X (n + 1) ∨ Y n ≠ Y (n + 1) := fun n h => by
    by_cases c : X n = X (n + 1)
    · exact .inr fun z => df n (n + 1) (by omega) h ⟨0, 0, by rw [c], by rw [z]⟩
    · exact .inl c
  have one : ∀ n, n ≤ N → ¬ (X n ≤ 0 ∧ 0 ≤ Y n) → n ≤ 781 := fun n hn c => by
    by_cases p : 0 < X n
    · exact phase1 b2 hall m6 l4 (fun i h => hR i (by omega)) (fun i h => ch i (by omega)) lt p x0
    · exact phase1' b2 hall m6 l4 (fun i h => hR i (by omega)) (fun i h => ch i (by omega)) lt (by omega) y0
  by_cases c : X N ≤ 0 ∧ 0 ≤ Y N
  · obtain ⟨n, hn, pn, before⟩ := first_of (P := fun n => X n ≤ 0 ∧ 0 ≤ Y n) c
    have := phase0 (X := fun i => X (n + i)) (Y := fun i => Y (n + i)) (S := fun i => S (n + i)) (N := N - n) b2 hall m6 (fun i h => hR (n + i) (by omega)) pn.1 pn.2 fun i j h1 h2 => df (n + i) (n + j) (by omega) (by omega)
    cases n with
    | zero => omega
    | succ n =>
      have := one n (by omega) (before n (by omega))
      omega
  · have := one N (Nat.le_refl _) c
    omega
end
end Ax

namespace Ax
/-! # rounds of ranges, at one scale -/
section
variable {b : Int} {ms : List Int} {most : Int}
theorem LeastFit.narrow0 {k : Kd} {n l h m q : Int} {x : Nat} (b1 : 1 ≤ b) (hall : ∀ m ∈ ms, 1 ≤ m) (L : LeastFit b ms k n (l * b ^ x) (h * b ^ x) 0 m q) : LeastFit b ms k n l h 0 m (q - x) := by
  have z : ∀ (m' : Int), m' ∈ ms → ∀ p : Int, FitE b k n (l * b ^ x) (h * b ^ x) m' (p + 0) ↔ FitE b k n l h m' (p - x + 0) := fun m' hm p => by
    have := fitE_pow (k := k) (n := n) (l := l) (h := h) b1 (hall m' hm) x (e := p - x + 0)
    rwa [show p - (x : Int) + 0 + (x : Int) = p + 0 by omega] at this
  refine ⟨L.mem, (z m L.mem q).mp L.fit, fun m' hm p hs hf => ?_⟩
  have hf : FitE b k n l h m' (p + x - x + 0) := by rw [show p + (x : Int) - x + 0 = p + 0 by omega]; exact hf
  refine L.least m' hm (p + x) ?_ ((z m' hm (p + x)).mpr hf)
  obtain ⟨N, h1, h2, h3⟩ := hs
  have h1 : 0 ≤ N + p := h1
  have h2 : 0 ≤ N + (q - x) := h2
  refine ⟨N - x, by show 0 ≤ N - x + (p + x); omega, by show 0 ≤ N - x + q; omega, ?_⟩
  have h3 : szN b N m' p < szN b N m (q - x) := h3
  show szN b (N - x) m' (p + x) < szN b (N - x) m q
  unfold szN at h3 ⊢
  rw [show N - (x : Int) + (p + x) = N + p by omega, show N - (x : Int) + q = N + (q - x) by omega]
  exact h3
/-- a step is no finer than a unit where the range is that long -/
theorem Cov.whole (C : Cov b ms most) {l h m q : Int} (len : b ^ 7 ≤ h - l) (L : LeastFit b ms .cov most l h 0 m q) : 0 ≤ q := by
  obtain ⟨m1, m25, _⟩ := C.all m L.mem
  have b1 : 1 ≤ b := by have := C.b2; omega
  apply Int.le_of_not_gt
  intro c
  have c : ¬ 0 ≤ q := by omega
  have f := L.fit
  rw [Int.add_zero] at f
  unfold FitE facZ sizZ at f
  rw [if_neg c, if_neg c] at f
  have f : h * b ^ (-q).toNat ≤ (l * b ^ (-q).toNat / m + most) * m := f
  obtain ⟨d1, d2⟩ := div_facts (l * b ^ (-q).toNat) (show 0 < m by omega)
  rw [Int.add_mul, Int.mul_comm (l * b ^ (-q).toNat / m)] at f
  have g : (h - l) * b ^ (-q).toNat ≤ most * m := by
    rw [Int.sub_mul]
    omega
  have p1 := pow_pos' b1 (-q).toNat
  have g2 := Int.mul_le_mul_of_nonneg_right len (show 0 ≤ b ^ (-q).toNat by omega)
  have g3 := Int.mul_le_mul C.m6 m25 (by omega) (by decide)
  rw [← pow_add'] at g2
  have h1 := pow_base_le (a := 2) (b := b) (by decide) C.b2 (7 + (-q).toNat)
  have h2 := pow_le' (b := 2) (by decide) (show 8 ≤ 7 + (-q).toNat by omega)
  have h3 : (2 : Int) ^ 8 = 256 := by decide
  omega
/-- how far a range grows in k widenings -/
def Grow (b x y x' y' : Int) (k : Nat) : Prop := ∀ W : Int, -W ≤ x → y ≤ W → (-(1024 ^ k * W) ≤ x' ∧ y' ≤ 1024 ^ k * W) ∧ (x ≤ 0 → 0 ≤ y → 25 ≤ W → -(b ^ k * W) ≤ x' ∧ y' ≤ b ^ k * W)
theorem Grow.comp {x y x1 y1 x2 y2 : Int} {i j : Nat} (b1 : 1 ≤ b) (g : Grow b x y x1 y1 i) (h1 : x1 ≤ x) (h2 : y ≤ y1) (lt : x < y) (h : Grow b x1 y1 x2 y2 j) : Grow b x y x2 y2 (i + j) := fun W w1 w2 => by
  obtain ⟨⟨a1, a2⟩, a3⟩ := g W w1 w2
  have W0 : 0 ≤ W := by omega
  refine ⟨?_, fun x0 y0 w25 => ?_⟩
  · rw [Nat.add_comm, pow_add', Int.mul_assoc]
    exact (h _ a1 a2).1
  · obtain ⟨c1, c2⟩ := a3 x0 y0 w25
    rw [Nat.add_comm, pow_add', Int.mul_assoc]
    have p := pow_pos' b1 i
    have := Int.mul_le_mul_of_nonneg_right p W0
    exact (h _ c1 c2).2 (by omega) (by omega) (by omega)
theorem lad_near {m W : Int} (b2 : 2 ≤ b) (m1 : 1 ≤ m) (mW : m ≤ W) : ∃ e : Nat, W ≤ m * b ^ e ∧ m * b ^ e ≤ b * W := by
  obtain ⟨g1, g2⟩ := lg_spec (b := b) (m := W) b2 (by omega)
  have all : ∀ n : Nat, W ≤ m * b ^ n → ∃ e : Nat, W ≤ m * b ^ e ∧ m * b ^ e ≤ b * W := by
    intro n
    induction n with
    | zero =>
      intro h
      rw [Int.pow_zero, Int.mul_one] at h
      refine ⟨0, by rw [Int.pow_zero, Int.mul_one]; exact h, ?_⟩
      rw [Int.pow_zero, Int.mul_one]
      have := Int.mul_le_mul_of_nonneg_right (show 1 ≤ b by omega) (show 0 ≤ W by omega)
      omega
    | succ n ih =>
      intro h
      by_cases c : W ≤ m * b ^ n
      · exact ih c
      · refine ⟨n + 1, h, ?_⟩
        rw [Int.pow_succ, ← Int.mul_assoc, Int.mul_comm]
        exact Int.mul_le_mul_of_nonneg_left (by omega) (by omega)
  have p := pow_pos' (b := b) (by omega) (lg b W + 1)
  have := Int.mul_le_mul_of_nonneg_right m1 (show 0 ≤ b ^ (lg b W + 1) by omega)
  exact all (lg b W + 1) (by omega)
theorem stp0 (C : Cov b ms most) {X Y s W : Int} (S : Stp b ms most X Y s) (x0 : X ≤ 0) (y0 : 0 ≤ Y) (w1 : -W ≤ X) (w2 : Y ≤ W) (w25 : 25 ≤ W) : s ≤ b * W := by
  obtain ⟨m, r, rfl⟩ := List.exists_cons_of_ne_nil C.ne
  obtain ⟨m1, m25, _⟩ := C.all m (List.mem_cons_self ..)
  obtain ⟨e, h1, h2⟩ := lad_near C.b2 m1 (show m ≤ W by omega)
  refine Int.le_trans (S.least _ ⟨m, List.mem_cons_self .., e, rfl⟩ ?_) h2
  show Y ≤ (X / (m * b ^ e) + most) * (m * b ^ e)
  have sp : 0 < m * b ^ e := by omega
  have d : -1 ≤ X / (m * b ^ e) := (le_div_iff sp).mpr (by omega)
  have := Int.mul_le_mul_of_nonneg_right (show 1 ≤ X / (m * b ^ e) + most by have := C.m2; omega) (show 0 ≤ m * b ^ e by omega)
  omega
/-- a widening, in units of the scale -/
theorem wid_int (C : Cov b ms most) {T U : Tri} {X Y D : Int} (W : Wid b ms most T U) (e : Eq3 b (X, Y, D) T) (len : b ^ 7 ≤ Y - X) : ∃ s, Stp b ms most X Y s ∧ Eq3 b (X / s * s, -(-Y / s) * s, D) U ∧ Grow b X Y (X / s * s) (-(-Y / s) * s) 1 := by
  have b1 : 1 ≤ b := by have := C.b2; omega
  have hm : ∀ m ∈ ms, 1 ≤ m := fun m h => (C.all m h).1
  obtain ⟨T0, e0, m, q, L, e1⟩ := W
  obtain ⟨i, j, f1, f2, f3⟩ := e.trans e0
  have f1 : X * b ^ i = T0.1 * b ^ j := f1
  have f2 : Y * b ^ i = T0.2.1 * b ^ j := f2
  have f3 : D + i = T0.2.2 + j := f3
  have L1 := L.wide0 j b1 hm
  rw [← f1, ← f2] at L1
  have L2 := L1.narrow0 b1 hm
  have q0 := C.whole len L2
  obtain ⟨n, hn⟩ := Int.eq_ofNat_of_zero_le q0
  have m1 := hm m L.mem
  have p1 := pow_pos' b1 n
  have fz : ∀ k : Nat, facZ b (k : Int) = 1 := fun k => by unfold facZ; rw [if_pos (by omega)]
  have sz : ∀ (m : Int) (k : Nat), sizZ b m (k : Int) = m * b ^ k := fun m k => by unfold sizZ; rw [if_pos (by omega), Int.toNat_natCast]
  have b7 := pow_pos' b1 7
  have coarse := C.coarse (show X < Y by omega) L2 q0
  rw [hn] at L2 coarse
  rw [sz] at coarse
  have St : Stp b ms most X Y (m * b ^ n) := by
    refine ⟨⟨m, L.mem, n, rfl⟩, ?_, ?_⟩
    · have f := L2.fit
      rw [Int.add_zero] at f
      unfold FitE at f
      rw [fz, sz, Int.mul_one, Int.mul_one] at f
      exact f
    · rintro s' ⟨m', hm', n', rfl⟩ f
      have fit : FitE b .cov most X Y m' ((n' : Int) + 0) := by
        rw [Int.add_zero]
        unfold FitE
        rw [fz, sz, Int.mul_one, Int.mul_one]
        exact f
      have le := least_gen L2 hm' fit (N := 0) (by omega) (by omega)
      unfold szN at le
      rw [Int.zero_add, Int.zero_add, Int.toNat_natCast, Int.toNat_natCast] at le
      exact le
  refine ⟨m * b ^ n, St, ?_, ?_⟩
  · have s1 := wTri_scale (q := (n : Int)) b1 m1 i (X, Y, D)
    have s2 := wTri_scale (q := q) b1 m1 j T0
    have s1 : Eq3 b (wTri b m ((n : Int) + i) (X * b ^ i, Y * b ^ i, D + i)) (wTri b m (n : Int) (X, Y, D)) := s1
    rw [f1, f2, f3, show (n : Int) + i = q + j by omega] at s1
    have s3 := (s1.symm.trans s2).trans e1
    unfold wTri wLo wHi at s3
    rw [fz, sz] at s3
    have s3 : Eq3 b (X * 1 / (m * b ^ n) * (m * b ^ n), -(-(Y * 1) / (m * b ^ n)) * (m * b ^ n), D + ((-(n : Int)).toNat : Int)) U := s3
    rw [Int.mul_one, Int.mul_one, show (((-(n : Int)).toNat : Nat) : Int) = 0 by omega, Int.add_zero] at s3
    exact s3
  · intro W w1 w2
    have s1 := St.lad.pos b1 hm
    obtain ⟨_, d2⟩ := div_facts X (show 0 < m * b ^ n by omega)
    obtain ⟨_, c2⟩ := ceil_facts Y (show 0 < m * b ^ n by omega)
    rw [Int.mul_comm] at d2 c2
    rw [Int.pow_succ, Int.pow_zero, Int.one_mul, Int.pow_succ, Int.pow_zero, Int.one_mul]
    refine ⟨⟨by omega, by omega⟩, fun x0 y0 w25 => ?_⟩
    have g := stp0 C St x0 y0 w1 w2 w25
    have g2 := Int.mul_le_mul_of_nonneg_right C.b2 (show 0 ≤ W by omega)
    by_cases c : m * b ^ n < W
    · exact ⟨by omega, by omega⟩
    · have sp : 0 < m * b ^ n := by omega
      have r1 := Int.mul_le_mul_of_nonneg_right (show -1 ≤ X / (m * b ^ n) from (le_div_iff sp).mpr (by omega)) (show 0 ≤ m * b ^ n by omega)
      have r2 := Int.mul_le_mul_of_nonneg_right (show -(-Y / (m * b ^ n)) ≤ 1 by have := (le_div_iff (x := -1) (y := -Y) sp).mpr (by omega); omega) (show 0 ≤ m * b ^ n by omega)
      exact ⟨by omega, by omega⟩
/-- a round, in units of the scale -/
theorem round_int : ∀ {rs : List CRu} (ne : rs ≠ []) {T U : Tri} {X Y D : Int}, (∀ r ∈ rs, Cov b r.1 r.2) → Round b rs T U → Eq3 b (X, Y, D) T → b ^ 7 ≤ Y - X → ∃ s x' y', Rd b (rs.getLast ne).1 (rs.getLast ne).2 X Y s x' y' ∧ Eq3 b (x', y', D) U ∧ Grow b X Y x' y' rs.length
  | [r], _, T, U, X, Y, D, CA, ⟨V, W, e⟩, eT, len => by
    obtain ⟨s, S, eV, g⟩ := wid_int (CA r (List.mem_cons_self ..)) W eT len
    exact ⟨s, _, _, ⟨⟨X, Y, Int.le_refl _, Int.le_refl _, S, rfl, rfl⟩⟩, eV.trans e, g⟩
  | r :: r' :: rs, _, T, U, X, Y, D, CA, ⟨V, W, h⟩, eT, len => by
    have C := CA r (List.mem_cons_self ..)
    have b1 : 1 ≤ b := by have := C.b2; omega
    obtain ⟨s, S, eV, g⟩ := wid_int C W eT len
    have s1 := S.lad.pos b1 fun m h => (C.all m h).1
    obtain ⟨d1, _⟩ := div_facts X (show 0 < s by omega)
    obtain ⟨c1, _⟩ := ceil_facts Y (show 0 < s by omega)
    rw [Int.mul_comm] at d1 c1
    have b7 := pow_pos' b1 7
    obtain ⟨s', x', y', R, eU, g'⟩ := round_int (rs := r' :: rs) (by simp) (fun r h => CA r (List.mem_cons_of_mem _ h)) h eV (by omega)
    obtain ⟨u, v, h1, h2, rest⟩ := R.ex
    exact ⟨s', x', y', ⟨⟨u, v, by omega, by omega, rest⟩⟩, eU, by rw [List.length_cons, Nat.add_comm]; exact g.comp b1 (by omega) (by omega) (by omega) g'⟩
/-! ### chains -/
theorem SameS.of {T T' : Tri} {X Y X' Y' D : Int} (e : Eq3 b (X, Y, D) T) (e' : Eq3 b (X', Y', D) T') (h : SameS b X Y X' Y') : SameS b T.1 T.2.1 T'.1 T'.2.1 := by
  obtain ⟨i, j, a1, a2, _⟩ := e
  obtain ⟨i', j', a1', a2', _⟩ := e'
  obtain ⟨p, q, c1, c2⟩ := h
  have a1 : X * b ^ i = T.1 * b ^ j := a1
  have a2 : Y * b ^ i = T.2.1 * b ^ j := a2
  have a1' : X' * b ^ i' = T'.1 * b ^ j' := a1'
  have a2' : Y' * b ^ i' = T'.2.1 * b ^ j' := a2'
  have go : ∀ {z z' t t' : Int}, z * b ^ i = t * b ^ j → z' * b ^ i' = t' * b ^ j' → z * b ^ p = z' * b ^ q → t * b ^ (j + (i' + p)) = t' * b ^ (j' + (i + q)) := fun {z z' t t'} h1 h2 h3 => by
    have e1 : t * b ^ (j + (i' + p)) = z * b ^ p * b ^ (i + i') := by
      rw [pow_add', ← Int.mul_assoc, ← h1, mul_pow3, mul_pow3, show i + (i' + p) = p + (i + i') by omega]
    have e2 : t' * b ^ (j' + (i + q)) = z' * b ^ q * b ^ (i + i') := by
      rw [pow_add', ← Int.mul_assoc, ← h2, mul_pow3, mul_pow3, show i' + (i + q) = q + (i + i') by omega]
    rw [e1, e2, h3]
  exact ⟨_, _, go a1 a1' c1, go a2 a2' c2⟩
structure Chain (b : Int) (ms : List Int) (most D : Int) (len : Nat) (T : Nat → Tri) (N : Nat) (X Y S : Nat → Int) : Prop where
  eq : ∀ n ≤ N, Eq3 b (X n, Y n, D) (T n)
  rd : ∀ n < N, Rd b ms most (X n) (Y n) (S n) (X (n + 1)) (Y (n + 1))
  gr : ∀ n < N, Grow b (X n) (Y n) (X (n + 1)) (Y (n + 1)) len
theorem chain_ex {rs : List CRu} (ne : rs ≠ []) (CA : ∀ r ∈ rs, Cov b r.1 r.2) {T : Nat → Tri} {l h d : Int} (lt : l < h) (h0 : T 0 = (l, h, d)) : ∀ N, (∀ n < N, Round b rs (T n) (T (n + 1))) → ∃ X Y S : Nat → Int, X 0 = l * b ^ 7 ∧ Y 0 = h * b ^ 7 ∧ Chain b (rs.getLast ne).1 (rs.getLast ne).2 (d + 7) rs.length T N X Y S := by
  have C := CA _ (List.getLast_mem ne)
  have b1 : 1 ≤ b := by have := C.b2; omega
  intro N
  induction N with
  | zero =>
    intro _
    refine ⟨fun _ => l * b ^ 7, fun _ => h * b ^ 7, fun _ => 0, rfl, rfl, ⟨fun n hn => ?_, fun n hn => absurd hn (Nat.not_lt_zero n), fun n hn => absurd hn (Nat.not_lt_zero n)⟩⟩
    obtain rfl : n = 0 := by omega
    rw [h0]
    exact (Eq3.up b l h d 7).symm
  | succ N ih =>
    intro hR
    obtain ⟨X, Y, S, e1, e2, G⟩ := ih fun n hn => hR n (by omega)
    have hall : ∀ m ∈ (rs.getLast ne).1, 1 ≤ m := fun m h => (C.all m h).1
    obtain ⟨g1, g2⟩ := nested b1 hall G.rd (i := 0) (j := N) (Nat.zero_le _) (Nat.le_refl _)
    have len : b ^ 7 ≤ Y N - X N := by
      have := Int.mul_le_mul_of_nonneg_right (show 1 ≤ h - l by omega) (show 0 ≤ b ^ 7 by have := pow_pos' b1 7; omega)
      rw [Int.sub_mul] at this
      omega
    obtain ⟨s, x', y', R, eU, gw⟩ := round_int ne CA (hR N (by omega)) (G.eq N (Nat.le_refl _)) len
    refine ⟨fun n => if n ≤ N then X n else x', fun n => if n ≤ N then Y n else y', fun n => if n < N then S n else s, by show (if 0 ≤ N then X 0 else x') = _; rw [if_pos (Nat.zero_le _)]; exact e1, by show (if 0 ≤ N then Y 0 else y') = _; rw [if_pos (Nat.zero_le _)]; exact e2, ⟨fun n hn => ?_, fun n hn => ?_, fun n hn => ?_⟩⟩
    · by_cases c : n ≤ N
      · show Eq3 b (if n ≤ N then X n else x', if n ≤ N then Y n else y', d + 7) (T n)
        rw [if_pos c, if_pos c]
        exact G.eq n c
      · obtain rfl : n = N + 1 := by omega
        show Eq3 b (if N + 1 ≤ N then X (N + 1) else x', if N + 1 ≤ N then Y (N + 1) else y', d + 7) (T (N + 1))
        rw [if_neg c, if_neg c]
        exact eU
    · by_cases c : n < N
      · show Rd b _ _ (if n ≤ N then X n else x') (if n ≤ N then Y n else y') (if n < N then S n else s) (if n + 1 ≤ N then X (n + 1) else x') (if n + 1 ≤ N then Y (n + 1) else y')
        rw [if_pos (show n ≤ N by omega), if_pos (show n ≤ N by omega), if_pos c, if_pos (show n + 1 ≤ N by omega), if_pos (show n + 1 ≤ N by omega)]
        exact G.rd n c
      · obtain rfl : n = N := by omega
        show Rd b _ _ (if n ≤ n then X n else x') (if n ≤ n then Y n else y') (if n < n then S n else s) (if n + 1 ≤ n then X (n + 1) else x') (if n + 1 ≤ n then Y (n + 1) else y')
        rw [if_pos (show n ≤ n by omega), if_pos (show n ≤ n by omega), if_neg c, if_neg (show ¬ n + 1 ≤ n by omega), if_neg (show ¬ n + 1 ≤ n by omega)]
        exact R
    · by_cases c : n < N
      · show Grow b (if n ≤ N then X n else x') (if n ≤ N then Y n else y') (if n + 1 ≤ N then X (n + 1) else x') (if n + 1 ≤ N then Y (n + 1) else y') _
        rw [if_pos (show n ≤ N by omega), if_pos (show n ≤ N by omega), if_pos (show n + 1 ≤ N by omega), if_pos (show n + 1 ≤ N by omega)]
        exact G.gr n c
      · obtain rfl : n = N := by omega
        show Grow b (if n ≤ n then X n else x') (if n ≤ n then Y n else y') (if n + 1 ≤ n then X (n + 1) else x') (if n + 1 ≤ n then Y (n + 1) else y') _
        rw [if_pos (show n ≤ n by omega), if_pos (show n ≤ n by omega), if_neg (show ¬ n + 1 ≤ n by omega), if_neg (show ¬ n + 1 ≤ n by omega)]
        exact gw
/-- rounds whose ranges differ, also by powers of the base, are few -/
theorem rounds_short {rs : List CRu} (ne : rs ≠ []) (CA : ∀ r ∈ rs, Cov b r.1 r.2) {T : Nat → Tri} {N : Nat} {l h d : Int} (lt : l < h) (h0 : T 0 = (l, h, d)) (hl : l < 2 ^ 66) (hh : -(2 ^ 66) < h) (hR : ∀ n < N, Round b rs (T n) (T (n + 1)))
    (df : ∀ i j, i < j → j ≤ N → ¬ SameS b (T i).1 (T i).2.1 (T j).1 (T j).2.1) : N ≤ 894 := by
  have C := CA _ (List.getLast_mem ne)
  obtain ⟨X, Y, S, e1, e2, G⟩ := chain_ex ne CA lt h0 N hR
  have p1 := pow_pos' (b := b) (by have := C.b2; omega) 7
  have p7 := pow_base_le (a := b) (b := 10) (by have := C.b2; omega) C.b10 7
  have e7 : (10 : Int) ^ 7 = 10000000 := by decide
  have e66 : (2 : Int) ^ 66 = 73786976294838206464 := by decide
  have e90 : (2 : Int) ^ 90 = 1237940039285380274899124224 := by decide
  have x0 : X 0 < 2 ^ 90 := by
    rw [e1]
    by_cases c : 0 ≤ l
    · have := Int.mul_le_mul (show l ≤ 2 ^ 66 by omega) (show b ^ 7 ≤ 10000000 by omega) (by omega) (by omega)
      omega
    · have := Int.mul_le_mul_of_nonneg_right (show l ≤ 0 by omega) (show 0 ≤ b ^ 7 by omega)
      omega
  have y0 : -(2 ^ 90) < Y 0 := by
    rw [e2]
    by_cases c : h ≤ 0
    · have := Int.mul_le_mul (show -h ≤ 2 ^ 66 by omega) (show b ^ 7 ≤ 10000000 by omega) (by omega) (by omega)
      rw [Int.neg_mul] at this
      omega
    · have := Int.mul_le_mul_of_nonneg_right (show 0 ≤ h by omega) (show 0 ≤ b ^ 7 by omega)
      omega
  refine chain_short C.b2 (fun m h => (C.all m h).1) C.m6 C.le G.rd ?_ x0 y0 fun i j h1 h2 z => df i j h1 h2 (SameS.of (G.eq i (by omega)) (G.eq j h2) z)
  rw [e1, e2]
  exact Int.mul_lt_mul_of_pos_right lt (by omega)
end
end Ax

namespace Ax
/-! # how great shapes get; where one comes back -/
section
variable {b : Int}
theorem mod_pow0 {x : Int} {n : Nat} (hn : 0 < n) : x * b ^ n % b = 0 := by
  obtain ⟨k, rfl⟩ := Nat.exists_eq_succ_of_ne_zero (by omega : n ≠ 0)
  rw [Int.pow_succ, ← Int.mul_assoc]
  exact Int.mul_emod_left _ _
theorem Eq3.red {x y D : Int} {U : Tri} (b1 : 1 ≤ b) (e : Eq3 b (x, y, D) U) (no : ¬ (U.1 % b = 0 ∧ U.2.1 % b = 0)) : ∃ k : Nat, x = U.1 * b ^ k ∧ y = U.2.1 * b ^ k ∧ D = U.2.2 + k := by
  obtain ⟨i, j, f1, f2, f3⟩ := e
  have f1 : x * b ^ i = U.1 * b ^ j := f1
  have f2 : y * b ^ i = U.2.1 * b ^ j := f2
  have f3 : D + i = U.2.2 + j := f3
  have cut : ∀ {z u : Int} {p q : Nat}, z * b ^ (p + q) = u * b ^ q → z * b ^ p = u := fun {z u p q} h => by
    have p1 := pow_pos' b1 q
    rw [pow_add', ← Int.mul_assoc] at h
    exact Int.eq_of_mul_eq_mul_right (by omega) h
  by_cases c : i ≤ j
  · refine ⟨j - i, ?_, ?_, by omega⟩
    · exact (cut (p := j - i) (q := i) (by rw [show j - i + i = j by omega]; exact f1.symm)).symm
    · exact (cut (p := j - i) (q := i) (by rw [show j - i + i = j by omega]; exact f2.symm)).symm
  · have g1 := cut (p := i - j) (q := j) (by rw [show i - j + j = i by omega]; exact f1)
    have g2 := cut (p := i - j) (q := j) (by rw [show i - j + j = i by omega]; exact f2)
    exact absurd ⟨by rw [← g1]; exact mod_pow0 (by omega), by rw [← g2]; exact mod_pow0 (by omega)⟩ no
theorem abs_pow {x M : Int} {k : Nat} (b1 : 1 ≤ b) (h1 : -M ≤ x * b ^ k) (h2 : x * b ^ k ≤ M) : -M ≤ x ∧ x ≤ M := by
  have p1 := pow_pos' b1 k
  rcases Int.le_total 0 x with c | c
  · have := Int.mul_le_mul_of_nonneg_left p1 c
    omega
  · have g : -x * 1 ≤ -x * b ^ k := Int.mul_le_mul_of_nonneg_left p1 (show 0 ≤ -x by omega)
    have e : -x * b ^ k = -(x * b ^ k) := Int.neg_mul x (b ^ k)
    rw [Int.mul_one, e] at g
    omega
theorem shape_bound {rs : List CRu} (ne : rs ≠ []) (CA : ∀ r ∈ rs, Cov b r.1 r.2) {T : Nat → Tri} {N : Nat} {l h d : Int} (lt : l < h) (h0 : T 0 = (l, h, d)) (hl : -(2 ^ 66) < l) (hh : h < 2 ^ 66) (hR : ∀ n < N, Round b rs (T n) (T (n + 1))) :
    ∀ n ≤ N, ¬ ((T n).1 % b = 0 ∧ (T n).2.1 % b = 0) → -(2 ^ 94) ≤ (T n).1 ∧ (T n).2.1 ≤ 2 ^ 94 ∧ (T n).1 < (T n).2.1 := by
  intro n hn no
  have C := CA _ (List.getLast_mem ne)
  have b1 : 1 ≤ b := by have := C.b2; omega
  have hall : ∀ m ∈ (rs.getLast ne).1, 1 ≤ m := fun m h => (C.all m h).1
  obtain ⟨X, Y, S, e1, e2, G⟩ := chain_ex ne CA lt h0 N hR
  have p1 := pow_pos' b1 7
  have p7 := pow_base_le (a := b) (b := 10) (by have := C.b2; omega) C.b10 7
  have e7 : (10 : Int) ^ 7 = 10000000 := by decide
  have e66 : (2 : Int) ^ 66 = 73786976294838206464 := by decide
  have e94 : (2 : Int) ^ 94 = 19807040628566084398385987584 := by decide
  have X0 : X 0 ≤ 737869762948382064640000000 := by
    rw [e1]
    by_cases c : 0 ≤ l
    · have := Int.mul_le_mul (show l ≤ 73786976294838206464 by omega) (show b ^ 7 ≤ 10000000 by omega) (by omega) (by omega)
      omega
    · have := Int.mul_le_mul_of_nonneg_right (show l ≤ 0 by omega) (show 0 ≤ b ^ 7 by omega)
      omega
  have Y0 : -737869762948382064640000000 ≤ Y 0 := by
    rw [e2]
    by_cases c : h ≤ 0
    · have := Int.mul_le_mul (show -h ≤ 73786976294838206464 by omega) (show b ^ 7 ≤ 10000000 by omega) (by omega) (by omega)
      rw [Int.neg_mul] at this
      omega
    · have := Int.mul_le_mul_of_nonneg_right (show 0 ≤ h by omega) (show 0 ≤ b ^ 7 by omega)
      omega
  obtain ⟨k, f1, f2, _⟩ := (G.eq n hn).red b1 no
  have pk := pow_pos' b1 k
  obtain ⟨g1, g2⟩ := nested b1 hall G.rd (i := 0) (j := n) (Nat.zero_le _) hn
  have l0 : X 0 < Y 0 := by
    rw [e1, e2]
    exact Int.mul_lt_mul_of_pos_right lt (by omega)
  have ltT : (T n).1 < (T n).2.1 := Int.lt_of_mul_lt_mul_right (show (T n).1 * b ^ k < (T n).2.1 * b ^ k by rw [← f1, ← f2]; omega) (by omega)
  refine ⟨?_, ?_, ltT⟩
  all_goals
    cases n with
    | zero => rw [h0]; first | (show -(2 ^ 94) ≤ l; omega) | (show h ≤ 2 ^ 94; omega)
    | succ n =>
      obtain ⟨s1, _, _, ⟨a, ea⟩, ⟨c, ec⟩, len⟩ := (G.rd n hn).facts b1 hall
      have len6 : Y (n + 1) - X (n + 1) ≤ 6 * S n := Int.le_trans len (Int.mul_le_mul_of_nonneg_right C.m6 (by omega))
      by_cases p : 0 < X (n + 1)
      · have sx : S n ≤ X (n + 1) := Int.le_of_dvd p ⟨a, by rw [ea, Int.mul_comm]⟩
        have r1 := abs_pow (M := 2 ^ 94) b1 (show -(2 ^ 94) ≤ (T (n + 1)).1 * b ^ k by rw [← f1]; omega) (by rw [← f1]; omega)
        have r2 := abs_pow (M := 2 ^ 94) b1 (show -(2 ^ 94) ≤ (T (n + 1)).2.1 * b ^ k by rw [← f2]; omega) (by rw [← f2]; omega)
        omega
      · by_cases q : Y (n + 1) < 0
        · have sy : S n ≤ -Y (n + 1) := Int.le_of_dvd (by omega) ⟨-c, by rw [ec, Int.mul_neg, Int.mul_comm]⟩
          have r1 := abs_pow (M := 2 ^ 94) b1 (show -(2 ^ 94) ≤ (T (n + 1)).1 * b ^ k by rw [← f1]; omega) (by rw [← f1]; omega)
          have r2 := abs_pow (M := 2 ^ 94) b1 (show -(2 ^ 94) ≤ (T (n + 1)).2.1 * b ^ k by rw [← f2]; omega) (by rw [← f2]; omega)
          omega
        · obtain ⟨u, v, _, _, ⟨⟨m, hm, e, es⟩, _, _⟩, _⟩ := (G.rd n hn).ex
          obtain ⟨m1, m25, _⟩ := C.all m hm
          have a0 : a ≤ 0 := Int.le_of_mul_le_mul_right (show a * S n ≤ 0 * S n by rw [Int.zero_mul, ← ea]; omega) (by omega)
          have c0 : 0 ≤ c := Int.le_of_mul_le_mul_right (show 0 * S n ≤ c * S n by rw [Int.zero_mul, ← ec]; omega) (by omega)
          have ac : c - a ≤ 6 := Int.le_of_mul_le_mul_right (show (c - a) * S n ≤ 6 * S n by
            rw [Int.sub_mul, ← ea, ← ec]
            exact len6) (by omega)
          have am : -150 ≤ a * m := by
            have := Int.mul_le_mul (show -a ≤ 6 by omega) m25 (by omega) (by decide)
            rw [Int.neg_mul] at this
            omega
          have am0 : a * m ≤ 0 := Int.mul_nonpos_of_nonpos_of_nonneg a0 (by omega)
          have cm : c * m ≤ 150 := Int.mul_le_mul (show c ≤ 6 by omega) m25 (by omega) (by decide)
          have cm0 : 0 ≤ c * m := Int.mul_nonneg c0 (by omega)
          have E1 : Eq3 b (a * m, c * m, 0) ((T (n + 1)).1, (T (n + 1)).2.1, (e : Int) - k) := ⟨e, k, by show a * m * b ^ e = _ * b ^ k; rw [← f1, ea, es, Int.mul_assoc], by show c * m * b ^ e = _ * b ^ k; rw [← f2, ec, es, Int.mul_assoc], by show (0 : Int) + e = e - k + k; omega⟩
          obtain ⟨j, h1, h2, _⟩ := E1.red b1 no
          have h1 : a * m = (T (n + 1)).1 * b ^ j := h1
          have h2 : c * m = (T (n + 1)).2.1 * b ^ j := h2
          have r1 := abs_pow (M := 150) b1 (show -150 ≤ (T (n + 1)).1 * b ^ j by rw [← h1]; exact am) (by rw [← h1]; omega)
          have r2 := abs_pow (M := 150) b1 (show -150 ≤ (T (n + 1)).2.1 * b ^ j by rw [← h2]; omega) (by rw [← h2]; exact cm)
          omega
/-- a range that comes back itself rests -/
theorem back_rests {rs : List CRu} (ne : rs ≠ []) (CA : ∀ r ∈ rs, Cov b r.1 r.2) {T : Nat → Tri} {N : Nat} {l h d : Int} (lt : l < h) (h0 : T 0 = (l, h, d)) (hR : ∀ n < N, Round b rs (T n) (T (n + 1))) {i j : Nat} (hij : i < j) (hj : j ≤ N) (e : Eq3 b (T i) (T j)) : Eq3 b (T i) (T (i + 1)) := by
  have C := CA _ (List.getLast_mem ne)
  have b1 : 1 ≤ b := by have := C.b2; omega
  have hall : ∀ m ∈ (rs.getLast ne).1, 1 ≤ m := fun m h => (C.all m h).1
  obtain ⟨X, Y, S, e1, e2, G⟩ := chain_ex ne CA lt h0 N hR
  obtain ⟨p, q, f1, f2, f3⟩ := ((G.eq i (by omega)).trans e).trans (G.eq j hj).symm
  have f1 : X i * b ^ p = X j * b ^ q := f1
  have f2 : Y i * b ^ p = Y j * b ^ q := f2
  have f3 : d + 7 + p = d + 7 + q := f3
  obtain rfl : p = q := by omega
  have pp := pow_pos' b1 p
  have x1 : X i = X j := Int.eq_of_mul_eq_mul_right (by omega) f1
  have y1 : Y i = Y j := Int.eq_of_mul_eq_mul_right (by omega) f2
  obtain ⟨g1, g2⟩ := nested b1 hall G.rd (i := i) (j := i + 1) (by omega) (by omega)
  obtain ⟨g3, g4⟩ := nested b1 hall G.rd (i := i + 1) (j := j) (by omega) hj
  have a1 := G.eq i (by omega)
  have a2 := G.eq (i + 1) (by omega)
  rw [show X (i + 1) = X i by omega, show Y (i + 1) = Y i by omega] at a2
  exact a1.symm.trans a2
end
end Ax

namespace Ax
open PySem L2
/-! ### course: what is behind a range's rounds -/
abbrev kOf (s : Tri) : List L2.Key := [.inl s.1, .inl s.2.1]
/-- a shape (low, high, power) as a range -/
def sT (s : Tri) : Tri := (s.1, s.2.1, -s.2.2)
def ext {α : Type} (S : Nat → α) (n : Nat) (x : α) : Nat → α := fun k => if k ≤ n then S k else x
theorem ext_le {α : Type} {S : Nat → α} {n k : Nat} {x : α} (h : k ≤ n) : ext S n x k = S k := if_pos h
theorem ext_new {α : Type} {S : Nat → α} {n : Nat} {x : α} : ext S n x (n + 1) = x := if_neg (by omega)
/-- the course of a shape: at J rounds it is what it was at I, by a power of the base -/
structure Course (b : Int) (rs : List CRu) (S : Nat → Tri) (I J : Nat) : Prop where
  lt : I < J
  back : kOf (S I) = kOf (S J)
  rd : ∀ n < J, Round b rs (sT (S n)) (sT (S (n + 1)))
  no : ∀ n ≤ J, ¬ ((S n).1 % b = 0 ∧ (S n).2.1 % b = 0)
  df : ∀ i j, i < j → j < J → kOf (S i) ≠ kOf (S j)
theorem put_new {kvs : List (List L2.Key × V)} {k : List L2.Key} {v : V} (h : valV kvs k = none) : putK kvs k v = kvs ++ [(k, v)] := by
  unfold putK
  rw [valV_any, h]
  rfl
theorem val_none {n : Nat} {f : Nat → List L2.Key} {g : Nat → V} {k : List L2.Key} (h : valV ((List.range n).map fun i => (f i, g i)) k = none) : ∀ i < n, f i ≠ k := fun i hi e => by
  have := valV_any k ((List.range n).map fun i => (f i, g i))
  rw [h] at this
  have z := List.any_eq_false.mp this (f i, g i) (List.mem_map.mpr ⟨i, List.mem_range.mpr hi, rfl⟩)
  exact z (decide_eq_true e)
theorem val_some {n : Nat} {f : Nat → List L2.Key} {g : Nat → V} {k : List L2.Key} {v : V} (h : valV ((List.range n).map fun i => (f i, g i)) k = some v) : ∃ i < n, f i = k ∧ v = g i := by
  unfold valV at h
  obtain ⟨p, hp, e⟩ := Option.map_eq_some_iff.mp h
  have h1 := List.find?_some hp
  obtain ⟨i, hi, rfl⟩ := List.mem_map.mp (List.mem_of_find?_eq_some hp)
  exact ⟨i, List.mem_range.mp hi, of_decide_eq_true h1, e.symm⟩
theorem keys_same {b : Int} {s t : Tri} (b1 : 1 ≤ b) (h1 : ¬ (s.1 % b = 0 ∧ s.2.1 % b = 0)) (h2 : ¬ (t.1 % b = 0 ∧ t.2.1 % b = 0)) (h : SameS b s.1 s.2.1 t.1 t.2.1) : kOf s = kOf t := by
  obtain ⟨i, j, a1, a2⟩ := h
  have e : Eq3 b (s.1, s.2.1, 0) (t.1, t.2.1, (i : Int) - j) := ⟨i, j, a1, a2, by show (0 : Int) + i = i - j + j; omega⟩
  obtain ⟨k, f1, f2, _⟩ := e.red b1 h2
  have f1 : s.1 = t.1 * b ^ k := f1
  have f2 : s.2.1 = t.2.1 * b ^ k := f2
  by_cases z : k = 0
  · rw [z, Int.pow_zero, Int.mul_one] at f1 f2
    unfold kOf
    rw [f1, f2]
  · exact absurd ⟨by rw [f1]; exact mod_pow0 (by omega), by rw [f2]; exact mod_pow0 (by omega)⟩ h1
/-- from here rounds soon bring a shape back, and the shapes stay small -/
def Tame (b : Int) (rs : List CRu) (s0 : Tri) : Prop := ∀ (S : Nat → Tri) (n : Nat), S 0 = s0 → (∀ i < n, Round b rs (sT (S i)) (sT (S (i + 1)))) → (∀ i ≤ n, ¬ ((S i).1 % b = 0 ∧ (S i).2.1 % b = 0)) → (∀ i j, i < j → j ≤ n → kOf (S i) ≠ kOf (S j)) →
  n ≤ 978 ∧ -(2 ^ 94) ≤ (S n).1 ∧ (S n).2.1 ≤ 2 ^ 94 ∧ (S n).1 < (S n).2.1
theorem tame_of {b : Int} {rs : List CRu} {s0 : Tri} (ne : rs ≠ []) (cv : ∀ r ∈ rs, Cov b r.1 r.2) (lt : s0.1 < s0.2.1) (hl : -(2 ^ 66) < s0.1) (hh : s0.2.1 < 2 ^ 66) : Tame b rs s0 := fun S n e rd no df => by
  have C0 := cv _ (List.getLast_mem ne)
  have b1 : 1 ≤ b := by have := C0.b2; omega
  have h0 : sT (S 0) = (s0.1, s0.2.1, -s0.2.2) := by rw [e]; rfl
  have n978 := rounds_short ne cv (T := fun i => sT (S i)) lt h0 (by omega) (by omega) rd fun i j h1 h2 z => df i j h1 h2 (keys_same b1 (no i (by omega)) (no j h2) z)
  obtain ⟨lo, hi, ltn⟩ := shape_bound ne cv (T := fun i => sT (S i)) lt h0 hl hh rd n (Nat.le_refl _) (no n (Nat.le_refl _))
  exact ⟨by omega, lo, hi, ltn⟩
theorem tame_rest {b : Int} {rs : List CRu} {s0 : Tri} (b2 : 2 ≤ b) (ha : AllHd b rs) (no0 : ¬ (s0.1 % b = 0 ∧ s0.2.1 % b = 0)) (R : Round b rs (sT s0) (sT s0)) (lt : s0.1 < s0.2.1) (lo : -(2 ^ 94) ≤ s0.1) (hi : s0.2.1 ≤ 2 ^ 94) : Tame b rs s0 := fun S n e rd no df => by
  cases n with
  | zero => rw [e]; exact ⟨by decide, lo, hi, lt⟩
  | succ n =>
    have r := rd 0 (by omega)
    rw [e] at r
    have d := Round.det b2 ha R r (Eq3.refl b _)
    obtain ⟨i, j, a1, a2, _⟩ := d
    have k := keys_same (s := s0) (t := S 1) (by omega) no0 (no 1 (by omega)) ⟨i, j, a1, a2⟩
    exact absurd (by rw [e]; exact k) (df 0 1 (by decide) (by omega))
section
variable {P : Program} {w : World} {K : PySem.W.Frag} {mg : Str → Option Value} {base : Heap} {A : Adr}
/-- what stands behind n rounds -/
structure CInv (H H' : Hp) (b : Int) (rs : List CRu) (s0 : Tri) (sd : Addr) (n : Nat) (S : Nat → Tri) (te pr : Nat → Addr) : Prop where
  s : Same H H'
  dat : H' sd = some (.dT ((List.range n).map fun i => (kOf (S i), V.ref (pr i))))
  prs : ∀ i < n, H' (pr i) = some (.tup [.int i, .ref (te i)])
  tes : ∀ i ≤ n, H' (te i) = some (.tup [.int (S i).1, .int (S i).2.1, .int (S i).2.2])
  s0 : S 0 = s0
  rd : ∀ i < n, Round b rs (sT (S i)) (sT (S (i + 1)))
  no : ∀ i ≤ n, ¬ ((S i).1 % b = 0 ∧ (S i).2.1 % b = 0)
  df : ∀ i j, i < j → j < n → kOf (S i) ≠ kOf (S j)
theorem rel_same {H H1 : Hp} {sd : Addr} {o : HO} (hsd : H sd = none) (s : Same H H1) : Same H (upd H1 sd o) := fun c u e => by
  rw [upd_ne (ne_of_none e hsd)]
  exact s _ _ e
theorem absP {F : Hp → Prop} {H : Hp} (P : Hp → Prop) (p : P H) (h : ∀ H', P H' → F H') : F H := h H p
theorem notw (a b c : V) : ¬ (HT.sIx [a, b, c].length 0 none = 0 ∧ HT.sIx [a, b, c].length [a, b, c].length (some 2) = [a, b, c].length) := by
  show ¬ (HT.sIx 3 0 none = 0 ∧ HT.sIx 3 3 (some 2) = 3)
  decide
def spCourse (A : Adr) : Sp := fun vs H Q _ => ∃ (L t : Addr) (as : List Addr) (rs : List CRu) (b : Int) (s0 : Tri), vs = [.ref L, .ref t] ∧ H L = some (.lst (as.map V.ref)) ∧ RlsAt A.c_Rule b H rs as ∧ CovAll b rs ∧ rs ≠ [] ∧ rs.length ≤ 3 ∧
  H t = some (.tup [.int s0.1, .int s0.2.1, .int s0.2.2]) ∧ Tame b rs s0 ∧ ¬ (s0.1 % b = 0 ∧ s0.2.1 % b = 0) ∧
  ∀ (H' : Hp) (q te : Addr) (S : Nat → Tri) (I J : Nat), Same H H' → H q = none → S 0 = s0 → J ≤ 979 → Course b rs S I J → H' q = some (.tup [.int I, .int ((J : Int) - I), .int ((S J).2.2 - (S I).2.2), .ref te]) → H' te = some (.tup [.int (S I).1, .int (S I).2.1, .int (S I).2.2]) → Q (.ref q) H'
abbrev nm_course : List Str := ["rules", "shape", "seen", "rounds", "before", "earlier"]
theorem sc_course : FnScope ["rules", "shape", "seen", "rounds", "before", "earlier"] ["rules", "shape"] (defScope s_course) := ⟨rfl, rfl, rfl, by decide +kernel, rfl, by decide +kernel, by decide +kernel⟩
theorem ok_course (T : Txt K mg A w) : FnOk P w K mg base CX0 7 A.a_course A.d_course ["rules", "shape"] (spCourse A) := by
  have G_next_shape : FnOk P w K mg base CX0 6 A.a_next_shape A.d_next_shape ["rules", "shape"] (spNext A) := ok_next T
  refine T.F_course.ok sc_course (fun vs H Q E h => ?_) (fun cdv A0 outer s H vs Q E hr h => ?_)
  · obtain ⟨L, t, as, rs, b, s0, rfl, _⟩ := h
    rfl
  · obtain ⟨L, t, as, rs, b, s0, rfl, hL, RA, CA, ne, le3, ht, tame, no0, q⟩ := h
    have hu : (A0.deeper (PyProof.Rows.envOfC "course" (defScope s_course) s.heap.objs.size A.a_course cdv)).units + 1 < cLine := Nat.lt_of_le_of_lt (Nat.add_le_add_left (by decide) _) hr.units
    refine ⟨_, (pss_cons (ps_set (i := 2) sc_course.nd rfl (Or.inl rfl) pe_dnewT)
  (pss_cons (ps_set (i := 3) sc_course.nd rfl (Or.inl rfl) pe_int)
  (pss_cons (ps_while PassesOwn.never (pt_cmp (pc_dnotin hu (pe_slice sl_tup (pv 1) po_none (po_some pe_int)) (pv 2)) (by rfl))
  (pss_cons (ps_dput hu (pv 2) (pe_slice sl_tup (pv 1) po_none (po_some pe_int)) (pe_tup (pa_cons (pv 3) (pa_cons (pv 1) pa_nil))) rfl)
  (pss_cons (ps_set (i := 1) sc_course.nd rfl (Or.inl rfl) (pe_call G_next_shape (hr.mono (by decide)) (by rfl) T.m_next_shape T.F_next_shape.kp T.B_next_shape .nil pass0 (pa_cons (pv 0) (pa_cons (pv 1) pa_nil))))
  (pss_one (ps_set (i := 3) sc_course.nd rfl (Or.inl rfl) (pe_op op_add (pv 3) pe_int))))))
  (pss_cons (ps_asg (pe_dget hu (pv 2) (pe_slice sl_tup (pv 1) po_none (po_some pe_int)) (fun _ _ => rfl)) (pg_tup (by rfl) (pgs_cons (pg_name (i := 4) sc_course.nd rfl (Or.inl rfl)) (pgs_cons (pg_name (i := 5) sc_course.nd rfl (Or.inl rfl)) pgs_nil))))
  (pss_one (ps_ret (pe_tup (pa_cons (pv 4) (pa_cons (pe_op op_sub (pv 3) (pv 4)) (pa_cons (pe_op op_sub (pe_ix ix_tup (pv 1) pe_int (fun _ _ => rfl)) (pe_ix ix_tup (pv 5) pe_int (fun _ _ => rfl))) (pa_cons (pv 5) pa_nil))))))))))), ?_⟩
    have C0 := CA _ (List.getLast_mem ne)
    have b1 : 1 ≤ b := by have := C0.b2; omega
    have cv : ∀ r ∈ rs, Cov b r.1 r.2 := CA
    intro sd hsd
    refine gN (σ' := [some (.ref L), some (.ref t), some (.ref sd), none, none, none]) rfl ?_
    have a0 := same_new (o := .dT []) hsd
    refine ⟨fun m σ H' => ∃ (n : Nat) (S : Nat → Tri) (te pr : Nat → Addr), σ = [some (.ref L), some (.ref (te n)), some (.ref sd), some (.int n), none, none] ∧ m = 1000 - n ∧ n ≤ 979 ∧ CInv H H' b rs s0 sd n S te pr,
      ⟨_, 0, fun _ => s0, fun _ => t, fun _ => t, rfl, rfl, by decide, ⟨a0, upd_same, fun i h => absurd h (Nat.not_lt_zero i), fun i _ => a0 _ _ ht, rfl, fun i h => absurd h (Nat.not_lt_zero i), fun _ _ => no0, fun i j _ h => absurd h (Nat.not_lt_zero j)⟩⟩, ?_⟩
    rintro m σ H1 ⟨n, S, te, pr, rfl, rfl, n979, G⟩
    have hn := G.tes n (Nat.le_refl _)
    refine ⟨_, rfl, 2, rfl, te n, _, rfl, SqT.of hn, notw _ _ _, fun k1 hk1 => ?_⟩
    have a1 := same_new (o := .tup [.int (S n).1, .int (S n).2.1]) hk1
    refine ⟨_, rfl, sd, _, rfl, DGet.t (k := kOf (S n)) (a1 _ _ G.dat) upd_same, _, rfl, ?_⟩
    cases hv : valV ((List.range n).map fun i => (kOf (S i), V.ref (pr i))) (kOf (S n)) with
    | none =>
      refine iteT ?_
      have fresh := val_none hv
      have df' : ∀ i j, i < j → j < n + 1 → kOf (S i) ≠ kOf (S j) := fun i j h1 h2 => by
        by_cases c : j < n
        · exact G.df i j h1 c
        · obtain rfl : j = n := by omega
          exact fresh i h1
      obtain ⟨n978, lo, hi, ltn⟩ := tame S n G.s0 G.rd G.no fun i j h1 h2 => df' i j h1 (by omega)
      refine ⟨fun σ' H' => ∃ (S' : Nat → Tri) (te' pr' : Nat → Addr), σ' = [some (.ref L), some (.ref (te' (n + 1))), some (.ref sd), some (.int (n + 1 : Nat)), none, none] ∧ CInv H H' b rs s0 sd (n + 1) S' te' pr', ?_, ?_⟩
      · rintro σ' H' ⟨S', te', pr', rfl, G'⟩
        exact ⟨1000 - (n + 1), by omega, n + 1, S', te', pr', rfl, rfl, by omega, G'⟩
      refine ⟨_, rfl, _, rfl, (by show 2 ≤ sizeLine; decide), fun pq hpq => ?_⟩
      have a2 := same_new (o := .tup [.int n, .ref (te n)]) hpq
      have a12 := a1.trans a2
      refine ⟨_, rfl, _, rfl, 2, rfl, te n, _, rfl, SqT.of (a12 _ _ hn), notw _ _ _, fun k2 hk2 => ?_⟩
      have a3 := same_new (o := .tup [.int (S n).1, .int (S n).2.1]) hk2
      have a13 := a12.trans a3
      refine ⟨sd, _, rfl, DPut.t (k := kOf (S n)) (a13 _ _ G.dat) upd_same (by rw [List.length_map, List.length_range, PySem.sizeLine_eq]; omega), ?_⟩
      rw [put_new hv]
      have sH := rel_same (o := .dT (((List.range n).map fun i => (kOf (S i), V.ref (pr i))) ++ [(kOf (S n), V.ref pq)])) hsd (G.s.trans a13)
      have pqv := a3 _ _ (upd_same (H := upd H1 k1 (.tup [.int (S n).1, .int (S n).2.1])) (a := pq) (o := .tup [.int n, .ref (te n)]))
      have ndT : ∀ {c : Addr} {ys : List V}, upd (upd (upd H1 k1 (.tup [.int (S n).1, .int (S n).2.1])) pq (.tup [.int n, .ref (te n)])) k2 (.tup [.int (S n).1, .int (S n).2.1]) c = some (.tup ys) → c ≠ sd := fun {c ys} e => ne_of e (a13 _ _ G.dat) (by intro z; cases z)
      refine absP (fun Hd => Same H Hd ∧ Hd sd = some (.dT (((List.range n).map fun i => (kOf (S i), V.ref (pr i))) ++ [(kOf (S n), V.ref pq)])) ∧ (∀ i < n, Hd (pr i) = some (.tup [.int i, .ref (te i)])) ∧ Hd pq = some (.tup [.int n, .ref (te n)]) ∧ ∀ i ≤ n, Hd (te i) = some (.tup [.int (S i).1, .int (S i).2.1, .int (S i).2.2]))
        ⟨sH, upd_same, fun i h => ?_, ?_, fun i h => ?_⟩ ?_
      · rw [upd_ne (ndT (a13 _ _ (G.prs i h)))]
        exact a13 _ _ (G.prs i h)
      · rw [upd_ne (ndT pqv)]
        exact pqv
      · rw [upd_ne (ndT (a13 _ _ (G.tes i h)))]
        exact a13 _ _ (G.tes i h)
      rintro Hd ⟨sd1, datd, prd, pqd, ted⟩
      have hM : (2 : Int) ^ 94 ≤ 2 ^ 860 := pow_le' (by decide) (by decide)
      refine ⟨_, rfl, _, rfl, L, te n, as, rs, b, (S n).1, (S n).2.1, (S n).2.2, 2 ^ 94, rfl, sd1 _ _ hL, RA.same sd1, CA, ne, le3, ted n (Nat.le_refl _), ltn, lo, hi, hM, fun H5 q2 l2 h2 p2 s5 q20 hq2 lt2 _ _ no2 RO _ => ?_⟩
      refine gN (σ' := [some (.ref L), some (.ref q2), some (.ref sd), some (.int n), none, none]) rfl ?_
      refine ⟨_, rfl, _, _, rfl, rfl, ?_⟩
      refine ⟨ext S n (l2, h2, p2), ext te n q2, fun i => if i < n then pr i else pq, by rw [ext_new]; rfl, ⟨sd1.trans s5, ?_, fun i h => ?_, fun i h => ?_, by rw [ext_le (Nat.zero_le _)]; exact G.s0, fun i h => ?_, fun i h => ?_, fun i j h1 h2 => ?_⟩⟩
      · rw [s5 _ _ datd, List.range_succ, List.map_append, List.map_singleton, ext_le (Nat.le_refl n), if_neg (Nat.lt_irrefl n)]
        congr 3
        refine List.map_congr_left fun i hi => ?_
        have hi := List.mem_range.mp hi
        show (kOf (S i), V.ref (pr i)) = (kOf (ext S n (l2, h2, p2) i), V.ref (if i < n then pr i else pq))
        rw [ext_le (Nat.le_of_lt hi), if_pos hi]
      · show H5 (if i < n then pr i else pq) = _
        by_cases c : i < n
        · rw [if_pos c, ext_le (Nat.le_of_lt c)]
          exact s5 _ _ (prd i c)
        · obtain rfl : i = n := by omega
          rw [if_neg c, ext_le (Nat.le_refl _)]
          exact s5 _ _ pqd
      · by_cases c : i ≤ n
        · rw [ext_le c, ext_le c]
          exact s5 _ _ (ted i c)
        · obtain rfl : i = n + 1 := by omega
          rw [ext_new, ext_new]
          exact hq2
      · by_cases c : i < n
        · rw [ext_le (Nat.le_of_lt c), ext_le (show i + 1 ≤ n from c)]
          exact G.rd i c
        · obtain rfl : i = n := by omega
          rw [ext_le (Nat.le_refl _), ext_new]
          exact RO
      · by_cases c : i ≤ n
        · rw [ext_le c]
          exact G.no i c
        · obtain rfl : i = n + 1 := by omega
          rw [ext_new]
          exact no2
      · rw [ext_le (show i ≤ n by omega), ext_le (show j ≤ n by omega)]
        exact df' i j h1 h2
    | some v =>
      refine iteF ?_
      obtain ⟨i, hi, ek, rfl⟩ := val_some hv
      have C : Course b rs S i n := ⟨hi, ek, G.rd, G.no, G.df⟩
      refine ⟨_, rfl, _, rfl, 2, rfl, te n, _, rfl, SqT.of (a1 _ _ hn), notw _ _ _, fun k3 hk3 => ?_⟩
      have a2 := same_new (o := .tup [.int (S n).1, .int (S n).2.1]) hk3
      have a12 := a1.trans a2
      refine ⟨sd, _, rfl, by rw [← hv]; exact DGet.t (k := kOf (S n)) (a12 _ _ G.dat) upd_same, ?_⟩
      refine ⟨pr i, _, rfl, SqT.of (a12 _ _ (G.prs i hi)), rfl, _, _, rfl, _, _, rfl, rfl, ?_⟩
      refine ⟨_, rfl, _, rfl, _, rfl, _, _, rfl, rfl, _, rfl, te n, _, _, _, rfl, rfl, SqT.of (a12 _ _ hn), atL (j := 2) rfl, _, rfl, te i, _, _, _, rfl, rfl, SqT.of (a12 _ _ (G.tes i (Nat.le_of_lt hi))), atL (j := 2) rfl, _, _, rfl, rfl, _, rfl, (by show 4 ≤ sizeLine; decide), fun q1 hq1 => ?_⟩
      have a3 := same_new (o := .tup [.int i, .int ((n : Int) - i), .int ((S n).2.2 - (S i).2.2), .ref (te i)]) hq1
      have a13 := a12.trans a3
      exact q _ q1 (te i) S i n (G.s.trans a13) ((G.s.trans a12).free hq1) G.s0 n979 C upd_same (a13 _ _ (G.tes i (Nat.le_of_lt hi)))
end
end Ax

namespace Ax
/-! # how great the numbers of a course get, at one scale -/
section
variable {b : Int}
theorem far_small {rs : List CRu} (ne : rs ≠ []) (C : Cov b (rs.getLast ne).1 (rs.getLast ne).2) {T : Nat → Tri} {N : Nat} {D : Int} {X Y S : Nat → Int} (G : Chain b (rs.getLast ne).1 (rs.getLast ne).2 D rs.length T N X Y S) (x0 : X 0 < 2 ^ 90) (y0 : -(2 ^ 90) < Y 0) (l0 : X 0 < Y 0)
    (w0 : -(2 ^ 93) ≤ X 0) (w1 : Y 0 ≤ 2 ^ 93) : ∀ n ≤ N, ¬ (X n ≤ 0 ∧ 0 ≤ Y n) → -(2 ^ 93) ≤ X n ∧ Y n ≤ 2 ^ 93 := by
  intro n hn no
  have b1 : 1 ≤ b := by have := C.b2; omega
  have hall : ∀ m ∈ (rs.getLast ne).1, 1 ≤ m := fun m h => (C.all m h).1
  have e93 : (2 : Int) ^ 93 = 9903520314283042199192993792 := by decide
  have e90 : (2 : Int) ^ 90 = 1237940039285380274899124224 := by decide
  obtain ⟨g1, g2⟩ := nested b1 hall G.rd (i := 0) (j := n) (Nat.zero_le _) hn
  cases n with
  | zero => exact ⟨w0, w1⟩
  | succ n =>
    obtain ⟨s1, _, _, ⟨a, ea⟩, ⟨c, ec⟩, len⟩ := (G.rd n hn).facts b1 hall
    have len6 : Y (n + 1) - X (n + 1) ≤ 6 * S n := Int.le_trans len (Int.mul_le_mul_of_nonneg_right C.m6 (by omega))
    by_cases p : 0 < X (n + 1)
    · have sx : S n ≤ X (n + 1) := Int.le_of_dvd p ⟨a, by rw [ea, Int.mul_comm]⟩
      omega
    · have sy : S n ≤ -Y (n + 1) := Int.le_of_dvd (by omega) ⟨-c, by rw [ec, Int.mul_neg, Int.mul_comm]⟩
      omega
theorem grow_in {k : Nat} (b1 : 1 ≤ b) {X Y : Nat → Int} {N n0 : Nat} (gr : ∀ n < N, Grow b (X n) (Y n) (X (n + 1)) (Y (n + 1)) k) (inn : ∀ n, n0 ≤ n → n ≤ N → X n ≤ 0 ∧ 0 ≤ Y n) {W : Int} (w25 : 25 ≤ W) (h1 : -W ≤ X n0) (h2 : Y n0 ≤ W) : ∀ j, n0 + j ≤ N → -((b ^ k) ^ j * W) ≤ X (n0 + j) ∧ Y (n0 + j) ≤ (b ^ k) ^ j * W := by
  intro j
  induction j with
  | zero => intro _; rw [Int.pow_zero, Int.one_mul]; exact ⟨h1, h2⟩
  | succ j ih =>
    intro h
    obtain ⟨a1, a2⟩ := ih (by omega)
    obtain ⟨c1, c2⟩ := inn (n0 + j) (by omega) (by omega)
    have p : (1 : Int) ≤ (b ^ k) ^ j := pow_pos' (pow_pos' b1 k) j
    have := Int.mul_le_mul_of_nonneg_right p (show 0 ≤ W by omega)
    have g := ((gr (n0 + j) (by omega)) _ a1 a2).2 c1 c2 (by omega)
    rw [Int.pow_succ, Int.mul_comm ((b ^ k) ^ j) (b ^ k), Int.mul_assoc]
    exact g
theorem course_size {rs : List CRu} (ne : rs ≠ []) (l3 : rs.length ≤ 3) (CA : ∀ r ∈ rs, Cov b r.1 r.2) {T : Nat → Tri} {N : Nat} {l h d : Int} (lt : l < h) (h0 : T 0 = (l, h, d)) (hl : -(2 ^ 66) < l) (hh : h < 2 ^ 66) (hR : ∀ n < N, Round b rs (T n) (T (n + 1)))
    (df : ∀ i j, i < j → j < N → ¬ SameS b (T i).1 (T i).2.1 (T j).1 (T j).2.1) : ∃ X Y : Nat → Int, (∀ n ≤ N, Eq3 b (X n, Y n, d + 7) (T n)) ∧ ∀ n ≤ N, -((b ^ rs.length) ^ (28 * (rs.getLast ne).1.length + 1) * 2 ^ 123) ≤ X n ∧ Y n ≤ (b ^ rs.length) ^ (28 * (rs.getLast ne).1.length + 1) * 2 ^ 123 ∧ X n < Y n := by
  have C := CA _ (List.getLast_mem ne)
  have b1 : 1 ≤ b := by have := C.b2; omega
  have hall : ∀ m ∈ (rs.getLast ne).1, 1 ≤ m := fun m h => (C.all m h).1
  obtain ⟨X, Y, S, e1, e2, G⟩ := chain_ex ne CA lt h0 N hR
  have p1 := pow_pos' b1 7
  have p7 := pow_base_le (a := b) (b := 10) (by have := C.b2; omega) C.b10 7
  have e7 : (10 : Int) ^ 7 = 10000000 := by decide
  have e66 : (2 : Int) ^ 66 = 73786976294838206464 := by decide
  have e90 : (2 : Int) ^ 90 = 1237940039285380274899124224 := by decide
  have e93 : (2 : Int) ^ 93 = 9903520314283042199192993792 := by decide
  have up : ∀ z : Int, -(2 ^ 66) < z → z < 2 ^ 66 → -(2 ^ 90) < z * b ^ 7 ∧ z * b ^ 7 < 2 ^ 90 := fun z h1 h2 => by
    rcases Int.le_total 0 z with c | c
    · have := Int.mul_le_mul (show z ≤ 2 ^ 66 by omega) (show b ^ 7 ≤ 10000000 by omega) (by omega) (by omega)
      have := Int.mul_nonneg c (show 0 ≤ b ^ 7 by omega)
      exact ⟨by omega, by omega⟩
    · have g := Int.mul_le_mul (show -z ≤ 2 ^ 66 by omega) (show b ^ 7 ≤ 10000000 by omega) (by omega) (by omega)
      rw [Int.neg_mul] at g
      have := Int.mul_nonneg (show 0 ≤ -z by omega) (show 0 ≤ b ^ 7 by omega)
      rw [Int.neg_mul] at this
      exact ⟨by omega, by omega⟩
  obtain ⟨u1, u2⟩ := up l hl (by omega)
  obtain ⟨u3, u4⟩ := up h (by omega) hh
  rw [← e1] at u1 u2
  rw [← e2] at u3 u4
  have l0 : X 0 < Y 0 := by
    rw [e1, e2]
    exact Int.mul_lt_mul_of_pos_right lt (by omega)
  have far := far_small ne C G u2 u3 l0 (by omega) (by omega)
  refine ⟨X, Y, G.eq, fun n hn => ?_⟩
  obtain ⟨g1, g2⟩ := nested b1 hall G.rd (i := 0) (j := n) (Nat.zero_le _) hn
  have pb := pow_pos' (pow_pos' b1 rs.length) (28 * (rs.getLast ne).1.length + 1)
  have big0 := Int.mul_le_mul_of_nonneg_right pb (show (0 : Int) ≤ 2 ^ 123 by decide)
  have e123 : (2 : Int) ^ 93 ≤ 2 ^ 123 := pow_le' (by decide) (by decide)
  by_cases c : X n ≤ 0 ∧ 0 ≤ Y n
  · obtain ⟨n0, hn0, pn, before⟩ := first_of (P := fun n => X n ≤ 0 ∧ 0 ≤ Y n) c
    have inn : ∀ k, n0 ≤ k → k ≤ N → X k ≤ 0 ∧ 0 ≤ Y k := fun k h1 h2 => by
      obtain ⟨a1, a2⟩ := nested b1 hall G.rd (i := n0) (j := k) h1 h2
      exact ⟨by have := pn.1; omega, by have := pn.2; omega⟩
    have few : n - n0 ≤ 28 * (rs.getLast ne).1.length + 1 := by
      by_cases z : n0 < n
      · have := phase0 (X := fun i => X (n0 + i)) (Y := fun i => Y (n0 + i)) (S := fun i => S (n0 + i)) (N := n - 1 - n0) C.b2 hall C.m6 (fun i h => G.rd (n0 + i) (by omega)) pn.1 pn.2 fun i j h1 h2 q => df (n0 + i) (n0 + j) (by omega) (by omega) (SameS.of (G.eq (n0 + i) (by omega)) (G.eq (n0 + j) (by omega)) q)
        omega
      · omega
    have start : -(1024 ^ rs.length * 2 ^ 93) ≤ X n0 ∧ Y n0 ≤ 1024 ^ rs.length * 2 ^ 93 := by
      cases n0 with
      | zero =>
        have p := pow_pos' (b := 1024) (by decide) rs.length
        have := Int.mul_le_mul_of_nonneg_right p (show (0 : Int) ≤ 2 ^ 93 by decide)
        exact ⟨by omega, by omega⟩
      | succ m =>
        obtain ⟨a1, a2⟩ := far m (by omega) (before m (by omega))
        exact ((G.gr m (by omega)) _ a1 a2).1
    have k1 : (1024 : Int) ^ rs.length ≤ 1024 ^ 3 := pow_le' (by decide) l3
    have W123 : (1024 : Int) ^ rs.length * 2 ^ 93 ≤ 2 ^ 123 := by
      have := Int.mul_le_mul_of_nonneg_right k1 (show (0 : Int) ≤ 2 ^ 93 by decide)
      have e : (1024 : Int) ^ 3 * 2 ^ 93 = 2 ^ 123 := by decide
      omega
    obtain ⟨r1, r2⟩ := grow_in b1 (k := rs.length) (N := N) (n0 := n0) (W := 2 ^ 123) G.gr inn (by decide) (by omega) (by omega) (n - n0) (by omega)
    rw [show n0 + (n - n0) = n by omega] at r1 r2
    have q2 : (b ^ rs.length) ^ (n - n0) ≤ (b ^ rs.length) ^ (28 * (rs.getLast ne).1.length + 1) := pow_le' (pow_pos' b1 _) few
    have q4 := Int.mul_le_mul_of_nonneg_right q2 (show (0 : Int) ≤ 2 ^ 123 by decide)
    exact ⟨by omega, by omega, by omega⟩
  · obtain ⟨a1, a2⟩ := far n hn c
    exact ⟨by omega, by omega, by omega⟩
theorem pow_pow' (x : Int) (i : Nat) : ∀ j : Nat, (x ^ i) ^ j = x ^ (i * j)
  | 0 => by rw [Int.pow_zero, Nat.mul_zero, Int.pow_zero]
  | j + 1 => by rw [Int.pow_succ, pow_pow' x i j, ← pow_add', Nat.mul_succ]
theorem course_small {rs : List CRu} (ne : rs ≠ []) (l3 : rs.length ≤ 3) (CA : ∀ r ∈ rs, Cov b r.1 r.2) {T : Nat → Tri} {N : Nat} {l h d : Int} (lt : l < h) (h0 : T 0 = (l, h, d)) (hl : -(2 ^ 66) < l) (hh : h < 2 ^ 66) (hR : ∀ n < N, Round b rs (T n) (T (n + 1)))
    (df : ∀ i j, i < j → j < N → ¬ SameS b (T i).1 (T i).2.1 (T j).1 (T j).2.1) : ∃ X Y : Nat → Int, (∀ n ≤ N, Eq3 b (X n, Y n, d + 7) (T n)) ∧ (∀ n ≤ N, -(2 ^ 1300) ≤ X n ∧ Y n ≤ 2 ^ 1300 ∧ X n < Y n) ∧
    ((rs.getLast ne).1.length ≤ 3 → ∀ n ≤ N, -(b ^ 255 * 2 ^ 123) ≤ X n ∧ Y n ≤ b ^ 255 * 2 ^ 123) := by
  have C := CA _ (List.getLast_mem ne)
  have b1 : 1 ≤ b := by have := C.b2; omega
  obtain ⟨X, Y, e, g⟩ := course_size ne l3 CA lt h0 hl hh hR df
  refine ⟨X, Y, e, fun n hn => ?_, fun h3 n hn => ?_⟩
  · obtain ⟨g1, g2, g3⟩ := g n hn
    have le4 := C.le
    have q0 : rs.length * (28 * (rs.getLast ne).1.length + 1) ≤ 3 * 113 := Nat.mul_le_mul l3 (by omega)
    have q1 : (b ^ rs.length) ^ (28 * (rs.getLast ne).1.length + 1) ≤ 10 ^ 339 := by
      rw [pow_pow']
      exact Int.le_trans (pow_le' b1 q0) (pow_base_le (by omega) C.b10 _)
    have q2 := Int.mul_le_mul_of_nonneg_right q1 (show (0 : Int) ≤ 2 ^ 123 by decide)
    have q3 : (10 : Int) ^ 339 * 2 ^ 123 ≤ 2 ^ 1300 := by decide +kernel
    exact ⟨by omega, by omega, g3⟩
  · obtain ⟨g1, g2, g3⟩ := g n hn
    have q0 : rs.length * (28 * (rs.getLast ne).1.length + 1) ≤ 3 * 85 := Nat.mul_le_mul l3 (by omega)
    have q1 : (b ^ rs.length) ^ (28 * (rs.getLast ne).1.length + 1) ≤ b ^ 255 := by
      rw [pow_pow']
      exact pow_le' b1 q0
    have q2 := Int.mul_le_mul_of_nonneg_right q1 (show (0 : Int) ≤ 2 ^ 123 by decide)
    exact ⟨by omega, by omega⟩
end
end Ax

namespace Ax
open PySem L2
/-! ### settle -/
/-- what settle tells of a course -/
def Told (H : Hp) (q : Addr) (b : Int) (S : Nat → Tri) (I J : Nat) : Prop :=
  ((S J).2.2 - (S I).2.2 = 0 ∧ ∃ sp, H q = some (.tup [.str "settles", .ref sp, .int I]) ∧ H sp = some (.tup [.int ((S I).1 * b ^ (S I).2.2.toNat), .int ((S I).2.1 * b ^ (S I).2.2.toNat), .int (-(S I).2.2).toNat])) ∨
  ((S J).2.2 - (S I).2.2 ≠ 0 ∧ H q = some (.tup [.str "grows", .int I, .int ((J : Int) - I), .int ((S J).2.2 - (S I).2.2)]))
/-- what settle asks of a shape -/
def Mild (b : Int) (rs : List CRu) (s0 : Tri) : Prop := Tame b rs s0 ∧ ∀ (S : Nat → Tri) (I J : Nat), S 0 = s0 → Course b rs S I J → (S J).2.2 - (S I).2.2 = 0 → b ^ (S I).2.2.toNat < 2 ^ 7000 ∧ (S I).1.natAbs < 2 ^ 1400 ∧ (S I).2.1.natAbs < 2 ^ 1400
theorem aM94 {z : Int} (z1 : -(2 ^ 94) ≤ z) (z2 : z ≤ 2 ^ 94) : z.natAbs < 2 ^ 1400 := by
  have e : z.natAbs ≤ 2 ^ 94 := by
    have e5 : (((2 : Nat) ^ 94 : Nat) : Int) = 2 ^ 94 := Int.natCast_pow ..
    omega
  exact Nat.lt_of_le_of_lt e (Nat.pow_lt_pow_right (by decide) (by decide))
theorem mild_of {b l h d l3 h3 : Int} {n : Nat} {rs : List CRu} (ne : rs ≠ []) (le3 : rs.length ≤ 3) (cv : ∀ r ∈ rs, Cov b r.1 r.2) (lt : l < h) (d0 : 0 ≤ d) (hl : -(2 ^ 66) < l) (hh : h < 2 ^ 66) (SH : Shp b l h l3 h3 n) : Mild b rs (l3, h3, -d + n) := by
  have C0 := cv _ (List.getLast_mem ne)
  have b1 : 1 ≤ b := by have := C0.b2; omega
  have p1 := pow_pos' b1 n
  have lt3 : l3 < h3 := Int.lt_of_mul_lt_mul_right (show l3 * b ^ n < h3 * b ^ n by rw [← SH.lo, ← SH.hi]; exact lt) (by omega)
  have lo3 : -(2 ^ 66) < l3 := by
    have := SH.lo
    rcases Int.le_total 0 l3 with c | c
    · omega
    · have g := Int.mul_le_mul_of_nonneg_left p1 (show 0 ≤ -l3 by omega)
      have e : -l3 * b ^ n = -(l3 * b ^ n) := Int.neg_mul l3 (b ^ n)
      rw [Int.mul_one, e] at g
      omega
  have hi3 : h3 < 2 ^ 66 := by
    have := SH.hi
    rcases Int.le_total 0 h3 with c | c
    · have g := Int.mul_le_mul_of_nonneg_left p1 c
      omega
    · omega
  refine ⟨tame_of (s0 := (l3, h3, -d + n)) ne cv lt3 lo3 hi3, fun S I J S0 CO dp => ?_⟩
  have h0 : sT (S 0) = (l3, h3, -(-d + n)) := by rw [S0]; rfl
  have IJ := CO.lt
  obtain ⟨lo, hi, ltI⟩ := shape_bound ne cv (T := fun i => sT (S i)) lt3 h0 lo3 hi3 CO.rd I (by omega) (CO.no I (by omega))
  have lo : -(2 ^ 94) ≤ (S I).1 := lo
  have hi : (S I).2.1 ≤ 2 ^ 94 := hi
  have ltI : (S I).1 < (S I).2.1 := ltI
  obtain ⟨X, Y, eq, sm, _⟩ := course_small ne le3 cv (T := fun i => sT (S i)) lt3 h0 lo3 hi3 CO.rd fun i j h1 h2 z => CO.df i j h1 h2 (keys_same b1 (CO.no i (by omega)) (CO.no j (by omega)) z)
  obtain ⟨k, f1, f2, f3⟩ := (eq I (by omega)).red b1 (CO.no I (by omega))
  have f1 : X I = (S I).1 * b ^ k := f1
  have f2 : Y I = (S I).2.1 * b ^ k := f2
  have f3 : -(-d + (n : Int)) + 7 = -(S I).2.2 + k := f3
  obtain ⟨g1, g2, g3⟩ := sm I (by omega)
  have pk := pow_pos' b1 k
  have bk : b ^ k ≤ 2 ^ 1301 := by
    have := Int.mul_le_mul_of_nonneg_right (show 1 ≤ (S I).2.1 - (S I).1 by omega) (show 0 ≤ b ^ k by omega)
    rw [Int.sub_mul, ← f1, ← f2] at this
    have e : (2 : Int) ^ 1301 = 2 ^ 1300 + 2 ^ 1300 := by decide +kernel
    omega
  have bn : b ^ n ≤ 2 ^ 67 := by
    have := Int.mul_le_mul_of_nonneg_right (show 1 ≤ h3 - l3 by omega) (show 0 ≤ b ^ n by omega)
    rw [Int.sub_mul, ← SH.lo, ← SH.hi] at this
    have e : (2 : Int) ^ 67 = 2 ^ 66 + 2 ^ 66 := by decide
    omega
  have pB : b ^ (S I).2.2.toNat < 2 ^ 7000 := by
    refine Int.lt_of_le_of_lt (pow_le' b1 (show (S I).2.2.toNat ≤ k + n by omega)) ?_
    rw [pow_add']
    have := Int.mul_le_mul bk bn (by omega) (by decide +kernel)
    refine Int.lt_of_le_of_lt this ?_
    decide +kernel
  exact ⟨pB, aM94 lo (by omega), aM94 (by omega) hi⟩
theorem mild_rest {b l h d l3 h3 : Int} {n : Nat} {rs : List CRu} (b2 : 2 ≤ b) (ha : AllHd b rs) (d0 : 0 ≤ d) (SH : Shp b l h l3 h3 n) (R : Round b rs (l, h, d) (l, h, d)) (lt : l < h) (lo : -(2 ^ 94) ≤ l3) (hi : h3 ≤ 2 ^ 94) (bn : b ^ n < 2 ^ 7000) : Mild b rs (l3, h3, -d + n) := by
  have b1 : 1 ≤ b := by omega
  have p1 := pow_pos' b1 n
  have lt3 : l3 < h3 := Int.lt_of_mul_lt_mul_right (show l3 * b ^ n < h3 * b ^ n by rw [← SH.lo, ← SH.hi]; exact lt) (by omega)
  have e : Eq3 b (l, h, d) (sT (l3, h3, -d + n)) := ⟨0, n, by show l * b ^ 0 = _; rw [Int.pow_zero, Int.mul_one]; exact SH.lo, by show h * b ^ 0 = _; rw [Int.pow_zero, Int.mul_one]; exact SH.hi, by show d + ((0 : Nat) : Int) = -(-d + n) + n; omega⟩
  have R3 : Round b rs (sT (l3, h3, -d + n)) (sT (l3, h3, -d + n)) := (R.fro e.symm).to e
  have tame := tame_rest (s0 := (l3, h3, -d + n)) b2 ha SH.no R3 lt3 lo hi
  refine ⟨tame, fun S I J S0 CO dp => ?_⟩
  have I0 : I = 0 := by
    cases I with
    | zero => rfl
    | succ I =>
      have IJ := CO.lt
      have r := CO.rd 0 (by omega)
      rw [S0] at r
      have dd := Round.det b2 ha R3 r (Eq3.refl b _)
      obtain ⟨i, j, a1, a2, _⟩ := dd
      have k := keys_same (s := (l3, h3, -d + n)) (t := S 1) b1 SH.no (CO.no 1 (by omega)) ⟨i, j, a1, a2⟩
      exact absurd (by rw [S0]; exact k) (CO.df 0 1 (by decide) (by omega))
  subst I0
  rw [S0]
  refine ⟨Int.lt_of_le_of_lt (pow_le' b1 (show (-d + (n : Int)).toNat ≤ n by omega)) bn, aM94 lo ?_, aM94 ?_ hi⟩
  · show l3 ≤ 2 ^ 94
    omega
  · show -(2 ^ 94) ≤ h3
    omega
section
variable {P : Program} {w : World} {K : PySem.W.Frag} {mg : Str → Option Value} {base : Heap} {A : Adr}
def spSettle (A : Adr) : Sp := fun vs H Q _ => ∃ (L t : Addr) (as : List Addr) (rs : List CRu) (b l h d : Int), vs = [.ref L, .ref t] ∧ H L = some (.lst (as.map V.ref)) ∧ RlsAt A.c_Rule b H rs as ∧ CovAll b rs ∧ rs ≠ [] ∧ rs.length ≤ 3 ∧
  H t = some (.tup [.int l, .int h, .int d]) ∧ l < h ∧ 0 ≤ d ∧ (∀ (l3 h3 : Int) (n : Nat), Shp b l h l3 h3 n → Mild b rs (l3, h3, -d + n)) ∧
  ∀ (H' : Hp) (q : Addr) (S : Nat → Tri) (I J n : Nat), Same H H' → H q = none → Shp b l h (S 0).1 (S 0).2.1 n → (S 0).2.2 = -d + n → J ≤ 979 → Course b rs S I J → Told H' q b S I J → Q (.ref q) H'
abbrev nm_settle : List Str := ["rules", "span", "base", "before", "turn", "power", "shape"]
theorem sc_settle : FnScope ["rules", "span", "base", "before", "turn", "power", "shape"] ["rules", "span"] (defScope s_settle) := ⟨rfl, rfl, rfl, by decide +kernel, rfl, by decide +kernel, by decide +kernel⟩
theorem ok_settle (T : Txt K mg A w) : FnOk P w K mg base CX0 8 A.a_settle A.d_settle ["rules", "span"] (spSettle A) := by
  have G_check_rules : FnOk P w K mg base CX0 4 A.a_check_rules A.d_check_rules ["rules"] (spChR A) := ok_chr T
  have G_check_span : FnOk P w K mg base CX0 3 A.a_check_span A.d_check_span ["span"] spCS := ok_cs T
  have G_span_of : FnOk P w K mg base CX0 2 A.a_span_of A.d_span_of ["base", "shape"] spSpanOf := ok_span_of T
  have G_shape_of : FnOk P w K mg base CX0 1 A.a_shape_of A.d_shape_of ["base", "span"] spShape := ok_shape T
  have G_course : FnOk P w K mg base CX0 7 A.a_course A.d_course ["rules", "shape"] (spCourse A) := ok_course T
  have G_Rule_base := ok_pb (P := P) (base := base) T
  refine T.F_settle.ok sc_settle (fun vs H Q E h => ?_) (fun cdv A0 outer s H vs Q E hr h => ?_)
  · obtain ⟨L, t, as, rs, b, l, h, d, rfl, _⟩ := h
    rfl
  · obtain ⟨L, t, as, rs, b, l, h, d, rfl, hL, RA, CA, ne, le3, ht, lt, d0, mi, q⟩ := h
    obtain ⟨a0, ea0, x0, hx0, D0, X0⟩ := RA.first ne
    have b2 := (CA x0 hx0).b2
    have b10 := (CA x0 hx0).b10
    have b1 : 1 ≤ b := by omega
    refine ⟨_, (pss_cons (ps_expr (pe_call G_check_rules (hr.mono (by decide)) (by rfl) T.m_check_rules T.F_check_rules.kp T.B_check_rules .nil pass0 (pa_cons (pv 0) pa_nil)))
  (pss_cons (ps_expr (pe_call G_check_span (hr.mono (by decide)) (by rfl) T.m_check_span T.F_check_span.kp T.B_check_span .nil pass0 (pa_cons (pv 1) pa_nil)))
  (pss_cons (ps_set (i := 2) sc_settle.nd rfl (Or.inl rfl) (pe_prop (pe_ix (ixL K) (pv 0) pe_int (fun _ _ => rfl)) T.cl T.pr_Rule_base G_Rule_base (hr.mono (by decide)) T.B_Rule_base .nil pass0 rfl))
  (pss_cons (ps_asg (pe_call G_course (hr.mono (by decide)) (by rfl) T.m_course T.F_course.kp T.B_course .nil pass0 (pa_cons (pv 0) (pa_cons (pe_call G_shape_of (hr.mono (by decide)) (by rfl) T.m_shape_of T.F_shape_of.kp T.B_shape_of .nil pass0 (pa_cons (pv 2) (pa_cons (pv 1) pa_nil))) pa_nil))) (pg_tup (by rfl) (pgs_cons (pg_name (i := 3) sc_settle.nd rfl (Or.inl rfl)) (pgs_cons (pg_name (i := 4) sc_settle.nd rfl (Or.inl rfl)) (pgs_cons (pg_name (i := 5) sc_settle.nd rfl (Or.inl rfl)) (pgs_cons (pg_name (i := 6) sc_settle.nd rfl (Or.inl rfl)) pgs_nil))))))
  (pss_cons (ps_if (pt_cmpR op_eq (pv 5) pe_int (nomark _)) (pss_one (ps_ret (pe_tup (pa_cons pe_str (pa_cons (pe_call G_span_of (hr.mono (by decide)) (by rfl) T.m_span_of T.F_span_of.kp T.B_span_of .nil pass0 (pa_cons (pv 2) (pa_cons (pv 6) pa_nil))) (pa_cons (pv 3) pa_nil)))))) pss_nil)
  (pss_one (ps_ret (pe_tup (pa_cons pe_str (pa_cons (pv 3) (pa_cons (pv 4) (pa_cons (pv 5) pa_nil)))))))))))), ?_⟩
    refine ⟨_, rfl, L, as, rs, b, rfl, hL, RA, ne, le3, fun H1 s1 => ?_⟩
    refine ⟨_, rfl, t, l, h, d, rfl, s1 _ _ ht, lt, d0, fun H2 s2 => ?_⟩
    have s12 := s1.trans s2
    have X2 := X0.same s12
    refine ⟨_, rfl, L, _, _, .ref a0, rfl, rfl, SqL.of (s12 _ _ hL), atL (j := 0) (by rw [List.getElem?_map, ea0]; rfl), a0, D0.dx, _, rfl, X2.at_, a0, b, .cov, x0.1, x0.2, D0, rfl, X2, ?_⟩
    have bB : b < BIG := lt_big (n := 64) (by omega) (by decide)
    refine ⟨_, rfl, _, rfl, _, rfl, t, b, l, h, d, rfl, s12 _ _ ht, b2, bB, lt, fun H3 q3 l3 h3 n s3 _ hq3 SH => ?_⟩
    have s13 := s12.trans s3
    refine ⟨L, q3, as, rs, b, (l3, h3, -d + n), rfl, s13 _ _ hL, RA.same s13, CA, ne, le3, hq3, (mi l3 h3 n SH).1, SH.no, fun H4 q4 te S I J s4 q40 S0 J979 CO hq4 hte => ?_⟩
    refine ⟨q4, _, rfl, SqT.of hq4, rfl, _, _, rfl, _, _, rfl, _, _, rfl, _, _, rfl, rfl, ?_⟩
    refine norm2 (σ' := [some (.ref L), some (.ref t), some (.int b), some (.int I), some (.int ((J : Int) - I)), some (.int ((S J).2.2 - (S I).2.2)), some (.ref te)]) rfl ?_
    have s14 := s13.trans s4
    have SH0 : Shp b l h (S 0).1 (S 0).2.1 n := by rw [S0]; exact SH
    have p0 : (S 0).2.2 = -d + n := by rw [S0]
    have cv : ∀ r ∈ rs, Cov b r.1 r.2 := CA
    have h0 : sT (S 0) = (l3, h3, -(-d + n)) := by rw [S0]; rfl
    refine ⟨_, rfl, rfl, _, rfl, ?_⟩
    refine ite2 (fun hc => ?_) (fun hc => ?_)
    · have dp : (S J).2.2 - (S I).2.2 = 0 := V.int.inj (of_decide_eq_true hc)
      obtain ⟨pB, aL, aH⟩ := (mi l3 h3 n SH).2 S I J S0 CO dp
      refine ⟨_, rfl, _, rfl, te, b, (S I).1, (S I).2.1, (S I).2.2, rfl, hte, b2, bB, aL, aH, pB, fun H5 q5 s5 _ hq5 => ⟨_, rfl, (by show 3 ≤ sizeLine; decide), fun q6 hq6 => ?_⟩⟩
      have s6 := same_new (o := .tup [.str "settles", .ref q5, .int I]) hq6
      exact q _ q6 S I J n ((s14.trans s5).trans s6) ((s14.trans s5).free hq6) SH0 p0 J979 CO (.inl ⟨dp, q5, upd_same, s6 _ _ hq5⟩)
    · have dp : (S J).2.2 - (S I).2.2 ≠ 0 := fun z => hc (decide_eq_true (by rw [z]))
      refine ⟨_, rfl, _, rfl, _, rfl, (by show 4 ≤ sizeLine; decide), fun q6 hq6 => ?_⟩
      exact q _ q6 S I J n (s14.trans (same_new hq6)) (s14.free hq6) SH0 p0 J979 CO (.inr ⟨dp, upd_same⟩)
end
end Ax

namespace Ax
open PySem L2
/-- a drawn rule: a base, a kind, heads, a greatest number -/
structure Drawn (b : Int) (k : Kd) (hs : List Int) (most : Int) : Prop where
  b2 : 2 ≤ b
  b10 : b ≤ 10
  m1 : 1 ≤ most
  m6 : most ≤ 6
  mC : k = .cov → 2 ≤ most
  ne : hs ≠ []
  le : hs.length ≤ 4
  nd : hs.Nodup
  all : ∀ m ∈ hs, 1 ≤ m ∧ m ≤ 25 ∧ m % b ≠ 0
theorem Drawn.args {b : Int} {k : Kd} {hs : List Int} {most : Int} (d : Drawn b k hs most) : RArgs b k hs most := by
  have e60 : (2 : Int) ^ 60 = 1152921504606846976 := by decide
  have e64 : (2 : Int) ^ 64 = 18446744073709551616 := by decide
  obtain ⟨h1, h2, h3, h4, h5, h6, h7, h8, h9⟩ := d
  exact ⟨h1, by omega, h3, by omega, h5, h6, by omega, h8, fun m hm => by
    obtain ⟨a, c, e⟩ := h9 m hm
    exact ⟨a, by omega, e⟩⟩
/-- the tuple of a drawn rule, at ru; its heads at lh -/
def RuleT (H : Hp) (ru lh : Addr) (b : Int) (k : Kd) (hs : List Int) (most : Int) : Prop := H ru = some (.tup [.int b, .str k.s, .ref lh, .int most]) ∧ H lh = some (.lst (hs.map V.int))
section
variable {P : Program} {w : World} {K : PySem.W.Frag} {mg : Str → Option Value} {base : Heap} {A : Adr}
theorem RuleT.same {H H' : Hp} {ru lh : Addr} {b : Int} {k : Kd} {hs : List Int} {most : Int} (x : RuleT H ru lh b k hs most) (s : Same H H') : RuleT H' ru lh b k hs most := ⟨s _ _ x.1, s _ _ x.2⟩
theorem RuleT.kp {H H' : Hp} {p ru lh : Addr} {b : Int} {k : Kd} {hs : List Int} {most : Int} {t : Nat} (x : RuleT H ru lh b k hs most) (y : Purse H p t) (n : lh ≠ p) (s : Kp p H H') : RuleT H' ru lh b k hs most := by
  obtain ⟨xs, e⟩ := y.some
  exact ⟨s _ _ (ne_of x.1 e (by intro z; cases z)) x.1, s _ _ n x.2⟩
end
end Ax

namespace Ax
open PySem L2
/-! ### written lists of lists -/
abbrev LsAt (H : Hp) : List (List Int) → List Addr → Prop := Paired fun is a => H a = some (.lst (is.map V.int))
theorem LsAt.same {H H' : Hp} (s : Same H H') : ∀ {ls : List (List Int)} {as : List Addr}, LsAt H ls as → LsAt H' ls as
  | _, _, .nil => .nil
  | _, _, .cons h t => .cons (s _ _ h) (LsAt.same s t)
theorem LsAt.app {H : Hp} : ∀ {ls ks : List (List Int)} {as bs : List Addr}, LsAt H ls as → LsAt H ks bs → LsAt H (ls ++ ks) (as ++ bs)
  | _, _, _, _, .nil, q => q
  | _, _, _, _, .cons h t, q => .cons h (LsAt.app t q)
theorem LsAt.get {H : Hp} : ∀ {ls : List (List Int)} {as : List Addr} {i : Nat} {a : Addr}, LsAt H ls as → as[i]? = some a → ∃ is, ls[i]? = some is ∧ H a = some (.lst (is.map V.int))
  | _, _, _, _, .nil, h => nomatch h
  | _, _, 0, _, .cons h _, e => by
    obtain rfl := Option.some.inj e
    exact ⟨_, rfl, h⟩
  | _, _, i + 1, _, .cons _ r, e => LsAt.get (i := i) r e
theorem LsAt.snoc {H : Hp} : ∀ {ls : List (List Int)} {as : List Addr} {is : List Int} {l : Addr}, LsAt H ls as → H l = some (.lst (is.map V.int)) → LsAt H (ls ++ [is]) (as ++ [l])
  | _, _, _, _, .nil, q => .cons q .nil
  | _, _, _, _, .cons h t, q => .cons h (LsAt.snoc t q)
theorem LsAt.new {H : Hp} {ls : List (List Int)} {as : List Addr} (is : List Int) {l : Addr} (a : LsAt H ls as) (h : H l = none) : LsAt (upd H l (.lst (is.map V.int))) (ls ++ [is]) (as ++ [l]) := (a.same (same_new h)).snoc upd_same
/-! ### the families -/
def BASES : List Int := [10, 2, 10, 3, 10, 4, 6, 5, 7, 10]
def FAM1 : List (List Int) := [[1, 2, 5], [1, 2, 3, 6], [1, 3, 5, 15], [2, 3, 5], [1, 3], [2, 3, 4], [1, 25], [1, 4, 12], [1, 2, 4]]
def FAM2 : List (List Int) := [[1, 7], [1, 11], [2, 13]]
def kept (b : Int) (is : List Int) : List Int := is.filter fun m => decide (0 < m % b)
def famOf (b : Int) (is : List Int) : List Int := if kept b is = [] then [1] else kept b is
/-- what is drawn as a base and a family -/
def Fam (b : Int) (ms : List Int) : Prop := b ∈ BASES ∧ ∃ is ∈ FAM1 ++ FAM2, ms = famOf b is
def FamOk (b : Int) (ms : List Int) : Prop := (2 ≤ b ∧ b ≤ 10) ∧ ms ≠ [] ∧ ms.length ≤ 4 ∧ ms.Nodup ∧ ∀ m ∈ ms, 1 ≤ m ∧ m ≤ 25 ∧ m % b ≠ 0
instance {b : Int} {ms : List Int} : Decidable (FamOk b ms) := inferInstanceAs (Decidable (_ ∧ _))
theorem fam_table : ∀ b ∈ BASES, ∀ is ∈ FAM1 ++ FAM2, FamOk b (famOf b is) := by decide +kernel
theorem Fam.ok {b : Int} {ms : List Int} (h : Fam b ms) : FamOk b ms := by
  obtain ⟨h1, is, h2, rfl⟩ := h
  exact fam_table b h1 is h2
section
variable {P : Program} {w : World} {K : PySem.W.Frag} {mg : Str → Option Value} {base : Heap} {A : Adr}
theorem eqv_nil_cons {d : PyData} {ds : List PyData} : PyData.eqv (.list (d :: ds)) (.list []) = false := by simp [PyData.eqv, PyData.eqvAll]
theorem eqv_nil_nil : PyData.eqv (.list []) (.list []) = true := by simp [PyData.eqv, PyData.eqvAll]
theorem dp_ints {H : Hp} : ∀ ms : List Int, DpAll K H (ms.map V.int) (ms.map PyData.int)
  | [] => .nil
  | m :: r => .cons (.int m) (dp_ints r)
theorem shaped_ints (ms : List Int) : SeqAt.shaped (.list (ms.map PyData.int)) = true := by
  exact PySem.W.shaped_ints ms
end
end Ax

namespace Ax
open PySem L2
section
variable {P : Program} {w : World} {K : PySem.W.Frag} {mg : Str → Option Value} {base : Heap} {A : Adr}
theorem drawn_of {b most : Int} {k : Kd} {ms hs : List Int} (F : FamOk b ms) (ne : hs ≠ []) (sub : hs.Sublist ms) (m1 : 1 ≤ most) (m5 : most ≤ 5) : Drawn b k hs (most + (if decide (k = .cov) = true then 1 else 0)) := by
  obtain ⟨⟨h1, h2⟩, h3, h4, h5, h6⟩ := F
  refine ⟨h1, h2, ?_, ?_, fun z => ?_, ne, Nat.le_trans sub.length_le h4, sub.nodup h5, fun m hm => h6 m (sub.mem hm)⟩
  · split <;> omega
  · split <;> omega
  · rw [if_pos (decide_eq_true z)]
    omega
theorem kd_cov (k : Kd) : decide (V.str k.s = V.str "cover") = decide (k = .cov) := kd_is k .cov
theorem pick_kd {i : Nat} {x : V} (h : ([V.str "inside", V.str "cover", V.str "length", V.str "inside", V.str "cover"] : List V)[i]? = some x) : ∃ k : Kd, x = .str k.s := by
  have h' : (([Kd.ins, .cov, .len, .ins, .cov] : List Kd).map fun k => V.str k.s)[i]? = some x := h
  rw [List.getElem?_map] at h'
  cases e : ([Kd.ins, .cov, .len, .ins, .cov] : List Kd)[i]? with
  | none =>
    rw [e] at h'
    cases h'
  | some k =>
    rw [e] at h'
    exact ⟨k, (Option.some.inj h').symm⟩
theorem take_sub {ms : List Int} {i : Nat} {m : Int} (hm : ms[i]? = some m) : ms.take (i + 1) = ms.take i ++ [m] := by
  rw [List.take_add_one, hm]
  rfl
end
end Ax

namespace Ax
open PySem L2
section
variable {P : Program} {w : World} {K : PySem.W.Frag} {mg : Str → Option Value} {base : Heap} {A : Adr}
theorem rf_no {b : Int} {k : Kd} {lm : Addr} {most : Int} {dv : Bool} {lr : Addr} {f : Str} (h1 : ¬ f = "_rungs") (h2 : ¬ f = "_dividing") (h3 : ¬ f = "_most") (h4 : ¬ f = "_mantissas") (h5 : ¬ f = "_kind") (h6 : ¬ f = "_base") : (rf b k lm most dv lr).lookup f = none := by
  rw [rf_lookup, if_neg h1, if_neg h2, if_neg h3, if_neg h4, if_neg h5, if_neg h6]
/-! ### marks -/
def spMarks (A : Adr) : Sp := fun vs H Q _ => ∃ (r sp : Addr) (l h d : Int) (b : Int) (k : Kd) (ms : List Int) (most : Int) (D : RD), vs = [.ref r, .ref sp] ∧ RX A.c_Rule H r b k ms most D ∧ RArgs b k ms most ∧
  H sp = some (.tup [.int l, .int h, .int d]) ∧ Rng l h d ∧
  ∀ (H' : Hp) (q : Addr) (m p : Int), Same H H' → H q = none → LeastFit b ms k most l h d m p → b ^ (p + d).natAbs < 2 ^ 2000 → (lg b (h - l) : Int) - (lg b (most + 1) + 1) ≤ p + d + lg b m →
    H' q = some (.tup [.int (fstZ k (l * facZ b (p + d)) (sizZ b m (p + d))), .int (lstZ k (h * facZ b (p + d)) (sizZ b m (p + d)))]) → Q (.ref q) H'
abbrev nm_Rule_marks : List Str := ["self", "span", "factor", "size", "low", "high"]
theorem sc_Rule_marks : FnScope ["self", "span", "factor", "size", "low", "high"] ["self", "span"] (defScope s_Rule_marks) := ⟨rfl, rfl, rfl, by decide +kernel, rfl, by decide +kernel, by decide +kernel⟩
theorem ok_marks (T : Txt K mg A w) : FnOk P w K mg base CX0 5 A.a_Rule_marks A.d_Rule_marks ["self", "span"] (spMarks A) := by
  have G_measure : FnOk P w K mg base CX0 2 A.a_measure A.d_measure ["base", "step", "digits"] (spMeasure K) := ok_measure T
  have G_Rule_step : FnOk P w K mg base CX0 4 A.a_Rule_step A.d_Rule_step ["self", "span"] (spStep A) := ok_step T
  refine T.F_Rule_marks.ok sc_Rule_marks (fun vs H Q E h => ?_) (fun cdv A0 outer s H vs Q E hr h => ?_)
  · obtain ⟨r, sp, l, h, d, b, k, ms, most, D, rfl, _⟩ := h
    rfl
  · obtain ⟨r, sp, l, h, d, b, k, ms, most, D, rfl, x, R, hsp, G, q⟩ := h
    have noS : (rf b k D.lm most D.dv D.lr).lookup ("step" : Str) = none := rf_no (by decide +kernel) (by decide +kernel) (by decide +kernel) (by decide +kernel) (by decide +kernel) (by decide +kernel)
    have b1 : 1 ≤ b := by have := R.b2; omega
    refine ⟨_, (pss_cons (ps_asg (pe_call G_measure (hr.mono (by decide)) (by rfl) T.m_measure T.F_measure.kp T.B_measure .nil pass0 (pa_cons (pe_fld (pv 0) rfl) (pa_cons (pe_meth (pv 0) T.cl T.t_Rule_step G_Rule_step (hr.mono (by decide)) T.B_Rule_step .nil pass0 (pa_cons (pv 1) pa_nil)) (pa_cons (pe_ix ix_tup (pv 1) pe_int (fun _ _ => rfl)) pa_nil)))) (pg_tup (by rfl) (pgs_cons (pg_name (i := 2) sc_Rule_marks.nd rfl (Or.inl rfl)) (pgs_cons (pg_name (i := 3) sc_Rule_marks.nd rfl (Or.inl rfl)) pgs_nil))))
  (pss_cons (ps_set (i := 4) sc_Rule_marks.nd rfl (Or.inl rfl) (pe_op op_mulW (pe_ix ix_tup (pv 1) pe_int (fun _ _ => rfl)) (pv 2)))
  (pss_cons (ps_set (i := 5) sc_Rule_marks.nd rfl (Or.inl rfl) (pe_op op_mulW (pe_ix ix_tup (pv 1) pe_int (fun _ _ => rfl)) (pv 2)))
  (pss_cons (ps_if (pt_cmpR op_eq (pe_fld (pv 0) rfl) pe_str (nomark _)) (pss_one (ps_ret (pe_tup (pa_cons (pe_op op_fdivW (pv 4) (pv 3)) (pa_cons (pe_un un_neg (pe_op op_fdivW (pe_un un_neg (pv 5)) (pv 3))) pa_nil))))) pss_nil)
  (pss_one (ps_ret (pe_tup (pa_cons (pe_un un_neg (pe_op op_fdivW (pe_un un_neg (pv 4)) (pv 3))) (pa_cons (pe_op op_fdivW (pv 5) (pv 3)) pa_nil))))))))), ?_⟩
    refine ⟨_, rfl, r, A.c_Rule, D.dx, _, _, rfl, x.at_, T.cl, T.na_base, rf_base _ _ _ _ _ _, _, rfl, r, D.dx, _, rfl, x.at_, noS, _, rfl, r, sp, l, h, d, b, k, ms, most, D, rfl, x, R, hsp, G, fun H1 q1 m p s1 hq1 ht1 L eB low => ?_⟩
    obtain ⟨m1, mB, m3⟩ := R.all m L.mem
    have hsp1 := s1 _ _ hsp
    refine ⟨_, rfl, sp, _, _, _, rfl, rfl, SqT.of hsp1, atL (j := 2) rfl, b, m, p, d, q1, rfl, SqT.of ht1, b1, lt_big R.bB (by decide), lt_big (n := 2000) eB (by decide), by omega, lt_big mB (by decide), ?_⟩
    rintro H2 q2 s2 hq2 rfl
    refine ⟨q2, _, rfl, SqT.of upd_same, rfl, _, _, rfl, _, _, rfl, rfl, ?_⟩
    have s02 := s1.trans s2
    have x2 := x.same s02
    have hsp2 := s02 _ _ hsp
    obtain ⟨f1, f2⟩ := fac_bound b1 eB
    obtain ⟨z1, z2⟩ := siz_bound b1 m1 mB eB
    have fN : (facZ b (p + d)).natAbs < 2 ^ 2000 := abs_lt_pow (by omega) f2
    have zB : sizZ b m (p + d) < BIG := lt_big (n := 2064) z2 (by decide)
    refine ⟨_, rfl, sp, _, _, _, rfl, rfl, SqT.of hsp2, atL (j := 0) rfl, _, rfl, _, _, rfl, rfl, wide_mul G.lo fN (by decide) (by decide) (by decide), ?_⟩
    refine ⟨_, rfl, sp, _, _, _, rfl, rfl, SqT.of hsp2, atL (j := 1) rfl, _, rfl, _, _, rfl, rfl, wide_mul G.hi fN (by decide) (by decide) (by decide), ?_⟩
    refine ⟨_, rfl, r, A.c_Rule, D.dx, _, _, rfl, x2.at_, T.cl, T.na_kind, rf_kind _ _ _ _ _ _, rfl, _, rfl, ?_⟩
    show if (decide (V.str k.s = V.str "cover")) = true then _ else _
    rw [kd_cov]
    by_cases c : k = .cov
    · rw [decide_eq_true c]
      refine iteT ⟨_, rfl, _, rfl, _, _, rfl, rfl, size_div z1 zB _, _, rfl, _, rfl, _, rfl, _, _, rfl, rfl, size_div z1 zB _, _, rfl, (by show 2 ≤ sizeLine; decide), fun q3 hq3 => ?_⟩
      refine q _ q3 m p (s02.trans (same_new hq3)) (s02.free hq3) L eB low ?_
      rw [upd_same]
      unfold fstZ lstZ
      rw [if_pos c, if_pos c]
    · rw [decide_eq_false c]
      refine iteF ⟨_, rfl, _, rfl, _, rfl, _, _, rfl, rfl, size_div z1 zB _, _, rfl, _, rfl, _, rfl, _, _, rfl, rfl, size_div z1 zB _, (by show 2 ≤ sizeLine; decide), fun q3 hq3 => ?_⟩
      refine q _ q3 m p (s02.trans (same_new hq3)) (s02.free hq3) L eB low ?_
      rw [upd_same]
      unfold fstZ lstZ
      rw [if_neg c, if_neg c]
end
end Ax

namespace Ax
open PySem L2
section
variable {P : Program} {w : World} {K : PySem.W.Frag} {mg : Str → Option Value} {base : Heap} {A : Adr}
end
end Ax

namespace Ax
open PySem L2
/-! ### lists of tuples of three numbers -/
abbrev Tr := Int × Int × Int
def trV (z : Tr) : HO := .tup [.int z.1, .int z.2.1, .int z.2.2]
abbrev TrAt (H : Hp) : List Tr → List Addr → Prop := Paired fun z a => H a = some (trV z)
theorem TrAt.same {H H' : Hp} (s : ∀ c xs, H c = some (.tup xs) → H' c = some (.tup xs)) : ∀ {zs : List Tr} {as : List Addr}, TrAt H zs as → TrAt H' zs as
  | _, _, .nil => .nil
  | _, _, .cons h r => .cons (s _ _ h) (TrAt.same s r)
theorem TrAt.snoc {H : Hp} {z : Tr} {a : Addr} : ∀ {zs : List Tr} {as : List Addr}, TrAt H zs as → H a = some (trV z) → TrAt H (zs ++ [z]) (as ++ [a])
  | _, _, .nil, h => .cons h .nil
  | _, _, .cons h r, q => .cons h (TrAt.snoc r q)
theorem TrAt.app {H : Hp} : ∀ {zs ys : List Tr} {as bs : List Addr}, TrAt H zs as → TrAt H ys bs → TrAt H (zs ++ ys) (as ++ bs)
  | _, _, _, _, .nil, q => q
  | _, _, _, _, .cons h r, q => .cons h (TrAt.app r q)
theorem TrAt.len {H : Hp} {zs : List Tr} {as : List Addr} (h : TrAt H zs as) : zs.length = as.length := Paired.length h
theorem TrAt.get {H : Hp} : ∀ {zs : List Tr} {as : List Addr} {i : Nat} {a : Addr}, TrAt H zs as → as[i]? = some a → ∃ z, zs[i]? = some z ∧ H a = some (trV z)
  | _, _, _, _, .nil, h => nomatch h
  | _, _, 0, _, .cons h _, e => by
    obtain rfl := Option.some.inj e
    exact ⟨_, rfl, h⟩
  | _, _, i + 1, _, .cons _ r, e => TrAt.get (i := i) r e
theorem blkOk_eq {N N' : List Str} {sc sc' scope : Scope} {own : List (Str × Nat)} (h1 : N = N') (h2 : sc = sc') (h : blkC N' sc' scope own = true) : BlkOk N sc scope own := by
  subst h1
  subst h2
  exact blkOk_by h
theorem ixT (K : PySem.W.Frag) {X : Cx} (h : X.K = K := by rfl) : IxR X (rIxT K) := h ▸ ix_tup
theorem piL (K : PySem.W.Frag) {X : Cx} {tg l : Expr} {tl : TE} (hl : PE X l tl) (h : X.K = K := by rfl) : PI X tg l (iList K tl) := h ▸ pi_list hl
def lcSc : Expr → Scope
  | .ListComp _ _ sc _ => sc
  | _ => { kind := .function, names := [], isGenerator := false, isCoroutine := false }
def asVal : Stmt → Expr
  | .Assign _ v _ => v
  | _ => .Constant .none 0 ⟨0, 0, 0, 0⟩
def subBase : Expr → Expr
  | .Subscript a _ _ => a
  | e => e
def cellSc (s : Scope) : Scope := { s with names := s.names.map fun p => if p.2 == NameKind.free then (p.1, NameKind.cell) else p }
theorem min_ex : ∀ {l : List Int}, l ≠ [] → ∃ M ∈ l, ∀ y ∈ l, M ≤ y
  | [], h => absurd rfl h
  | [x], _ => ⟨x, List.mem_cons_self .., fun y hy => by
    rw [List.mem_singleton] at hy
    omega⟩
  | x :: y :: r, _ => by
    obtain ⟨M, h1, h2⟩ := min_ex (l := y :: r) (by simp)
    by_cases c : M ≤ x
    · exact ⟨M, List.mem_cons_of_mem _ h1, fun z hz => by
        rcases List.mem_cons.mp hz with rfl | hz
        · exact c
        · exact h2 z hz⟩
    · exact ⟨x, List.mem_cons_self .., fun z hz => by
        rcases List.mem_cons.mp hz with rfl | hz
        · omega
        · have := h2 z hz
          omega⟩
theorem filter_snoc {p : Tr → Bool} {l : List Tr} {z : Tr} : (l ++ [z]).filter p = if p z = true then l.filter p ++ [z] else l.filter p := by
  rw [List.filter_append, List.filter_cons]
  by_cases c : p z = true
  · rw [if_pos c, if_pos c, List.filter_nil]
  · rw [if_neg c, if_neg c, List.filter_nil, List.append_nil]
theorem take_tr {zs : List Tr} {i : Nat} {z : Tr} (h : zs[i]? = some z) : zs.take (i + 1) = zs.take i ++ [z] := by
  rw [List.take_add_one, h]
  rfl
theorem kd_ins (k : Kd) : decide (V.str k.s = V.str "inside") = decide (k = .ins) := kd_is k .ins
end Ax

namespace Ax
open PySem L2
theorem cut_to (xs : List V) (n : Nat) : cutV xs none (some (n : Int)) = xs.take n := by
  unfold cutV HT.sIx
  simp
  rw [if_neg (by omega)]
  omega
theorem cut_from (xs : List V) (n : Nat) : cutV xs (some (n : Int)) none = xs.drop n := by
  unfold cutV HT.sIx
  simp
  rw [if_neg (by omega)]
  by_cases c : n ≤ xs.length
  · rw [Nat.min_eq_left c]
    exact List.take_of_length_le (by rw [List.length_drop]; omega)
  · rw [Nat.min_eq_right (by omega), List.drop_of_length_le (Nat.le_refl _), List.drop_of_length_le (by omega), List.take_nil]
theorem filtT_snoc {p : Tr → Bool} {l : List Tr} {i : Nat} {z : Tr} (h : l[i]? = some z) : (l.take (i + 1)).filter p = if p z = true then (l.take i).filter p ++ [z] else (l.take i).filter p := by
  rw [take_tr h, filter_snoc]
theorem natI {x : Int} {n : Nat} (h0 : 0 ≤ x) (h : x < 2 ^ n) : x.natAbs < 2 ^ n := abs_lt_pow h0 h
/-- the tuple of a drawn cover rule, at ru; its heads at lh -/
def RuleC (H : Hp) (ru lh : Addr) (b : Int) (hs : List Int) (most : Int) : Prop := H ru = some (.tup [.int b, .ref lh, .int most]) ∧ H lh = some (.lst (hs.map V.int))
theorem RuleC.same {H H' : Hp} {ru lh : Addr} {b : Int} {hs : List Int} {most : Int} (x : RuleC H ru lh b hs most) (s : Same H H') : RuleC H' ru lh b hs most := ⟨s _ _ x.1, s _ _ x.2⟩
theorem mulW {x y : Int} {a c : Nat} (hx : x.natAbs < 2 ^ a) (hy : y.natAbs < 2 ^ c) (ha : a ≤ 3000) (hc : c ≤ 3000) : CMulW x y :=
  wide_mul (a := 3000) (b := 3000) (Nat.lt_of_lt_of_le hx (Nat.pow_le_pow_right (by decide) ha)) (Nat.lt_of_lt_of_le hy (Nat.pow_le_pow_right (by decide) hc)) (by decide) (by decide) (by decide)
theorem absM {M l h : Int} {n : Nat} (lt : l < h) (hl : -M ≤ l) (hh : h ≤ M) (hM : M < 2 ^ n) : l.natAbs < 2 ^ n ∧ h.natAbs < 2 ^ n := by
  have e5 : (((2 : Nat) ^ n : Nat) : Int) = 2 ^ n := Int.natCast_pow ..
  have a : (l.natAbs : Int) < ((2 ^ n : Nat) : Int) := by rw [e5]; omega
  have c : (h.natAbs : Int) < ((2 ^ n : Nat) : Int) := by rw [e5]; omega
  exact ⟨Int.ofNat_lt.mp a, Int.ofNat_lt.mp c⟩
section
variable {P : Program} {w : World} {K : PySem.W.Frag} {mg : Str → Option Value} {base : Heap} {A : Adr}
end
end Ax

namespace Ax
open PySem L2
/-- the tuples of drawn cover rules -/
abbrev RcsAt (b : Int) (H : Hp) : List CRu → List Addr → Prop := Paired fun x a => ∃ lh, RuleC H a lh b x.1 x.2
theorem RcsAt.same {b : Int} {H H' : Hp} (s : Same H H') : ∀ {rs : List CRu} {as : List Addr}, RcsAt b H rs as → RcsAt b H' rs as
  | _, _, .nil => .nil
  | _, _, .cons ⟨D, x⟩ r => .cons ⟨D, x.same s⟩ (RcsAt.same s r)
theorem RcsAt.len {b : Int} {H : Hp} {rs : List CRu} {as : List Addr} (h : RcsAt b H rs as) : rs.length = as.length := Paired.length h
theorem RcsAt.get {b : Int} {H : Hp} : ∀ {rs : List CRu} {as : List Addr} {i : Nat} {a : Addr}, RcsAt b H rs as → as[i]? = some a → ∃ x, rs[i]? = some x ∧ ∃ lh, RuleC H a lh b x.1 x.2
  | _, _, _, _, .nil, h => nomatch h
  | _, _, 0, _, .cons h _, e => by
    obtain rfl := Option.some.inj e
    exact ⟨_, rfl, h⟩
  | _, _, i + 1, _, .cons _ r, e => RcsAt.get (i := i) r e
theorem RcsAt.snoc {b : Int} {H : Hp} {x : CRu} {a : Addr} : ∀ {rs : List CRu} {as : List Addr}, RcsAt b H rs as → (∃ lh, RuleC H a lh b x.1 x.2) → RcsAt b H (rs ++ [x]) (as ++ [a])
  | _, _, .nil, h => .cons h .nil
  | _, _, .cons h r, q => .cons h (RcsAt.snoc r q)
section
variable {P : Program} {w : World} {K : PySem.W.Frag} {mg : Str → Option Value} {base : Heap} {A : Adr}
end
end Ax

namespace Ax
open PySem L2
/-- the heads to draw from -/
structure SomeOk (b : Int) (ms : List Int) : Prop where
  b2 : 2 ≤ b
  b10 : b ≤ 10
  ne : ms ≠ []
  le : ms.length ≤ 3
  nd : ms.Nodup
  all : ∀ m ∈ ms, 1 ≤ m ∧ m ≤ 25 ∧ m % b ≠ 0
theorem SomeOk.cov {b most : Int} {ms hs : List Int} (S : SomeOk b ms) (ne : hs ≠ []) (sub : hs.Sublist ms) (m2 : 2 ≤ most) (m6 : most ≤ 6) : Cov b hs most ∧ hs.length ≤ 3 :=
  ⟨⟨S.b2, S.b10, m2, m6, ne, Nat.le_trans sub.length_le (Nat.le_trans S.le (by decide)), sub.nodup S.nd, fun m hm => S.all m (sub.mem hm)⟩, Nat.le_trans sub.length_le S.le⟩
/-- rules of at most three heads -/
def CovL (b : Int) (rs : List CRu) : Prop := ∀ r ∈ rs, Cov b r.1 r.2 ∧ r.1.length ≤ 3
theorem CovL.all {b : Int} {rs : List CRu} (h : CovL b rs) : CovAll b rs := fun r hr => (h r hr).1
theorem RuleC.kp {H H' : Hp} {p ru lh : Addr} {b : Int} {hs : List Int} {most : Int} {t : Nat} (x : RuleC H ru lh b hs most) (y : Purse H p t) (n : lh ≠ p) (s : Kp p H H') : RuleC H' ru lh b hs most := by
  obtain ⟨xs, e⟩ := y.some
  exact ⟨s _ _ (ne_of x.1 e (by intro z; cases z)) x.1, s _ _ n x.2⟩
section
variable {P : Program} {w : World} {K : PySem.W.Frag} {mg : Str → Option Value} {base : Heap} {A : Adr}
/-! ### _law_cover_rules -/
def BASC : List Int := [10, 2, 3, 2, 10, 4, 5, 6, 7]
def LSTC : List (List Int) := [[1, 3], [1, 2, 5], [2, 3], [1], [3, 5], [1, 2, 3], [2, 5], [1, 3, 5], [4, 3], [1, 6], [1, 2]]
def keptC (b : Int) (is : List Int) : List Int := is.filter fun m => decide (¬ m % b = 0)
def cutC (b : Int) (is : List Int) : List Int := if b ∈ ([5, 6, 7] : List Int) then is.take 2 else is
def famC (b : Int) (is : List Int) : List Int := if cutC b (keptC b is) = [] then [1] else cutC b (keptC b is)
theorem some_table : ∀ b ∈ BASC, ∀ is ∈ LSTC, (2 ≤ b ∧ b ≤ 10) ∧ famC b is ≠ [] ∧ (famC b is).length ≤ 3 ∧ (famC b is).Nodup ∧ ∀ m ∈ famC b is, 1 ≤ m ∧ m ≤ 25 ∧ m % b ≠ 0 := by decide +kernel
theorem some_ok {b : Int} {is : List Int} (hb : b ∈ BASC) (hi : is ∈ LSTC) : SomeOk b (famC b is) := by
  obtain ⟨⟨h1, h2⟩, h3, h4, h5, h6⟩ := some_table b hb is hi
  exact ⟨h1, h2, h3, h4, h5, h6⟩
/-- lists that are new since H0 -/
structure LsN (H0 H : Hp) (ls : List (List Int)) (as : List Addr) : Prop where
  s : Same H0 H
  at_ : Paired (fun is a => H a = some (.lst (is.map V.int)) ∧ H0 a = none) ls as
theorem pairN_same {H0 H H' : Hp} (s : Same H H') : ∀ {ls : List (List Int)} {as : List Addr}, Paired (fun is a => H a = some (.lst (is.map V.int)) ∧ H0 a = none) ls as → Paired (fun is a => H' a = some (.lst (is.map V.int)) ∧ H0 a = none) ls as
  | _, _, .nil => .nil
  | _, _, .cons ⟨h, n⟩ r => .cons ⟨s _ _ h, n⟩ (pairN_same s r)
theorem pairN_snoc {H0 H : Hp} {is : List Int} {a : Addr} (h : H a = some (.lst (is.map V.int)) ∧ H0 a = none) : ∀ {ls : List (List Int)} {as : List Addr}, Paired (fun is a => H a = some (.lst (is.map V.int)) ∧ H0 a = none) ls as → Paired (fun is a => H a = some (.lst (is.map V.int)) ∧ H0 a = none) (ls ++ [is]) (as ++ [a])
  | _, _, .nil => .cons h .nil
  | _, _, .cons g r => .cons g (pairN_snoc h r)
theorem pairN_get {H0 H : Hp} : ∀ {ls : List (List Int)} {as : List Addr} {i : Nat} {a : Addr}, Paired (fun is a => H a = some (.lst (is.map V.int)) ∧ H0 a = none) ls as → as[i]? = some a → ∃ is, ls[i]? = some is ∧ H a = some (.lst (is.map V.int)) ∧ H0 a = none
  | _, _, _, _, .nil, h => nomatch h
  | _, _, 0, _, .cons h _, e => by
    obtain rfl := Option.some.inj e
    exact ⟨_, rfl, h⟩
  | _, _, i + 1, _, .cons _ r, e => pairN_get (i := i) r e
theorem LsN.nil {H0 H : Hp} (s : Same H0 H) : LsN H0 H [] [] := ⟨s, .nil⟩
theorem LsN.new {H0 H : Hp} {ls : List (List Int)} {as : List Addr} (is : List Int) {l : Addr} (x : LsN H0 H ls as) (h : H l = none) : LsN H0 (upd H l (.lst (is.map V.int))) (ls ++ [is]) (as ++ [l]) :=
  ⟨x.s.trans (same_new h), pairN_snoc ⟨upd_same, x.s.free h⟩ (pairN_same (same_new h) x.at_)⟩
theorem LsN.put {H0 H : Hp} {ls : List (List Int)} {as : List Addr} {L : Addr} (x : LsN H0 H ls as) (h : H L = none) : Same H0 (upd H L (.lst (as.map V.ref))) ∧ Paired (fun is a => (upd H L (.lst (as.map V.ref))) a = some (.lst (is.map V.int)) ∧ H0 a = none) ls as ∧ (upd H L (.lst (as.map V.ref))) L = some (.lst (as.map V.ref)) ∧ H0 L = none :=
  ⟨x.s.trans (same_new h), pairN_same (same_new h) x.at_, upd_same, x.s.free h⟩
/-- tuples of cover rules whose heads lie elsewhere than at p -/
abbrev RcsP (p : Addr) (b : Int) (H : Hp) : List CRu → List Addr → Prop := Paired fun x a => ∃ lh, RuleC H a lh b x.1 x.2 ∧ lh ≠ p
theorem RcsP.at_ {p : Addr} {b : Int} {H : Hp} : ∀ {rs : List CRu} {as : List Addr}, RcsP p b H rs as → RcsAt b H rs as
  | _, _, .nil => .nil
  | _, _, .cons ⟨lh, h, _⟩ r => .cons ⟨lh, h⟩ (RcsP.at_ r)
theorem RcsP.kp {p : Addr} {b : Int} {H H' : Hp} {t : Nat} (y : Purse H p t) (s : Kp p H H') : ∀ {rs : List CRu} {as : List Addr}, RcsP p b H rs as → RcsP p b H' rs as
  | _, _, .nil => .nil
  | _, _, .cons ⟨lh, h, n⟩ r => .cons ⟨lh, h.kp y n s, n⟩ (RcsP.kp y s r)
theorem RcsP.snoc {p : Addr} {b : Int} {H : Hp} {x : CRu} {a : Addr} : ∀ {rs : List CRu} {as : List Addr}, RcsP p b H rs as → (∃ lh, RuleC H a lh b x.1 x.2 ∧ lh ≠ p) → RcsP p b H (rs ++ [x]) (as ++ [a])
  | _, _, .nil, h => .cons h .nil
  | _, _, .cons h r, q => .cons h (RcsP.snoc r q)
/-- the same, elsewhere than at D too -/
abbrev RcsQ (p D : Addr) (b : Int) (H : Hp) : List CRu → List Addr → Prop := Paired fun x a => ∃ lh, RuleC H a lh b x.1 x.2 ∧ lh ≠ p ∧ lh ≠ D
theorem RcsQ.p {p D : Addr} {b : Int} {H : Hp} : ∀ {rs : List CRu} {as : List Addr}, RcsQ p D b H rs as → RcsP p b H rs as
  | _, _, .nil => .nil
  | _, _, .cons ⟨lh, h, n, _⟩ r => .cons ⟨lh, h, n⟩ (RcsQ.p r)
theorem RcsQ.kp {p D : Addr} {b : Int} {H H' : Hp} {t : Nat} (y : Purse H p t) (s : Kp p H H') : ∀ {rs : List CRu} {as : List Addr}, RcsQ p D b H rs as → RcsQ p D b H' rs as
  | _, _, .nil => .nil
  | _, _, .cons ⟨lh, h, n⟩ r => .cons ⟨lh, h.kp y n.1 s, n⟩ (RcsQ.kp y s r)
theorem RuleC.but {H : Hp} {D ru lh : Addr} {b : Int} {hs : List Int} {most : Int} {xs ys : List V} (x : RuleC H ru lh b hs most) (hD : H D = some (.lst xs)) (n : lh ≠ D) : RuleC (upd H D (.lst ys)) ru lh b hs most := by
  have n2 : ru ≠ D := ne_of x.1 hD (by intro z; cases z)
  exact ⟨by rw [upd_ne n2]; exact x.1, by rw [upd_ne n]; exact x.2⟩
theorem RcsQ.but {p D : Addr} {b : Int} {H : Hp} {xs ys : List V} (hD : H D = some (.lst xs)) : ∀ {rs : List CRu} {as : List Addr}, RcsQ p D b H rs as → RcsQ p D b (upd H D (.lst ys)) rs as
  | _, _, .nil => .nil
  | _, _, .cons ⟨lh, h, n⟩ r => .cons ⟨lh, h.but hD n.2, n⟩ (RcsQ.but hD r)
theorem RcsQ.snoc {p D : Addr} {b : Int} {H : Hp} {x : CRu} {a : Addr} : ∀ {rs : List CRu} {as : List Addr}, RcsQ p D b H rs as → (∃ lh, RuleC H a lh b x.1 x.2 ∧ lh ≠ p ∧ lh ≠ D) → RcsQ p D b H (rs ++ [x]) (as ++ [a])
  | _, _, .nil, h => .cons h .nil
  | _, _, .cons h r, q => .cons h (RcsQ.snoc r q)
end
end Ax

namespace Ax
open PySem L2
/-- rules of which nothing lies at E; their lists are new since H0 -/
abbrev RlsQ (C E : Addr) (b : Int) (H0 H : Hp) : List CRu → List Addr → Prop := Paired fun x a => ∃ D, RX C H a b .cov x.1 x.2 D ∧ D.lm ≠ E ∧ D.lr ≠ E ∧ H0 D.lm = none ∧ H0 D.lr = none
theorem RlsQ.r {C E : Addr} {b : Int} {H0 H : Hp} : ∀ {rs : List CRu} {as : List Addr}, RlsQ C E b H0 H rs as → RlsAt C b H rs as
  | _, _, .nil => .nil
  | _, _, .cons ⟨D, h, _⟩ r => .cons ⟨D, h⟩ (RlsQ.r r)
theorem RlsQ.but {C E : Addr} {b : Int} {H0 H H' : Hp} {xs : List V} (hE : H E = some (.lst xs)) (s : ∀ c o, c ≠ E → H c = some o → H' c = some o) : ∀ {rs : List CRu} {as : List Addr}, RlsQ C E b H0 H rs as → RlsQ C E b H0 H' rs as
  | _, _, .nil => .nil
  | _, _, .cons ⟨D, x, n1, n2, n3⟩ r => .cons ⟨D, x.but hE n1 n2 s, n1, n2, n3⟩ (RlsQ.but hE s r)
theorem RlsQ.kp {C E p : Addr} {b : Int} {H0 H H' : Hp} {t : Nat} {o : HO} (hp : H0 p = some o) (y : Purse H p t) (s : Kp p H H') : ∀ {rs : List CRu} {as : List Addr}, RlsQ C E b H0 H rs as → RlsQ C E b H0 H' rs as
  | _, _, .nil => .nil
  | _, _, .cons ⟨D, x, n1, n2, n3, n4⟩ r => by
    obtain ⟨xs, e⟩ := y.some
    have m1 : D.lm ≠ p := fun z => by
      rw [z, hp] at n3
      cases n3
    have m2 : D.lr ≠ p := fun z => by
      rw [z, hp] at n4
      cases n4
    exact .cons ⟨D, x.but e m1 m2 s, n1, n2, n3, n4⟩ (RlsQ.kp hp y s r)
theorem RlsQ.snoc {C E : Addr} {b : Int} {H0 H : Hp} {x : CRu} {a : Addr} : ∀ {rs : List CRu} {as : List Addr}, RlsQ C E b H0 H rs as → (∃ D, RX C H a b .cov x.1 x.2 D ∧ D.lm ≠ E ∧ D.lr ≠ E ∧ H0 D.lm = none ∧ H0 D.lr = none) → RlsQ C E b H0 H (rs ++ [x]) (as ++ [a])
  | _, _, .nil, h => .cons h .nil
  | _, _, .cons h r, q => .cons h (RlsQ.snoc r q)
section
variable {P : Program} {w : World} {K : PySem.W.Frag} {mg : Str → Option Value} {base : Heap} {A : Adr}
/-! ### _law_made_rules -/
theorem clist (K : PySem.W.Frag) {X : Cx} (h : X.K = K := by rfl) : CallR X (.type "list") (fun xs H Q => ∃ p ys, xs = [V.ref p] ∧ (SqL K H p ys ∨ SqT K H p ys) ∧ ∀ (l : Addr), H l = none → Q (V.ref l) (upd H l (HO.lst ys))) := h ▸ call_list_of
def spMRules (A : Adr) : Sp := fun vs H Q _ => ∃ (L : Addr) (as : List Addr) (rs : List CRu) (b : Int), vs = [.ref L] ∧ H L = some (.lst (as.map V.ref)) ∧ RcsAt b H rs as ∧ CovAll b rs ∧ rs.length ≤ 3 ∧
  ∀ (H' : Hp) (M : Addr) (ms : List Addr), Same H H' → H M = none → H' M = some (.lst (ms.map V.ref)) → RlsQ A.c_Rule M b H H' rs ms → Q (.ref M) H'
abbrev nm_law_made_rules : List Str := ["_law_rules", "_law_base", "_law_heads", "_law_most"]
theorem sc_law_made_rules : FnScope ["_law_rules", "_law_base", "_law_heads", "_law_most"] ["_law_rules"] (defScope s_law_made_rules) := ⟨rfl, rfl, rfl, by decide +kernel, rfl, by decide +kernel, by decide +kernel⟩
theorem ok_mrules (T : Txt K mg A w) : FnOk P w K mg base CX0 6 A.a_law_made_rules A.d_law_made_rules ["_law_rules"] (spMRules A) := by
  have G_Rule_init : FnOk P w K mg base CX0 4 A.a_Rule_init A.d_Rule_init ["self", "base", "kind", "mantissas", "most"] (spInit A) := ok_init T
  refine T.F_law_made_rules.ok sc_law_made_rules (fun vs H Q E h => ?_) (fun cdv A0 outer s H vs Q E hr h => ?_)
  · obtain ⟨L, as, rs, b, rfl, _⟩ := h
    rfl
  · obtain ⟨L, as, rs, b, rfl, hL, RC, CA, le3, q⟩ := h
    refine ⟨_, (pss_one (ps_ret (pe_lc (own := [("_law_base", 1), ("_law_heads", 2), ("_law_most", 3)]) (g := gTup K 3 (gCons (gName 1) (gCons (gName 2) (gCons (gName 3) gNil)))) (tt := tYes) rfl sc_law_made_rules.nd (pi_list (pv 0)) (blkOk_by (own := [("_law_base", 1), ("_law_heads", 2), ("_law_most", 3)]) (N := nm_law_made_rules) (sc := defScope s_law_made_rules) (by decide +kernel)) (fun _ _ _ _ _ => (pg_tup (by rfl) (pgs_cons (pg_name (i := 1) sc_law_made_rules.nd rfl (Or.inl rfl)) (pgs_cons (pg_name (i := 2) sc_law_made_rules.nd rfl (Or.inl rfl)) (pgs_cons (pg_name (i := 3) sc_law_made_rules.nd rfl (Or.inl rfl)) pgs_nil))))) (fun _ _ _ _ _ => pts_nil) (fun _ _ _ _ _ => (pe_make T.mk_Rule G_Rule_init (hr.mono (by decide)) (by rfl) T.c_Rule T.B_Rule_init .nil pass0 (pa_cons (pv 1) (pa_cons pe_str (pa_cons (pe_callTy (clist K) (by rfl) T.n_list (by decide +kernel) (pa_cons (pv 2) pa_nil)) (pa_cons (pv 3) pa_nil))))))))), ?_⟩
    refine ⟨_, rfl, L, rfl, ⟨_, SqL.of hL⟩, fun E hE => ?_⟩
    refine lc_list (K := K) (a := L) (xs := as.map V.ref) (fun i H' => ∃ ms : List Addr, Same H H' ∧ H' E = some (.lst (ms.map V.ref)) ∧ RlsQ A.c_Rule E b H H' (rs.take i) ms) ⟨[], same_new hE, upd_same, .nil⟩ ?_ ?_ ?_
    · rintro i H' _ ⟨ms, s, _⟩
      exact SqL.of (s _ _ hL)
    · rintro i x H' hi ⟨ms, s1, hE1, RQ⟩
      obtain ⟨a, ha, rfl⟩ := ref_get hi
      obtain ⟨x, hx, lh, R⟩ := (RC.same s1).get ha
      have C := CA x (List.mem_of_getElem? hx)
      have hi3 : i < rs.length := (List.getElem?_eq_some_iff.mp hx).1
      have ml : (rs.take i).length = ms.length := Paired.length RQ
      rw [List.length_take] at ml
      refine ⟨a, _, rfl, SqT.of R.1, rfl, _, _, rfl, _, _, rfl, _, _, rfl, rfl, rfl, yes_of ?_⟩
      refine ⟨_, rfl, _, rfl, lh, _, rfl, .inl (SqL.of R.2), fun l9 hl9 => ?_⟩
      have s8 : Same H' (upd H' l9 (.lst (x.1.map V.int))) := same_new hl9
      refine ⟨_, rfl, fun y dx nx ndx nex => ?_⟩
      generalize hH8 : upd H' l9 (.lst (x.1.map V.int)) = H8 at s8 nx ndx ⊢
      have l98 : H8 l9 = some (.lst (x.1.map V.int)) := by rw [← hH8]; exact upd_same
      have s9 : Same H8 (upd (upd H8 dx (.own y)) y (.ins A.c_Rule dx [])) := (same_new ndx).trans (same_new (by rw [upd_ne nex.symm]; exact nx))
      refine ⟨y, dx, l9, b, .cov, x.1, x.2, rfl, upd_same, s9 _ _ l98, C.args, fun H10 D kept X10 n1 n2 => ⟨rfl, ?_⟩⟩
      have s10 : Same H' H10 := fun c o e => kept c o (ne_of_none (s8 _ _ e) nx) (s9 _ _ (s8 _ _ e))
      have hE10 := s10 _ _ hE1
      have m1 : D.lm ≠ E := fun z => by
        have := (s8.trans s9).free n1
        rw [z, hE1] at this
        cases this
      have m2 : D.lr ≠ E := fun z => by
        have := (s8.trans s9).free n2
        rw [z, hE1] at this
        cases this
      have ch : ∀ c o, c ≠ E → H10 c = some o → (upd H10 E (.lst (ms.map V.ref ++ [.ref y]))) c = some o := fun c o n e => by
        rw [upd_ne n]
        exact e
      refine ⟨_, hE10, ?_, ms ++ [y], fun c o e => ?_, ?_, ?_⟩
      · rw [List.length_map]
        exact small1000 (by omega)
      · exact ch c o (ne_of_none e hE) (s10 _ _ (s1 _ _ e))
      · rw [upd_same, List.map_append]
        rfl
      · rw [List.take_add_one, hx]
        exact (RlsQ.but hE10 ch (RlsQ.but hE1 (fun c o _ e => s10 c o e) RQ)).snoc ⟨D, X10.but hE10 m1 m2 ch, m1, m2, s1.free ((s8.trans s9).free n1), s1.free ((s8.trans s9).free n2)⟩
    · rintro H' ⟨ms, s1, hE1, RQ⟩
      have el : (as.map V.ref).length = rs.length := by rw [List.length_map, RC.len]
      rw [el, List.take_length] at RQ
      exact q H' E ms s1 hE hE1 RQ
/-! ### _law_drawn_span -/
def spDSpan : Sp := fun vs H Q _ => ∃ (p : Addr) (t : Nat) (b : Int), vs = [.ref p, .int b] ∧ Purse H p t ∧ t ≤ 2 ^ 18 ∧ 2 ≤ b ∧ b ≤ 10 ∧
  ∀ (H' : Hp) (q : Addr) (l h d : Int), Kp p H H' → Purse H' p (t + 10) → H' q = some (.tup [.int l, .int h, .int d]) → H q = none → l < h → -(2 ^ 66) < l → h < 2 ^ 66 → 0 ≤ d → d ≤ 3 → Q (.ref q) H'
abbrev nm_law_drawn_span : List Str := ["_law_purse_here", "_law_base", "_law_low", "_law_near", "_law_length"]
theorem sc_law_drawn_span : FnScope ["_law_purse_here", "_law_base", "_law_low", "_law_near", "_law_length"] ["_law_purse_here", "_law_base"] (defScope s_law_drawn_span) := ⟨rfl, rfl, rfl, by decide +kernel, rfl, by decide +kernel, by decide +kernel⟩
theorem ok_dspan (T : Txt K mg A w) : FnOk P w K mg base CX0 3 A.a_law_drawn_span A.d_law_drawn_span ["_law_purse_here", "_law_base"] spDSpan := by
  have G_law_draw : FnOk P w K mg base CX0 1 A.a_law_draw A.d_law_draw ["_law_purse_here", "_law_many"] spDraw := ok_draw T
  have G_law_pick : FnOk P w K mg base CX0 2 A.a_law_pick A.d_law_pick ["_law_purse_here", "_law_items"] spPick := ok_pick T
  have G_law_raised : FnOk P w K mg base CX0 1 A.a_law_raised A.d_law_raised ["_law_base", "_law_many"] spTimes := ok_times T
  refine T.F_law_drawn_span.ok sc_law_drawn_span (fun vs H Q E h => ?_) (fun cdv A0 outer s H vs Q E hr h => ?_)
  · obtain ⟨p, t, b, rfl, _⟩ := h
    rfl
  · obtain ⟨p, t, b, rfl, hP, ht, b2, b10, q⟩ := h
    have e18 : (2 : Nat) ^ 18 = 262144 := by decide
    have e20 : (2 : Nat) ^ 20 = 1048576 := by decide
    refine ⟨_, (pss_cons (ps_set (i := 2) sc_law_drawn_span.nd rfl (Or.inl rfl) (pe_call G_law_pick (hr.mono (by decide)) (by rfl) T.m_law_pick T.F_law_pick.kp T.B_law_pick .nil pass0 (pa_cons (pv 0) (pa_cons (pe_lst (pa_cons pe_int (pa_cons pe_int (pa_cons pe_int (pa_cons (pe_call G_law_draw (hr.mono (by decide)) (by rfl) T.m_law_draw T.F_law_draw.kp T.B_law_draw .nil pass0 (pa_cons (pv 0) (pa_cons pe_int pa_nil))) (pa_cons (pe_op op_add (pe_op op_pow pe_int pe_int) (pe_call G_law_draw (hr.mono (by decide)) (by rfl) T.m_law_draw T.F_law_draw.kp T.B_law_draw .nil pass0 (pa_cons (pv 0) (pa_cons (pe_op op_pow pe_int pe_int) pa_nil)))) pa_nil)))))) pa_nil))))
  (pss_cons (ps_set (i := 3) sc_law_drawn_span.nd rfl (Or.inl rfl) (pe_op op_sub (pe_call G_law_raised (hr.mono (by decide)) (by rfl) T.m_law_raised T.F_law_raised.kp T.B_law_raised .nil pass0 (pa_cons (pv 1) (pa_cons (pe_call G_law_draw (hr.mono (by decide)) (by rfl) T.m_law_draw T.F_law_draw.kp T.B_law_draw .nil pass0 (pa_cons (pv 0) (pa_cons pe_int pa_nil))) pa_nil))) (pe_call G_law_draw (hr.mono (by decide)) (by rfl) T.m_law_draw T.F_law_draw.kp T.B_law_draw .nil pass0 (pa_cons (pv 0) (pa_cons pe_int pa_nil)))))
  (pss_cons (ps_set (i := 2) sc_law_drawn_span.nd rfl (Or.inl rfl) (pe_call G_law_pick (hr.mono (by decide)) (by rfl) T.m_law_pick T.F_law_pick.kp T.B_law_pick .nil pass0 (pa_cons (pv 0) (pa_cons (pe_lst (pa_cons (pv 2) (pa_cons (pe_op op_sub pe_int (pv 2)) (pa_cons (pv 3) pa_nil)))) pa_nil))))
  (pss_cons (ps_set (i := 4) sc_law_drawn_span.nd rfl (Or.inl rfl) (pe_op op_add pe_int (pe_call G_law_draw (hr.mono (by decide)) (by rfl) T.m_law_draw T.F_law_draw.kp T.B_law_draw .nil pass0 (pa_cons (pv 0) (pa_cons (pe_call G_law_pick (hr.mono (by decide)) (by rfl) T.m_law_pick T.F_law_pick.kp T.B_law_pick .nil pass0 (pa_cons (pv 0) (pa_cons (pe_lst (pa_cons pe_int (pa_cons pe_int (pa_cons pe_int (pa_cons (pe_op op_pow pe_int pe_int) pa_nil))))) pa_nil))) pa_nil)))))
  (pss_one (ps_ret (pe_tup (pa_cons (pv 2) (pa_cons (pe_op op_add (pv 2) (pv 4)) (pa_cons (pe_call G_law_pick (hr.mono (by decide)) (by rfl) T.m_law_pick T.F_law_pick.kp T.B_law_pick .nil pass0 (pa_cons (pv 0) (pa_cons (pe_lst (pa_cons pe_int (pa_cons pe_int (pa_cons pe_int (pa_cons pe_int (pa_cons pe_int pa_nil)))))) pa_nil))) pa_nil)))))))))), ?_⟩
    refine ⟨_, rfl, _, rfl, p, 200, t, rfl, hP, by omega, by decide, small2000 (by decide), fun H1 z1 k1 P1 z10 z11 => ?_⟩
    have c6 : (10 : Int) ^ (6 : Int).toNat = 1000000 := by decide
    have c12 : (10 : Int) ^ (12 : Int).toNat = 1000000000000 := by decide
    have c9 : (10 : Int) ^ (9 : Int).toNat = 1000000000 := by decide
    refine ⟨_, _, rfl, rfl, ⟨by decide, by decide, by decide⟩, _, rfl, _, _, rfl, rfl, ⟨by decide, by decide, by decide⟩, p, _, t + 1, rfl, P1, by omega, by rw [c6]; decide, by rw [c6]; exact small2000 (by decide), fun H2 z2 k2 P2 z20 z21 => ?_⟩
    rw [c6] at z21
    refine ⟨_, _, rfl, rfl, (by show 5 ≤ sizeLine; decide), fun l hl => ?_⟩
    rw [c12]
    have s3 := same_new (o := .lst [.int 0, .int 1, .int 7, .int z1, .int (1000000000000 + z2)]) hl
    refine ⟨p, l, _, t + 2, rfl, P2.same s3, by omega, upd_same, P2.ne hl, (by show 0 < 5; decide), (by show 5 ≤ 1000; decide), fun H4 i4 x4 k4 P4 g4 => ?_⟩
    obtain ⟨lo, rfl, lo0, lo1⟩ := pick_int (ms := [0, 1, 7, z1, 1000000000000 + z2]) (P := fun m => 0 ≤ m ∧ m ≤ 1000001000000) g4 (by
      intro m hm
      simp only [List.mem_cons, List.not_mem_nil, or_false] at hm
      omega)
    have k04 := (k1.trans k2).trans ((kpNew (p := p) (o := .lst [.int 0, .int 1, .int 7, .int z1, .int (1000000000000 + z2)]) hl).trans k4)
    refine gN (σ' := [some (.ref p), some (.int b), some (.int lo), none, none]) rfl ?_
    -- near
    refine ⟨_, rfl, _, rfl, p, 20, t + 3, rfl, P4, by omega, by decide, small2000 (by decide), fun H5 z5 k5 P5 z50 z51 => ?_⟩
    have bz := pow_pos' (b := b) (by omega) z5.toNat
    have bz2 : b ^ z5.toNat ≤ 10 ^ 19 := by
      have h1 := pow_le' (b := b) (by omega) (show z5.toNat ≤ 19 by omega)
      have h2 := pow_base_le (a := b) (b := 10) (by omega) b10 19
      omega
    have c19 : (10 : Int) ^ 19 = 10000000000000000000 := by decide
    refine ⟨b, z5, rfl, by omega, lt_big (n := 64) (by omega) (by decide), by omega, by omega, lt_big (n := 64) (by rw [show (2 : Int) ^ 64 = 18446744073709551616 by decide]; omega) (by decide), ?_⟩
    refine ⟨_, rfl, p, 4, t + 4, rfl, P5, by omega, by decide, small2000 (by decide), fun H6 z6 k6 P6 z60 z61 => ?_⟩
    refine ⟨_, _, rfl, rfl, ?_⟩
    have k06 := k04.trans (k5.trans k6)
    refine gN (σ' := [some (.ref p), some (.int b), some (.int lo), some (.int (b ^ z5.toNat - z6)), none]) rfl ?_
    generalize hN : b ^ z5.toNat - z6 = near
    -- low
    refine ⟨_, rfl, _, rfl, _, rfl, _, _, rfl, rfl, _, rfl, (by show 3 ≤ sizeLine; decide), fun l7 hl7 => ?_⟩
    have s7 := same_new (o := .lst [.int lo, .int (0 - lo), .int near]) hl7
    refine ⟨p, l7, _, t + 5, rfl, P6.same s7, by omega, upd_same, P6.ne hl7, (by show 0 < 3; decide), (by show 3 ≤ 1000; decide), fun H8 i8 x8 k8 P8 g8 => ?_⟩
    obtain ⟨lw, rfl, lw0, lw1⟩ := pick_int (ms := [lo, 0 - lo, near]) (P := fun m => -(2 ^ 65) ≤ m ∧ m ≤ 2 ^ 65) g8 (by
      intro m hm
      have c65 : (2 : Int) ^ 65 = 36893488147419103232 := by decide
      simp only [List.mem_cons, List.not_mem_nil, or_false] at hm
      omega)
    have k08 := k06.trans ((kpNew (p := p) (o := .lst [.int lo, .int (0 - lo), .int near]) hl7).trans k8)
    refine gN (σ' := [some (.ref p), some (.int b), some (.int lw), some (.int near), none]) rfl ?_
    -- length
    refine ⟨_, rfl, _, rfl, _, _, rfl, rfl, ⟨by decide, by decide, by decide⟩, (by show 4 ≤ sizeLine; decide), fun l9 hl9 => ?_⟩
    have e9 : ((fun i j : Int => V.int (i ^ j.toNat)) 10 9) = V.int 1000000000 := congrArg V.int c9
    rw [e9]
    have s9 := same_new (o := .lst [.int 3, .int 30, .int 400, .int 1000000000]) hl9
    refine ⟨p, l9, _, t + 6, rfl, P8.same s9, by omega, upd_same, P8.ne hl9, (by show 0 < 4; decide), (by show 4 ≤ 1000; decide), fun H10 i10 x10 k10 P10 g10 => ?_⟩
    obtain ⟨up, rfl, up0, up1⟩ := pick_int (ms := [3, 30, 400, 1000000000]) (P := fun m => 0 < m ∧ m ≤ 1000000000) g10 (by decide)
    have k010 := k08.trans ((kpNew (p := p) (o := .lst [.int 3, .int 30, .int 400, .int 1000000000]) hl9).trans k10)
    refine ⟨p, up, t + 7, rfl, P10, by omega, up0, small2000 (by omega), fun H11 z11 k11 P11 z110 z111 => ?_⟩
    refine ⟨_, _, rfl, rfl, ?_⟩
    refine gN (σ' := [some (.ref p), some (.int b), some (.int lw), some (.int near), some (.int (1 + z11))]) rfl ?_
    -- the tuple
    refine ⟨_, rfl, _, rfl, _, rfl, _, _, rfl, rfl, _, rfl, (by show 5 ≤ sizeLine; decide), fun l12 hl12 => ?_⟩
    have s12 := same_new (o := .lst [.int 0, .int 0, .int 0, .int 1, .int 3]) hl12
    refine ⟨p, l12, _, t + 8, rfl, P11.same s12, by omega, upd_same, P11.ne hl12, (by show 0 < 5; decide), (by show 5 ≤ 1000; decide), fun H13 i13 x13 k13 P13 g13 => ?_⟩
    obtain ⟨d, rfl, d0, d3⟩ := pick_int (ms := [0, 0, 0, 1, 3]) (P := fun m => 0 ≤ m ∧ m ≤ 3) g13 (by decide)
    have k013 := (k010.trans k11).trans ((kpNew (p := p) (o := .lst [.int 0, .int 0, .int 0, .int 1, .int 3]) hl12).trans k13)
    refine ⟨(by show 3 ≤ sizeLine; decide), fun q1 hq1 => ?_⟩
    have c65 : (2 : Int) ^ 65 = 36893488147419103232 := by decide
    have c66 : (2 : Int) ^ 66 = 73786976294838206464 := by decide
    exact q _ q1 lw (lw + (1 + z11)) d (k013.trans (kpNew hq1)) ((P13.same (same_new hq1)).le (by omega)) upd_same (k013.free P13 hq1) (by omega) (by omega) (by omega) d0 d3
end
end Ax

namespace Ax
open PySem L2
section
variable {P : Program} {w : World} {K : PySem.W.Frag} {mg : Str → Option Value} {base : Heap} {A : Adr}
end
end Ax

namespace Ax
open PySem L2
/-! ### one course, whoever reckons it -/
theorem Course.det {b : Int} {rs : List CRu} {S S' : Nat → Tri} {I J I' J' : Nat} (b2 : 2 ≤ b) (ha : AllHd b rs) (C : Course b rs S I J) (C' : Course b rs S' I' J') (h0 : S 0 = S' 0) : I = I' ∧ J = J' ∧ ∀ n ≤ J, S n = S' n := by
  have b1 : 1 ≤ b := by omega
  have same : ∀ n, n ≤ J → n ≤ J' → S n = S' n := by
    intro n
    induction n with
    | zero => exact fun _ _ => h0
    | succ n ih =>
      intro h h'
      have e := ih (by omega) (by omega)
      have r := C'.rd n h'
      rw [← e] at r
      have d := Round.det b2 ha (C.rd n h) r (Eq3.refl b _)
      have n1 := C.no (n + 1) h
      have n2 := C'.no (n + 1) h'
      obtain ⟨k, f1, f2, f3⟩ := Eq3.red (x := (S (n + 1)).1) (y := (S (n + 1)).2.1) (D := -(S (n + 1)).2.2) (U := sT (S' (n + 1))) b1 d n2
      have f1 : (S (n + 1)).1 = (S' (n + 1)).1 * b ^ k := f1
      have f2 : (S (n + 1)).2.1 = (S' (n + 1)).2.1 * b ^ k := f2
      have f3 : -(S (n + 1)).2.2 = -(S' (n + 1)).2.2 + k := f3
      by_cases z : k = 0
      · rw [z, Int.pow_zero, Int.mul_one] at f1 f2
        rw [z] at f3
        have f3 : (S (n + 1)).2.2 = (S' (n + 1)).2.2 := by omega
        exact Prod.ext f1 (Prod.ext f2 f3)
      · exact absurd ⟨by rw [f1]; exact mod_pow0 (by omega), by rw [f2]; exact mod_pow0 (by omega)⟩ n1
  have jj : J = J' := by
    rcases Nat.lt_trichotomy J J' with c | c | c
    · have e1 := same I (by have := C.lt; omega) (by have := C.lt; omega)
      have e2 := same J (Nat.le_refl _) (by omega)
      have := C.back
      rw [e1, e2] at this
      exact absurd this (C'.df I J C.lt c)
    · exact c
    · have e1 := same I' (by have := C'.lt; omega) (by have := C'.lt; omega)
      have e2 := same J' (by omega) (Nat.le_refl _)
      have := C'.back
      rw [← e1, ← e2] at this
      exact absurd this (C.df I' J' C'.lt c)
  subst jj
  refine ⟨?_, rfl, fun n h => same n h h⟩
  have e1 := same I (Nat.le_of_lt C.lt) (Nat.le_of_lt C.lt)
  have e2 := same I' (Nat.le_of_lt C'.lt) (Nat.le_of_lt C'.lt)
  have eJ := same J (Nat.le_refl _) (Nat.le_refl _)
  have k1 : kOf (S I) = kOf (S I') := by rw [C.back, e2, C'.back, eJ]
  rcases Nat.lt_trichotomy I I' with c | c | c
  · exact absurd k1 (C.df I I' c C'.lt)
  · exact c
  · exact absurd k1.symm (C.df I' I c C.lt)
theorem shp_ex {b : Int} (b2 : 2 ≤ b) : ∀ (m : Nat) {x y : Int}, x.natAbs + y.natAbs ≤ m → x < y → ∃ (l h : Int) (k : Nat), Shp b x y l h k := by
  intro m
  induction m with
  | zero =>
    intro x y hm lt
    omega
  | succ m ih =>
    intro x y hm lt
    by_cases c : x % b = 0 ∧ y % b = 0
    · have ex : x / b * b = x := by have := Int.emod_add_mul_ediv x b; rw [Int.mul_comm]; omega
      have ey : y / b * b = y := by have := Int.emod_add_mul_ediv y b; rw [Int.mul_comm]; omega
      have half : ∀ z : Int, z / b * b = z → (z / b).natAbs ≤ z.natAbs ∧ (z ≠ 0 → (z / b).natAbs < z.natAbs) := fun z ez => by
        have e : z.natAbs = (z / b).natAbs * b.natAbs := by rw [← Int.natAbs_mul, ez]
        have g : (z / b).natAbs * 2 ≤ (z / b).natAbs * b.natAbs := Nat.mul_le_mul_left _ (by omega)
        exact ⟨by omega, fun nz => by omega⟩
      obtain ⟨a1, a2⟩ := half x ex
      obtain ⟨c1, c2⟩ := half y ey
      have lt' : x / b < y / b := Int.lt_of_mul_lt_mul_right (show x / b * b < y / b * b by rw [ex, ey]; exact lt) (by omega)
      have less : (x / b).natAbs + (y / b).natAbs ≤ m := by
        by_cases z : x = 0
        · have := c2 (by omega)
          omega
        · have := a2 z
          omega
      obtain ⟨l, h, k, S⟩ := ih less lt'
      refine ⟨l, h, k + 1, ⟨?_, ?_, S.no⟩⟩
      · rw [Int.pow_succ, ← Int.mul_assoc, ← S.lo, ex]
      · rw [Int.pow_succ, ← Int.mul_assoc, ← S.hi, ey]
    · exact ⟨x, y, 0, ⟨by rw [Int.pow_zero, Int.mul_one], by rw [Int.pow_zero, Int.mul_one], c⟩⟩
/-- what stands behind n rounds of the law's own -/
structure FInv (b : Int) (rs : List CRu) (s0 : Tri) (S : Nat → Tri) (n : Nat) (x y z : Int) : Prop where
  s0 : S 0 = s0
  cur : Eq3 b (x, y, z) (sT (S n))
  red : Red b (x, y, z)
  rd : ∀ i < n, Round b rs (sT (S i)) (sT (S (i + 1)))
  no : ∀ i ≤ n, ¬ ((S i).1 % b = 0 ∧ (S i).2.1 % b = 0)
  df : ∀ i j, i < j → j < n → kOf (S i) ≠ kOf (S j)
  last : ∀ m, n = m + 1 → ¬ Eq3 b (sT (S m)) (sT (S n))
/-- what a round wants of it -/
structure FNow (b x y z : Int) (s : Tri) (k : Nat) : Prop where
  sh : Shp b x y s.1 s.2.1 k
  k4 : k < 400
  pw : 0 - z + k = s.2.2
  lt : x < y
  lo : -(2 ^ 1300) ≤ x
  hi : y ≤ 2 ^ 1300
  z0 : 0 ≤ z
  zB : z < 1000
  e1 : x = s.1 * b ^ s.2.2.toNat
  e2 : y = s.2.1 * b ^ s.2.2.toNat
  e3 : z = (-s.2.2).toNat
theorem sT_eq3 {b l h l3 h3 d : Int} {n : Nat} (SH : Shp b l h l3 h3 n) : Eq3 b (l, h, d) (sT (l3, h3, -d + n)) := by
  have e : sT (l3, h3, -d + n) = (l3, h3, d - n) := by
    show (l3, h3, -(-d + (n : Int))) = _
    rw [show -(-d + (n : Int)) = d - n by omega]
  rw [e]
  exact SH.eq3
theorem same_of {b : Int} {T U T' U' : Tri} (e : Eq3 b T U) (e' : Eq3 b T' U') (h : SameS b T.1 T.2.1 T'.1 T'.2.1) : SameS b U.1 U.2.1 U'.1 U'.2.1 := by
  have e2 := e.shift (-T.2.2)
  have e2' := e'.shift (-T'.2.2)
  rw [show T.2.2 + -T.2.2 = 0 by omega] at e2
  rw [show T'.2.2 + -T'.2.2 = 0 by omega] at e2'
  exact SameS.of (T := (U.1, U.2.1, U.2.2 + -T.2.2)) (T' := (U'.1, U'.2.1, U'.2.2 + -T'.2.2)) e2 e2' h
theorem FInv.now {b x y z l h d : Int} {rs : List CRu} {s0 : Tri} {S : Nat → Tri} {n n0 : Nat} (F : FInv b rs s0 S n x y z) (ne : rs ≠ []) (le3 : rs.length ≤ 3) (cv : ∀ r ∈ rs, Cov b r.1 r.2) (h3 : ∀ r ∈ rs, r.1.length ≤ 3) (lt : l < h) (d0 : 0 ≤ d) (d10 : d ≤ 10) (hl : -(2 ^ 66) < l) (hh : h < 2 ^ 66)
    (SH : Shp b l h s0.1 s0.2.1 n0) (p0 : s0.2.2 = -d + n0) : ∃ k, FNow b x y z (S n) k := by
  have C0 := cv _ (List.getLast_mem ne)
  have b2 := C0.b2
  have b1 : 1 ≤ b := by omega
  have e0 : Eq3 b (l, h, d) (sT (S 0)) := by
    rw [F.s0]
    have := sT_eq3 (d := d) SH
    rw [← p0] at this
    exact this
  let T : Nat → Tri := fun i => if i = 0 then (l, h, d) else sT (S i)
  have T0 : T 0 = (l, h, d) := rfl
  have Te : ∀ i, Eq3 b (T i) (sT (S i)) := fun i => by
    by_cases c : i = 0
    · subst c
      exact e0
    · show Eq3 b (if i = 0 then (l, h, d) else sT (S i)) _
      rw [if_neg c]
      exact Eq3.refl ..
  have RD : ∀ i < n, Round b rs (T i) (T (i + 1)) := fun i hi => by
    have := (F.rd i hi).fro (Te i)
    show Round b rs (T i) (if i + 1 = 0 then (l, h, d) else sT (S (i + 1)))
    rw [if_neg (by omega)]
    exact this
  have DF : ∀ i j, i < j → j < n → ¬ SameS b (T i).1 (T i).2.1 (T j).1 (T j).2.1 := fun i j h1 h2 s => by
    refine F.df i j h1 h2 (keys_same b1 (F.no i (by omega)) (F.no j (by omega)) ?_)
    exact same_of (U := sT (S i)) (U' := sT (S j)) (Te i) (Te j) s
  obtain ⟨X, Y, eq, sm, big⟩ := course_small ne le3 cv lt T0 hl hh RD DF
  have eq := (eq n (Nat.le_refl _)).trans (Te n)
  obtain ⟨g1, g2, g3⟩ := sm n (Nat.le_refl _)
  obtain ⟨B1, B2⟩ := big (h3 _ (List.getLast_mem ne)) n (Nat.le_refl _)
  obtain ⟨k', f1, f2, f3⟩ := eq.red b1 (F.no n (Nat.le_refl _))
  obtain ⟨k, c1, c2, c3⟩ := F.cur.red b1 (F.no n (Nat.le_refl _))
  have f1 : X n = (S n).1 * b ^ k' := f1
  have f2 : Y n = (S n).2.1 * b ^ k' := f2
  have f3 : d + 7 = -(S n).2.2 + k' := f3
  have c1 : x = (S n).1 * b ^ k := c1
  have c2 : y = (S n).2.1 * b ^ k := c2
  have c3 : z = -(S n).2.2 + k := c3
  obtain ⟨r1, r2⟩ := F.red
  have r1 : 0 ≤ z := r1
  have r2 : z = 0 ∨ ¬ (x % b = 0 ∧ y % b = 0) := r2
  have zk : z = 0 ∨ k = 0 := by
    rcases r2 with r | r
    · exact .inl r
    · refine .inr ?_
      by_cases c : k = 0
      · exact c
      · exact absurd ⟨by rw [c1]; exact mod_pow0 (by omega), by rw [c2]; exact mod_pow0 (by omega)⟩ r
  have kk : k ≤ k' := by omega
  have pk' := pow_pos' b1 k'
  have pk := pow_pos' b1 k
  have l12 : (S n).1 < (S n).2.1 := Int.lt_of_mul_lt_mul_right (show (S n).1 * b ^ k' < (S n).2.1 * b ^ k' by rw [← f1, ← f2]; exact g3) (by omega)
  have bk : b ^ k' ≤ b ^ 379 := by
    have := Int.mul_le_mul_of_nonneg_right (show 1 ≤ (S n).2.1 - (S n).1 by omega) (show 0 ≤ b ^ k' by omega)
    rw [Int.sub_mul, ← f1, ← f2] at this
    have e : (2 : Int) ^ 124 = 2 ^ 123 + 2 ^ 123 := by decide
    have h1 : b ^ k' ≤ b ^ 255 * 2 ^ 124 := by
      rw [e, Int.mul_add]
      omega
    have h2 : (2 : Int) ^ 124 ≤ b ^ 124 := pow_base_le (by decide) b2 124
    have h4 := Int.mul_le_mul_of_nonneg_left h2 (show 0 ≤ b ^ 255 by have := pow_pos' b1 255; omega)
    rw [← pow_add'] at h4
    exact Int.le_trans h1 h4
  have k379 : k' ≤ 379 := by
    by_cases c : k' ≤ 379
    · exact c
    · exfalso
      have := pow_lt' (b := b) (by omega) (show 379 < k' by omega)
      omega
  have ex : ∀ v : Int, v * b ^ k' = v * b ^ k * b ^ (k' - k) := fun v => by
    rw [mul_pow3, show k + (k' - k) = k' by omega]
  have q1 := abs_pow (x := x) (M := 2 ^ 1300) (k := k' - k) b1 (by rw [c1, ← ex, ← f1]; exact g1) (by rw [c1, ← ex, ← f1]; omega)
  have q2 := abs_pow (x := y) (M := 2 ^ 1300) (k := k' - k) b1 (by rw [c2, ← ex, ← f2]; omega) (by rw [c2, ← ex, ← f2]; exact g2)
  have kt : k = (S n).2.2.toNat := by omega
  refine ⟨k, ⟨c1, c2, F.no n (Nat.le_refl _)⟩, by omega, by omega, ?_, q1.1, q2.2, r1, by omega, by rw [← kt]; exact c1, by rw [← kt]; exact c2, by omega⟩
  rw [c1, c2]
  exact (mul_lt_iff (by omega)).mpr l12
theorem kOf_inj {s t : Tri} (h : kOf s = kOf t) : s.1 = t.1 ∧ s.2.1 = t.2.1 := by
  injection h with h1 h2
  injection h2 with h2 _
  exact ⟨Sum.inl.inj h1, Sum.inl.inj h2⟩
theorem FInv.grow {b x y z : Int} {rs : List CRu} {s0 : Tri} {S : Nat → Tri} {i j : Nat} (F : FInv b rs s0 S i x y z) (ne : rs ≠ []) (cv : ∀ r ∈ rs, Cov b r.1 r.2) (lt : s0.1 < s0.2.1) (hj : j < i) (ek : kOf (S j) = kOf (S i)) : (S i).2.2 - (S j).2.2 ≠ 0 := fun zz => by
  have C0 := cv _ (List.getLast_mem ne)
  have b1 : 1 ≤ b := by have := C0.b2; omega
  obtain ⟨k1, k2⟩ := kOf_inj ek
  have eS : S j = S i := Prod.ext k1 (Prod.ext k2 (by omega))
  have e : Eq3 b (sT (S j)) (sT (S i)) := by rw [eS]; exact Eq3.refl ..
  have r := back_rests ne cv (T := fun i => sT (S i)) (N := i) (l := (S 0).1) (h := (S 0).2.1) (d := -(S 0).2.2) (by rw [F.s0]; exact lt) rfl F.rd hj (Nat.le_refl _) e
  by_cases c : j + 1 < i
  · obtain ⟨u, v, a1, a2, _⟩ := r
    exact F.df j (j + 1) (by omega) c (keys_same b1 (F.no j (by omega)) (F.no (j + 1) (by omega)) ⟨u, v, a1, a2⟩)
  · obtain rfl : i = j + 1 := by omega
    exact F.last j rfl r
theorem FInv.df' {b x y z : Int} {rs : List CRu} {s0 : Tri} {S : Nat → Tri} {n : Nat} (F : FInv b rs s0 S n x y z) (fresh : ∀ j < n, kOf (S j) ≠ kOf (S n)) : ∀ i j, i < j → j < n + 1 → kOf (S i) ≠ kOf (S j) := fun i j h1 h2 => by
  by_cases c : j < n
  · exact F.df i j h1 c
  · obtain rfl : j = n := by omega
    exact fresh i h1
theorem FInv.stay {b x y z : Int} {rs : List CRu} {s0 : Tri} {S : Nat → Tri} {n : Nat} (F : FInv b rs s0 S n x y z) (fresh : ∀ j < n, kOf (S j) ≠ kOf (S n)) (R : Round b rs (x, y, z) (x, y, z)) : Course b rs (ext S n (S n)) n (n + 1) := by
  refine ⟨by omega, by rw [ext_le (Nat.le_refl n), ext_new], fun i hi => ?_, fun i hi => ?_, fun i j h1 h2 => ?_⟩
  · by_cases c : i < n
    · rw [ext_le (Nat.le_of_lt c), ext_le (show i + 1 ≤ n from c)]
      exact F.rd i c
    · obtain rfl : i = n := by omega
      rw [ext_le (Nat.le_refl _), ext_new]
      exact (R.fro F.cur.symm).to F.cur
  · by_cases c : i ≤ n
    · rw [ext_le c]
      exact F.no i c
    · obtain rfl : i = n + 1 := by omega
      rw [ext_new]
      exact F.no n (Nat.le_refl _)
  · rw [ext_le (show i ≤ n by omega), ext_le (show j ≤ n by omega)]
    exact F.df' fresh i j h1 h2
theorem FInv.next {b x y z x5 y5 z5 l5 h5 : Int} {k5 : Nat} {rs : List CRu} {s0 : Tri} {S : Nat → Tri} {n : Nat} (F : FInv b rs s0 S n x y z) (b1 : 1 ≤ b) (fresh : ∀ j < n, kOf (S j) ≠ kOf (S n)) (R : Round b rs (x, y, z) (x5, y5, z5)) (red5 : Red b (x5, y5, z5)) (SH : Shp b x5 y5 l5 h5 k5) (ne : (x5, y5, z5) ≠ (x, y, z)) :
    FInv b rs s0 (ext S n (l5, h5, -z5 + k5)) (n + 1) x5 y5 z5 := by
  have e5 := sT_eq3 (d := z5) SH
  refine ⟨by rw [ext_le (Nat.zero_le _)]; exact F.s0, by rw [ext_new]; exact e5, red5, fun i hi => ?_, fun i hi => ?_, fun i j h1 h2 => ?_, fun m hm => ?_⟩
  · by_cases c : i < n
    · rw [ext_le (Nat.le_of_lt c), ext_le (show i + 1 ≤ n from c)]
      exact F.rd i c
    · obtain rfl : i = n := by omega
      rw [ext_le (Nat.le_refl _), ext_new]
      exact (R.fro F.cur.symm).to e5
  · by_cases c : i ≤ n
    · rw [ext_le c]
      exact F.no i c
    · obtain rfl : i = n + 1 := by omega
      rw [ext_new]
      exact SH.no
  · rw [ext_le (show i ≤ n by omega), ext_le (show j ≤ n by omega)]
    exact F.df' fresh i j h1 h2
  · obtain rfl : m = n := by omega
    rw [ext_le (Nat.le_refl _), ext_new]
    exact fun e => ne (Red.uniq b1 (e5.trans (e.symm.trans F.cur.symm)) red5 F.red)
theorem tame_shape {b l h d : Int} {rs : List CRu} {s0 : Tri} {n0 : Nat} (ne : rs ≠ []) (le3 : rs.length ≤ 3) (cv : ∀ r ∈ rs, Cov b r.1 r.2) (lt : l < h) (d0 : 0 ≤ d) (hl : -(2 ^ 66) < l) (hh : h < 2 ^ 66) (SH : Shp b l h s0.1 s0.2.1 n0) (p0 : s0.2.2 = -d + n0) : Tame b rs s0 := by
  have := (mild_of ne le3 cv lt d0 hl hh SH).1
  rw [← p0] at this
  exact this
theorem RcsAt.first {b : Int} {H : Hp} {rs : List CRu} {as : List Addr} (h : RcsAt b H rs as) (ne : rs ≠ []) : ∃ a, as[0]? = some a ∧ ∃ (lh : Addr) (hs : List Int) (most : Int), RuleC H a lh b hs most := by
  cases h with
  | nil => exact absurd rfl ne
  | cons h r =>
    obtain ⟨lh, x⟩ := h
    exact ⟨_, rfl, lh, _, _, x⟩
section
variable {P : Program} {w : World} {K : PySem.W.Frag} {mg : Str → Option Value} {base : Heap} {A : Adr}
end
end Ax

namespace Ax
open PySem L2
/-! ### what is told, as data and as text -/
/-- the reduced range of a shape -/
def toldT (b : Int) (s : Tri) : Tri := (s.1 * b ^ s.2.2.toNat, s.2.1 * b ^ s.2.2.toNat, ((-s.2.2).toNat : Int))
theorem toldT_eq (b : Int) (s : Tri) : Eq3 b (toldT b s) (sT s) := by
  refine ⟨0, s.2.2.toNat, ?_, ?_, ?_⟩
  · show s.1 * b ^ s.2.2.toNat * b ^ 0 = s.1 * b ^ s.2.2.toNat
    rw [Int.pow_zero, Int.mul_one]
  · show s.2.1 * b ^ s.2.2.toNat * b ^ 0 = s.2.1 * b ^ s.2.2.toNat
    rw [Int.pow_zero, Int.mul_one]
  · show ((-s.2.2).toNat : Int) + ((0 : Nat) : Int) = -s.2.2 + (s.2.2.toNat : Int)
    omega
theorem toldT_red {b : Int} {s : Tri} (no : ¬ (s.1 % b = 0 ∧ s.2.1 % b = 0)) : Red b (toldT b s) := by
  refine ⟨Int.natCast_nonneg _, ?_⟩
  by_cases c : 0 ≤ s.2.2
  · refine .inl ?_
    show ((-s.2.2).toNat : Int) = 0
    omega
  · refine .inr ?_
    show ¬ (s.1 * b ^ s.2.2.toNat % b = 0 ∧ s.2.1 * b ^ s.2.2.toNat % b = 0)
    rw [show s.2.2.toNat = 0 by omega, Int.pow_zero, Int.mul_one, Int.mul_one]
    exact no
def d3 (t : Tri) : PyData := .tuple [.int t.1, .int t.2.1, .int t.2.2]
def dTold (b : Int) (S : Nat → Tri) (I J : Nat) : PyData :=
  if (S J).2.2 - (S I).2.2 = 0 then .tuple [.str "settles", d3 (toldT b (S I)), .int I] else .tuple [.str "grows", .int I, .int ((J : Int) - I), .int ((S J).2.2 - (S I).2.2)]
theorem Told.dp {K : PySem.W.Frag} {H : Hp} {q : Addr} {b : Int} {S : Nat → Tri} {I J : Nat} (h : Told H q b S I J) : Dp K H (.ref q) (dTold b S I J) := by
  unfold dTold
  rcases h with ⟨z, sp, h1, h2⟩ | ⟨z, h1⟩
  · rw [if_pos z]
    exact Dp.tup (SqT.of h1) (.cons (.str _) (.cons (Dp.tup (SqT.of h2) (.cons (.int _) (.cons (.int _) (.cons (.int _) .nil)))) (.cons (.int _) .nil)))
  · rw [if_neg z]
    exact Dp.tup (SqT.of h1) (.cons (.str _) (.cons (.int _) (.cons (.int _) (.cons (.int _) .nil))))
structure Sh (d : PyData) (n k : Nat) : Prop where
  show_ : d.showable = true
  nd : d.hasDict = false
  len : d.shown.length ≤ n
  dep : d.depth ≤ k
theorem Sh.int {i : Int} (h : i.natAbs.log2 < 1920) : Sh (.int i) 2000 0 := by
  refine ⟨by simp [PyData.showable, h], by simp [PyData.hasDict], ?_, by simp [PyData.depth]⟩
  have l1 := PyProof.Rows.int_text_len_1921 h
  simp only [PyData.shown]
  omega
theorem Sh.le {d : PyData} {n k n' k' : Nat} (h : Sh d n k) (h1 : n ≤ n') (h2 : k ≤ k') : Sh d n' k' := ⟨h.show_, h.nd, Nat.le_trans h.len h1, Nat.le_trans h.dep h2⟩
theorem Sh.t3 {a b c : PyData} {n k : Nat} (h1 : Sh a n k) (h2 : Sh b n k) (h3 : Sh c n k) : Sh (.tuple [a, b, c]) (3 * n + 20) (k + 1) := by
  refine ⟨by simp [PyData.showable, PyData.showableAll, h1.show_, h2.show_, h3.show_], by simp [PyData.hasDict, PyData.hasDictAll, h1.nd, h2.nd, h3.nd], ?_, ?_⟩
  · have l1 := h1.len
    have l2 := h2.len
    have l3 := h3.len
    simp only [PyData.shown, PyData.shownAll]
    unfold tupleText
    rw [strLen_append, strLen_append]
    have j := join_length_add [a.shown, b.shown, c.shown] (by simp)
    simp only [piled] at j
    simp only [List.map_cons, List.map_nil, List.sum_cons, List.sum_nil] at j
    have e1 : (Str.ofString "(").length = 1 := rfl
    have e2 : (Str.ofString (if ([a.shown, b.shown, c.shown].length == 1) = true then ",)" else ")")).length ≤ 2 := by
      rw [if_neg (by simp)]
      decide
    omega
  · have l1 := h1.dep
    have l2 := h2.dep
    have l3 := h3.dep
    simp only [PyData.depth, PyData.depthAll]
    omega
theorem Sh.t4 {a b c d : PyData} {n k : Nat} (h1 : Sh a n k) (h2 : Sh b n k) (h3 : Sh c n k) (h4 : Sh d n k) : Sh (.tuple [a, b, c, d]) (4 * n + 20) (k + 1) := by
  refine ⟨by simp [PyData.showable, PyData.showableAll, h1.show_, h2.show_, h3.show_, h4.show_], by simp [PyData.hasDict, PyData.hasDictAll, h1.nd, h2.nd, h3.nd, h4.nd], ?_, ?_⟩
  · have l1 := h1.len
    have l2 := h2.len
    have l3 := h3.len
    have l4 := h4.len
    simp only [PyData.shown, PyData.shownAll]
    unfold tupleText
    rw [strLen_append, strLen_append]
    have j := join_length_add [a.shown, b.shown, c.shown, d.shown] (by simp)
    simp only [piled] at j
    simp only [List.map_cons, List.map_nil, List.sum_cons, List.sum_nil] at j
    have e1 : (Str.ofString "(").length = 1 := rfl
    have e2 : (Str.ofString (if ([a.shown, b.shown, c.shown, d.shown].length == 1) = true then ",)" else ")")).length ≤ 2 := by
      rw [if_neg (by simp)]
      decide
    omega
  · have l1 := h1.dep
    have l2 := h2.dep
    have l3 := h3.dep
    have l4 := h4.dep
    simp only [PyData.depth, PyData.depthAll]
    omega
theorem sh_settles : Sh (.str "settles") 2000 0 := ⟨by decide, by decide, by decide +kernel, by decide⟩
theorem sh_grows : Sh (.str "grows") 2000 0 := ⟨by decide, by decide, by decide +kernel, by decide⟩
theorem sh_told {b : Int} {S : Nat → Tri} {I J : Nat} (x1 : -(2 ^ 1300) ≤ (toldT b (S I)).1) (x2 : (toldT b (S I)).1 ≤ 2 ^ 1300) (y1 : -(2 ^ 1300) ≤ (toldT b (S I)).2.1) (y2 : (toldT b (S I)).2.1 ≤ 2 ^ 1300) (p1 : -2000 ≤ (S I).2.2) (p2 : (S I).2.2 ≤ 2000) (p3 : -2000 ≤ (S J).2.2) (p4 : (S J).2.2 ≤ 2000) (i2 : I ≤ 2000) (j2 : J ≤ 2000) : Sh (dTold b S I J) 20000 2 := by
  have big : (2 : Int) ^ 1300 < 2 ^ 1301 := pow_lt' (by decide) (by decide)
  have lb : ∀ z : Int, -(2 ^ 1300) ≤ z → z ≤ 2 ^ 1300 → z.natAbs.log2 < 1920 := fun z h1 h2 => by
    refine log_small (n := 1301) ?_ (by decide) (by decide)
    have e5 : (((2 : Nat) ^ 1301 : Nat) : Int) = 2 ^ 1301 := Int.natCast_pow ..
    have a : (z.natAbs : Int) < ((2 ^ 1301 : Nat) : Int) := by rw [e5]; omega
    exact Int.ofNat_lt.mp a
  have ls : ∀ z : Int, z.natAbs < 2 ^ 13 → z.natAbs.log2 < 1920 := fun z h => log_small h (by decide) (by decide)
  have e13 : (2 : Nat) ^ 13 = 8192 := by decide
  unfold dTold
  by_cases c : (S J).2.2 - (S I).2.2 = 0
  · rw [if_pos c]
    have pz : ((-(S I).2.2).toNat : Int).natAbs < 2 ^ 13 := by omega
    have s3 : Sh (d3 (toldT b (S I))) 6020 1 := Sh.t3 (Sh.int (lb _ x1 x2)) (Sh.int (lb _ y1 y2)) (Sh.int (ls _ pz))
    exact (Sh.t3 (sh_settles.le (by decide) (by decide)) s3 ((Sh.int (ls (I : Int) (by omega))).le (by decide) (by decide))).le (by decide) (by decide)
  · rw [if_neg c]
    exact (Sh.t4 sh_grows (Sh.int (ls (I : Int) (by omega))) (Sh.int (ls ((J : Int) - I) (by omega))) (Sh.int (ls ((S J).2.2 - (S I).2.2) (by omega)))).le (by decide) (by decide)
/-- what a course of a drawn range tells is small -/
theorem course_told {b l h d : Int} {rs : List CRu} {S : Nat → Tri} {I J n0 : Nat} (ne : rs ≠ []) (le3 : rs.length ≤ 3) (cv : ∀ r ∈ rs, Cov b r.1 r.2) (h3 : ∀ r ∈ rs, r.1.length ≤ 3) (lt : l < h) (d0 : 0 ≤ d) (d10 : d ≤ 10) (hl : -(2 ^ 66) < l) (hh : h < 2 ^ 66)
    (SH : Shp b l h (S 0).1 (S 0).2.1 n0) (p0 : (S 0).2.2 = -d + n0) (C : Course b rs S I J) : ∀ n ≤ J, -(2 ^ 1300) ≤ (toldT b (S n)).1 ∧ (toldT b (S n)).2.1 ≤ 2 ^ 1300 ∧ (toldT b (S n)).1 < (toldT b (S n)).2.1 ∧ -17 ≤ (S n).2.2 ∧ (S n).2.2 ≤ 379 := by
  intro n hn
  have C0 := cv _ (List.getLast_mem ne)
  have b2 := C0.b2
  have b1 : 1 ≤ b := by omega
  have e0 : Eq3 b (l, h, d) (sT (S 0)) := by
    have := sT_eq3 (d := d) SH
    rw [← p0] at this
    exact this
  let T : Nat → Tri := fun i => if i = 0 then (l, h, d) else sT (S i)
  have T0 : T 0 = (l, h, d) := rfl
  have Te : ∀ i, Eq3 b (T i) (sT (S i)) := fun i => by
    by_cases c : i = 0
    · subst c
      exact e0
    · show Eq3 b (if i = 0 then (l, h, d) else sT (S i)) _
      rw [if_neg c]
      exact Eq3.refl ..
  have RD : ∀ i < n, Round b rs (T i) (T (i + 1)) := fun i hi => by
    have := (C.rd i (by omega)).fro (Te i)
    show Round b rs (T i) (if i + 1 = 0 then (l, h, d) else sT (S (i + 1)))
    rw [if_neg (by omega)]
    exact this
  have DF : ∀ i j, i < j → j < n → ¬ SameS b (T i).1 (T i).2.1 (T j).1 (T j).2.1 := fun i j h1 h2 s => by
    refine C.df i j h1 (by omega) (keys_same b1 (C.no i (by omega)) (C.no j (by omega)) ?_)
    exact same_of (U := sT (S i)) (U' := sT (S j)) (Te i) (Te j) s
  obtain ⟨X, Y, eq, sm, big⟩ := course_small ne le3 cv lt T0 hl hh RD DF
  have eq := (eq n (Nat.le_refl _)).trans (Te n)
  obtain ⟨g1, g2, g3⟩ := sm n (Nat.le_refl _)
  obtain ⟨B1, B2⟩ := big (h3 _ (List.getLast_mem ne)) n (Nat.le_refl _)
  obtain ⟨k', f1, f2, f3⟩ := eq.red b1 (C.no n hn)
  have f1 : X n = (S n).1 * b ^ k' := f1
  have f2 : Y n = (S n).2.1 * b ^ k' := f2
  have f3 : d + 7 = -(S n).2.2 + k' := f3
  have pk' := pow_pos' b1 k'
  have l12 : (S n).1 < (S n).2.1 := Int.lt_of_mul_lt_mul_right (show (S n).1 * b ^ k' < (S n).2.1 * b ^ k' by rw [← f1, ← f2]; exact g3) (by omega)
  have bk : b ^ k' ≤ b ^ 379 := by
    have := Int.mul_le_mul_of_nonneg_right (show 1 ≤ (S n).2.1 - (S n).1 by omega) (show 0 ≤ b ^ k' by omega)
    rw [Int.sub_mul, ← f1, ← f2] at this
    have e : (2 : Int) ^ 124 = 2 ^ 123 + 2 ^ 123 := by decide
    have h1 : b ^ k' ≤ b ^ 255 * 2 ^ 124 := by
      rw [e, Int.mul_add]
      omega
    have h2 : (2 : Int) ^ 124 ≤ b ^ 124 := pow_base_le (by decide) b2 124
    have h4 := Int.mul_le_mul_of_nonneg_left h2 (show 0 ≤ b ^ 255 by have := pow_pos' b1 255; omega)
    rw [← pow_add'] at h4
    exact Int.le_trans h1 h4
  have k379 : k' ≤ 379 := by
    by_cases c : k' ≤ 379
    · exact c
    · exfalso
      have := pow_lt' (b := b) (by omega) (show 379 < k' by omega)
      omega
  have kk : (S n).2.2.toNat ≤ k' := by omega
  have ex : ∀ v : Int, v * b ^ k' = v * b ^ (S n).2.2.toNat * b ^ (k' - (S n).2.2.toNat) := fun v => by
    rw [mul_pow3, show (S n).2.2.toNat + (k' - (S n).2.2.toNat) = k' by omega]
  have q1 := abs_pow (x := (S n).1 * b ^ (S n).2.2.toNat) (M := 2 ^ 1300) (k := k' - (S n).2.2.toNat) b1 (by rw [← ex, ← f1]; exact g1) (by rw [← ex, ← f1]; omega)
  have q2 := abs_pow (x := (S n).2.1 * b ^ (S n).2.2.toNat) (M := 2 ^ 1300) (k := k' - (S n).2.2.toNat) b1 (by rw [← ex, ← f2]; omega) (by rw [← ex, ← f2]; exact g2)
  have pp := pow_pos' b1 (S n).2.2.toNat
  exact ⟨q1.1, q2.2, (mul_lt_iff (by omega)).mpr l12, by omega, by omega⟩
theorem told_rest {b : Int} {rs : List CRu} {S : Nat → Tri} {I J : Nat} (ne : rs ≠ []) (cv : ∀ r ∈ rs, Cov b r.1 r.2) (lt : (S 0).1 < (S 0).2.1) (C : Course b rs S I J) (dp : (S J).2.2 - (S I).2.2 = 0) : Round b rs (toldT b (S I)) (toldT b (S I)) := by
  obtain ⟨k1, k2⟩ := kOf_inj C.back
  have eS : S I = S J := Prod.ext k1 (Prod.ext k2 (by omega))
  have e : Eq3 b (sT (S I)) (sT (S J)) := by rw [eS]; exact Eq3.refl ..
  have r := back_rests ne cv (T := fun i => sT (S i)) (N := J) (l := (S 0).1) (h := (S 0).2.1) (d := -(S 0).2.2) lt rfl C.rd C.lt (Nat.le_refl _) e
  have R := (C.rd I C.lt).to r.symm
  exact (R.fro (toldT_eq b (S I))).to (toldT_eq b (S I)).symm
theorem mild_told {b : Int} {rs : List CRu} {S : Nat → Tri} {I J : Nat} (b2 : 2 ≤ b) (ha : AllHd b rs) (C : Course b rs S I J) (tame : Tame b rs (S 0)) (R : Round b rs (toldT b (S I)) (toldT b (S I))) (lo : -(2 ^ 1300) ≤ (toldT b (S I)).1) (hi : (toldT b (S I)).2.1 ≤ 2 ^ 1300) (lt : (toldT b (S I)).1 < (toldT b (S I)).2.1) :
    ∀ (l3 h3 : Int) (n : Nat), Shp b (toldT b (S I)).1 (toldT b (S I)).2.1 l3 h3 n → Mild b rs (l3, h3, -(toldT b (S I)).2.2 + n) := fun l3 h3 n SH => by
  have b1 : 1 ≤ b := by omega
  have IJ := C.lt
  obtain ⟨_, g1, g2, g3⟩ := tame S I rfl (fun i h => C.rd i (by omega)) (fun i h => C.no i (by omega)) (fun i j h1 h2 => C.df i j h1 (by omega))
  have k := keys_same (s := (l3, h3, 0)) (t := S I) b1 SH.no (C.no I (by omega)) ⟨n, (S I).2.2.toNat, SH.lo.symm, SH.hi.symm⟩
  obtain ⟨k1, k2⟩ := kOf_inj k
  have k1 : l3 = (S I).1 := k1
  have k2 : h3 = (S I).2.1 := k2
  have bn : b ^ n < 2 ^ 7000 := by
    have p := pow_pos' b1 n
    have := Int.mul_le_mul_of_nonneg_right (show 1 ≤ h3 - l3 by omega) (show 0 ≤ b ^ n by omega)
    rw [Int.sub_mul, ← SH.lo, ← SH.hi] at this
    have e : (2 : Int) ^ 1301 = 2 ^ 1300 + 2 ^ 1300 := by decide +kernel
    have big : (2 : Int) ^ 1301 < 2 ^ 7000 := pow_lt' (by decide) (by decide)
    omega
  exact mild_rest b2 ha (Int.natCast_nonneg _) SH R lt (by omega) (by omega) bn
theorem told_again {b : Int} {rs : List CRu} {s : Tri} {S' : Nat → Tri} {I' J' n' : Nat} (b2 : 2 ≤ b) (ha : AllHd b rs) (no : ¬ (s.1 % b = 0 ∧ s.2.1 % b = 0)) (R : Round b rs (toldT b s) (toldT b s)) (SH : Shp b (toldT b s).1 (toldT b s).2.1 (S' 0).1 (S' 0).2.1 n') (p : (S' 0).2.2 = -(toldT b s).2.2 + n') (C : Course b rs S' I' J') :
    dTold b S' I' J' = .tuple [.str "settles", d3 (toldT b s), .int 0] := by
  have b1 : 1 ≤ b := by omega
  have e0 : Eq3 b (toldT b s) (sT (S' 0)) := by
    have := sT_eq3 (d := (toldT b s).2.2) SH
    rw [← p] at this
    exact this
  have R0 : Round b rs (sT (S' 0)) (sT (S' 0)) := (R.fro e0.symm).to e0
  have C0 : Course b rs (fun _ => S' 0) 0 1 := ⟨by decide, rfl, fun n _ => R0, fun _ _ => C.no 0 (Nat.zero_le _), fun i j h1 h2 => by omega⟩
  obtain ⟨e1, e2, e3⟩ := Course.det b2 ha C C0 rfl
  subst e1 e2
  have e4 := e3 1 (Nat.le_refl _)
  have e4 : S' 1 = S' 0 := e4
  have e5 : toldT b (S' 0) = toldT b s := Red.uniq b1 ((toldT_eq b (S' 0)).trans e0.symm) (toldT_red (C.no 0 (Nat.zero_le _))) (toldT_red no)
  unfold dTold
  rw [if_pos (by rw [e4]; omega), e5]
  rfl
end Ax

namespace Ax
open PySem L2
theorem RcsP.first {p : Addr} {b : Int} {H : Hp} {rs : List CRu} {as : List Addr} (h : RcsP p b H rs as) (ne : rs ≠ []) : ∃ a, as[0]? = some a ∧ ∃ lh hs most, RuleC H a lh b hs most := by
  cases h with
  | nil => exact absurd rfl ne
  | cons h r =>
    obtain ⟨lh, h, _⟩ := h
    exact ⟨_, rfl, lh, _, _, h⟩
theorem kpT {p a : Addr} {H H' : Hp} {t : Nat} {xs : List V} (k : Kp p H H') (y : Purse H p t) (h : H a = some (.tup xs)) : H' a = some (.tup xs) := by
  obtain ⟨ys, e⟩ := y.some
  exact k _ _ (ne_of h e (by intro z; cases z)) h
theorem Shp.uniq {b l h l3 h3 l4 h4 : Int} {n m : Nat} (b2 : 2 ≤ b) (lt : l < h) (S : Shp b l h l3 h3 n) (S' : Shp b l h l4 h4 m) : l3 = l4 ∧ h3 = h4 ∧ n = m := by
  have b1 : 1 ≤ b := by omega
  have k := keys_same (s := (l3, h3, 0)) (t := (l4, h4, 0)) b1 S.no S'.no ⟨n, m, by show l3 * b ^ n = l4 * b ^ m; rw [← S.lo, ← S'.lo], by show h3 * b ^ n = h4 * b ^ m; rw [← S.hi, ← S'.hi]⟩
  obtain ⟨k1, k2⟩ := kOf_inj k
  have k1 : l3 = l4 := k1
  have k2 : h3 = h4 := k2
  subst k1 k2
  have p1 := pow_pos' b1 n
  have lt3 : l3 < h3 := Int.lt_of_mul_lt_mul_right (show l3 * b ^ n < h3 * b ^ n by rw [← S.lo, ← S.hi]; exact lt) (by omega)
  have e : (h3 - l3) * b ^ n = (h3 - l3) * b ^ m := by rw [Int.sub_mul, Int.sub_mul, ← S.lo, ← S.hi, ← S'.lo, ← S'.hi]
  have e := Int.eq_of_mul_eq_mul_left (show h3 - l3 ≠ 0 by omega) e
  refine ⟨rfl, rfl, ?_⟩
  rcases Nat.lt_trichotomy n m with c | c | c
  · have := pow_lt' b2 c
    omega
  · exact c
  · have := pow_lt' b2 c
    omega
theorem told_lay (t : Tri) (i : Int) : PyData.canLay0 (.tuple [.str "settles", d3 t, .int i]) = true := by
  have e : PyData.strOk (Str.ofString "settles") = true := by decide +kernel
  simp [PyData.canLay0, PyData.canLayAll0, d3, e]
theorem told_shaped (t : Tri) (i : Int) : SeqAt.shaped (.tuple [.str "settles", d3 t, .int i]) = true := by
  show (PyData.canLay0 _ && decide (PyData.depth _ ≤ 64)) = true
  rw [told_lay]
  simp [d3, PyData.depth, PyData.depthAll]
theorem dTold_eq {b : Int} {S S' : Nat → Tri} {I J : Nat} (h : ∀ n ≤ J, S n = S' n) (lt : I < J) : dTold b S' I J = dTold b S I J := by
  unfold dTold
  rw [h J (Nat.le_refl _), h I (by omega)]
theorem Told.same {H H' : Hp} {q : Addr} {b : Int} {S : Nat → Tri} {I J : Nat} (s : Same H H') (h : Told H q b S I J) : Told H' q b S I J := by
  rcases h with ⟨z, sp, h1, h2⟩ | ⟨z, h1⟩
  · exact .inl ⟨z, sp, s _ _ h1, s _ _ h2⟩
  · exact .inr ⟨z, s _ _ h1⟩
/-! ### what a range that grows becomes -/
/-- what is told of a course: the power does not fall; where it rises the last rule's steps tell the range, with nought in it -/
theorem course_up {b : Int} {rs : List CRu} {S : Nat → Tri} {I J : Nat} (ne : rs ≠ []) (cv : ∀ r ∈ rs, Cov b r.1 r.2) (lt : (S 0).1 < (S 0).2.1) (C : Course b rs S I J) :
    0 ≤ (S J).2.2 - (S I).2.2 ∧ ((S J).2.2 - (S I).2.2 ≠ 0 → ∃ m ∈ (rs.getLast ne).1, ∃ a c : Int, a ≤ 0 ∧ 0 ≤ c ∧ 1 ≤ c - a ∧ c - a ≤ (rs.getLast ne).2 ∧ SameS b (a * m) (c * m) (S J).1 (S J).2.1) := by
  have C0 := cv _ (List.getLast_mem ne)
  have b2 := C0.b2
  have b1 : 1 ≤ b := by omega
  have hall : ∀ m ∈ (rs.getLast ne).1, 1 ≤ m := fun m h => (C0.all m h).1
  have IJ := C.lt
  obtain ⟨X, Y, St, e1, e2, G⟩ := chain_ex ne cv (T := fun i => sT (S i)) (l := (S 0).1) (h := (S 0).2.1) (d := -(S 0).2.2) lt rfl J C.rd
  obtain ⟨kI, f1, f2, f3⟩ := (G.eq I (Nat.le_of_lt IJ)).red b1 (C.no I (Nat.le_of_lt IJ))
  obtain ⟨kJ, g1, g2, g3⟩ := (G.eq J (Nat.le_refl _)).red b1 (C.no J (Nat.le_refl _))
  obtain ⟨k1, k2⟩ := kOf_inj C.back
  have f1 : X I = (S I).1 * b ^ kI := f1
  have f2 : Y I = (S I).2.1 * b ^ kI := f2
  have f3 : -(S 0).2.2 + 7 = -(S I).2.2 + kI := f3
  have g1 : X J = (S J).1 * b ^ kJ := g1
  have g2 : Y J = (S J).2.1 * b ^ kJ := g2
  have g3 : -(S 0).2.2 + 7 = -(S J).2.2 + kJ := g3
  rw [k1] at f1
  rw [k2] at f2
  obtain ⟨n1, n2⟩ := nested b1 hall G.rd (i := I) (j := J) (Nat.le_of_lt IJ) (Nat.le_refl _)
  obtain ⟨n3, n4⟩ := nested b1 hall G.rd (i := 0) (j := J) (Nat.zero_le _) (Nat.le_refl _)
  have p7 := pow_pos' b1 7
  have lt0 : X 0 < Y 0 := by
    rw [e1, e2]
    exact (mul_lt_iff (by omega)).mpr lt
  have pI := pow_pos' b1 kI
  have pJ := pow_pos' b1 kJ
  have ltJ : (S J).1 < (S J).2.1 := Int.lt_of_mul_lt_mul_right (show (S J).1 * b ^ kJ < (S J).2.1 * b ^ kJ by rw [← g1, ← g2]; omega) (by omega)
  have up : kI ≤ kJ := by
    by_cases c : kI ≤ kJ
    · exact c
    · exfalso
      have h1 := pow_lt' b2 (show kJ < kI by omega)
      have h2 := Int.mul_lt_mul_of_pos_left h1 (show 0 < (S J).2.1 - (S J).1 by omega)
      rw [Int.sub_mul, Int.sub_mul, ← f1, ← f2, ← g1, ← g2] at h2
      omega
  refine ⟨by omega, fun nz => ?_⟩
  have lK : kI < kJ := by omega
  have h1 := pow_lt' b2 lK
  have l0 : (S J).1 ≤ 0 := by
    by_cases c : (S J).1 ≤ 0
    · exact c
    · exfalso
      have := Int.mul_lt_mul_of_pos_left h1 (show 0 < (S J).1 by omega)
      omega
  have h0 : 0 ≤ (S J).2.1 := by
    by_cases c : 0 ≤ (S J).2.1
    · exact c
    · exfalso
      have := Int.mul_lt_mul_of_neg_left h1 (show (S J).2.1 < 0 by omega)
      omega
  obtain ⟨j, rfl⟩ : ∃ j, J = j + 1 := ⟨J - 1, by omega⟩
  have R := G.rd j (by omega)
  obtain ⟨s1, _, _, ⟨a, ea⟩, ⟨c, ec⟩, sp⟩ := R.facts b1 hall
  obtain ⟨u, v, _, _, SS, _, _⟩ := R.ex
  obtain ⟨m, hm, e, es⟩ := SS.lad
  have m1 := hall m hm
  have x0 : X (j + 1) ≤ 0 := by
    rw [g1]
    exact Int.mul_nonpos_of_nonpos_of_nonneg l0 (by omega)
  have y0 : 0 ≤ Y (j + 1) := by
    rw [g2]
    exact Int.mul_nonneg h0 (by omega)
  have a0 : a ≤ 0 := by
    by_cases z : a ≤ 0
    · exact z
    · exfalso
      have := Int.mul_le_mul (show 1 ≤ a by omega) s1 (by decide) (by omega)
      omega
  have c0 : 0 ≤ c := by
    by_cases z : 0 ≤ c
    · exact z
    · exfalso
      have := Int.mul_le_mul (show 1 ≤ -c by omega) s1 (by decide) (by omega)
      rw [Int.neg_mul] at this
      omega
  have ca : 1 ≤ c - a := by
    by_cases z : 1 ≤ c - a
    · exact z
    · exfalso
      obtain ⟨z1, z2⟩ : a = 0 ∧ c = 0 := by omega
      rw [z1, Int.zero_mul] at ea
      rw [z2, Int.zero_mul] at ec
      omega
  have cam : c - a ≤ (rs.getLast ne).2 := by
    rw [ea, ec, ← Int.sub_mul] at sp
    exact Int.le_of_mul_le_mul_right sp (by omega)
  refine ⟨m, hm, a, c, a0, c0, ca, cam, e, kJ, ?_, ?_⟩
  · rw [Int.mul_assoc, ← es, ← ea, g1]
  · rw [Int.mul_assoc, ← es, ← ec, g2]
/-- a range, as ends without digits, grows -/
def Gr (b : Int) (rs : List CRu) (l h : Int) : Prop := ∃ (S : Nat → Tri) (I J n : Nat), Shp b l h (S 0).1 (S 0).2.1 n ∧ (S 0).2.2 = n ∧ Course b rs S I J ∧ (S J).2.2 - (S I).2.2 ≠ 0
theorem Gr.of_same {b l h : Int} {rs : List CRu} {S : Nat → Tri} {I J : Nat} (b2 : 2 ≤ b) (lt : l < h) (C : Course b rs S I J) (nz : (S J).2.2 - (S I).2.2 ≠ 0) (e : SameS b l h (S J).1 (S J).2.1) : Gr b rs l h := by
  have b1 : 1 ≤ b := by omega
  obtain ⟨l', h', n, SH⟩ := shp_ex b2 _ (Nat.le_refl _) lt
  obtain ⟨k1, k2⟩ := kOf_inj C.back
  have IJ := C.lt
  obtain ⟨u, v, w1, w2⟩ := e
  have ks := keys_same (s := (l', h', 0)) (t := S J) b1 SH.no (C.no J (Nat.le_refl _)) ⟨n + u, v, by show l' * b ^ (n + u) = _; rw [← mul_pow3, ← SH.lo, w1], by show h' * b ^ (n + u) = _; rw [← mul_pow3, ← SH.hi, w2]⟩
  obtain ⟨q1, q2⟩ := kOf_inj ks
  have q1 : l' = (S J).1 := q1
  have q2 : h' = (S J).2.1 := q2
  let D : Int := n - (S I).2.2
  refine ⟨fun i => ((S (I + i)).1, (S (I + i)).2.1, (S (I + i)).2.2 + D), 0, J - I, n, ?_, ?_, ⟨by omega, ?_, fun i hi => ?_, fun i hi => C.no (I + i) (by omega), fun i j h1 h2 => C.df (I + i) (I + j) (by omega) (by omega)⟩, ?_⟩
  · show Shp b l h (S I).1 (S I).2.1 n
    rw [k1, k2, ← q1, ← q2]
    exact SH
  · show (S I).2.2 + (n - (S I).2.2) = n
    omega
  · show kOf (S I) = kOf (S (I + (J - I)))
    rw [show I + (J - I) = J by omega]
    exact C.back
  · have r := (C.rd (I + i) (by omega)).shift (-D)
    have e1 : ∀ x : Int, -(x + D) = -x + -D := fun x => by omega
    show Round b rs ((S (I + i)).1, (S (I + i)).2.1, -((S (I + i)).2.2 + D)) ((S (I + i + 1)).1, (S (I + i + 1)).2.1, -((S (I + i + 1)).2.2 + D))
    rw [e1, e1]
    exact r
  · show (S (I + (J - I))).2.2 + D - ((S I).2.2 + D) ≠ 0
    rw [show I + (J - I) = J by omega]
    omega
/-- the candidates of `grows`: a mantissa, so many steps less one, a place from the first -/
def cdL (m : Int) (k j : Nat) : Int := ((j : Int) - ((k : Int) + 1)) * m
def cdH (m : Int) (k j : Nat) : Int := ((j : Int) - ((k : Int) + 1) + ((k : Int) + 1)) * m
theorem grow_cand {b : Int} {rs : List CRu} {S : Nat → Tri} {I J : Nat} (ne : rs ≠ []) (cv : ∀ r ∈ rs, Cov b r.1 r.2) (lt : (S 0).1 < (S 0).2.1) (C : Course b rs S I J) (nz : (S J).2.2 - (S I).2.2 ≠ 0) :
    ∃ m ∈ (rs.getLast ne).1, ∃ k j : Nat, (k : Int) < (rs.getLast ne).2 ∧ j ≤ k + 1 ∧ Gr b rs (cdL m k j) (cdH m k j) := by
  have C0 := cv _ (List.getLast_mem ne)
  obtain ⟨_, h⟩ := course_up ne cv lt C
  obtain ⟨m, hm, a, c, a0, c0, ca, cam, e⟩ := h nz
  have m1 := (C0.all m hm).1
  refine ⟨m, hm, (c - a - 1).toNat, c.toNat, by omega, by omega, ?_⟩
  have e1 : cdL m (c - a - 1).toNat c.toNat = a * m := by
    show ((c.toNat : Int) - (((c - a - 1).toNat : Int) + 1)) * m = a * m
    rw [show (c.toNat : Int) - (((c - a - 1).toNat : Int) + 1) = a by omega]
  have e2 : cdH m (c - a - 1).toNat c.toNat = c * m := by
    show ((c.toNat : Int) - (((c - a - 1).toNat : Int) + 1) + (((c - a - 1).toNat : Int) + 1)) * m = c * m
    rw [show (c.toNat : Int) - (((c - a - 1).toNat : Int) + 1) + (((c - a - 1).toNat : Int) + 1) = c by omega]
  rw [e1, e2]
  exact Gr.of_same C0.b2 (Int.mul_lt_mul_of_pos_right (by omega) (by omega)) C nz e
theorem cd_lt {m : Int} {k j : Nat} (m1 : 1 ≤ m) (hj : j ≤ k + 1) : cdL m k j < cdH m k j := by
  unfold cdL cdH
  exact Int.mul_lt_mul_of_pos_right (by omega) (by omega)
theorem cd_small {m : Int} {k j : Nat} (m1 : 1 ≤ m) (m25 : m ≤ 25) (hk : k < 6) (hj : j ≤ k + 1) : -150 ≤ cdL m k j ∧ cdH m k j ≤ 150 ∧ cdL m k j ≤ 0 ∧ 0 ≤ cdH m k j := by
  unfold cdL cdH
  have e1 : (j : Int) - ((k : Int) + 1) + ((k : Int) + 1) = j := by omega
  have h1 := Int.mul_le_mul (show (j : Int) ≤ 6 by omega) m25 (by omega) (by decide)
  have h2 := Int.mul_le_mul (show -((j : Int) - ((k : Int) + 1)) ≤ 6 by omega) m25 (by omega) (by decide)
  have h3 := Int.mul_nonneg (show 0 ≤ -((j : Int) - ((k : Int) + 1)) by omega) (show 0 ≤ m by omega)
  have h4 := Int.mul_nonneg (show 0 ≤ (j : Int) by omega) (show 0 ≤ m by omega)
  rw [Int.neg_mul] at h2 h3
  rw [e1]
  omega
/-- the first candidate that grows -/
structure First (b : Int) (rs : List CRu) (ms : List Int) (most : Int) (i k j : Nat) (m : Int) : Prop where
  mi : ms[i]? = some m
  kk : (k : Int) < most
  jj : j ≤ k + 1
  gr : Gr b rs (cdL m k j) (cdH m k j)
  b1 : ∀ j' < j, ¬ Gr b rs (cdL m k j') (cdH m k j')
  b2 : ∀ k' < k, ∀ j' ≤ k' + 1, ¬ Gr b rs (cdL m k' j') (cdH m k' j')
  b3 : ∀ i' < i, ∀ m', ms[i']? = some m' → ∀ k' : Nat, (k' : Int) < most → ∀ j' ≤ k' + 1, ¬ Gr b rs (cdL m' k' j') (cdH m' k' j')
theorem First.uniq {b : Int} {rs : List CRu} {ms : List Int} {most : Int} {i k j i' k' j' : Nat} {m m' : Int} (F : First b rs ms most i k j m) (F' : First b rs ms most i' k' j' m') : cdL m k j = cdL m' k' j' ∧ cdH m k j = cdH m' k' j' := by
  have ei : i = i' := by
    rcases Nat.lt_trichotomy i i' with c | c | c
    · exact absurd F.gr (F'.b3 i c m F.mi k F.kk j F.jj)
    · exact c
    · exact absurd F'.gr (F.b3 i' c m' F'.mi k' F'.kk j' F'.jj)
  subst ei
  obtain rfl : m = m' := Option.some.inj (F.mi.symm.trans F'.mi)
  have ek : k = k' := by
    rcases Nat.lt_trichotomy k k' with c | c | c
    · exact absurd F.gr (F'.b2 k c j F.jj)
    · exact c
    · exact absurd F'.gr (F.b2 k' c j' F'.jj)
  subst ek
  have ej : j = j' := by
    rcases Nat.lt_trichotomy j j' with c | c | c
    · exact absurd F.gr (F'.b1 j c)
    · exact c
    · exact absurd F'.gr (F.b1 j' c)
  subst ej
  exact ⟨rfl, rfl⟩
theorem RlsAt.last {C : Addr} {b : Int} {H : Hp} : ∀ {rs : List CRu} {as : List Addr}, RlsAt C b H rs as → ∀ ne : rs ≠ [], ∃ a, as[as.length - 1]? = some a ∧ ∃ D, RX C H a b .cov (rs.getLast ne).1 (rs.getLast ne).2 D
  | _, _, .nil, h => absurd rfl h
  | [r], [a], .cons ⟨D, x⟩ .nil, _ => ⟨a, rfl, D, x⟩
  | r :: r2 :: rs, a :: a2 :: as, .cons h (.cons h2 t), _ => by
    obtain ⟨z, e, D, x⟩ := RlsAt.last (rs := r2 :: rs) (as := a2 :: as) (.cons h2 t) (by simp)
    refine ⟨z, ?_, D, x⟩
    simp only [List.length_cons, Nat.add_sub_cancel] at e ⊢
    exact e
end Ax

namespace Ax
/-! # rules of which each step divides the next one: they keep ranges within each other -/
def Dv (b : Int) (ms : List Int) : Prop := ∀ m ∈ ms, ∀ m' ∈ ms, ∀ e e' : Nat, m * b ^ e ≤ m' * b ^ e' → ∃ c, m' * b ^ e' = c * (m * b ^ e)
/-- a range within another one -/
def In (b : Int) (T U : Tri) : Prop := ∃ i j : Nat, T.2.2 + i = U.2.2 + j ∧ U.1 * b ^ j ≤ T.1 * b ^ i ∧ T.2.1 * b ^ i ≤ U.2.1 * b ^ j
section
variable {b : Int}
theorem mulP_le {x y : Int} (b1 : 1 ≤ b) (n : Nat) (h : x ≤ y) : x * b ^ n ≤ y * b ^ n := Int.mul_le_mul_of_nonneg_right h (by have := pow_pos' b1 n; omega)
theorem In.of_eq {T U : Tri} (h : Eq3 b T U) : In b T U := by
  obtain ⟨i, j, h1, h2, h3⟩ := h
  exact ⟨i, j, h3, by omega, by omega⟩
theorem In.refl (T : Tri) : In b T T := In.of_eq (Eq3.refl b T)
theorem In.trans {T U V : Tri} (b1 : 1 ≤ b) (h : In b T U) (g : In b U V) : In b T V := by
  obtain ⟨i, j, h3, h1, h2⟩ := h
  obtain ⟨k, n, g3, g1, g2⟩ := g
  refine ⟨i + k, n + j, by omega, ?_, ?_⟩
  · have a := mulP_le b1 j g1
    have c := mulP_le b1 k h1
    rw [mul_pow3, mul_pow3] at a c
    rw [Nat.add_comm k j] at a
    omega
  · have a := mulP_le b1 j g2
    have c := mulP_le b1 k h2
    rw [mul_pow3, mul_pow3] at a c
    rw [Nat.add_comm k j] at a
    omega
theorem In.at_ {x y x' y' D : Int} (h1 : x' ≤ x) (h2 : y ≤ y') : In b (x, y, D) (x', y', D) :=
  ⟨0, 0, rfl, by show x' * b ^ 0 ≤ x * b ^ 0; rw [Int.pow_zero, Int.mul_one, Int.mul_one]; exact h1, by show y * b ^ 0 ≤ y' * b ^ 0; rw [Int.pow_zero, Int.mul_one, Int.mul_one]; exact h2⟩
theorem In.anti {T U : Tri} (b1 : 1 ≤ b) (h : In b T U) (g : In b U T) : Eq3 b T U := by
  obtain ⟨i, j, h3, h1, h2⟩ := h
  obtain ⟨k, n, g3, g1, g2⟩ := g
  have e : n + i = k + i + (n - k) ∨ True := .inr trivial
  have e1 : j + n = k + i := by omega
  refine ⟨i + n, j + n, ?_, ?_, by omega⟩
  · have a := mulP_le b1 n h1
    have c := mulP_le b1 i g1
    rw [mul_pow3, mul_pow3] at a c
    rw [← e1, Nat.add_comm n i] at c
    omega
  · have a := mulP_le b1 n h2
    have c := mulP_le b1 i g2
    rw [mul_pow3, mul_pow3] at a c
    rw [← e1, Nat.add_comm n i] at c
    omega
theorem scaleD {T : Tri} {D : Int} (h : T.2.2 ≤ D) : Eq3 b (T.1 * b ^ (D - T.2.2).toNat, T.2.1 * b ^ (D - T.2.2).toNat, D) T :=
  ⟨0, (D - T.2.2).toNat, by show _ * b ^ 0 = _; rw [Int.pow_zero, Int.mul_one], by show _ * b ^ 0 = _; rw [Int.pow_zero, Int.mul_one], by show D + ((0 : Nat) : Int) = T.2.2 + ((D - T.2.2).toNat : Int); omega⟩
theorem In.int {T U : Tri} {D : Int} (b1 : 1 ≤ b) (h : In b T U) (d1 : T.2.2 ≤ D) (d2 : U.2.2 ≤ D) : U.1 * b ^ (D - U.2.2).toNat ≤ T.1 * b ^ (D - T.2.2).toNat ∧ T.2.1 * b ^ (D - T.2.2).toNat ≤ U.2.1 * b ^ (D - U.2.2).toNat := by
  obtain ⟨i, j, h3, h1, h2⟩ := h
  have e : j + (D - T.2.2).toNat = (D - U.2.2).toNat + i := by omega
  have p := pow_pos' b1 i
  have go : ∀ {x y : Int}, x * b ^ j ≤ y * b ^ i → x * b ^ (D - U.2.2).toNat ≤ y * b ^ (D - T.2.2).toNat := fun {x y} h => by
    have a := mulP_le b1 (D - T.2.2).toNat h
    rw [mul_pow3, mul_pow3, e] at a
    refine Int.le_of_mul_le_mul_right (a := b ^ i) ?_ (by omega)
    rw [mul_pow3, mul_pow3, Nat.add_comm (D - T.2.2).toNat i]
    exact a
  have go2 : ∀ {x y : Int}, x * b ^ i ≤ y * b ^ j → x * b ^ (D - T.2.2).toNat ≤ y * b ^ (D - U.2.2).toNat := fun {x y} h => by
    have := go (x := -y) (y := -x) (by rw [Int.neg_mul, Int.neg_mul]; omega)
    rw [Int.neg_mul, Int.neg_mul] at this
    omega
  exact ⟨go h1, go2 h2⟩
theorem len_scale {x y D d : Int} (b1 : 1 ≤ b) (lt : x < y) (h : d + 7 ≤ D) : b ^ 7 ≤ y * b ^ (D - d).toNat - x * b ^ (D - d).toNat := by
  have h1 := pow_le' b1 (show 7 ≤ (D - d).toNat by omega)
  have h2 := Int.mul_le_mul_of_nonneg_right (show 1 ≤ y - x by omega) (show 0 ≤ b ^ (D - d).toNat by have := pow_pos' b1 (D - d).toNat; omega)
  rw [Int.sub_mul] at h2
  omega
section
variable {ms : List Int} {most : Int} {T U T' U' : Tri}
theorem Wid.out (C : Cov b ms most) (lt : T.1 < T.2.1) (W : Wid b ms most T U) : In b T U ∧ U.1 < U.2.1 := by
  have b1 : 1 ≤ b := by have := C.b2; omega
  have hall : ∀ m ∈ ms, 1 ≤ m := fun m h => (C.all m h).1
  have e := scaleD (b := b) (T := T) (D := T.2.2 + 7) (by omega)
  obtain ⟨s, S, eU, _⟩ := wid_int C W e (len_scale b1 lt (by omega))
  have s1 := S.lad.pos b1 hall
  have l7 := len_scale (d := T.2.2) (D := T.2.2 + 7) b1 lt (by omega)
  have p7 := pow_pos' b1 7
  generalize T.1 * b ^ (T.2.2 + 7 - T.2.2).toNat = X at *
  generalize T.2.1 * b ^ (T.2.2 + 7 - T.2.2).toNat = Y at *
  obtain ⟨d1, _⟩ := div_facts X (show 0 < s by omega)
  obtain ⟨c1, _⟩ := ceil_facts Y (show 0 < s by omega)
  rw [Int.mul_comm] at d1
  rw [Int.mul_comm s] at c1
  refine ⟨((In.of_eq e.symm).trans b1 (In.at_ d1 c1)).trans b1 (In.of_eq eU), ?_⟩
  obtain ⟨i, j, f1, f2, _⟩ := eU
  have f1 : X / s * s * b ^ i = U.1 * b ^ j := f1
  have f2 : -(-Y / s) * s * b ^ i = U.2.1 * b ^ j := f2
  have pi := pow_pos' b1 i
  have pj := pow_pos' b1 j
  refine Int.lt_of_mul_lt_mul_right (a := b ^ j) ?_ (by omega)
  rw [← f1, ← f2]
  exact (mul_lt_iff (by omega)).mpr (by omega)
theorem wid_mono (C : Cov b ms most) (dv : Dv b ms) (lt : T.1 < T.2.1) (ltU : U.1 < U.2.1) (h : In b T U) (W : Wid b ms most T T') (W2 : Wid b ms most U U') : In b T' U' := by
  have b1 : 1 ≤ b := by have := C.b2; omega
  have hall : ∀ m ∈ ms, 1 ≤ m := fun m h => (C.all m h).1
  obtain ⟨D, hD1, hD2⟩ : ∃ D, T.2.2 + 7 ≤ D ∧ U.2.2 + 7 ≤ D := ⟨max (T.2.2 + 7) (U.2.2 + 7), by omega, by omega⟩
  obtain ⟨x1, y1⟩ := h.int b1 (show T.2.2 ≤ D by omega) (show U.2.2 ≤ D by omega)
  obtain ⟨s, S, e1, _⟩ := wid_int C W (scaleD (by omega)) (len_scale b1 lt hD1)
  obtain ⟨s2, S2, e2, _⟩ := wid_int C W2 (scaleD (by omega)) (len_scale b1 ltU hD2)
  generalize T.1 * b ^ (D - T.2.2).toNat = X at *
  generalize T.2.1 * b ^ (D - T.2.2).toNat = Y at *
  generalize U.1 * b ^ (D - U.2.2).toNat = X2 at *
  generalize U.2.1 * b ^ (D - U.2.2).toNat = Y2 at *
  have s1 := S.lad.pos b1 hall
  have s21 := S2.lad.pos b1 hall
  have le : s ≤ s2 := S.least s2 S2.lad (reach_in (by omega) (by omega) (by omega) S2.fit)
  obtain ⟨m, hm, e, es⟩ := S.lad
  obtain ⟨m2, hm2, e', es2⟩ := S2.lad
  obtain ⟨c, hc⟩ := dv m hm m2 hm2 e e' (by rw [← es, ← es2]; exact le)
  rw [← es, ← es2] at hc
  have fl : ∀ {x x2 : Int}, x2 ≤ x → x2 / s2 * s2 ≤ x / s * s := fun {x x2} h => by
    obtain ⟨d1, _⟩ := div_facts x2 (show 0 < s2 by omega)
    rw [Int.mul_comm] at d1
    have e : x2 / s2 * s2 = x2 / s2 * c * s := by rw [Int.mul_assoc, ← hc]
    rw [e]
    exact Int.mul_le_mul_of_nonneg_right ((le_div_iff (by omega)).mpr (by rw [← e]; omega)) (by omega)
  have a1 := fl x1
  have a2 := fl (x := -Y) (x2 := -Y2) (by omega)
  exact ((In.of_eq e1.symm).trans b1 (In.at_ a1 (by rw [Int.neg_mul, Int.neg_mul]; omega))).trans b1 (In.of_eq e2)
end
/-! ### rounds -/
def CovD (b : Int) (rs : List CRu) : Prop := ∀ r ∈ rs, Cov b r.1 r.2 ∧ Dv b r.1
theorem round_out : ∀ {rs : List CRu} {T U : Tri}, 1 ≤ b → (∀ r ∈ rs, Cov b r.1 r.2) → T.1 < T.2.1 → Round b rs T U → In b T U ∧ (rs ≠ [] → U.1 < U.2.1)
  | [], _, _, _, _, _, R => ⟨In.of_eq R, fun h => absurd rfl h⟩
  | r :: rs, T, U, b1, cv, lt, ⟨V, W, R⟩ => by
    obtain ⟨h1, l1⟩ := W.out (cv r (List.mem_cons_self ..)) lt
    obtain ⟨h2, l2⟩ := round_out b1 (fun r hr => cv r (List.mem_cons_of_mem _ hr)) l1 R
    refine ⟨h1.trans b1 h2, fun _ => ?_⟩
    cases rs with
    | nil =>
      obtain ⟨i, j, f1, f2, _⟩ := (show Eq3 b V U from R)
      have pi := pow_pos' b1 i
      have pj := pow_pos' b1 j
      refine Int.lt_of_mul_lt_mul_right (a := b ^ j) ?_ (by omega)
      rw [← f1, ← f2]
      exact (mul_lt_iff (by omega)).mpr l1
    | cons r2 rs => exact l2 (by simp)
theorem round_mono : ∀ {rs : List CRu} {T U T' U' : Tri}, 1 ≤ b → CovD b rs → T.1 < T.2.1 → U.1 < U.2.1 → In b T U → Round b rs T T' → Round b rs U U' → In b T' U'
  | [], _, _, _, _, b1, _, _, _, h, R, R2 => ((In.of_eq (Eq3.symm R)).trans b1 h).trans b1 (In.of_eq R2)
  | r :: rs, T, U, T', U', b1, cd, lt, ltU, h, ⟨V, W, R⟩, ⟨V2, W2, R2⟩ => by
    obtain ⟨C, dv⟩ := cd r (List.mem_cons_self ..)
    exact round_mono b1 (fun r hr => cd r (List.mem_cons_of_mem _ hr)) (W.out C lt).2 (W2.out C ltU).2 (wid_mono C dv lt ltU h W W2) R R2
theorem rest_each : ∀ {rs : List CRu} {T U : Tri}, 1 ≤ b → (∀ r ∈ rs, Cov b r.1 r.2) → T.1 < T.2.1 → Round b rs T U → In b U T → ∀ r ∈ rs, Wid b r.1 r.2 T T
  | [], _, _, _, _, _, _, _ => fun _ h => nomatch h
  | r :: rs, T, U, b1, cv, lt, ⟨V, W, R⟩, h => by
    have C := cv r (List.mem_cons_self ..)
    have cv' : ∀ r ∈ rs, Cov b r.1 r.2 := fun r hr => cv r (List.mem_cons_of_mem _ hr)
    obtain ⟨h1, l1⟩ := W.out C lt
    obtain ⟨h2, _⟩ := round_out b1 cv' l1 R
    have e : Eq3 b T V := h1.anti b1 (h2.trans b1 h)
    intro r' hr'
    rcases List.mem_cons.mp hr' with y | y
    · rw [y]
      exact W.to e.symm
    · have := rest_each b1 cv' l1 R (h.trans b1 h1) r' y
      exact (this.fro e).to e.symm
theorem rest_round : ∀ {rs : List CRu} {E : Tri}, (∀ r ∈ rs, Wid b r.1 r.2 E E) → Round b rs E E
  | [], E, _ => Eq3.refl b E
  | r :: rs, E, h => ⟨E, h r (List.mem_cons_self ..), rest_round fun r hr => h r (List.mem_cons_of_mem _ hr)⟩
end
end Ax

namespace Ax
open PySem L2
/-! ### rules of which each step divides the next one: the end is the same in whatever order -/
def Rest (b : Int) (rs : List CRu) (E : Tri) : Prop := ∀ r ∈ rs, Wid b r.1 r.2 E E
theorem CovD.cov {b : Int} {rs : List CRu} (h : CovD b rs) : ∀ r ∈ rs, Cov b r.1 r.2 := fun r hr => (h r hr).1
theorem course_in {b : Int} {rs : List CRu} {S : Nat → Tri} {I J : Nat} {E : Tri} (b1 : 1 ≤ b) (ne : rs ≠ []) (cd : CovD b rs) (C : Course b rs S I J) (R : Rest b rs E) (ltE : E.1 < E.2.1) (lt : (S 0).1 < (S 0).2.1) (h : In b (sT (S 0)) E) : ∀ n ≤ J, In b (sT (S n)) E ∧ (S n).1 < (S n).2.1 := by
  intro n
  induction n with
  | zero => exact fun _ => ⟨h, lt⟩
  | succ n ih =>
    intro hn
    obtain ⟨h1, l1⟩ := ih (by omega)
    have r := C.rd n hn
    exact ⟨round_mono (T := sT (S n)) b1 cd l1 ltE h1 r (rest_round R), (round_out b1 cd.cov (T := sT (S n)) l1 r).2 ne⟩
theorem two_pow_gt (n : Nat) : (n : Int) < 2 ^ n := by
  have h := @Nat.lt_two_pow_self n
  have e : (((2 : Nat) ^ n : Nat) : Int) = 2 ^ n := Int.natCast_pow ..
  omega
theorem no_grow {b : Int} {rs : List CRu} {S : Nat → Tri} {I J : Nat} {E : Tri} (b2 : 2 ≤ b) (ne : rs ≠ []) (cd : CovD b rs) (C : Course b rs S I J) (R : Rest b rs E) (ltE : E.1 < E.2.1) (lt : (S 0).1 < (S 0).2.1) (h : In b (sT (S 0)) E) : (S J).2.2 - (S I).2.2 = 0 := by
  have b1 : 1 ≤ b := by omega
  have IJ := C.lt
  obtain ⟨p0, _⟩ := course_up ne cd.cov lt C
  by_cases nz : (S J).2.2 - (S I).2.2 = 0
  · exact nz
  exfalso
  obtain ⟨k1, k2⟩ := kOf_inj C.back
  have inn := course_in b1 ne cd C R ltE lt h
  have ltI := (inn I (by omega)).2
  -- all later ones are within too
  have all : ∀ k : Nat, In b ((S I).1, (S I).2.1, -(S I).2.2 - k * ((S J).2.2 - (S I).2.2)) E := by
    intro k
    induction k with
    | zero =>
      rw [show -(S I).2.2 - ((0 : Nat) : Int) * ((S J).2.2 - (S I).2.2) = -(S I).2.2 by rw [Int.natCast_zero, Int.zero_mul]; omega]
      exact (inn I (by omega)).1
    | succ k ih =>
      let c : Int := -((k : Int) * ((S J).2.2 - (S I).2.2))
      have go : ∀ i, I + i ≤ J → In b ((S (I + i)).1, (S (I + i)).2.1, -(S (I + i)).2.2 + c) E := by
        intro i
        induction i with
        | zero =>
          intro _
          have e : -(S I).2.2 - (k : Int) * ((S J).2.2 - (S I).2.2) = -(S I).2.2 + c := by show _ = -(S I).2.2 + -((k : Int) * ((S J).2.2 - (S I).2.2)); omega
          rw [e] at ih
          exact ih
        | succ i ih2 =>
          intro hi
          have r := (C.rd (I + i) (by omega)).shift c
          exact round_mono (T := ((S (I + i)).1, (S (I + i)).2.1, -(S (I + i)).2.2 + c)) b1 cd (inn (I + i) (by omega)).2 ltE (ih2 (by omega)) r (rest_round R)
      have := go (J - I) (by omega)
      rw [show I + (J - I) = J by omega, ← k1, ← k2] at this
      rw [show -(S I).2.2 - ((k + 1 : Nat) : Int) * ((S J).2.2 - (S I).2.2) = -(S J).2.2 + c by
        show _ = -(S J).2.2 + -((k : Int) * ((S J).2.2 - (S I).2.2))
        rw [Int.natCast_succ, Int.add_mul, Int.one_mul]
        omega]
      exact this
  -- but they grow beyond
  let N : Nat := (E.2.1 - E.1).toNat + (E.2.2 + (S I).2.2).natAbs + 1
  obtain ⟨i, j, h3, h1, h2⟩ := all N
  have h3 : -(S I).2.2 - (N : Int) * ((S J).2.2 - (S I).2.2) + i = E.2.2 + j := h3
  have h1 : E.1 * b ^ j ≤ (S I).1 * b ^ i := h1
  have h2 : (S I).2.1 * b ^ i ≤ E.2.1 * b ^ j := h2
  have gN : (N : Int) * 1 ≤ N * ((S J).2.2 - (S I).2.2) := Int.mul_le_mul_of_nonneg_left (by omega) (Int.natCast_nonneg _)
  have NN : (N : Int) = (E.2.1 - E.1) + ((E.2.2 + (S I).2.2).natAbs : Int) + 1 := by
    show (((E.2.1 - E.1).toNat + (E.2.2 + (S I).2.2).natAbs + 1 : Nat) : Int) = _
    omega
  generalize hP : (N : Int) * ((S J).2.2 - (S I).2.2) = M at *
  obtain ⟨g, hg⟩ : ∃ g : Nat, i = j + g := ⟨i - j, by omega⟩
  have gb : E.2.1 - E.1 < g := by omega
  have pj := pow_pos' b1 j
  have pg := pow_pos' b1 g
  have len : (S I).2.1 * b ^ g - (S I).1 * b ^ g ≤ E.2.1 - E.1 := by
    have e1 : ∀ x : Int, x * b ^ i = x * b ^ g * b ^ j := fun x => by rw [hg, mul_pow3, Nat.add_comm]
    rw [e1] at h1 h2
    have a1 : E.1 ≤ (S I).1 * b ^ g := Int.le_of_mul_le_mul_right h1 (by omega)
    have a2 : (S I).2.1 * b ^ g ≤ E.2.1 := Int.le_of_mul_le_mul_right h2 (by omega)
    omega
  have l2 := Int.mul_le_mul_of_nonneg_right (show 1 ≤ (S I).2.1 - (S I).1 by omega) (show 0 ≤ b ^ g by omega)
  rw [Int.sub_mul] at l2
  have t1 := two_pow_gt g
  have t2 := pow_base_le (a := 2) (b := b) (by decide) b2 g
  omega
theorem toldT_lt {b : Int} {s : Tri} (b1 : 1 ≤ b) (lt : s.1 < s.2.1) : (toldT b s).1 < (toldT b s).2.1 :=
  (mul_lt_iff (by have := pow_pos' b1 s.2.2.toNat; omega)).mpr lt
/-- the end of a range within another one that settles -/
theorem ends_in {b : Int} {rs rs' : List CRu} {S S' : Nat → Tri} {I J I' J' : Nat} (b2 : 2 ≤ b) (ne : rs ≠ []) (ne' : rs' ≠ []) (cd : CovD b rs) (sub : ∀ r ∈ rs', r ∈ rs) (C : Course b rs S I J) (C' : Course b rs' S' I' J') (lt : (S 0).1 < (S 0).2.1) (lt' : (S' 0).1 < (S' 0).2.1) (h : In b (sT (S' 0)) (sT (S 0))) (dp : (S J).2.2 - (S I).2.2 = 0) :
    (S' J').2.2 - (S' I').2.2 = 0 ∧ In b (toldT b (S' I')) (toldT b (S I)) := by
  have b1 : 1 ≤ b := by omega
  have IJ := C.lt
  have IJ' := C'.lt
  have R0 := told_rest ne cd.cov lt C dp
  have chain : ∀ n ≤ J, In b (sT (S 0)) (sT (S n)) ∧ (S n).1 < (S n).2.1 := by
    intro n
    induction n with
    | zero => exact fun _ => ⟨In.refl _, lt⟩
    | succ n ih =>
      intro hn
      obtain ⟨h1, l1⟩ := ih (by omega)
      obtain ⟨h2, l2⟩ := round_out b1 cd.cov (T := sT (S n)) l1 (C.rd n hn)
      exact ⟨h1.trans b1 h2, l2 ne⟩
  obtain ⟨c1, ltI⟩ := chain I (by omega)
  have ltE := toldT_lt b1 ltI
  have R : Rest b rs (toldT b (S I)) := rest_each b1 cd.cov ltE R0 (In.refl _)
  have R' : Rest b rs' (toldT b (S I)) := fun r hr => R r (sub r hr)
  have cd' : CovD b rs' := fun r hr => cd r (sub r hr)
  have h0 : In b (sT (S' 0)) (toldT b (S I)) := (h.trans b1 c1).trans b1 (In.of_eq (toldT_eq b (S I)).symm)
  refine ⟨no_grow b2 ne' cd' C' R' ltE lt' h0, ?_⟩
  exact (In.of_eq (toldT_eq b (S' I'))).trans b1 (course_in b1 ne' cd' C' R' ltE lt' h0 I' (by omega)).1
theorem ends_alike {b : Int} {rs rs' : List CRu} {S S' : Nat → Tri} {I J I' J' : Nat} (b2 : 2 ≤ b) (ne : rs ≠ []) (ne' : rs' ≠ []) (cd : CovD b rs) (sub : ∀ r, r ∈ rs' ↔ r ∈ rs) (C : Course b rs S I J) (C' : Course b rs' S' I' J') (lt : (S 0).1 < (S 0).2.1) (e0 : S 0 = S' 0) :
    ((S J).2.2 - (S I).2.2 = 0 ↔ (S' J').2.2 - (S' I').2.2 = 0) ∧ ((S J).2.2 - (S I).2.2 = 0 → toldT b (S' I') = toldT b (S I)) := by
  have b1 : 1 ≤ b := by omega
  have cd' : CovD b rs' := fun r hr => cd r ((sub r).mp hr)
  have IJ := C.lt
  have IJ' := C'.lt
  have go := fun dp => ends_in b2 ne ne' cd (fun r hr => (sub r).mp hr) C C' lt (by rw [← e0]; exact lt) (by rw [e0]; exact In.refl _) dp
  have back := fun dp => ends_in b2 ne' ne cd' (fun r hr => (sub r).mpr hr) C' C (by rw [← e0]; exact lt) lt (by rw [e0]; exact In.refl _) dp
  refine ⟨⟨fun dp => (go dp).1, fun dp => (back dp).1⟩, fun dp => ?_⟩
  exact Red.uniq b1 ((go dp).2.anti b1 (back (go dp).1).2) (toldT_red (C'.no I' (by omega))) (toldT_red (C.no I (by omega)))
end Ax

namespace Ax
/-! # rules of which each step divides the next greater one -/
theorem sorted_eq : ∀ {l₁ l₂ : List Int}, l₁.Perm l₂ → l₁.Pairwise (· ≤ ·) → l₂.Pairwise (· ≤ ·) → l₁ = l₂
  | [], _, p, _, _ => p.nil_eq
  | a :: r, [], p, _, _ => absurd p.length_eq (by simp)
  | a :: r, b :: s, p, s1, s2 => by
    have h1 := List.pairwise_cons.mp s1
    have h2 := List.pairwise_cons.mp s2
    have e : a = b := by
      rcases List.mem_cons.mp (p.mem_iff.mp (List.mem_cons_self ..)) with z | z
      · exact z
      · rcases List.mem_cons.mp (p.mem_iff.mpr (List.mem_cons_self ..)) with y | y
        · exact y.symm
        · have := h1.1 b y
          have := h2.1 a z
          omega
    subst e
    rw [sorted_eq (p.cons_inv) h1.2 h2.2]
def ins (a : Int) : List Int → List Int
  | [] => [a]
  | b :: r => if a ≤ b then a :: b :: r else b :: ins a r
def isort : List Int → List Int
  | [] => []
  | a :: r => ins a (isort r)
theorem ins_perm (a : Int) : ∀ l : List Int, (ins a l).Perm (a :: l)
  | [] => .refl _
  | b :: r => by
    unfold ins
    split
    · exact .refl _
    · exact ((ins_perm a r).cons b).trans (.swap a b r)
theorem isort_perm : ∀ l : List Int, (isort l).Perm l
  | [] => .refl _
  | a :: r => (ins_perm a (isort r)).trans ((isort_perm r).cons a)
theorem ins_sorted (a : Int) : ∀ {l : List Int}, l.Pairwise (· ≤ ·) → (ins a l).Pairwise (· ≤ ·)
  | [], _ => List.pairwise_singleton _ _
  | b :: r, h => by
    unfold ins
    have h2 := List.pairwise_cons.mp h
    split
    · rename_i c
      exact List.pairwise_cons.mpr ⟨fun x hx => by
        rcases List.mem_cons.mp hx with rfl | z
        · exact c
        · have := h2.1 x z
          omega, h⟩
    · rename_i c
      exact List.pairwise_cons.mpr ⟨fun x hx => by
        rcases List.mem_cons.mp ((ins_perm a r).mem_iff.mp hx) with rfl | z
        · omega
        · exact h2.1 x z, ins_sorted a h2.2⟩
theorem isort_sorted : ∀ l : List Int, (isort l).Pairwise (· ≤ ·)
  | [] => .nil
  | a :: r => ins_sorted a (isort_sorted r)
theorem eq_isort {l l' : List Int} (p : l'.Perm l) (s : l'.Pairwise (· ≤ ·)) : l' = isort l := sorted_eq (p.trans (isort_perm l).symm) s (isort_sorted l)
/-- of the steps of these mantissas one that is not greater divides, tried for a few powers -/
def DvT (b : Int) (ms : List Int) : Prop := ∀ m ∈ ms, ∀ n ∈ ms, ∀ j ∈ List.range 7, m * b ^ 3 ≤ n * b ^ j → n * b ^ j % (m * b ^ 3) = 0
instance {b : Int} {ms : List Int} : Decidable (DvT b ms) := inferInstanceAs (Decidable (∀ m ∈ ms, _))
theorem dvT_le {b : Int} {ms : List Int} (D : DvT b ms) (b2 : 2 ≤ b) (m7 : ∀ m ∈ ms, 1 ≤ m ∧ m ≤ 7) {m n : Int} (hm : m ∈ ms) (hn : n ∈ ms) {x y : Nat} (h : m * b ^ x ≤ n * b ^ y) : m * b ^ x ∣ n * b ^ y := by
  have pp : ∀ k : Nat, 1 ≤ b ^ k := fun k => pow_pos' (by omega) k
  have cube : (8 : Int) ≤ b ^ 3 := by
    have a1 : 2 * 2 ≤ b * b := Int.mul_le_mul b2 b2 (by decide) (by omega)
    have a2 : 2 * 2 * 2 ≤ b * b * b := Int.mul_le_mul a1 b2 (by decide) (by omega)
    have e : b ^ 3 = b * b * b := by rw [Int.pow_succ, Int.pow_succ, Int.pow_succ, Int.pow_zero, Int.one_mul]
    rw [e]
    exact a2
  obtain ⟨m1, m2⟩ := m7 m hm
  obtain ⟨n1, n2⟩ := m7 n hn
  have tab : ∀ j : Nat, j ≤ 6 → m * b ^ 3 ≤ n * b ^ j → m * b ^ 3 ∣ n * b ^ j := fun j hj hle => Int.dvd_of_emod_eq_zero (D m hm n hn j (List.mem_range.mpr (by omega)) hle)
  have p3 := pp 3
  rcases Nat.le_total x y with c | c
  · obtain ⟨k, rfl⟩ := Nat.exists_eq_add_of_le c
    have px := pp x
    have e1 : n * b ^ (x + k) = n * b ^ k * b ^ x := by rw [pow_add', Int.mul_comm (b ^ x), ← Int.mul_assoc]
    rw [e1] at h ⊢
    have hk : m ≤ n * b ^ k := Int.le_of_mul_le_mul_right h (by omega)
    have key : m ∣ n * b ^ k := by
      by_cases c3 : k ≤ 3
      · have e2 : n * b ^ (k + 3) = n * b ^ k * b ^ 3 := by rw [pow_add', ← Int.mul_assoc]
        have t := tab (k + 3) (by omega) (by rw [e2]; exact Int.mul_le_mul_of_nonneg_right hk (by omega))
        rw [e2] at t
        exact Int.dvd_of_mul_dvd_mul_right (by omega) t
      · have e2 : n * b ^ 6 = n * b ^ 3 * b ^ 3 := by rw [show (6 : Nat) = 3 + 3 by rfl, pow_add', ← Int.mul_assoc]
        have n3 : b ^ 3 ≤ n * b ^ 3 := by
          have := Int.mul_le_mul_of_nonneg_right n1 (show 0 ≤ b ^ 3 by omega)
          omega
        have t := tab 6 (by omega) (by rw [e2]; exact Int.mul_le_mul_of_nonneg_right (by omega) (by omega))
        rw [e2] at t
        have t2 := Int.dvd_of_mul_dvd_mul_right (by omega) t
        have e3 : n * b ^ k = n * b ^ 3 * b ^ (k - 3) := by
          rw [Int.mul_assoc, ← pow_add']
          congr 2
          omega
        rw [e3]
        exact Int.dvd_mul_of_dvd_left t2
    exact Int.mul_dvd_mul key (Int.dvd_refl _)
  · obtain ⟨k, rfl⟩ := Nat.exists_eq_add_of_le c
    have py := pp y
    have e1 : m * b ^ (y + k) = m * b ^ k * b ^ y := by rw [pow_add', Int.mul_comm (b ^ y), ← Int.mul_assoc]
    rw [e1] at h ⊢
    have hk : m * b ^ k ≤ n := Int.le_of_mul_le_mul_right h (by omega)
    have key : m * b ^ k ∣ n := by
      by_cases c3 : k ≤ 3
      · have e2 : m * b ^ 3 = m * b ^ k * b ^ (3 - k) := by
          rw [Int.mul_assoc, ← pow_add']
          congr 2
          omega
        have p4 := pp (3 - k)
        have t := tab (3 - k) (by omega) (by rw [e2]; exact Int.mul_le_mul_of_nonneg_right hk (by omega))
        rw [e2] at t
        exact Int.dvd_of_mul_dvd_mul_right (by omega) t
      · have e2 : b ^ k = b ^ 3 * b ^ (k - 3) := by
          rw [← pow_add']
          congr 1
          omega
        have p4 := pp (k - 3)
        have a1 : b ^ 3 * 1 ≤ b ^ 3 * b ^ (k - 3) := Int.mul_le_mul_of_nonneg_left p4 (by omega)
        have a2 : 1 * b ^ k ≤ m * b ^ k := Int.mul_le_mul_of_nonneg_right m1 (by have := pp k; omega)
        omega
    exact Int.mul_dvd_mul key (Int.dvd_refl _)
end Ax

namespace Ax
open PySem L2
/-! ### the drawn rules of which each step divides the next one -/
def BASD : List Int := [10, 2, 6, 3, 10, 4, 5, 7]
def FAMD : List (List Int) := [[1, 2, 5], [1, 2, 3, 6], [1, 2, 4], [1, 3], [2, 5], [1, 3, 9]]
def lstD (fam : List Int) : List (List Int) := fam.map (fun m => [m]) ++ (fam.zip (fam.drop 1)).map (fun p => [p.1, p.2]) ++ [fam]
def sizesD (b : Int) (hs : List Int) : List Int := hs.flatMap fun m => (List.range 9).map fun j => m * b ^ j
def mxD (hs : List Int) : Int := hs.foldl max 0
def someD (b : Int) (hs : List Int) : List Int := (isort (sizesD b hs)).filter fun z => decide (mxD hs ≤ z) && decide (z ≤ mxD hs * b)
def badD (b : Int) (hs : List Int) (n : Nat) : List Nat := (List.range n).filter fun j => decide (¬ (someD b hs).getD (j + 1) 0 % (someD b hs).getD j 0 = 0)
def isDv (b : Int) (hs : List Int) : Bool := (badD b hs ((someD b hs).length - 1)).isEmpty
def fitD (b : Int) (hs : List Int) : Bool := !hs.isEmpty && isDv b hs
def foundD (b : Int) (ls : List (List Int)) : List (List Int) := (ls.map (keptC b)).filter (fitD b)
def endD (b : Int) (fam : List Int) : List (List Int) := if foundD b (lstD fam) = [] then [[1]] else foundD b (lstD fam)
def dvB (b : Int) (hs : List Int) : Bool := hs.all fun m => hs.all fun m' => (List.range 6).all fun t => (decide (m' < m * b ^ t) || decide (m' % (m * b ^ t) = 0)) && (decide (m' * b ^ t < m) || decide (m' * b ^ t % m = 0))
structure HeadD (b : Int) (hs : List Int) : Prop where
  b2 : 2 ≤ b
  b10 : b ≤ 10
  ne : hs ≠ []
  le : hs.length ≤ 4
  nd : hs.Nodup
  all : ∀ m ∈ hs, 1 ≤ m ∧ m ≤ 9 ∧ m % b ≠ 0
  dv : dvB b hs = true
theorem head_table : ∀ b ∈ BASD, ∀ fam ∈ FAMD, ∀ hs ∈ endD b fam, (2 ≤ b ∧ b ≤ 10) ∧ hs ≠ [] ∧ hs.length ≤ 4 ∧ hs.Nodup ∧ (∀ m ∈ hs, 1 ≤ m ∧ m ≤ 9 ∧ m % b ≠ 0) ∧ dvB b hs = true := by decide +kernel
theorem head_ok {b : Int} {fam hs : List Int} (hb : b ∈ BASD) (hf : fam ∈ FAMD) (hh : hs ∈ endD b fam) : HeadD b hs := by
  obtain ⟨⟨h1, h2⟩, h3, h4, h5, h6, h7⟩ := head_table b hb fam hf hs hh
  exact ⟨h1, h2, h3, h4, h5, h6, h7⟩
/-- what `_law_is_dividing` is asked of -/
structure AskD (b : Int) (hs : List Int) : Prop where
  b2 : 2 ≤ b
  b10 : b ≤ 10
  le : hs.length ≤ 4
  all : ∀ m ∈ hs, 1 ≤ m ∧ m ≤ 9
  mx : hs ≠ [] → mxD hs ∈ hs ∧ ∀ m ∈ hs, m ≤ mxD hs
theorem ask_table : ∀ b ∈ BASD, ∀ fam ∈ FAMD, ∀ hs ∈ (lstD fam).map (keptC b), (2 ≤ b ∧ b ≤ 10) ∧ hs.length ≤ 4 ∧ (∀ m ∈ hs, 1 ≤ m ∧ m ≤ 9) ∧ (hs = [] ∨ (mxD hs ∈ hs ∧ ∀ m ∈ hs, m ≤ mxD hs)) := by decide +kernel
theorem ask_ok {b : Int} {fam hs : List Int} (hb : b ∈ BASD) (hf : fam ∈ FAMD) (hh : hs ∈ (lstD fam).map (keptC b)) : AskD b hs := by
  obtain ⟨⟨h1, h2⟩, h4, h6, h7⟩ := ask_table b hb fam hf hs hh
  exact ⟨h1, h2, h4, h6, fun ne => h7.resolve_left ne⟩
theorem len_table : ∀ b ∈ BASD, ∀ fam ∈ FAMD, (lstD fam).length ≤ 8 ∧ 0 < (endD b fam).length ∧ (endD b fam).length ≤ 8 ∧ fam.length ≤ 4 := by decide +kernel
theorem HeadD.dvd {b : Int} {hs : List Int} (h : HeadD b hs) : Dv b hs := by
  intro m hm m' hm' e e' le
  have b1 : 1 ≤ b := by have := h.b2; omega
  obtain ⟨m1, m9, _⟩ := h.all m hm
  obtain ⟨n1, n9, _⟩ := h.all m' hm'
  have tab : ∀ t < 6, (m' < m * b ^ t ∨ m' % (m * b ^ t) = 0) ∧ (m' * b ^ t < m ∨ m' * b ^ t % m = 0) := fun t ht => by
    have d := h.dv
    unfold dvB at d
    have d1 := List.all_eq_true.mp d m hm
    have d2 := List.all_eq_true.mp d1 m' hm'
    have d3 := List.all_eq_true.mp d2 t (List.mem_range.mpr ht)
    simp only [Bool.and_eq_true, Bool.or_eq_true, decide_eq_true_eq] at d3
    exact d3
  have p16 : (2 : Int) ^ 4 ≤ b ^ 4 := pow_base_le (by decide) h.b2 4
  have e16 : (2 : Int) ^ 4 = 16 := by decide
  have big : ∀ t : Nat, 4 ≤ t → 16 ≤ b ^ t := fun t ht => by
    have := pow_le' b1 ht
    omega
  by_cases c : e' ≤ e
  · obtain ⟨t, rfl⟩ := Nat.exists_eq_add_of_le c
    have pe := pow_pos' b1 e'
    have e1 : m * b ^ (e' + t) = m * b ^ t * b ^ e' := by rw [mul_pow3, Nat.add_comm]
    rw [e1] at le ⊢
    have le2 : m * b ^ t ≤ m' := Int.le_of_mul_le_mul_right le (by omega)
    have t4 : t < 4 := by
      by_cases c4 : t < 4
      · exact c4
      · exfalso
        have := Int.mul_le_mul m1 (big t (by omega)) (by decide) (by omega)
        omega
    rcases (tab t (by omega)).1 with z | z
    · omega
    · obtain ⟨q, hq⟩ := Int.dvd_of_emod_eq_zero z
      exact ⟨q, by rw [← Int.mul_assoc, Int.mul_comm q, ← hq]⟩
  · obtain ⟨t, rfl⟩ := Nat.exists_eq_add_of_le (show e ≤ e' by omega)
    have pe := pow_pos' b1 e
    have e1 : m' * b ^ (e + t) = m' * b ^ t * b ^ e := by rw [mul_pow3, Nat.add_comm]
    rw [e1] at le ⊢
    have le2 : m ≤ m' * b ^ t := Int.le_of_mul_le_mul_right le (by omega)
    have dv : ∃ q, m' * b ^ t = m * q := by
      by_cases c5 : t < 6
      · rcases (tab t c5).2 with z | z
        · omega
        · exact Int.dvd_of_emod_eq_zero z
      · rcases (tab 5 (by decide)).2 with z | z
        · exfalso
          have := Int.mul_le_mul n1 (big 5 (by decide)) (by decide) (by omega)
          omega
        · obtain ⟨q, hq⟩ := Int.dvd_of_emod_eq_zero z
          refine ⟨q * b ^ (t - 5), ?_⟩
          rw [← Int.mul_assoc, ← hq, mul_pow3, show 5 + (t - 5) = t by omega]
    obtain ⟨q, hq⟩ := dv
    exact ⟨q, by rw [hq, ← Int.mul_assoc, Int.mul_comm q]⟩
theorem HeadD.cov {b most : Int} {hs : List Int} (h : HeadD b hs) (m2 : 2 ≤ most) (m6 : most ≤ 6) : Cov b hs most :=
  ⟨h.b2, h.b10, m2, m6, h.ne, h.le, h.nd, fun m hm => ⟨(h.all m hm).1, by have := (h.all m hm).2.1; omega, (h.all m hm).2.2⟩⟩
end Ax

namespace Ax
open PySem L2
theorem setH {F : Hp → Prop} {H : Hp} (H' : Hp) (e : H' = H) (h : F H') : F H := e ▸ h
theorem atLast {xs : List V} {v : V} (h : xs[xs.length - 1]? = some v) : atI xs (-1) = some v := by
  have hl := (List.getElem?_eq_some_iff.mp h).1
  have e : ixN xs.length (-1) = some (xs.length - 1) := by
    unfold ixN
    rw [if_neg (by omega), if_pos (by omega)]
    congr 1
    omega
  unfold atI
  rw [e]
  exact h
section
variable {P : Program} {w : World} {K : PySem.W.Frag} {mg : Str → Option Value} {base : Heap} {A : Adr}
end
end Ax

namespace Ax
open PySem L2
theorem sizesD_snoc {b m : Int} {hs : List Int} {i : Nat} (hm : hs[i]? = some m) : sizesD b (hs.take (i + 1)) = sizesD b (hs.take i) ++ (List.range 9).map fun j => m * b ^ j := by
  unfold sizesD
  rw [List.take_add_one, hm]
  show (hs.take i ++ [m]).flatMap _ = _
  rw [List.flatMap_append]
  simp
theorem sizesD_len {b : Int} : ∀ hs : List Int, (sizesD b hs).length = 9 * hs.length
  | [] => rfl
  | m :: r => by
    have ih := sizesD_len (b := b) r
    unfold sizesD at ih ⊢
    rw [List.flatMap_cons, List.length_append, ih, List.length_map, List.length_range, List.length_cons]
    omega
theorem filt_snoc {p : Int → Bool} {l : List Int} {i : Nat} {z : Int} (h : l[i]? = some z) : (l.take (i + 1)).filter p = if p z = true then (l.take i).filter p ++ [z] else (l.take i).filter p := by
  rw [List.take_add_one, h]
  show (l.take i ++ [z]).filter p = _
  rw [List.filter_append, List.filter_cons]
  by_cases c : p z = true
  · rw [if_pos c, if_pos c, List.filter_nil]
  · rw [if_neg c, if_neg c, List.filter_nil, List.append_nil]
theorem at_ofI {xs : List V} {i : Int} {j : Nat} {v : V} (e : i = j) (h : xs[j]? = some v) : atI xs i = some v := by
  rw [e]
  exact atL h
theorem eqv_is_nil (ds : List PyData) : PyData.eqv (.list ds) (.list []) = ds.isEmpty := by
  cases ds with
  | nil => exact eqv_nil_nil
  | cons d r => exact eqv_nil_cons
theorem badD_snoc (b : Int) (hs : List Int) (n : Nat) : badD b hs (n + 1) = if ¬ (someD b hs).getD (n + 1) 0 % (someD b hs).getD n 0 = 0 then badD b hs n ++ [n] else badD b hs n := by
  unfold badD
  rw [List.range_succ, List.filter_append, List.filter_cons]
  by_cases c : ¬ (someD b hs).getD (n + 1) 0 % (someD b hs).getD n 0 = 0
  · rw [if_pos c, if_pos (decide_eq_true c), List.filter_nil]
  · rw [if_neg c, if_neg (by rw [decide_eq_false c]; decide), List.filter_nil, List.append_nil]
section
variable {P : Program} {w : World} {K : PySem.W.Frag} {mg : Str → Option Value} {base : Heap} {A : Adr}
/-! ### _law_is_dividing -/
def spIsDv : Sp := fun vs H Q _ => ∃ (a : Addr) (b : Int) (hs : List Int), vs = [.int b, .ref a] ∧ H a = some (.lst (hs.map V.int)) ∧ AskD b hs ∧ hs ≠ [] ∧ ∀ H', Same H H' → Q (.bl (isDv b hs)) H'
abbrev nm_law_is_dividing : List Str := ["_law_base", "_law_heads", "_law_sizes", "_law_head", "_law_size", "_law_turn", "_law_least", "_law_some", "_law_at"]
theorem sc_law_is_dividing : FnScope ["_law_base", "_law_heads", "_law_sizes", "_law_head", "_law_size", "_law_turn", "_law_least", "_law_some", "_law_at"] ["_law_base", "_law_heads"] (defScope s_law_is_dividing) := ⟨rfl, rfl, rfl, by decide +kernel, rfl, by decide +kernel, by decide +kernel⟩
theorem ok_isdv (T : Txt K mg A w) : FnOk P w K mg base CX0 1 A.a_law_is_dividing A.d_law_is_dividing ["_law_base", "_law_heads"] spIsDv := by
  refine T.F_law_is_dividing.ok sc_law_is_dividing (fun vs H Q E h => ?_) (fun cdv A0 outer s H vs Q E hr h => ?_)
  · obtain ⟨a, b, hs, rfl, _⟩ := h
    rfl
  · obtain ⟨a, b, hs, rfl, ha, AD, ne, q⟩ := h
    refine ⟨_, (pss_cons (ps_set (i := 2) sc_law_is_dividing.nd rfl (Or.inl rfl) (pe_lst pa_nil))
  (pss_cons (ps_for PassesOwn.never rfl (pi_list (pv 1)) (pg_name (i := 3) sc_law_is_dividing.nd rfl (Or.inl rfl))
  (pss_cons (ps_set (i := 4) sc_law_is_dividing.nd rfl (Or.inl rfl) (pv 3))
  (pss_one (ps_for PassesOwn.never rfl (pi_range1 rfl T.n_range (pa_cons pe_int pa_nil)) (pg_name (i := 5) sc_law_is_dividing.nd rfl (Or.inl rfl))
  (pss_cons (ps_expr (pe_bm PySem.F.plainAttrs_list PySem.F.slot_list_append PySem.F.type_list_append mt_append (pv 2) (pa_cons (pv 4) pa_nil)))
  (pss_one (ps_set (i := 4) sc_law_is_dividing.nd rfl (Or.inl rfl) (pe_op op_mulW (pv 4) (pv 0)))))))))
  (pss_cons (ps_set (i := 2) sc_law_is_dividing.nd rfl (Or.inl rfl) (pe_callB cr_sorted (by rfl) T.n_sorted (by decide +kernel) (pa_cons (pe_lc (own := [("_law_size", 4)]) (g := gName 4) (tt := tYes) rfl sc_law_is_dividing.nd (pi_list (pv 2)) (blkOk_by (own := [("_law_size", 4)]) (N := nm_law_is_dividing) (sc := defScope s_law_is_dividing) (by decide +kernel)) (fun _ _ _ _ _ => (pg_name (i := 4) sc_law_is_dividing.nd rfl (Or.inl rfl))) (fun _ _ _ _ _ => pts_nil) (fun _ _ _ _ _ => (pe_callTy call_int1 (by rfl) T.n_int (by decide +kernel) (pa_cons (pv 4) pa_nil)))) pa_nil)))
  (pss_cons (ps_set (i := 6) sc_law_is_dividing.nd rfl (Or.inr rfl) (pe_callB (crMax K) (by rfl) T.n_max (by decide +kernel) (pa_cons (pe_lc (own := [("_law_head", 3)]) (g := gName 3) (tt := tYes) rfl sc_law_is_dividing.nd (pi_list (pv 1)) (blkOk_by (own := [("_law_head", 3)]) (N := nm_law_is_dividing) (sc := defScope s_law_is_dividing) (by decide +kernel)) (fun _ _ _ _ _ => (pg_name (i := 3) sc_law_is_dividing.nd rfl (Or.inl rfl))) (fun _ _ _ _ _ => pts_nil) (fun _ _ _ _ _ => (pe_callTy call_int1 (by rfl) T.n_int (by decide +kernel) (pa_cons (pv 3) pa_nil)))) pa_nil)))
  (pss_cons (ps_set (i := 7) sc_law_is_dividing.nd rfl (Or.inr rfl) (pe_lc (own := [("_law_size", 4)]) (g := gName 4) rfl sc_law_is_dividing.nd (pi_list (pv 2)) (blkOk_by (own := [("_law_size", 4)]) (N := nm_law_is_dividing) (sc := defScope s_law_is_dividing) (by decide +kernel)) (fun _ _ _ _ _ => (pg_name (i := 4) sc_law_is_dividing.nd rfl (Or.inl rfl))) (fun _ _ _ _ _ => (pts_one (pt_chain op_le op_le (pv 6) (pv 4) (pe_op op_mulW (pv 6) (pv 0))))) (fun _ _ _ _ _ => (pv 4))))
  (pss_one (ps_ret (pe_cmpR (op_eqD hr.units) (pe_lc (own := [("_law_at", 8)]) (g := gName 8) rfl sc_law_is_dividing.nd (pi_range2 (by rfl) T.n_range (pa_cons pe_int (pa_cons (pe_callB call_len_seq (by rfl) T.n_len (by decide +kernel) (pa_cons (pv 7) pa_nil)) pa_nil))) (blkOk_by (own := [("_law_at", 8)]) (N := nm_law_is_dividing) (sc := defScope s_law_is_dividing) (by decide +kernel)) (fun _ _ _ _ _ => (pg_name (i := 8) sc_law_is_dividing.nd rfl (Or.inl rfl))) (fun _ _ _ _ _ => (pts_one (pt_cmpR op_ne (pe_op op_mod (pe_callTy call_int1 (by rfl) T.n_int (by decide +kernel) (pa_cons (pe_ix (ixL K) (pv 7) (pv 8) (fun _ _ => rfl)) pa_nil)) (pe_ix (ixL K) (pv 7) (pe_op op_sub (pv 8) pe_int) (fun _ _ => rfl))) pe_int (nomark _)))) (fun _ _ _ _ _ => (pv 8))) (pe_lst pa_nil) (nomark _))))))))), ?_⟩
    have b2 := AD.b2
    have b10 := AD.b10
    have b1 : 1 ≤ b := by omega
    have hle := AD.le
    have lh : (hs.map V.int).length = hs.length := List.length_map _
    have c5 : (2 : Nat) ^ 5 = 32 := by decide
    have c60 : (2 : Nat) ^ 60 = 1152921504606846976 := by decide
    have bN : b.natAbs < 2 ^ 5 := by omega
    have b9 : ∀ j : Nat, j ≤ 9 → 1 ≤ b ^ j ∧ b ^ j ≤ 1000000000 := fun j hj => by
      have h1 := pow_pos' b1 j
      have h2 := pow_le' b1 hj
      have h3 := pow_base_le (a := b) (b := 10) (by omega) b10 9
      have e : (10 : Int) ^ 9 = 1000000000 := by decide
      exact ⟨h1, by omega⟩
    refine ⟨Nat.zero_le _, fun l0 hl0 => ?_⟩
    refine gN (σ' := [some (.int b), some (.ref a), some (.ref l0), none, none, none, none, none, none]) rfl ?_
    refine ⟨_, rfl, a, rfl, ⟨_, SqL.of (same_new hl0 _ _ ha)⟩, for_list (K := K) (a := a) (xs := hs.map V.int) (fun i σ H' => ∃ (v3 v4 v5 : Option V), σ = [some (.int b), some (.ref a), some (.ref l0), v3, v4, v5, none, none, none] ∧ Same H H' ∧ H' l0 = some (.lst ((sizesD b (hs.take i)).map V.int))) ⟨none, none, none, rfl, same_new hl0, upd_same⟩ (fun i σ H' _ ⟨_, _, _, _, s, _⟩ => SqL.of (s _ _ ha)) ?_ ?_⟩
    · rintro i y σ H1 hi ⟨v3, v4, v5, rfl, s1, hS⟩
      obtain ⟨m, hm, rfl⟩ := map_get hi
      have hi3 : i < hs.length := (List.getElem?_eq_some_iff.mp hm).1
      obtain ⟨m1, m9⟩ := AD.all m (List.mem_of_getElem? hm)
      refine ⟨_, rfl, ?_⟩
      refine gN (σ' := [some (.int b), some (.ref a), some (.ref l0), some (.int m), some (.int m), v5, none, none, none]) rfl ?_
      refine ⟨9, rfl, by decide, by decide, for_range (lo := 0) (n := 9) (fun j σ H' => ∃ v5 : Option V, σ = [some (.int b), some (.ref a), some (.ref l0), some (.int m), some (.int (m * b ^ j)), v5, none, none, none] ∧ Same H H' ∧ H' l0 = some (.lst ((sizesD b (hs.take i) ++ (List.range j).map fun j => m * b ^ j).map V.int))) ⟨_, by rw [Int.pow_zero, Int.mul_one], s1, by rw [List.range_zero, List.map_nil, List.append_nil]; exact hS⟩ ?_ ?_⟩
      · rintro j σ H2 hj ⟨v5, rfl, s2, hl⟩
        obtain ⟨p1, p2⟩ := b9 j (by omega)
        have sz : 1 ≤ m * b ^ j := by
          have := Int.mul_le_mul m1 p1 (by decide) (by omega)
          omega
        have sz2 : m * b ^ j ≤ 9 * 1000000000 := Int.mul_le_mul m9 p2 (by omega) (by decide)
        refine ⟨_, rfl, .inl ⟨rfl, _, SqL.of hl⟩, _, rfl, l0, _, _, rfl, rfl, hl, ?_, ?_⟩
        · rw [List.length_map, List.length_append, sizesD_len, List.length_map, List.length_range, List.length_take]
          exact small1000 (by omega)
        refine ⟨_, rfl, _, rfl, _, _, rfl, rfl, mulW (a := 60) (c := 5) (by omega) bN (by decide) (by decide), ?_⟩
        have nl : ∀ c o, H c = some o → c ≠ l0 := fun c o e => ne_of_none e hl0
        refine ⟨_, by rw [Int.pow_succ, ← Int.mul_assoc]; rfl, fun c o e => by rw [upd_ne (nl c o e)]; exact s2 _ _ e, ?_⟩
        rw [upd_same, List.range_succ]
        simp only [List.map_append, List.append_assoc, List.map_cons, List.map_nil]
      · rintro σ H2 ⟨v5, rfl, s2, hl⟩
        refine ⟨_, _, _, rfl, s2, ?_⟩
        rw [sizesD_snoc hm]
        exact hl
    rintro σ H1 ⟨v3, v4, v5, rfl, s1, hS⟩
    rw [lh, List.take_length] at hS
    have few : (sizesD b hs).length < 64 := by rw [sizesD_len]; omega
    -- sorted
    refine ⟨_, rfl, l0, rfl, ⟨_, SqL.of hS⟩, fun D hD => lc_list (K := K) (a := l0) (xs := (sizesD b hs).map V.int) (fun i H' => H' = upd H1 D (.lst (((sizesD b hs).take i).map V.int))) rfl ?_ ?_ ?_⟩
    · rintro i H' _ rfl
      exact SqL.of (by rw [upd_ne (ne_of_none hS hD)]; exact hS)
    · rintro i x H' hi rfl
      obtain ⟨z, hz, rfl⟩ := map_get hi
      refine ⟨rfl, yes_of ?_⟩
      refine ⟨_, rfl, .inl ⟨_, rfl, _, upd_same, ?_, ?_⟩⟩
      · rw [List.length_map, List.length_take]
        exact small1000 (by omega)
      · rw [upd_upd, List.take_add_one, hz, List.map_append]
        rfl
    rintro H2 rfl
    rw [List.length_map, List.take_length]
    have s2 := same_new (o := .lst ((sizesD b hs).map V.int)) hD
    refine ⟨D, _, rfl, SqL.of upd_same, few, fun ns' p hp1 hp2 hp => ?_⟩
    have en : ns' = isort (sizesD b hs) := eq_isort hp1 hp2
    subst en
    have s3 := same_new (o := .lst ((isort (sizesD b hs)).map V.int)) hp
    refine gN (σ' := [some (.int b), some (.ref a), some (.ref p), v3, v4, v5, none, none, none]) rfl ?_
    have sA := s1.trans (s2.trans s3)
    refine absP (fun Hd => Same H Hd ∧ Hd p = some (.lst ((isort (sizesD b hs)).map V.int))) ⟨sA, upd_same⟩ ?_
    rintro H3 ⟨s03, hp3⟩
    clear s3 sA s2 hp hD hp1 hp2 hS
    -- max
    have ha3 := s03 _ _ ha
    refine ⟨_, rfl, a, rfl, ⟨_, SqL.of ha3⟩, fun D hD => lc_list (K := K) (a := a) (xs := hs.map V.int) (fun i H' => H' = upd H3 D (.lst ((hs.take i).map V.int))) rfl ?_ ?_ ?_⟩
    · rintro i H' _ rfl
      exact SqL.of (by rw [upd_ne (ne_of_none ha3 hD)]; exact ha3)
    · rintro i x H' hi rfl
      obtain ⟨z, hz, rfl⟩ := map_get hi
      refine ⟨rfl, yes_of ?_⟩
      refine ⟨_, rfl, .inl ⟨_, rfl, _, upd_same, ?_, ?_⟩⟩
      · rw [List.length_map, List.length_take]
        exact small1000 (by omega)
      · rw [upd_upd, List.take_add_one, hz, List.map_append]
        rfl
    rintro H4 rfl
    rw [lh, List.take_length]
    have s4 := same_new (o := .lst (hs.map V.int)) hD
    obtain ⟨mx1, mx2⟩ := AD.mx ne
    refine ⟨D, _, rfl, SqL.of upd_same, List.length_pos_iff.mpr ne, fun mx h1 h2 => ?_⟩
    obtain rfl : mx = mxD hs := Int.le_antisymm (mx2 _ h1) (h2 _ mx1)
    obtain ⟨x1, x9⟩ := AD.all _ h1
    refine gN (σ' := [some (.int b), some (.ref a), some (.ref p), v3, v4, v5, some (.int (mxD hs)), none, none]) rfl ?_
    refine absP (fun Hd => Same H Hd ∧ Hd p = some (.lst ((isort (sizesD b hs)).map V.int))) ⟨s03.trans s4, s4 _ _ hp3⟩ ?_
    rintro H5 ⟨s05, hp5⟩
    clear s4 hD h2
    -- some
    have xN : (mxD hs).natAbs < 2 ^ 5 := by omega
    refine ⟨_, rfl, p, rfl, ⟨_, SqL.of hp5⟩, fun D hD => lc_list (K := K) (a := p) (xs := (isort (sizesD b hs)).map V.int) (fun i H' => H' = upd H5 D (.lst ((((isort (sizesD b hs)).take i).filter fun z => decide (mxD hs ≤ z) && decide (z ≤ mxD hs * b)).map V.int))) rfl ?_ ?_ ?_⟩
    · rintro i H' _ rfl
      exact SqL.of (by rw [upd_ne (ne_of_none hp5 hD)]; exact hp5)
    · rintro i x H' hi rfl
      obtain ⟨z, hz, rfl⟩ := map_get hi
      refine ⟨rfl, ?_⟩
      have add : (decide (mxD hs ≤ z) && decide (z ≤ mxD hs * b)) = true → ∃ acc, (upd H5 D (.lst ((((isort (sizesD b hs)).take i).filter fun z => decide (mxD hs ≤ z) && decide (z ≤ mxD hs * b)).map V.int))) D = some (HO.lst acc) ∧ acc.length < sizeLine ∧ upd (upd H5 D (.lst ((((isort (sizesD b hs)).take i).filter fun z => decide (mxD hs ≤ z) && decide (z ≤ mxD hs * b)).map V.int))) D (HO.lst (acc ++ [V.int z])) = upd H5 D (.lst ((((isort (sizesD b hs)).take (i + 1)).filter fun z => decide (mxD hs ≤ z) && decide (z ≤ mxD hs * b)).map V.int)) := fun hc => by
        refine ⟨_, upd_same, ?_, ?_⟩
        · rw [List.length_map]
          have h1 := List.length_filter_le (fun z => decide (mxD hs ≤ z) && decide (z ≤ mxD hs * b)) ((isort (sizesD b hs)).take i)
          have h2 := (isort_perm (sizesD b hs)).length_eq
          rw [List.length_take] at h1
          exact small1000 (by omega)
        · rw [upd_upd, filt_snoc hz, if_pos hc, List.map_append]
          rfl
      have non : ¬ (decide (mxD hs ≤ z) && decide (z ≤ mxD hs * b)) = true → upd H5 D (.lst ((((isort (sizesD b hs)).take i).filter fun z => decide (mxD hs ≤ z) && decide (z ≤ mxD hs * b)).map V.int)) = upd H5 D (.lst ((((isort (sizesD b hs)).take (i + 1)).filter fun z => decide (mxD hs ≤ z) && decide (z ≤ mxD hs * b)).map V.int)) := fun hc => by
        rw [filt_snoc hz, if_neg hc]
      refine ⟨_, rfl, _, rfl, _, _, rfl, rfl, ?_⟩
      refine ⟨_, rfl, ?_⟩
      refine ite2 (fun c1 => ?_) (fun c1 => ?_)
      · refine ⟨_, rfl, _, rfl, _, _, rfl, rfl, mulW xN bN (by decide) (by decide), _, _, rfl, rfl, _, rfl, ?_⟩
        refine ite2 (fun c2 => ?_) (fun c2 => ?_)
        · exact ⟨_, rfl, add (by rw [Bool.and_eq_true]; exact ⟨c1, c2⟩)⟩
        · exact non (by rw [Bool.and_eq_true]; exact fun z => c2 z.2)
      · refine ⟨_, rfl, ?_⟩
        refine iteF ?_
        exact non (by rw [Bool.and_eq_true]; exact fun z => c1 z.1)
    rintro H6 rfl
    rw [List.length_map, List.take_length]
    have s6 := same_new (o := .lst ((someD b hs).map V.int)) hD
    refine gN (σ' := [some (.int b), some (.ref a), some (.ref p), v3, v4, v5, some (.int (mxD hs)), some (.ref D), none]) rfl ?_
    refine absP (fun Hd => Same H Hd ∧ Hd D = some (.lst ((someD b hs).map V.int))) ⟨s05.trans s6, upd_same⟩ ?_
    rintro H6 ⟨s06, hD6⟩
    clear s6
    have fl : (someD b hs).length < 64 := by
      have h1 := List.length_filter_le (fun z => decide (mxD hs ≤ z) && decide (z ≤ mxD hs * b)) (isort (sizesD b hs))
      have h2 := (isort_perm (sizesD b hs)).length_eq
      exact Nat.lt_of_le_of_lt h1 (by omega)
    have pos : ∀ z ∈ someD b hs, 1 ≤ z := fun z hz => by
      have h := (List.mem_filter.mp hz).2
      rw [Bool.and_eq_true] at h
      have := of_decide_eq_true h.1
      omega
    have lm : ((someD b hs).map V.int).length = (someD b hs).length := List.length_map _
    refine ⟨_, rfl, D, _, rfl, .inl (SqL.of hD6), 1, _, rfl, by omega, fun D2 hD2 => lc_range (lo := 1) (n := ((((someD b hs).map V.int).length : Int) - 1).toNat) (fun i H' => H' = upd H6 D2 (.lst (((badD b hs i).map fun j : Nat => (1 : Int) + (j : Int)).map V.int))) rfl ?_ ?_⟩
    · rintro i H' hi rfl
      rw [lm] at hi
      have n4 := ne_of_none hD6 hD2
      have h5 : (upd H6 D2 (.lst (((badD b hs i).map fun j : Nat => (1 : Int) + (j : Int)).map V.int))) D = some (.lst ((someD b hs).map V.int)) := by rw [upd_ne n4]; exact hD6
      obtain ⟨z0, g0⟩ : ∃ z, (someD b hs)[i]? = some z := ⟨_, List.getElem?_eq_getElem (by omega)⟩
      obtain ⟨z1, g1⟩ : ∃ z, (someD b hs)[i + 1]? = some z := ⟨_, List.getElem?_eq_getElem (by omega)⟩
      have pos0 := pos z0 (List.mem_of_getElem? g0)
      have d0 : (someD b hs).getD i 0 = z0 := by rw [List.getD_eq_getElem?_getD, g0]; rfl
      have d1 : (someD b hs).getD (i + 1) 0 = z1 := by rw [List.getD_eq_getElem?_getD, g1]; rfl
      have a0 : atI ((someD b hs).map V.int) ((1 : Int) + (i : Int) - 1) = some (.int z0) := at_ofI (j := i) (by omega) (by rw [List.getElem?_map, g0]; rfl)
      have a1 : atI ((someD b hs).map V.int) ((1 : Int) + (i : Int)) = some (.int z1) := at_ofI (j := i + 1) (by omega) (by rw [List.getElem?_map, g1]; rfl)
      refine ⟨rfl, _, rfl, _, rfl, D, _, _, _, rfl, rfl, SqL.of h5, a1, .inl ⟨_, rfl, _, rfl, _, rfl, _, _, rfl, rfl, D, _, _, _, rfl, rfl, SqL.of h5, a0, _, _, rfl, rfl, pos0, rfl, _, rfl, ?_⟩⟩
      rw [badD_snoc, d0, d1]
      have eb : (!decide (V.int (z1 % z0) = V.int 0)) = decide (¬ z1 % z0 = 0) := by
        by_cases c : z1 % z0 = 0
        · rw [c]
          rfl
        · rw [decide_eq_false (fun y => c (V.int.inj y)), decide_eq_true c]
          rfl
      have eb : (!decide ((fun i j => V.int (i % j)) z1 z0 = V.int 0)) = decide (¬ z1 % z0 = 0) := eb
      rw [eb]
      refine ite2 (fun hc => ?_) (fun hc => ?_)
      · have hc := of_decide_eq_true hc
        rw [if_pos hc]
        refine ⟨_, rfl, _, upd_same, ?_, ?_⟩
        · rw [List.length_map, List.length_map]
          have h1 : (badD b hs i).length ≤ (List.range i).length := List.length_filter_le _ _
          rw [List.length_range] at h1
          exact small1000 (by omega)
        · rw [upd_upd, List.map_append, List.map_append]
          rfl
      · have hc : ¬ ¬ z1 % z0 = 0 := fun z => hc (decide_eq_true z)
        rw [if_neg hc]
    · rintro H7 rfl
      rw [lm, show (((someD b hs).length : Int) - 1).toNat = (someD b hs).length - 1 by omega]
      refine ⟨Nat.zero_le _, fun l8 hl8 => ?_⟩
      have nD8 : D2 ≠ l8 := ne_of_none upd_same hl8
      refine ⟨.list (((badD b hs ((someD b hs).length - 1)).map fun j : Nat => (1 : Int) + (j : Int)).map PyData.int), .list [], .lst (SqL.of (by rw [upd_ne nD8, upd_same])) (dp_ints _), .lst (SqL.of upd_same) .nil, shaped_ints _, by decide, ?_⟩
      rw [eqv_is_nil]
      have e : (((badD b hs ((someD b hs).length - 1)).map fun j : Nat => (1 : Int) + (j : Int)).map PyData.int).isEmpty = isDv b hs := by
        unfold isDv
        cases badD b hs ((someD b hs).length - 1) <;> rfl
      rw [e]
      exact q _ ((s06.trans (same_new hD2)).trans (same_new hl8))
end
end Ax

namespace Ax
open PySem L2
/-- lists elsewhere than at p and at D -/
abbrev LsQ (p D : Addr) (H : Hp) : List (List Int) → List Addr → Prop := Paired fun is a => H a = some (.lst (is.map V.int)) ∧ a ≠ p ∧ a ≠ D
theorem LsQ.move {p D D' : Addr} {H H' : Hp} : ∀ {ls : List (List Int)} {as : List Addr}, LsQ p D H ls as → (∀ (a : Addr) (is : List Int), H a = some (.lst (is.map V.int)) → a ≠ p → a ≠ D → H' a = some (.lst (is.map V.int)) ∧ a ≠ D') → LsQ p D' H' ls as
  | _, _, .nil, _ => .nil
  | _, _, .cons ⟨h, n1, n2⟩ r, f => .cons ⟨(f _ _ h n1 n2).1, n1, (f _ _ h n1 n2).2⟩ (LsQ.move r f)
theorem LsQ.snoc {p D : Addr} {H : Hp} {is : List Int} {a : Addr} : ∀ {ls : List (List Int)} {as : List Addr}, LsQ p D H ls as → H a = some (.lst (is.map V.int)) ∧ a ≠ p ∧ a ≠ D → LsQ p D H (ls ++ [is]) (as ++ [a])
  | _, _, .nil, h => .cons h .nil
  | _, _, .cons h r, q => .cons h (LsQ.snoc r q)
theorem LsQ.app {p D : Addr} {H : Hp} {ls' : List (List Int)} {as' : List Addr} (h' : LsQ p D H ls' as') : ∀ {ls : List (List Int)} {as : List Addr}, LsQ p D H ls as → LsQ p D H (ls ++ ls') (as ++ as')
  | _, _, .nil => h'
  | _, _, .cons h r => .cons h (LsQ.app h' r)
theorem LsQ.get {p D : Addr} {H : Hp} : ∀ {ls : List (List Int)} {as : List Addr} {i : Nat} {a : Addr}, LsQ p D H ls as → as[i]? = some a → ∃ is, ls[i]? = some is ∧ H a = some (.lst (is.map V.int)) ∧ a ≠ p ∧ a ≠ D
  | _, _, _, _, .nil, h => nomatch h
  | _, _, 0, _, .cons h _, e => by
    obtain rfl := Option.some.inj e
    exact ⟨_, rfl, h⟩
  | _, _, i + 1, _, .cons _ r, e => LsQ.get (i := i) r e
theorem LsQ.len {p D : Addr} {H : Hp} {ls : List (List Int)} {as : List Addr} (h : LsQ p D H ls as) : ls.length = as.length := Paired.length h
theorem foundD_snoc {b : Int} {ls : List (List Int)} {i : Nat} {is : List Int} (h : ls[i]? = some is) : foundD b (ls.take (i + 1)) = if fitD b (keptC b is) = true then foundD b (ls.take i) ++ [keptC b is] else foundD b (ls.take i) := by
  unfold foundD
  rw [List.take_add_one, h]
  show ((ls.take i ++ [is]).map (keptC b)).filter _ = _
  rw [List.map_append, List.filter_append, List.map_cons, List.map_nil, List.filter_cons]
  by_cases c : fitD b (keptC b is) = true
  · rw [if_pos c, if_pos c, List.filter_nil]
  · rw [if_neg c, if_neg c, List.filter_nil, List.append_nil]
theorem LsQ.dp {K : PySem.W.Frag} {p D : Addr} {H : Hp} : ∀ {ls : List (List Int)} {as : List Addr}, LsQ p D H ls as → DpAll K H (as.map V.ref) (ls.map fun is => PyData.list (is.map PyData.int))
  | _, _, .nil => .nil
  | _, _, .cons ⟨h, _⟩ r => .cons (.lst (SqL.of h) (dp_ints _)) (LsQ.dp r)
theorem ints_lay : ∀ is : List Int, PyData.canLayAll0 (is.map PyData.int) = true
  | [] => by simp [PyData.canLayAll0]
  | i :: r => by
    have ih := ints_lay r
    simp [PyData.canLayAll0, PyData.canLay0, ih]
theorem ints_depth : ∀ is : List Int, PyData.depthAll (is.map PyData.int) = 0
  | [] => by simp [PyData.depthAll]
  | i :: r => by
    have ih := ints_depth r
    simp [PyData.depthAll, PyData.depth, ih]
theorem lists_lay : ∀ ls : List (List Int), PyData.canLayAll0 (ls.map fun is => PyData.list (is.map PyData.int)) = true
  | [] => by simp [PyData.canLayAll0]
  | is :: r => by
    have ih := lists_lay r
    simp [PyData.canLayAll0, PyData.canLay0, ih, ints_lay is]
theorem lists_depth : ∀ ls : List (List Int), PyData.depthAll (ls.map fun is => PyData.list (is.map PyData.int)) ≤ 4
  | [] => by simp [PyData.depthAll]
  | is :: r => by
    have ih := lists_depth r
    rw [List.map_cons]
    simp only [PyData.depthAll, PyData.depth, ints_depth is]
    omega
theorem lists_shaped (ls : List (List Int)) : SeqAt.shaped (.list (ls.map fun is => PyData.list (is.map PyData.int))) = true := by
  have h := lists_depth ls
  have h2 : PyData.depth (.list (ls.map fun is => PyData.list (is.map PyData.int))) ≤ 64 := by simp only [PyData.depth]; omega
  show (PyData.canLay0 _ && decide (PyData.depth _ ≤ 64)) = true
  rw [Bool.and_eq_true]
  exact ⟨by simp only [PyData.canLay0]; exact lists_lay ls, decide_eq_true h2⟩
section
variable {P : Program} {w : World} {K : PySem.W.Frag} {mg : Str → Option Value} {base : Heap} {A : Adr}
/-! ### _law_dividing_rules -/
def spDRules : Sp := fun vs H Q _ => ∃ (p : Addr) (t : Nat) (n : Int), vs = [.ref p, .int n] ∧ Purse H p t ∧ t ≤ 2 ^ 17 ∧ 1 ≤ n ∧ n ≤ 3 ∧
  ∀ (H' : Hp) (L : Addr) (as : List Addr) (rs : List CRu) (b : Int), Kp p H H' → Purse H' p (t + 30) → H' L = some (.lst (as.map V.ref)) → L ≠ p → RcsP p b H' rs as → CovD b rs → rs ≠ [] → (rs.length : Int) ≤ n → 2 ≤ b → b ≤ 10 → Q (.ref L) H'
abbrev nm_law_dividing_rules : List Str := ["_law_purse_here", "_law_most", "_law_base", "_law_family", "_law_lists", "_law_one", "_law_other", "_law_found", "_law_heads", "_law_some", "_law_head", "_law_turn"]
theorem sc_law_dividing_rules : FnScope ["_law_purse_here", "_law_most", "_law_base", "_law_family", "_law_lists", "_law_one", "_law_other", "_law_found", "_law_heads", "_law_some", "_law_head", "_law_turn"] ["_law_purse_here", "_law_most"] (defScope s_law_dividing_rules) := ⟨rfl, rfl, rfl, by decide +kernel, rfl, by decide +kernel, by decide +kernel⟩
theorem ok_drules (T : Txt K mg A w) : FnOk P w K mg base CX0 3 A.a_law_dividing_rules A.d_law_dividing_rules ["_law_purse_here", "_law_most"] spDRules := by
  have G_law_draw : FnOk P w K mg base CX0 1 A.a_law_draw A.d_law_draw ["_law_purse_here", "_law_many"] spDraw := ok_draw T
  have G_law_pick : FnOk P w K mg base CX0 2 A.a_law_pick A.d_law_pick ["_law_purse_here", "_law_items"] spPick := ok_pick T
  have G_law_is_dividing : FnOk P w K mg base CX0 1 A.a_law_is_dividing A.d_law_is_dividing ["_law_base", "_law_heads"] spIsDv := ok_isdv T
  refine T.F_law_dividing_rules.ok sc_law_dividing_rules (fun vs H Q E h => ?_) (fun cdv A0 outer s H vs Q E hr h => ?_)
  · obtain ⟨p, t, n, rfl, _⟩ := h
    rfl
  · obtain ⟨p, t, n, rfl, hP, ht, n1, n3, q⟩ := h
    refine ⟨_, (pss_cons (ps_set (i := 2) sc_law_dividing_rules.nd rfl (Or.inr rfl) (pe_call G_law_pick (hr.mono (by decide)) (by rfl) T.m_law_pick T.F_law_pick.kp T.B_law_pick .nil pass0 (pa_cons (pv 0) (pa_cons (pe_lst (pa_cons pe_int (pa_cons pe_int (pa_cons pe_int (pa_cons pe_int (pa_cons pe_int (pa_cons pe_int (pa_cons pe_int (pa_cons pe_int pa_nil))))))))) pa_nil))))
  (pss_cons (ps_set (i := 3) sc_law_dividing_rules.nd rfl (Or.inl rfl) (pe_call G_law_pick (hr.mono (by decide)) (by rfl) T.m_law_pick T.F_law_pick.kp T.B_law_pick .nil pass0 (pa_cons (pv 0) (pa_cons (pe_lst (pa_cons (pe_lst (pa_cons pe_int (pa_cons pe_int (pa_cons pe_int pa_nil)))) (pa_cons (pe_lst (pa_cons pe_int (pa_cons pe_int (pa_cons pe_int (pa_cons pe_int pa_nil))))) (pa_cons (pe_lst (pa_cons pe_int (pa_cons pe_int (pa_cons pe_int pa_nil)))) (pa_cons (pe_lst (pa_cons pe_int (pa_cons pe_int pa_nil))) (pa_cons (pe_lst (pa_cons pe_int (pa_cons pe_int pa_nil))) (pa_cons (pe_lst (pa_cons pe_int (pa_cons pe_int (pa_cons pe_int pa_nil)))) pa_nil))))))) pa_nil))))
  (pss_cons (ps_set (i := 4) sc_law_dividing_rules.nd rfl (Or.inl rfl) (pe_op op_cat (pe_op op_cat (pe_lc (own := [("_law_one", 5)]) (g := gName 5) (tt := tYes) rfl sc_law_dividing_rules.nd (pi_list (pv 3)) (blkOk_by (own := [("_law_one", 5)]) (N := nm_law_dividing_rules) (sc := defScope s_law_dividing_rules) (by decide +kernel)) (fun _ _ _ _ _ => (pg_name (i := 5) sc_law_dividing_rules.nd rfl (Or.inl rfl))) (fun _ _ _ _ _ => pts_nil) (fun _ _ _ _ _ => (pe_lst (pa_cons (pv 5) pa_nil)))) (pe_lc (own := [("_law_one", 5), ("_law_other", 6)]) (g := gTup K 2 (gCons (gName 5) (gCons (gName 6) gNil))) (tt := tYes) rfl sc_law_dividing_rules.nd (pi_zip (by rfl) T.n_zip (pa_cons (pv 3) (pa_cons (pe_slice sl_list (pv 3) (po_some pe_int) po_none) pa_nil))) (blkOk_by (own := [("_law_one", 5), ("_law_other", 6)]) (N := nm_law_dividing_rules) (sc := defScope s_law_dividing_rules) (by decide +kernel)) (fun _ _ _ _ _ => (pg_tup (by rfl) (pgs_cons (pg_name (i := 5) sc_law_dividing_rules.nd rfl (Or.inl rfl)) (pgs_cons (pg_name (i := 6) sc_law_dividing_rules.nd rfl (Or.inl rfl)) pgs_nil)))) (fun _ _ _ _ _ => pts_nil) (fun _ _ _ _ _ => (pe_lst (pa_cons (pv 5) (pa_cons (pv 6) pa_nil)))))) (pe_lst (pa_cons (pv 3) pa_nil))))
  (pss_cons (ps_set (i := 7) sc_law_dividing_rules.nd rfl (Or.inr rfl) (pe_lst pa_nil))
  (pss_cons (ps_for PassesOwn.never rfl (pi_list (pv 4)) (pg_name (i := 8) sc_law_dividing_rules.nd rfl (Or.inl rfl))
  (pss_cons (ps_setLc (i := 9) (own := [("_law_head", 10)]) (g := gName 10) rfl sc_law_dividing_rules.nd rfl rfl (sw_true rfl rfl rfl (by decide +kernel)) (pi_list (pv 8)) (blkOk_by (own := [("_law_head", 10)]) (N := nm_law_dividing_rules) (sc := defScope s_law_dividing_rules) (by decide +kernel)) (fun _ _ _ _ _ => (pg_name (i := 10) sc_law_dividing_rules.nd rfl (Or.inl rfl))) (fun _ _ _ _ _ => (pts_one (pt_cmpR op_ne (pe_op op_mod (pe_callTy call_int1 (by rfl) T.n_int (by decide +kernel) (pa_cons (pv 10) pa_nil)) (pv 2)) pe_int (nomark _)))) (fun _ _ _ _ _ => (pv 10)))
  (pss_one (ps_if (PW.pt (pw_and (pt_cmpR (op_neD hr.units) (pv 9) (pe_lst pa_nil) (nomark _)) (pw_and1 (pt_val (pe_call G_law_is_dividing (hr.mono (by decide)) (by rfl) T.m_law_is_dividing T.F_law_is_dividing.kp T.B_law_is_dividing .nil pass0 (pa_cons (pv 2) (pa_cons (pv 9) pa_nil))))))) (pss_one (ps_expr (pe_bm PySem.F.plainAttrs_list PySem.F.slot_list_append PySem.F.type_list_append mt_append (pv 7) (pa_cons (pv 9) pa_nil)))) pss_nil))))
  (Evl.pss_cut (ps_if (pt_cmpR (op_eqD hr.units) (pv 7) (pe_lst pa_nil) (nomark _)) (pss_one (ps_set (i := 7) sc_law_dividing_rules.nd rfl (Or.inr rfl) (pe_lst (pa_cons (pe_lst (pa_cons pe_int pa_nil)) pa_nil)))) pss_nil)
  (pss_one (ps_ret (pe_lc (own := [("_law_turn", 11)]) (g := gName 11) (tt := tYes) rfl sc_law_dividing_rules.nd (pi_range1 rfl T.n_range (pa_cons (pe_op op_add pe_int (pe_call G_law_draw (hr.mono (by decide)) (by rfl) T.m_law_draw T.F_law_draw.kp T.B_law_draw .nil pass0 (pa_cons (pv 0) (pa_cons (pv 1) pa_nil)))) pa_nil)) (blkOk_by (own := [("_law_turn", 11)]) (N := nm_law_dividing_rules) (sc := defScope s_law_dividing_rules) (by decide +kernel)) (fun _ _ _ _ _ => (pg_name (i := 11) sc_law_dividing_rules.nd rfl (Or.inl rfl))) (fun _ _ _ _ _ => pts_nil) (fun _ _ _ _ _ => (pe_tup (pa_cons (pv 2) (pa_cons (pe_call G_law_pick (hr.mono (by decide)) (by rfl) T.m_law_pick T.F_law_pick.kp T.B_law_pick .nil pass0 (pa_cons (pv 0) (pa_cons (pv 7) pa_nil))) (pa_cons (pe_op op_add pe_int (pe_call G_law_draw (hr.mono (by decide)) (by rfl) T.m_law_draw T.F_law_draw.kp T.B_law_draw .nil pass0 (pa_cons (pv 0) (pa_cons pe_int pa_nil)))) pa_nil)))))))))))))), ?_⟩
    have e17 : (2 : Nat) ^ 17 = 131072 := by decide
    have e18 : (2 : Nat) ^ 18 = 262144 := by decide
    have e20 : (2 : Nat) ^ 20 = 1048576 := by decide
    refine ⟨_, rfl, (by show 8 ≤ sizeLine; decide), fun l hl => ?_⟩
    have P0 := hP.same (same_new (o := .lst (BASD.map V.int)) hl)
    refine ⟨p, l, BASD.map V.int, t, rfl, P0, by omega, upd_same, hP.ne hl, (by decide), (by decide), fun H1 i1 x1 k1 P1 g1 => ?_⟩
    obtain ⟨b, rfl, hb⟩ := pick_int (ms := BASD) (P := fun m => m ∈ BASD) g1 (fun m hm => hm)
    have k01 : Kp p H H1 := (kpNew hl).trans k1
    refine gN (σ' := [some (.ref p), some (.int n), some (.int b), none, none, none, none, none, none, none, none, none]) rfl ?_
    -- the families
    refine ⟨_, rfl, (by show 3 ≤ sizeLine; decide), fun a0 ha0 => ⟨(by show 4 ≤ sizeLine; decide), fun a1 ha1 => ⟨(by show 3 ≤ sizeLine; decide), fun a2 ha2 => ⟨(by show 2 ≤ sizeLine; decide), fun a3 ha3 => ⟨(by show 2 ≤ sizeLine; decide), fun a4 ha4 => ⟨(by show 3 ≤ sizeLine; decide), fun a5 ha5 => ⟨(by show 6 ≤ sizeLine; decide), fun L2 hL2 => ?_⟩⟩⟩⟩⟩⟩⟩
    have LN : LsN H1 _ FAMD [a0, a1, a2, a3, a4, a5] := LsN.new [1, 3, 9] (LsN.new [2, 5] (LsN.new [1, 3] (LsN.new [1, 2, 4] (LsN.new [1, 2, 3, 6] (LsN.new [1, 2, 5] (LsN.nil (Same.refl H1)) ha0) ha1) ha2) ha3) ha4) ha5
    obtain ⟨s2, LP, g2, f2⟩ := LN.put hL2
    have P2 := P1.same s2
    have n2p : L2 ≠ p := P1.ne f2
    refine ⟨p, L2, _, t + 1, rfl, P2, by omega, g2, n2p, (by show 0 < 6; decide), (by show 6 ≤ 1000; decide), fun H3 i3 x3 k3 P3 g3 => ?_⟩
    obtain ⟨fa, fam, rfl, hfam, hfa, nfp⟩ : ∃ a is, x3 = V.ref a ∧ is ∈ FAMD ∧ H3 a = some (HO.lst (is.map V.int)) ∧ a ≠ p := by
      obtain ⟨a, ea, rfl⟩ := ref_get g3
      obtain ⟨is, h1, h2, h3⟩ := pairN_get LP ea
      have np : a ≠ p := P1.ne h3
      exact ⟨a, is, rfl, List.mem_of_getElem? h1, k3 _ _ np h2, np⟩
    have k03 : Kp p H H3 := k01.trans ((Ax.Same.kp s2 p).trans k3)
    clear g2 LP s2 LN
    obtain ⟨lt1, lt2, lt3, lt4⟩ := len_table b hb fam hfam
    have bpos : 0 < b := (by decide : ∀ b ∈ BASD, 0 < b) b hb
    have bb : 2 ≤ b ∧ b ≤ 10 := (by decide : ∀ b ∈ BASD, 2 ≤ b ∧ b ≤ 10) b hb
    refine gN (σ' := [some (.ref p), some (.int n), some (.int b), some (.ref fa), none, none, none, none, none, none, none, none]) rfl ?_
    -- [[one] for one in family]
    have lfm : (fam.map V.int).length = fam.length := List.length_map _
    refine ⟨_, rfl, fa, rfl, ⟨_, SqL.of hfa⟩, fun D hD => lc_list (K := K) (a := fa) (xs := fam.map V.int) (fun i H' => ∃ as : List Addr, Same H3 H' ∧ H' D = some (.lst (as.map V.ref)) ∧ LsQ p D H' ((fam.take i).map fun m => [m]) as) ⟨[], same_new hD, upd_same, .nil⟩ ?_ ?_ ?_⟩
    · rintro i H' _ ⟨as, s4, _⟩
      exact SqL.of (s4 _ _ hfa)
    · rintro i x H' hi ⟨as, s4, hDl, LQ⟩
      obtain ⟨m, hm, rfl⟩ := map_get hi
      have hi3 : i < fam.length := (List.getElem?_eq_some_iff.mp hm).1
      have nDp : D ≠ p := P3.ne hD
      refine ⟨rfl, yes_of ?_⟩
      refine ⟨_, rfl, (by show 1 ≤ sizeLine; decide), fun l5 hl5 => ?_⟩
      have s5 := same_new (o := .lst [.int m]) hl5
      have nl : D ≠ l5 := ne_of_none hDl hl5
      refine ⟨_, s5 _ _ hDl, ?_, as ++ [l5], fun c o e => ?_, ?_, ?_⟩
      · rw [List.length_map, ← LQ.len, List.length_map, List.length_take]
        exact small1000 (by omega)
      · rw [upd_ne (ne_of_none e hD)]
        exact s5 _ _ (s4 _ _ e)
      · rw [upd_same, List.map_append]
        rfl
      · rw [List.take_add_one, hm, List.map_append]
        refine LsQ.snoc (LsQ.move LQ fun c is e n1 n2 => ⟨?_, n2⟩) ⟨?_, ?_, nl.symm⟩
        · rw [upd_ne n2]
          exact s5 _ _ e
        · rw [upd_ne nl.symm, upd_same]
          rfl
        · exact (P3.same s4).ne hl5
    rintro H4 ⟨as1, s4, hD4, LQ1⟩
    rw [lfm, List.take_length] at LQ1
    -- [[one, other] for one, other in zip(family, family[1:])]
    have hf4 := s4 _ _ hfa
    have nDp : D ≠ p := P3.ne hD
    refine ⟨_, rfl, _, rfl, 1, rfl, fa, _, rfl, SqL.of hf4, fun p5 hp5 => ?_⟩
    have ec : cutV (fam.map V.int) (some 1) none = (fam.drop 1).map V.int := by
      have := cut_from (fam.map V.int) 1
      rw [List.map_drop]
      exact this
    rw [ec]
    have s5 := same_new (o := .lst ((fam.drop 1).map V.int)) hp5
    have hp5' : (upd H4 p5 (.lst ((fam.drop 1).map V.int))) p5 = some (.lst ((fam.drop 1).map V.int)) := upd_same
    generalize upd H4 p5 (.lst ((fam.drop 1).map V.int)) = H5 at s5 hp5' ⊢
    have s35 := s4.trans s5
    have minE : fam.length - 1 = min (fam.map V.int).length ((fam.drop 1).map V.int).length := by
      rw [List.length_map, List.length_map, List.length_drop]
      omega
    refine ⟨fa, p5, _, _, rfl, SqL.of (s35 _ _ hfa), SqL.of hp5', fun D2 hD2 => ?_⟩
    have nD2p : D2 ≠ p := (P3.same s35).ne hD2
    refine lc_it (walk_zip (K := K) (a := fa) (b := p5) minE) (fun i H' => ∃ as : List Addr, Same H5 H' ∧ H' D2 = some (.lst (as.map V.ref)) ∧ LsQ p D2 H' (((fam.zip (fam.drop 1)).take i).map fun q => [q.1, q.2]) as) ⟨[], same_new hD2, upd_same, .nil⟩ (fun i H' _ ⟨_, s6, _⟩ => ⟨SqL.of (s6 _ _ (s35 _ _ hfa)), SqL.of (s6 _ _ hp5')⟩) ?_ ?_
    · rintro i x H' H2 hi ⟨as, s6, hDl, LQ⟩ ⟨Tt, x1, y1, rfl, hT, rfl, hx, hy⟩
      obtain ⟨u, hu, rfl⟩ := map_get hx
      obtain ⟨v, hv, rfl⟩ := map_get hy
      have hi3 : i < fam.length := (List.getElem?_eq_some_iff.mp hu).1
      refine ⟨Tt, _, rfl, SqT.of upd_same, rfl, _, _, rfl, _, _, rfl, rfl, rfl, yes_of ?_⟩
      have s7 := same_new (o := .tup [.int u, .int v]) hT
      refine ⟨_, rfl, _, rfl, (by show 2 ≤ sizeLine; decide), fun l7 hl7 => ?_⟩
      have s8 := s7.trans (same_new (o := .lst [.int u, .int v]) hl7)
      have hDl8 := s8 _ _ hDl
      have nl : D2 ≠ l7 := ne_of_none (s7 _ _ hDl) hl7
      have hpair : (fam.zip (fam.drop 1))[i]? = some (u, v) := by
        rw [List.getElem?_zip_eq_some]
        exact ⟨hu, hv⟩
      refine ⟨_, hDl8, ?_, as ++ [l7], fun c o e => ?_, ?_, ?_⟩
      · rw [List.length_map, ← LQ.len, List.length_map, List.length_take]
        exact small1000 (by omega)
      · rw [upd_ne (ne_of_none e hD2)]
        exact s8 _ _ (s6 _ _ e)
      · rw [upd_same, List.map_append]
        rfl
      · rw [List.take_add_one, hpair, List.map_append]
        refine LsQ.snoc (LsQ.move LQ fun c is e n1 n2 => ⟨?_, n2⟩) ⟨?_, ?_, nl.symm⟩
        · rw [upd_ne n2]
          exact s8 _ _ e
        · rw [upd_ne nl.symm, upd_same]
          rfl
        · exact ((P3.same s35).same (s6.trans s7)).ne hl7
    rintro H6 ⟨as2, s6, hD26, LQ2⟩
    have zl : (fam.zip (fam.drop 1)).length ≤ fam.length - 1 := by
      rw [List.length_zip, List.length_drop]
      omega
    rw [List.take_of_length_le zl] at LQ2
    have LQ1' : LsQ p D H6 (fam.map fun m => [m]) as1 := LsQ.move LQ1 fun c is e n1 n2 => ⟨s6 _ _ (s5 _ _ e), n2⟩
    have hD6 := s6 _ _ (s5 _ _ hD4)
    have s36 := s35.trans s6
    have l1 := LQ1'.len
    have l2 := LQ2.len
    rw [List.length_map] at l1 l2
    refine ⟨D, D2, _, _, rfl, rfl, hD6, hD26, ?_, fun p8 hp8 => ?_⟩
    · rw [List.length_map, List.length_map]
      exact Nat.le_of_lt (small1000 (by omega))
    refine ⟨_, rfl, (by show 1 ≤ sizeLine; decide), fun l9 hl9 => ?_⟩
    have n89 : p8 ≠ l9 := ne_of_none (upd_same (H := H6) (a := p8) (o := .lst (as1.map V.ref ++ as2.map V.ref))) hl9
    refine ⟨p8, l9, _, _, rfl, rfl, by rw [upd_ne n89]; exact upd_same, upd_same, ?_, fun L10 hL10 => ?_⟩
    · rw [List.length_append, List.length_map, List.length_map]
      exact Nat.le_of_lt (small1000 (by show as1.length + as2.length + 1 ≤ 1000; omega))
    have s810 := ((same_new (o := .lst (as1.map V.ref ++ as2.map V.ref)) hp8).trans (same_new (o := .lst [.ref fa]) hl9)).trans (same_new (o := .lst (as1.map V.ref ++ as2.map V.ref ++ [.ref fa])) hL10)
    refine gN (σ' := [some (.ref p), some (.int n), some (.int b), some (.ref fa), some (.ref L10), none, none, none, none, none, none, none]) rfl ?_
    have eqL : as1.map V.ref ++ as2.map V.ref ++ [V.ref fa] = (as1 ++ as2 ++ [fa]).map V.ref := by simp
    rw [eqL] at s810 ⊢
    refine absP (fun Hd => Same H6 Hd ∧ Hd L10 = some (.lst ((as1 ++ as2 ++ [fa]).map V.ref))) ⟨s810, upd_same⟩ ?_
    rintro H10 ⟨s10, hL10'⟩
    clear s810 hL10 hl9 hp8
    have s310 := s36.trans s10
    have P10 := P3.same s310
    -- found = []
    refine ⟨Nat.zero_le _, fun lf hlf => ?_⟩
    refine gN (σ' := [some (.ref p), some (.int n), some (.int b), some (.ref fa), some (.ref L10), none, none, some (.ref lf), none, none, none, none]) rfl ?_
    have s11 := same_new (o := .lst []) hlf
    have nfl : lf ≠ p := P10.ne hlf
    have LSall : LsQ p lf (upd H10 lf (.lst [])) (lstD fam) (as1 ++ as2 ++ [fa]) := by
      have q1 : LsQ p lf (upd H10 lf (.lst [])) (fam.map fun m => [m]) as1 := LsQ.move LQ1' fun c is e n1 n2 => ⟨s11 _ _ (s10 _ _ e), ne_of_none (s10 _ _ e) hlf⟩
      have q2 : LsQ p lf (upd H10 lf (.lst [])) ((fam.zip (fam.drop 1)).map fun q => [q.1, q.2]) as2 := LsQ.move LQ2 fun c is e n1 n2 => ⟨s11 _ _ (s10 _ _ e), ne_of_none (s10 _ _ e) hlf⟩
      have q3 : LsQ p lf (upd H10 lf (.lst [])) [fam] [fa] := .cons ⟨s11 _ _ (s310 _ _ hfa), nfp, ne_of_none (s310 _ _ hfa) hlf⟩ .nil
      exact LsQ.app q3 (LsQ.app q2 q1)
    generalize hAll : as1 ++ as2 ++ [fa] = asA at *
    have lA := LSall.len
    refine ⟨_, rfl, L10, rfl, ⟨_, SqL.of (s11 _ _ hL10')⟩, for_list (K := K) (a := L10) (xs := asA.map V.ref) (fun i σ H' => ∃ (fs : List Addr) (v8 v9 v10 : Option V), σ = [some (.ref p), some (.int n), some (.int b), some (.ref fa), some (.ref L10), none, none, some (.ref lf), v8, v9, v10, none] ∧ Same H10 H' ∧ H' lf = some (.lst (fs.map V.ref)) ∧ LsQ p lf H' (lstD fam) asA ∧ LsQ p lf H' (foundD b ((lstD fam).take i)) fs)
      ⟨[], _, _, _, rfl, s11, upd_same, LSall, .nil⟩ (fun i σ H' _ ⟨_, _, _, _, _, s, _⟩ => SqL.of (s _ _ hL10')) ?_ ?_⟩
    · rintro i y σ H12 hi ⟨fs, v8, v9, v10, rfl, s12, hlf12, LA, LF⟩
      obtain ⟨a, ea, rfl⟩ := ref_get hi
      obtain ⟨is, his, ha, nap, nal⟩ := LA.get ea
      have hi8 : i < (lstD fam).length := (List.getElem?_eq_some_iff.mp his).1
      have AD := ask_ok hb hfam (List.mem_map_of_mem (f := keptC b) (List.mem_of_getElem? his))
      have lenIs : is.length ≤ 4 := (by decide : ∀ fam ∈ FAMD, ∀ is ∈ lstD fam, is.length ≤ 4) fam hfam is (List.mem_of_getElem? his)
      refine gN (σ' := [some (.ref p), some (.int n), some (.int b), some (.ref fa), some (.ref L10), none, none, some (.ref lf), some (.ref a), v9, v10, none]) rfl ?_
      refine ⟨_, rfl, a, rfl, ⟨_, SqL.of ha⟩, fun D hD => lc_list (K := K) (a := a) (xs := is.map V.int) (fun i H' => H' = upd H12 D (.lst ((keptC b (is.take i)).map V.int))) rfl ?_ ?_ ?_⟩
      · rintro i H' _ rfl
        exact SqL.of (by rw [upd_ne (ne_of_none ha hD)]; exact ha)
      · rintro i x H' hi rfl
        obtain ⟨m, hm, rfl⟩ := map_get hi
        have et : is.take (i + 1) = is.take i ++ [m] := take_sub hm
        refine ⟨rfl, _, rfl, .inl ⟨_, rfl, _, rfl, _, _, rfl, rfl, bpos, rfl, _, rfl, ?_⟩⟩
        rw [et]
        have eb : (!decide (V.int (m % b) = V.int 0)) = decide (¬ m % b = 0) := by
          by_cases c : m % b = 0
          · rw [c]
            rfl
          · rw [decide_eq_false (fun y => c (V.int.inj y)), decide_eq_true c]
            rfl
        have eb : (!decide ((fun i j => V.int (i % j)) m b = V.int 0)) = decide (¬ m % b = 0) := eb
        rw [eb]
        refine ite2 (fun hc => ?_) (fun hc => ?_)
        · refine ⟨_, rfl, _, upd_same, ?_, ?_⟩
          · rw [List.length_map]
            have h1 : (keptC b (is.take i)).length ≤ (is.take i).length := List.length_filter_le _ _
            rw [List.length_take] at h1
            exact small1000 (by omega)
          · rw [upd_upd]
            have e2 : keptC b (is.take i ++ [m]) = keptC b (is.take i) ++ [m] := by
              unfold keptC
              rw [List.filter_append, List.filter_cons, if_pos hc, List.filter_nil]
            rw [e2, List.map_append]
            rfl
        · have e2 : keptC b (is.take i ++ [m]) = keptC b (is.take i) := by
            unfold keptC
            rw [List.filter_append, List.filter_cons, if_neg hc, List.filter_nil, List.append_nil]
          rw [e2]
      rintro H13 rfl
      rw [List.length_map, List.take_length]
      have s13 := same_new (o := .lst ((keptC b is).map V.int)) hD
      have nDlf : D ≠ lf := (ne_of_none hlf12 hD).symm
      have nDp' : D ≠ p := (P10.same s12).ne hD
      refine gN (σ' := [some (.ref p), some (.int n), some (.int b), some (.ref fa), some (.ref L10), none, none, some (.ref lf), some (.ref a), some (.ref D), v10, none]) rfl ?_
      have hD13 : (upd H12 D (.lst ((keptC b is).map V.int))) D = some (.lst ((keptC b is).map V.int)) := upd_same
      generalize upd H12 D (.lst ((keptC b is).map V.int)) = H13 at s13 hD13 ⊢
      have fsn := foundD_snoc (b := b) his
      have keep : ∀ (H' : Hp) (ls : List (List Int)) (as : List Addr), Same H12 H' → LsQ p lf H12 ls as → LsQ p lf H' ls as := fun H' ls as s h => LsQ.move h fun c is e n1 n2 => ⟨s _ _ e, n2⟩
      have out : ¬ fitD b (keptC b is) = true → ∀ H', Same H12 H' → ∃ (fs : List Addr) (v8 v9 v10' : Option V), [some (V.ref p), some (.int n), some (.int b), some (.ref fa), some (.ref L10), none, none, some (.ref lf), some (.ref a), some (.ref D), v10, none] = [some (V.ref p), some (.int n), some (.int b), some (.ref fa), some (.ref L10), none, none, some (.ref lf), v8, v9, v10', none] ∧ Same H10 H' ∧ H' lf = some (.lst (fs.map V.ref)) ∧ LsQ p lf H' (lstD fam) asA ∧ LsQ p lf H' (foundD b ((lstD fam).take (i + 1))) fs := fun nf H' s => by
        rw [fsn, if_neg nf]
        exact ⟨fs, _, _, _, rfl, s12.trans s, s _ _ hlf12, keep _ _ _ s LA, keep _ _ _ s LF⟩
      -- the test
      refine ⟨_, rfl, Nat.zero_le _, fun l14 hl14 => ?_⟩
      have s14 := same_new (o := .lst []) hl14
      refine ⟨.list ((keptC b is).map PyData.int), .list [], .lst (SqL.of (s14 _ _ hD13)) (dp_ints _), .lst (SqL.of upd_same) .nil, shaped_ints _, by decide, _, rfl, ?_⟩
      rw [eqv_is_nil]
      have s1214 := s13.trans s14
      by_cases ce : keptC b is = []
      · rw [ce]
        refine iteF ?_
        exact out (by unfold fitD; rw [ce]; simp) _ s1214
      · have e0 : ((keptC b is).map PyData.int).isEmpty = false := by
          cases hq : keptC b is with
          | nil => exact absurd hq ce
          | cons x r => rfl
        rw [e0]
        refine iteT ?_
        refine ⟨_, rfl, _, rfl, D, b, keptC b is, rfl, s14 _ _ hD13, AD, ce, fun H15 s15 => ⟨_, rfl, ?_⟩⟩
        have s1215 := s1214.trans s15
        have ef : fitD b (keptC b is) = isDv b (keptC b is) := by
          unfold fitD
          cases hq : keptC b is with
          | nil => exact absurd hq ce
          | cons x r => rfl
        by_cases cd : isDv b (keptC b is) = true
        · rw [cd]
          refine iteT ?_
          have hlf15 := s1215 _ _ hlf12
          have hD15 := (s14.trans s15) _ _ hD13
          refine ⟨_, rfl, .inl ⟨rfl, _, SqL.of hlf15⟩, _, rfl, lf, _, _, rfl, rfl, hlf15, ?_, ?_⟩
          · rw [List.length_map, ← LF.len]
            have h1 : (foundD b ((lstD fam).take i)).length ≤ (((lstD fam).take i).map (keptC b)).length := List.length_filter_le _ _
            rw [List.length_map, List.length_take] at h1
            exact small1000 (by omega)
          · refine ⟨fs ++ [D], _, _, _, rfl, fun c o e => ?_, ?_, ?_, ?_⟩
            · rw [upd_ne (ne_of_none e hlf)]
              exact s1215 _ _ (s12 _ _ e)
            · rw [upd_same, List.map_append]
              rfl
            · exact LsQ.move LA fun c is e n1 n2 => ⟨by rw [upd_ne n2]; exact s1215 _ _ e, n2⟩
            · rw [fsn, ef, if_pos cd]
              refine LsQ.snoc (LsQ.move LF fun c is e n1 n2 => ⟨by rw [upd_ne n2]; exact s1215 _ _ e, n2⟩) ⟨by rw [upd_ne nDlf]; exact hD15, nDp', nDlf⟩
        · have cd' : isDv b (keptC b is) = false := by
            cases hq : isDv b (keptC b is) with
            | true => exact absurd hq cd
            | false => rfl
          rw [cd']
          refine iteF ?_
          exact out (by rw [ef]; exact cd) _ s1215
    rintro σ H12 ⟨fs, v8, v9, v10, rfl, s12, hlf12, LA, LF⟩
    rw [List.length_map, ← lA, List.take_length] at LF
    have k12 : Kp p H H12 := k03.trans (Ax.Same.kp (s310.trans s12) p)
    have P12 := P10.same s12
    clear LA LSall hL10' s11 s12 hlf
    refine ⟨fun σ H7 => ∃ (lf2 : Addr) (fs2 : List Addr), σ = [some (.ref p), some (.int n), some (.int b), some (.ref fa), some (.ref L10), none, none, some (.ref lf2), v8, v9, v10, none] ∧ Kp p H H7 ∧ Purse H7 p (t + 2) ∧ H7 lf2 = some (.lst (fs2.map V.ref)) ∧ lf2 ≠ p ∧ LsQ p lf2 H7 (endD b fam) fs2, ?_, ?_⟩
    · refine ⟨_, rfl, Nat.zero_le _, fun l8 hl8 => ?_⟩
      have s8 := same_new (o := .lst []) hl8
      have k8 := k12.trans (Ax.Same.kp s8 p)
      have P8 := P12.same s8
      have LF8 : LsQ p lf (upd H12 l8 (.lst [])) (foundD b (lstD fam)) fs := LsQ.move LF fun c is e n1 n2 => ⟨s8 _ _ e, n2⟩
      refine ⟨_, .list [], .lst (SqL.of (s8 _ _ hlf12)) LF8.dp, .lst (SqL.of upd_same) .nil, lists_shaped _, by decide, _, rfl, ?_⟩
      rw [eqv_is_nil]
      by_cases c : foundD b (lstD fam) = []
      · have e : endD b fam = [[1]] := if_pos c
        rw [c]
        refine iteT ⟨(by show 1 ≤ sizeLine; decide), fun l9 hl9 => ⟨(by show 1 ≤ sizeLine; decide), fun l10 hl10 => ?_⟩⟩
        have s9 := same_new (o := .lst [.int 1]) hl9
        have s10 := same_new (o := .lst [.ref l9]) hl10
        have n910 : l9 ≠ l10 := ne_of_none (upd_same (H := upd H12 l8 (.lst [])) (a := l9) (o := .lst [.int 1])) hl10
        refine ⟨l10, [l9], rfl, k8.trans (Ax.Same.kp (s9.trans s10) p), (P8.same s9).same s10, upd_same, (P8.same s9).ne hl10, ?_⟩
        rw [e]
        exact .cons ⟨by rw [upd_ne n910]; exact upd_same, P8.ne hl9, n910⟩ .nil
      · have e : endD b fam = foundD b (lstD fam) := if_neg c
        have e0 : ((foundD b (lstD fam)).map fun is => PyData.list (is.map PyData.int)).isEmpty = false := by
          cases hq : foundD b (lstD fam) with
          | nil => exact absurd hq c
          | cons x r => rfl
        rw [e0]
        refine iteF ?_
        refine ⟨lf, fs, rfl, k8, P8, s8 _ _ hlf12, nfl, ?_⟩
        rw [e]
        exact LF8
    rintro σ H8 ⟨lf2, fs2, rfl, k8, P8, h8, n8, LE⟩
    have lE := LE.len
    refine ⟨_, rfl, _, rfl, p, n, t + 2, rfl, P8, by omega, by omega, small2000 (by omega), fun H9 z k9 P9 z0 z1 => ?_⟩
    have h9 := k9 _ _ n8 h8
    have k09 := k8.trans k9
    have LE9 : LsQ p lf2 H9 (endD b fam) fs2 := LsQ.move LE fun c is e n1 n2 => ⟨k9 _ _ n1 e, n2⟩
    refine ⟨_, _, rfl, rfl, 1 + z, rfl, by omega, by omega, fun E9 hE9 => ?_⟩
    have nEp : E9 ≠ p := P9.ne hE9
    have nlE : lf2 ≠ E9 := ne_of_none h9 hE9
    refine lc_range (lo := 0) (n := (1 + z).toNat) (fun i H' => Kp p H9 H' ∧ Purse H' p (t + 3 + 6 * i) ∧ ∃ (as : List Addr) (rs : List CRu), H' E9 = some (.lst (as.map V.ref)) ∧ rs.length = i ∧ RcsQ p E9 b H' rs as ∧ CovD b rs) ⟨kpNew hE9, P9.same (same_new hE9), [], [], upd_same, rfl, .nil, fun _ h => nomatch h⟩ ?_ ?_
    · rintro i H' hi ⟨k10, P10', as, rs, hE, len, RC, CA⟩
      refine ⟨rfl, yes_of ?_⟩
      refine ⟨_, rfl, _, rfl, _, rfl, p, lf2, fs2.map V.ref, t + 3 + 6 * i, rfl, P10', by omega, k10 _ _ n8 h9, n8, by rw [List.length_map]; omega, by rw [List.length_map]; omega, fun H11 i11 x11 k11 P11 g11 => ?_⟩
      obtain ⟨lh, elh, rfl⟩ := ref_get g11
      obtain ⟨hs, hhs, hlh, nlp, nll⟩ := LE9.get elh
      have HD := head_ok hb hfam (List.mem_of_getElem? hhs)
      have nlhE : lh ≠ E9 := ne_of_none hlh hE9
      refine ⟨_, rfl, p, 5, _, rfl, P11, by omega, by decide, small2000 (by decide), fun H12' y k12' P12' y0 y1 => ?_⟩
      refine ⟨_, _, rfl, rfl, (by show 3 ≤ sizeLine; decide), fun q13 hq13 => ?_⟩
      have kk := (k10.trans k11).trans k12'
      have s13 := same_new (o := .tup [.int b, .ref lh, .int (2 + y)]) hq13
      have hE12 := k12' _ _ nEp (k11 _ _ nEp hE)
      have hE13 := s13 _ _ hE12
      have hlh13 := s13 _ _ (kk _ _ nlp hlh)
      have asl : rs.length = as.length := Paired.length RC
      refine ⟨_, hE13, ?_, fun c o n e => ?_, ?_, as ++ [q13], rs ++ [(hs, 2 + y)], ?_, ?_, ?_, ?_⟩
      · rw [List.length_map]
        exact small1000 (by omega)
      · rw [upd_ne (ne_of_none e hE9)]
        exact s13 _ _ (kk c o n e)
      · have P13 := P12'.same s13
        obtain ⟨a, c, u, h1, r⟩ := P13
        exact Purse.le ⟨a, c, u, by rw [upd_ne nEp.symm]; exact h1, r⟩ (by omega)
      · rw [upd_same, List.map_append]
        rfl
      · rw [List.length_append, len]
        rfl
      · have RC12 := (RC.kp P10' k11).kp P11 k12'
        have RC13 : RcsQ p E9 b (upd H12' q13 (.tup [.int b, .ref lh, .int (2 + y)])) rs as := RC12.kp P12' (Ax.Same.kp s13 p)
        exact (RC13.but hE13).snoc ⟨lh, RuleC.but ⟨upd_same, hlh13⟩ hE13 nlhE, nlp, nlhE⟩
      · intro r hr
        rcases List.mem_append.mp hr with y | y
        · exact CA r y
        · rw [List.mem_singleton.mp y]
          exact ⟨HD.cov (by omega) (by omega), HD.dvd⟩
    · rintro H' ⟨k10, P10', as, rs, hE, len, RC, CA⟩
      refine q H' E9 as rs b (k09.trans k10) (P10'.le (by omega)) hE nEp RC.p CA ?_ (by omega) bb.1 bb.2
      intro y
      rw [y] at len
      simp at len
      omega
end
end Ax

namespace Ax
open PySem L2
section
variable {P : Program} {w : World} {K : PySem.W.Frag} {mg : Str → Option Value} {base : Heap} {A : Adr}
/-! ### check_rule, widened -/
def spCheck (A : Adr) : Sp := fun vs H Q _ => ∃ (r : Addr) (b : Int) (k : Kd) (ms : List Int) (most : Int) (D : RD), vs = [.ref r] ∧ RX A.c_Rule H r b k ms most D ∧ Q .non H
abbrev nm_check_rule : List Str := ["rule"]
theorem sc_check_rule : FnScope ["rule"] ["rule"] (defScope s_check_rule) := ⟨rfl, rfl, rfl, by decide +kernel, rfl, by decide +kernel, by decide +kernel⟩
theorem ok_check (T : Txt K mg A w) : FnOk P w K mg base CX0 1 A.a_check_rule A.d_check_rule ["rule"] (spCheck A) := by
  refine T.F_check_rule.ok sc_check_rule (fun vs H Q E h => ?_) (fun cdv A0 outer s H vs Q E hr h => ?_)
  · obtain ⟨r, b, k, ms, most, D, rfl, _⟩ := h
    rfl
  · obtain ⟨r, b, k, ms, most, D, rfl, x, q⟩ := h
    refine ⟨_, (pss_one (ps_if (pt_not (pt_val (pe_callB (C8.call_isC T.ic) (by rfl) T.n_isinstance (by decide +kernel) (pa_cons (pv 0) (pa_cons (pe_glob (v := .ref A.c_Rule) rfl T.c_Rule rfl) pa_nil))))) (pss_one ps_never) pss_nil)), ?_⟩
    refine ⟨_, rfl, r, D.dx, _, rfl, x.at_, _, rfl, ?_⟩
    exact iteF q
def spRedd : Sp := fun vs H Q _ => ∃ (t : Addr) (b l h d M : Int), vs = [.int b, .ref t] ∧ H t = some (.tup [.int l, .int h, .int d]) ∧ 2 ≤ b ∧ b < BIG ∧ l < h ∧ 0 ≤ d ∧ -M ≤ l ∧ h ≤ M ∧ M ≤ 2 ^ 1300 ∧
  ∀ (H' : Hp) (q : Addr) (x y z : Int), Same H H' → H q = none → H' q = some (.tup [.int x, .int y, .int z]) → Eq3 b (l, h, d) (x, y, z) → Red b (x, y, z) → Q (.ref q) H'
abbrev nm_reduced : List Str := ["base", "span"]
theorem sc_reduced : FnScope ["base", "span"] ["base", "span"] (defScope s_reduced) := ⟨rfl, rfl, rfl, by decide +kernel, rfl, by decide +kernel, by decide +kernel⟩
theorem ok_redd (T : Txt K mg A w) : FnOk P w K mg base CX0 3 A.a_reduced A.d_reduced ["base", "span"] spRedd := by
  have G_span_of : FnOk P w K mg base CX0 2 A.a_span_of A.d_span_of ["base", "shape"] spSpanOf := ok_span_of T
  have G_shape_of : FnOk P w K mg base CX0 1 A.a_shape_of A.d_shape_of ["base", "span"] spShape := ok_shape T
  refine T.F_reduced.ok sc_reduced (fun vs H Q E h => ?_) (fun cdv A0 outer s H vs Q E hr h => ?_)
  · obtain ⟨t, b, l, h, d, M, rfl, _⟩ := h
    rfl
  · obtain ⟨t, b, l, h, d, M, rfl, ht, b2, bB, lt, d0, hl, hh, hM, q⟩ := h
    refine ⟨_, (pss_one (ps_ret (pe_call G_span_of (hr.mono (by decide)) (by rfl) T.m_span_of T.F_span_of.kp T.B_span_of .nil pass0 (pa_cons (pv 0) (pa_cons (pe_call G_shape_of (hr.mono (by decide)) (by rfl) T.m_shape_of T.F_shape_of.kp T.B_shape_of .nil pass0 (pa_cons (pv 0) (pa_cons (pv 1) pa_nil))) pa_nil))))), ?_⟩
    have b1 : 1 ≤ b := by omega
    refine ⟨_, rfl, _, rfl, _, rfl, t, b, l, h, d, rfl, ht, b2, bB, lt, fun H1 q1 l1 h1 n s1 _ hq1 SH => ?_⟩
    obtain ⟨z1, z2, z3, z4⟩ := SH.bound b1 lt hl hh
    have big : (2 : Int) ^ 1300 < 2 ^ 1400 := pow_lt' (by decide) (by decide)
    have big2 : (2 : Int) ^ 1300 < 2 ^ 7000 := pow_lt' (by decide) (by decide)
    obtain ⟨a1, a2⟩ := absM (n := 1400) z1 z2 z3 (by omega)
    have pB : b ^ (-d + (n : Int)).toNat < 2 ^ 7000 := Int.lt_of_le_of_lt (Int.le_trans (pow_le' b1 (show (-d + (n : Int)).toNat ≤ n by omega)) z4) (by omega)
    refine ⟨q1, b, l1, h1, -d + n, rfl, hq1, b2, bB, a1, a2, pB, fun H2 q2 s2 q20 hq2 => ?_⟩
    have e := (sT_eq3 (d := d) SH).trans (toldT_eq b (l1, h1, -d + (n : Int))).symm
    exact q H2 q2 _ _ _ (s1.trans s2) (s1.free q20) hq2 e (toldT_red (s := (l1, h1, -d + (n : Int))) SH.no)
def spWd (A : Adr) : Sp := fun vs H Q _ => ∃ (r t : Addr) (b l h d : Int) (ms : List Int) (most : Int) (D : RD), vs = [.ref r, .ref t] ∧ RX A.c_Rule H r b .cov ms most D ∧ Cov b ms most ∧ H t = some (.tup [.int l, .int h, .int d]) ∧ l < h ∧ 0 ≤ d ∧ d ≤ 10 ∧ -(2 ^ 66) < l ∧ h < 2 ^ 66 ∧
  ∀ (H' : Hp) (q : Addr) (x y z : Int), Same H H' → H q = none → H' q = some (.tup [.int x, .int y, .int z]) → Wid b ms most (l, h, d) (x, y, z) → Red b (x, y, z) → x < y → -(2 ^ 1300) ≤ x → y ≤ 2 ^ 1300 → z < 100 → Q (.ref q) H'
abbrev nm_widened : List Str := ["rule", "span"]
theorem sc_widened : FnScope ["rule", "span"] ["rule", "span"] (defScope s_widened) := ⟨rfl, rfl, rfl, by decide +kernel, rfl, by decide +kernel, by decide +kernel⟩
theorem ok_wd (T : Txt K mg A w) : FnOk P w K mg base CX0 6 A.a_widened A.d_widened ["rule", "span"] (spWd A) := by
  have G_check_rule : FnOk P w K mg base CX0 1 A.a_check_rule A.d_check_rule ["rule"] (spCheck A) := ok_check T
  have G_check_span : FnOk P w K mg base CX0 3 A.a_check_span A.d_check_span ["span"] spCS := ok_cs T
  have G_reduced : FnOk P w K mg base CX0 3 A.a_reduced A.d_reduced ["base", "span"] spRedd := ok_redd T
  have G_widen : FnOk P w K mg base CX0 5 A.a_widen A.d_widen ["rule", "span"] (spWiden A) := ok_widen T
  have G_Rule_base := ok_pb (P := P) (base := base) T
  have G_Rule_kind := ok_pk (P := P) (base := base) T
  refine T.F_widened.ok sc_widened (fun vs H Q E h => ?_) (fun cdv A0 outer s H vs Q E hr h => ?_)
  · obtain ⟨r, t, b, l, h, d, ms, most, D, rfl, _⟩ := h
    rfl
  · obtain ⟨r, t, b, l, h, d, ms, most, D, rfl, X, C, ht, lt, d0, d10, hl, hh, q⟩ := h
    refine ⟨_, (pss_cons (ps_expr (pe_call G_check_rule (hr.mono (by decide)) (by rfl) T.m_check_rule T.F_check_rule.kp T.B_check_rule .nil pass0 (pa_cons (pv 0) pa_nil)))
  (pss_cons (ps_if (pt_cmpR op_ne (pe_prop (pv 0) T.cl T.pr_Rule_kind G_Rule_kind (hr.mono (by decide)) T.B_Rule_kind .nil pass0 rfl) pe_str (nomark _)) (pss_one ps_never) pss_nil)
  (pss_cons (ps_expr (pe_call G_check_span (hr.mono (by decide)) (by rfl) T.m_check_span T.F_check_span.kp T.B_check_span .nil pass0 (pa_cons (pv 1) pa_nil)))
  (pss_one (ps_ret (pe_call G_reduced (hr.mono (by decide)) (by rfl) T.m_reduced T.F_reduced.kp T.B_reduced .nil pass0 (pa_cons (pe_prop (pv 0) T.cl T.pr_Rule_base G_Rule_base (hr.mono (by decide)) T.B_Rule_base .nil pass0 rfl) (pa_cons (pe_call G_widen (hr.mono (by decide)) (by rfl) T.m_widen T.F_widen.kp T.B_widen .nil pass0 (pa_cons (pv 0) (pa_cons (pv 1) pa_nil))) pa_nil)))))))), ?_⟩
    have b2 := C.b2
    have b10 := C.b10
    have b1 : 1 ≤ b := by omega
    have bB : b < BIG := lt_big (n := 64) (by omega) (by decide)
    refine ⟨_, rfl, r, b, .cov, ms, most, D, rfl, X, ?_⟩
    refine ⟨_, rfl, r, D.dx, _, rfl, X.at_, r, b, .cov, ms, most, D, rfl, X, rfl, _, rfl, ?_⟩
    refine iteF ?_
    refine ⟨_, rfl, t, l, h, d, rfl, ht, lt, d0, fun H2 s2 => ?_⟩
    have X2 := X.same s2
    have rng := rng_of (d := d) (M := 2 ^ 66) (n := 66) lt (by omega) (by omega) (Int.le_refl _) (by decide) d0 (by omega)
    refine ⟨_, rfl, r, D.dx, _, rfl, X2.at_, r, b, .cov, ms, most, D, rfl, X2, ?_⟩
    refine ⟨_, rfl, _, rfl, r, t, l, h, d, b, .cov, ms, most, D, rfl, X2, C.args, s2 _ _ ht, rng, fun H3 q3 m pp s3 _ LF _ _ hq3 => ?_⟩
    have LF0 := LF.at0
    obtain ⟨w1, w2, w3, w4⟩ := C.wide (M := 2 ^ 66) lt LF0 (by omega) (by omega)
    have big : (1024 : Int) * 2 ^ 66 ≤ 2 ^ 1300 := by
      have e : (1024 : Int) * 2 ^ 66 = 2 ^ 76 := by decide
      rw [e]
      exact pow_le' (by decide) (by decide)
    have dn : 0 ≤ (if -pp > d then -pp else d) := by split <;> omega
    have dx : (if -pp > d then -pp else d) ≤ d + 7 := by split <;> omega
    refine ⟨q3, b, _, _, _, 1024 * 2 ^ 66, rfl, hq3, b2, bB, w1, dn, w2, w3, big, fun H4 q4 x y z s4 q40 hq4 eq4 red4 => ?_⟩
    obtain ⟨g1, g2, g3, g4⟩ := Red.small (M := 1024 * 2 ^ 66) b1 eq4.symm red4 dn w1 w2 w3
    have g4 : z ≤ (if -pp > d then -pp else d) := g4
    have W : Wid b ms most (l, h, d) (wLo b l m (pp + d), wHi b h m (pp + d), if -pp > d then -pp else d) := by
      have := Wid.of (T := (l, h, d)) LF0
      unfold wTri at this
      rw [show (if -pp > d then -pp else d) = d + ((-(pp + d)).toNat : Int) by split <;> omega]
      exact this
    exact q H4 q4 x y z ((s2.trans s3).trans s4) ((s2.trans s3).free q40) hq4 (W.to eq4) red4 g1 (Int.le_trans (Int.neg_le_neg big) g2) (Int.le_trans g3 big) (Int.lt_of_le_of_lt (Int.le_trans g4 dx) (by omega))
/-! ### _law_is_within -/
def spWithin : Sp := fun vs H Q _ => ∃ (s t : Addr) (b : Int) (U V : Tri), vs = [.int b, .ref s, .ref t] ∧ 2 ≤ b ∧ b ≤ 10 ∧ H s = some (.tup [.int U.1, .int U.2.1, .int U.2.2]) ∧ H t = some (.tup [.int V.1, .int V.2.1, .int V.2.2]) ∧ In b U V ∧
  0 ≤ U.2.2 ∧ U.2.2 < 100 ∧ 0 ≤ V.2.2 ∧ V.2.2 < 100 ∧ (∀ z ∈ [U.1, U.2.1, V.1, V.2.1], z.natAbs < 2 ^ 1301) ∧ ∀ H', Same H H' → Q (.bl true) H'
abbrev nm_law_is_within : List Str := ["_law_base", "_law_inner_here", "_law_outer", "_law_digits", "_law_mine", "_law_other"]
theorem sc_law_is_within : FnScope ["_law_base", "_law_inner_here", "_law_outer", "_law_digits", "_law_mine", "_law_other"] ["_law_base", "_law_inner_here", "_law_outer"] (defScope s_law_is_within) := ⟨rfl, rfl, rfl, by decide +kernel, rfl, by decide +kernel, by decide +kernel⟩
theorem ok_within (T : Txt K mg A w) : FnOk P w K mg base CX0 2 A.a_law_is_within A.d_law_is_within ["_law_base", "_law_inner_here", "_law_outer"] spWithin := by
  have G_law_raised : FnOk P w K mg base CX0 1 A.a_law_raised A.d_law_raised ["_law_base", "_law_many"] spTimes := ok_times T
  refine T.F_law_is_within.ok sc_law_is_within (fun vs H Q E h => ?_) (fun cdv A0 outer s H vs Q E hr h => ?_)
  · obtain ⟨s, t, b, U, V, rfl, _⟩ := h
    rfl
  · obtain ⟨s', t, b, U, V', rfl, b2, b10, hs, ht, inn, u0, uB, v0, vB, sm, q⟩ := h
    refine ⟨_, (pss_cons (ps_set (i := 3) sc_law_is_within.nd rfl (Or.inl rfl) (pe_callB (call_max2 rfl) (by rfl) T.n_max (by decide +kernel) (pa_cons (pe_callTy call_int1 (by rfl) T.n_int (by decide +kernel) (pa_cons (pe_ix ix_tup (pv 1) pe_int (fun _ _ => rfl)) pa_nil)) (pa_cons (pe_callTy call_int1 (by rfl) T.n_int (by decide +kernel) (pa_cons (pe_ix ix_tup (pv 2) pe_int (fun _ _ => rfl)) pa_nil)) pa_nil))))
  (pss_cons (ps_par (i := 4) (j := 5) (by rfl) sc_law_is_within.nd rfl rfl (by decide) rfl rfl (pa_cons (pe_call G_law_raised (hr.mono (by decide)) (by rfl) T.m_law_raised T.F_law_raised.kp T.B_law_raised .nil pass0 (pa_cons (pv 0) (pa_cons (pe_op op_sub (pv 3) (pe_ix ix_tup (pv 1) pe_int (fun _ _ => rfl))) pa_nil))) (pa_cons (pe_call G_law_raised (hr.mono (by decide)) (by rfl) T.m_law_raised T.F_law_raised.kp T.B_law_raised .nil pass0 (pa_cons (pv 0) (pa_cons (pe_op op_sub (pv 3) (pe_ix ix_tup (pv 2) pe_int (fun _ _ => rfl))) pa_nil))) pa_nil)) (by rfl))
  (pss_one (ps_ret (pe_and (pe_cmpR op_le (pe_op op_mulW (pe_ix ix_tup (pv 2) pe_int (fun _ _ => rfl)) (pv 5)) (pe_op op_mulW (pe_ix ix_tup (pv 1) pe_int (fun _ _ => rfl)) (pv 4)) (nomark _)) (pe_one (pe_cmpR op_le (pe_op op_mulW (pe_ix ix_tup (pv 1) pe_int (fun _ _ => rfl)) (pv 4)) (pe_op op_mulW (pe_ix ix_tup (pv 2) pe_int (fun _ _ => rfl)) (pv 5)) (nomark _)))))))), ?_⟩
    have b1 : 1 ≤ b := by omega
    have bB : b < BIG := lt_big (n := 64) (by omega) (by decide)
    refine ⟨_, rfl, s', _, _, _, rfl, rfl, SqT.of hs, atL (j := 2) rfl, .inl ⟨_, rfl, _, rfl, t, _, _, _, rfl, rfl, SqT.of ht, atL (j := 2) rfl, .inl ⟨_, rfl, _, _, rfl, ?_⟩⟩⟩
    obtain ⟨D, hD, d1, d2, d3⟩ : ∃ D : Int, (if V'.2.2 > U.2.2 then V'.2.2 else U.2.2) = D ∧ U.2.2 ≤ D ∧ V'.2.2 ≤ D ∧ D < 100 := ⟨_, rfl, by split <;> omega, by split <;> omega, by split <;> omega⟩
    rw [hD]
    refine gN (σ' := [some (.int b), some (.ref s'), some (.ref t), some (.int D), none, none]) rfl ?_
    have pB : ∀ n : Nat, n ≤ 100 → 1 ≤ b ^ n ∧ b ^ n < 2 ^ 400 := fun n hn => by
      refine ⟨pow_pos' b1 n, ?_⟩
      have h1 := pow_le' b1 hn
      have h2 := pow_base_le (a := b) (b := 10) (by omega) b10 100
      have h3 : (10 : Int) ^ 100 < 2 ^ 400 := by decide +kernel
      omega
    obtain ⟨p1, p2⟩ := pB (D - U.2.2).toNat (by omega)
    obtain ⟨p3, p4⟩ := pB (D - V'.2.2).toNat (by omega)
    refine ⟨_, rfl, _, rfl, _, rfl, s', _, _, _, rfl, rfl, SqT.of hs, atL (j := 2) rfl, _, _, rfl, rfl, b, _, rfl, b1, bB, by omega, by omega, lt_big (n := 400) p2 (by decide), ?_⟩
    refine ⟨_, rfl, _, rfl, _, rfl, t, _, _, _, rfl, rfl, SqT.of ht, atL (j := 2) rfl, _, _, rfl, rfl, b, _, rfl, b1, bB, by omega, by omega, lt_big (n := 400) p4 (by decide), ?_⟩
    refine ⟨_, _, rfl, ?_⟩
    obtain ⟨g1, g2⟩ := inn.int b1 d1 d2
    have n1 := sm U.1 (by simp)
    have n2 := sm U.2.1 (by simp)
    have n3 := sm V'.1 (by simp)
    have n4 := sm V'.2.1 (by simp)
    have m1 : (b ^ (D - U.2.2).toNat).natAbs < 2 ^ 400 := natI (by omega) p2
    have m2 : (b ^ (D - V'.2.2).toNat).natAbs < 2 ^ 400 := natI (by omega) p4
    generalize b ^ (D - U.2.2).toNat = F1 at *
    generalize b ^ (D - V'.2.2).toNat = F2 at *
    refine norm2 (σ' := [some (.int b), some (.ref s'), some (.ref t), some (.int D), some (.int F1), some (.int F2)]) rfl ?_
    refine ⟨_, rfl, t, _, _, _, rfl, rfl, SqT.of ht, atL (j := 0) rfl, _, rfl, _, _, rfl, rfl, mulW n3 m2 (by decide) (by decide), ?_⟩
    refine ⟨_, rfl, s', _, _, _, rfl, rfl, SqT.of hs, atL (j := 0) rfl, _, rfl, _, _, rfl, rfl, mulW n1 m1 (by decide) (by decide), ?_⟩
    refine ⟨_, _, rfl, rfl, ?_⟩
    refine ⟨true, by show V.bl (decide (V'.1 * F2 ≤ U.1 * F1)) = _; rw [decide_eq_true g1], iteT ?_⟩
    refine ⟨_, rfl, s', _, _, _, rfl, rfl, SqT.of hs, atL (j := 1) rfl, _, rfl, _, _, rfl, rfl, mulW n2 m1 (by decide) (by decide), ?_⟩
    refine ⟨_, rfl, t, _, _, _, rfl, rfl, SqT.of ht, atL (j := 1) rfl, _, rfl, _, _, rfl, rfl, mulW n4 m2 (by decide) (by decide), ?_⟩
    refine ⟨_, _, rfl, rfl, ?_⟩
    show Q (V.bl (decide (U.2.1 * F1 ≤ V'.2.1 * F2))) _
    rw [decide_eq_true g2]
    exact q _ (Same.refl _)
/-! ### _law_inner -/
def spInner : Sp := fun vs H Q _ => ∃ (p t : Addr) (n : Nat) (l h d : Int), vs = [.ref p, .ref t] ∧ Purse H p n ∧ n ≤ 2 ^ 17 ∧ H t = some (.tup [.int l, .int h, .int d]) ∧ l < h ∧ -(2 ^ 66) < l ∧ h < 2 ^ 66 ∧
  ∀ (H' : Hp) (q : Addr) (x y : Int), Kp p H H' → Purse H' p (n + 3) → H' q = some (.tup [.int x, .int y, .int d]) → l ≤ x → x < y → y ≤ h → Q (.ref q) H'
abbrev nm_law_inner : List Str := ["_law_purse_here", "_law_span", "_law_length", "_law_first", "_law_last"]
theorem sc_law_inner : FnScope ["_law_purse_here", "_law_span", "_law_length", "_law_first", "_law_last"] ["_law_purse_here", "_law_span"] (defScope s_law_inner) := ⟨rfl, rfl, rfl, by decide +kernel, rfl, by decide +kernel, by decide +kernel⟩
theorem ok_inner (T : Txt K mg A w) : FnOk P w K mg base CX0 2 A.a_law_inner A.d_law_inner ["_law_purse_here", "_law_span"] spInner := by
  have G_law_draw : FnOk P w K mg base CX0 1 A.a_law_draw A.d_law_draw ["_law_purse_here", "_law_many"] spDraw := ok_draw T
  refine T.F_law_inner.ok sc_law_inner (fun vs H Q E h => ?_) (fun cdv A0 outer s H vs Q E hr h => ?_)
  · obtain ⟨p, t, n, l, h, d, rfl, _⟩ := h
    rfl
  · obtain ⟨p, t, n, l, h, d, rfl, hP, hn, ht, lt, bl, bh, q⟩ := h
    refine ⟨_, (pss_cons (ps_set (i := 2) sc_law_inner.nd rfl (Or.inl rfl) (pe_op op_sub (pe_ix ix_tup (pv 1) pe_int (fun _ _ => rfl)) (pe_ix ix_tup (pv 1) pe_int (fun _ _ => rfl))))
  (pss_cons (ps_par (i := 3) (j := 4) (by rfl) sc_law_inner.nd rfl rfl (by decide) rfl rfl (pa_cons (pe_call G_law_draw (hr.mono (by decide)) (by rfl) T.m_law_draw T.F_law_draw.kp T.B_law_draw .nil pass0 (pa_cons (pv 0) (pa_cons (pv 2) pa_nil))) (pa_cons (pe_call G_law_draw (hr.mono (by decide)) (by rfl) T.m_law_draw T.F_law_draw.kp T.B_law_draw .nil pass0 (pa_cons (pv 0) (pa_cons (pv 2) pa_nil))) pa_nil)) (by rfl))
  (pss_cons (ps_if (pt_cmpR op_eq (pe_call G_law_draw (hr.mono (by decide)) (by rfl) T.m_law_draw T.F_law_draw.kp T.B_law_draw .nil pass0 (pa_cons (pv 0) (pa_cons pe_int pa_nil))) pe_int (nomark _)) (pss_one (ps_set (i := 3) sc_law_inner.nd rfl (Or.inl rfl) pe_int)) pss_nil)
  (pss_one (ps_ret (pe_tup (pa_cons (pe_op op_add (pe_ix ix_tup (pv 1) pe_int (fun _ _ => rfl)) (pe_callB (call_min2 rfl) (by rfl) T.n_min (by decide +kernel) (pa_cons (pe_callTy call_int1 (by rfl) T.n_int (by decide +kernel) (pa_cons (pv 3) pa_nil)) (pa_cons (pe_callTy call_int1 (by rfl) T.n_int (by decide +kernel) (pa_cons (pv 4) pa_nil)) pa_nil)))) (pa_cons (pe_op op_add (pe_op op_add (pe_ix ix_tup (pv 1) pe_int (fun _ _ => rfl)) (pe_callB (call_max2 rfl) (by rfl) T.n_max (by decide +kernel) (pa_cons (pe_callTy call_int1 (by rfl) T.n_int (by decide +kernel) (pa_cons (pv 3) pa_nil)) (pa_cons (pe_callTy call_int1 (by rfl) T.n_int (by decide +kernel) (pa_cons (pv 4) pa_nil)) pa_nil)))) pe_int) (pa_cons (pe_ix ix_tup (pv 1) pe_int (fun _ _ => rfl)) pa_nil))))))))), ?_⟩
    have e66 : (2 : Int) ^ 66 = 73786976294838206464 := by decide
    have e17 : (2 : Nat) ^ 17 = 131072 := by decide
    have e20 : (2 : Nat) ^ 20 = 1048576 := by decide
    refine ⟨_, rfl, t, _, _, _, rfl, rfl, SqT.of ht, atL (j := 1) rfl, _, rfl, t, _, _, _, rfl, rfl, SqT.of ht, atL (j := 0) rfl, _, _, rfl, rfl, ?_⟩
    refine gN (σ' := [some (.ref p), some (.ref t), some (.int (h - l)), none, none]) rfl ?_
    have big : h - l < 2 ^ 2000 := by
      have : (2 : Int) ^ 67 ≤ 2 ^ 2000 := pow_le' (by decide) (by decide)
      have e67 : (2 : Int) ^ 67 = 147573952589676412928 := by decide
      omega
    refine ⟨_, rfl, _, rfl, p, h - l, n, rfl, hP, by omega, by omega, big, fun H1 f1 k1 P1 f10 f11 => ?_⟩
    refine ⟨_, rfl, _, rfl, p, h - l, _, rfl, P1, by omega, by omega, big, fun H2 f2 k2 P2 f20 f21 => ?_⟩
    refine ⟨_, _, rfl, ?_⟩
    refine norm2 (σ' := [some (.ref p), some (.ref t), some (.int (h - l)), some (.int f1), some (.int f2)]) rfl ?_
    refine ⟨_, rfl, p, 3, _, rfl, P2, by omega, by decide, small2000 (by decide), fun H3 f3 k3 P3 f30 f31 => ?_⟩
    have k03 := (k1.trans k2).trans k3
    have ht3 := kpT k03 hP ht
    refine ⟨rfl, _, rfl, ?_⟩
    refine ite2 (fun hc => ?_) (fun hc => ?_)
    · refine gN (σ' := [some (.ref p), some (.ref t), some (.int (h - l)), some (.int 0), some (.int f2)]) rfl ?_
      refine ⟨_, rfl, t, _, _, _, rfl, rfl, SqT.of ht3, atL (j := 0) rfl, _, rfl, .inl ⟨_, rfl, _, rfl, .inl ⟨_, rfl, _, _, rfl, _, _, rfl, rfl, _, rfl, t, _, _, _, rfl, rfl, SqT.of ht3, atL (j := 0) rfl, _, rfl, .inl ⟨_, rfl, _, rfl, .inl ⟨_, rfl, _, _, rfl, _, _, rfl, rfl, _, _, rfl, rfl, _, rfl, t, _, _, _, rfl, rfl, SqT.of ht3, atL (j := 2) rfl, (by show 3 ≤ sizeLine; decide), fun q4 hq4 => ?_⟩⟩⟩⟩⟩
      exact q _ q4 _ _ (k03.trans (kpNew hq4)) (P3.same (same_new hq4)) upd_same (by split <;> omega) (by split <;> split <;> omega) (by split <;> omega)
    · refine ⟨_, rfl, t, _, _, _, rfl, rfl, SqT.of ht3, atL (j := 0) rfl, _, rfl, .inl ⟨_, rfl, _, rfl, .inl ⟨_, rfl, _, _, rfl, _, _, rfl, rfl, _, rfl, t, _, _, _, rfl, rfl, SqT.of ht3, atL (j := 0) rfl, _, rfl, .inl ⟨_, rfl, _, rfl, .inl ⟨_, rfl, _, _, rfl, _, _, rfl, rfl, _, _, rfl, rfl, _, rfl, t, _, _, _, rfl, rfl, SqT.of ht3, atL (j := 2) rfl, (by show 3 ≤ sizeLine; decide), fun q4 hq4 => ?_⟩⟩⟩⟩⟩
      exact q _ q4 _ _ (k03.trans (kpNew hq4)) (P3.same (same_new hq4)) upd_same (by split <;> omega) (by split <;> split <;> omega) (by split <;> omega)
end
end Ax

namespace Ax
open PySem L2
theorem PairedSnoc {α β : Type} {R : α → β → Prop} {x : α} {y : β} (h : R x y) : ∀ {xs : List α} {ys : List β}, Paired R xs ys → Paired R (xs ++ [x]) (ys ++ [y])
  | _, _, .nil => .cons h .nil
  | _, _, .cons g r => .cons g (PairedSnoc h r)
theorem PairedApp {α β : Type} {R : α → β → Prop} {xs' : List α} {ys' : List β} (h : Paired R xs' ys') : ∀ {xs : List α} {ys : List β}, Paired R xs ys → Paired R (xs ++ xs') (ys ++ ys')
  | _, _, .nil => h
  | _, _, .cons g r => .cons g (PairedApp h r)
theorem PairedRev {α β : Type} {R : α → β → Prop} : ∀ {xs : List α} {ys : List β}, Paired R xs ys → Paired R xs.reverse ys.reverse
  | _, _, .nil => .nil
  | _, _, .cons g r => by
    rw [List.reverse_cons, List.reverse_cons]
    exact PairedSnoc g (PairedRev r)
theorem PairedTake {α β : Type} {R : α → β → Prop} : ∀ {xs : List α} {ys : List β} (n : Nat), Paired R xs ys → Paired R (xs.take n) (ys.take n)
  | _, _, 0, _ => .nil
  | _, _, _ + 1, .nil => .nil
  | _, _, n + 1, .cons g r => .cons g (PairedTake n r)
theorem PairedDrop {α β : Type} {R : α → β → Prop} : ∀ {xs : List α} {ys : List β} (n : Nat), Paired R xs ys → Paired R (xs.drop n) (ys.drop n)
  | _, _, 0, h => h
  | _, _, _ + 1, .nil => .nil
  | _, _, n + 1, .cons _ r => PairedDrop n r
theorem mem_turn {α : Type} (rs : List α) (r : α) : r ∈ rs.drop 1 ++ rs.take 1 ↔ r ∈ rs := by
  rw [List.mem_append, Or.comm, ← List.mem_append, List.take_append_drop]
theorem mem_back {α : Type} (rs : List α) (r : α) : r ∈ rs ++ rs.take 1 ↔ r ∈ rs := by
  rw [List.mem_append]
  exact ⟨fun h => h.elim id List.mem_of_mem_take, .inl⟩
theorem mem_front {α : Type} (rs : List α) (r : α) : r ∈ rs.take 1 ++ rs ↔ r ∈ rs := by
  rw [List.mem_append]
  exact ⟨fun h => h.elim List.mem_of_mem_take id, .inr⟩
section
variable {P : Program} {w : World} {K : PySem.W.Frag} {mg : Str → Option Value} {base : Heap} {A : Adr}
/-! ### _law_ends_alike -/
def spAlk (A : Adr) : Sp := fun vs H Q _ => ∃ (M t : Addr) (ms : List Addr) (rs : List CRu) (b l h d : Int), vs = [.ref M, .ref t] ∧ H M = some (.lst (ms.map V.ref)) ∧ RlsAt A.c_Rule b H rs ms ∧ CovD b rs ∧ rs ≠ [] ∧ rs.length ≤ 2 ∧
  H t = some (.tup [.int l, .int h, .int d]) ∧ l < h ∧ 0 ≤ d ∧ d ≤ 10 ∧ -(2 ^ 66) < l ∧ h < 2 ^ 66 ∧ ∀ H', Same H H' → Q (.bl true) H'
abbrev nm_law_ends_alike : List Str := ["_law_made", "_law_span", "_law_told", "_law_other", "_law_again"]
theorem sc_law_ends_alike : FnScope ["_law_made", "_law_span", "_law_told", "_law_other", "_law_again"] ["_law_made", "_law_span"] (defScope s_law_ends_alike) := ⟨rfl, rfl, rfl, by decide +kernel, rfl, by decide +kernel, by decide +kernel⟩
theorem ok_alk (T : Txt K mg A w) : FnOk P w K mg base CX0 9 A.a_law_ends_alike A.d_law_ends_alike ["_law_made", "_law_span"] (spAlk A) := by
  have G_settle : FnOk P w K mg base CX0 8 A.a_settle A.d_settle ["rules", "span"] (spSettle A) := ok_settle T
  refine T.F_law_ends_alike.ok sc_law_ends_alike (fun vs H Q E h => ?_) (fun cdv A0 outer s H vs Q E hr h => ?_)
  · obtain ⟨M, t, ms, rs, b, l, h, d, rfl, _⟩ := h
    rfl
  · obtain ⟨M, t, ms, rs, b, l, h, d, rfl, hM, RA, CD, ne, le2, ht, lt, d0, d10, hl, hh, q⟩ := h
    refine ⟨_, (pss_cons (ps_set (i := 2) sc_law_ends_alike.nd rfl (Or.inl rfl) (pe_call G_settle (hr.mono (by decide)) (by rfl) T.m_settle T.F_settle.kp T.B_settle .nil pass0 (pa_cons (pv 0) (pa_cons (pv 1) pa_nil))))
  (pss_cons (ps_for PassesOwn.never rfl (pi_list (pe_lst (pa_cons (pe_revL (pv 0)) (pa_cons (pe_op op_cat (pe_slice sl_list (pv 0) (po_some pe_int) po_none) (pe_slice sl_list (pv 0) po_none (po_some pe_int))) (pa_cons (pe_op op_cat (pv 0) (pe_slice sl_list (pv 0) po_none (po_some pe_int))) (pa_cons (pe_op op_cat (pe_slice sl_list (pv 0) po_none (po_some pe_int)) (pv 0)) pa_nil)))))) (pg_name (i := 3) sc_law_ends_alike.nd rfl (Or.inl rfl))
  (pss_cons (ps_set (i := 4) sc_law_ends_alike.nd rfl (Or.inl rfl) (pe_call G_settle (hr.mono (by decide)) (by rfl) T.m_settle T.F_settle.kp T.B_settle .nil pass0 (pa_cons (pv 3) (pa_cons (pv 1) pa_nil))))
  (pss_one (ps_if (PW.pt (pw_or (pt_cmpR op_ne (pe_ix ix_tup (pv 4) pe_int (fun _ _ => rfl)) (pe_ix ix_tup (pv 2) pe_int (fun _ _ => rfl)) (nomark _)) (pw_or1 (PW.pt (pw_and (pt_cmpR op_eq (pe_ix ix_tup (pv 2) pe_int (fun _ _ => rfl)) pe_str (nomark _)) (pw_and1 (pt_cmpR (op_neD hr.units) (pe_ix ix_tup (pv 4) pe_int (fun _ _ => rfl)) (pe_ix ix_tup (pv 2) pe_int (fun _ _ => rfl)) (nomark _)))))))) (pss_one (ps_ret pe_bl)) pss_nil))))
  (pss_one (ps_ret pe_bl)))), ?_⟩
    have cv := CD.cov
    have CA : CovAll b rs := cv
    have C0 := cv _ (List.getLast_mem ne)
    have b2 := C0.b2
    have b1 : 1 ≤ b := by omega
    refine ⟨_, rfl, _, rfl, M, t, ms, rs, b, l, h, d, rfl, hM, RA, CA, ne, by omega, ht, lt, d0, fun l3 h3 n SH => mild_of ne (by omega) cv lt d0 hl hh SH, fun H1 q1 S I J n1 s1 q10 SH p0 J979 CO TD => ?_⟩
    refine gN (σ' := [some (.ref M), some (.ref t), some (.ref q1), none, none]) rfl ?_
    have hM1 := s1 _ _ hM
    have ml : rs.length = ms.length := RA.len
    have ec1 : cutV (ms.map V.ref) (some 1) none = (ms.drop 1).map V.ref := by
      have := cut_from (ms.map V.ref) 1
      rw [List.map_drop]
      exact this
    have ec2 : cutV (ms.map V.ref) none (some 1) = (ms.take 1).map V.ref := by
      have := cut_to (ms.map V.ref) 1
      rw [List.map_take]
      exact this
    have le : ∀ xs ys : List Addr, xs.length ≤ 2 → ys.length ≤ 2 → (xs.map V.ref).length + (ys.map V.ref).length ≤ sizeLine := fun xs ys h1 h2 => by
      rw [List.length_map, List.length_map]
      exact Nat.le_of_lt (small1000 (by omega))
    refine ⟨_, rfl, M, _, rfl, SqL.of hM1, fun r1 hr1 => ?_⟩
    rw [← List.map_reverse]
    have a1 := same_new (o := .lst (ms.reverse.map V.ref)) hr1
    refine absP (fun Hd => Same H1 Hd ∧ Hd r1 = some (.lst (ms.reverse.map V.ref))) ⟨a1, upd_same⟩ ?_
    rintro H2 ⟨s2, hr1'⟩
    refine ⟨_, rfl, 1, rfl, M, _, rfl, SqL.of (s2 _ _ hM1), fun p2 hp2 => ?_⟩
    rw [ec1]
    have a2 := same_new (o := .lst ((ms.drop 1).map V.ref)) hp2
    refine absP (fun Hd => Same H2 Hd ∧ Hd p2 = some (.lst ((ms.drop 1).map V.ref))) ⟨a2, upd_same⟩ ?_
    rintro H3 ⟨s3, hp2'⟩
    refine ⟨_, rfl, 1, rfl, M, _, rfl, SqL.of (s3 _ _ (s2 _ _ hM1)), fun p3 hp3 => ?_⟩
    rw [ec2]
    have a3 := same_new (o := .lst ((ms.take 1).map V.ref)) hp3
    refine absP (fun Hd => Same H3 Hd ∧ Hd p3 = some (.lst ((ms.take 1).map V.ref))) ⟨a3, upd_same⟩ ?_
    rintro H4 ⟨s4, hp3'⟩
    refine ⟨p2, p3, _, _, rfl, rfl, s4 _ _ hp2', hp3', le _ _ (by rw [List.length_drop]; omega) (by rw [List.length_take]; omega), fun c4 hc4 => ?_⟩
    rw [← List.map_append]
    have a4 := same_new (o := .lst ((ms.drop 1 ++ ms.take 1).map V.ref)) hc4
    refine absP (fun Hd => Same H4 Hd ∧ Hd c4 = some (.lst ((ms.drop 1 ++ ms.take 1).map V.ref))) ⟨a4, upd_same⟩ ?_
    rintro H5 ⟨s5, hc4'⟩
    have s25 := s2.trans (s3.trans (s4.trans s5))
    refine ⟨_, rfl, _, rfl, 1, rfl, M, _, rfl, SqL.of (s25 _ _ hM1), fun p5 hp5 => ?_⟩
    rw [ec2]
    have a5 := same_new (o := .lst ((ms.take 1).map V.ref)) hp5
    refine absP (fun Hd => Same H5 Hd ∧ Hd p5 = some (.lst ((ms.take 1).map V.ref))) ⟨a5, upd_same⟩ ?_
    rintro H6 ⟨s6, hp5'⟩
    refine ⟨M, p5, _, _, rfl, rfl, s6 _ _ (s25 _ _ hM1), hp5', le _ _ (by omega) (by rw [List.length_take]; omega), fun c6 hc6 => ?_⟩
    rw [← List.map_append]
    have a6 := same_new (o := .lst ((ms ++ ms.take 1).map V.ref)) hc6
    refine absP (fun Hd => Same H6 Hd ∧ Hd c6 = some (.lst ((ms ++ ms.take 1).map V.ref))) ⟨a6, upd_same⟩ ?_
    rintro H7 ⟨s7, hc6'⟩
    have s27 := s25.trans (s6.trans s7)
    refine ⟨_, rfl, 1, rfl, M, _, rfl, SqL.of (s27 _ _ hM1), fun p7 hp7 => ?_⟩
    rw [ec2]
    have a7 := same_new (o := .lst ((ms.take 1).map V.ref)) hp7
    refine absP (fun Hd => Same H7 Hd ∧ Hd p7 = some (.lst ((ms.take 1).map V.ref))) ⟨a7, upd_same⟩ ?_
    rintro H8 ⟨s8, hp7'⟩
    refine ⟨_, rfl, p7, M, _, _, rfl, rfl, hp7', s8 _ _ (s27 _ _ hM1), le _ _ (by rw [List.length_take]; omega) (by omega), fun c8 hc8 => ?_⟩
    rw [← List.map_append]
    have a8 := same_new (o := .lst ((ms.take 1 ++ ms).map V.ref)) hc8
    refine absP (fun Hd => Same H8 Hd ∧ Hd c8 = some (.lst ((ms.take 1 ++ ms).map V.ref))) ⟨a8, upd_same⟩ ?_
    rintro H9 ⟨s9, hc8'⟩
    refine ⟨(by show 4 ≤ sizeLine; decide), fun l9 hl9 => ?_⟩
    have a9 := same_new (o := .lst [.ref r1, .ref c4, .ref c6, .ref c8]) hl9
    have s29 := s27.trans (s8.trans s9)
    refine absP (fun Hd => Same H9 Hd ∧ Hd l9 = some (.lst [.ref r1, .ref c4, .ref c6, .ref c8])) ⟨a9, upd_same⟩ ?_
    rintro H10 ⟨s10, hl9'⟩
    have s210 := s29.trans s10
    have s110 := s1.trans s210
    have RA10 := RA.same s110
    have alts : ∀ y ∈ ([.ref r1, .ref c4, .ref c6, .ref c8] : List V), ∃ (o : Addr) (as : List Addr) (rs' : List CRu), y = .ref o ∧ H10 o = some (.lst (as.map V.ref)) ∧ RlsAt A.c_Rule b H10 rs' as ∧ (∀ r, r ∈ rs' ↔ r ∈ rs) ∧ rs' ≠ [] ∧ rs'.length ≤ 3 := fun y hy => by
      have nz : ∀ rs' : List CRu, (∀ r, r ∈ rs' ↔ r ∈ rs) → rs' ≠ [] := fun rs' h z => by
        obtain ⟨r, hr⟩ := List.exists_mem_of_ne_nil rs ne
        have := (h r).mpr hr
        rw [z] at this
        cases this
      have hM10 := s210 _ _ hM1
      simp only [List.mem_cons, List.not_mem_nil, or_false] at hy
      rcases hy with rfl | rfl | rfl | rfl
      · have mm : ∀ r, r ∈ rs.reverse ↔ r ∈ rs := fun r => List.mem_reverse
        exact ⟨r1, ms.reverse, rs.reverse, rfl, (s3.trans (s4.trans (s5.trans (s6.trans (s7.trans (s8.trans (s9.trans s10))))))) _ _ hr1', PairedRev RA10, mm, nz _ mm, by rw [List.length_reverse]; omega⟩
      · exact ⟨c4, _, rs.drop 1 ++ rs.take 1, rfl, (s6.trans (s7.trans (s8.trans (s9.trans s10)))) _ _ hc4', PairedApp (PairedTake 1 RA10) (PairedDrop 1 RA10), mem_turn rs, nz _ (mem_turn rs), by rw [List.length_append, List.length_drop, List.length_take]; omega⟩
      · exact ⟨c6, _, rs ++ rs.take 1, rfl, (s8.trans (s9.trans s10)) _ _ hc6', PairedApp (PairedTake 1 RA10) RA10, mem_back rs, nz _ (mem_back rs), by rw [List.length_append, List.length_take]; omega⟩
      · exact ⟨c8, _, rs.take 1 ++ rs, rfl, s10 _ _ hc8', PairedApp RA10 (PairedTake 1 RA10), mem_front rs, nz _ (mem_front rs), by rw [List.length_append, List.length_take]; omega⟩
    have lt0 := (Shp.bound (M := max (-l) h) SH b1 lt (by omega) (by omega)).1
    have ht10 := s110 _ _ ht
    have TD10 := TD.same s210
    clear a1 a2 a3 a4 a5 a6 a7 a8 a9
    refine ⟨l9, rfl, ⟨_, SqL.of hl9'⟩, for_list (K := K) (a := l9) (xs := [.ref r1, .ref c4, .ref c6, .ref c8]) (fun i σ H' => ∃ v3 v4 : Option V, σ = [some (.ref M), some (.ref t), some (.ref q1), v3, v4] ∧ Same H10 H') ⟨_, _, rfl, Same.refl _⟩ (fun i σ H' _ ⟨_, _, _, s⟩ => SqL.of (s _ _ hl9')) ?_ ?_⟩
    · rintro i y σ H11 hi ⟨v3, v4, rfl, s11⟩
      obtain ⟨o, as, rs', rfl, ho, RA', mm, ne', le3'⟩ := alts y (List.mem_of_getElem? hi)
      have CD' : CovD b rs' := fun r hr => CD r ((mm r).mp hr)
      refine gN (σ' := [some (.ref M), some (.ref t), some (.ref q1), some (.ref o), v4]) rfl ?_
      refine ⟨_, rfl, _, rfl, o, t, as, rs', b, l, h, d, rfl, s11 _ _ ho, RA'.same s11, CD'.cov, ne', le3', s11 _ _ ht10, lt, d0, fun l3 h3 n SH => mild_of ne' le3' CD'.cov lt d0 hl hh SH, fun H12 q2 S2 I2 J2 n2 s12 q20 SH2 p2 J2979 CO2 TD2 => ?_⟩
      refine gN (σ' := [some (.ref M), some (.ref t), some (.ref q1), some (.ref o), some (.ref q2)]) rfl ?_
      have TD12 := TD10.same (s11.trans s12)
      obtain ⟨u1, u2, u3⟩ := Shp.uniq b2 lt SH SH2
      have e0 : S 0 = S2 0 := Prod.ext u1 (Prod.ext u2 (by omega))
      obtain ⟨iff, eqE⟩ := ends_alike b2 ne ne' CD mm CO CO2 lt0 e0
      have fin : ∃ v3 v4 : Option V, [some (V.ref M), some (.ref t), some (.ref q1), some (.ref o), some (.ref q2)] = [some (V.ref M), some (.ref t), some (.ref q1), v3, v4] ∧ Same H10 H12 := ⟨_, _, rfl, s11.trans s12⟩
      rcases TD12 with ⟨dp, sp1, h1, h2⟩ | ⟨dp, h1⟩
      · rcases TD2 with ⟨dp2, sp2, g1, g2⟩ | ⟨dp2, g1⟩
        · refine ⟨_, rfl, q2, _, _, _, rfl, rfl, SqT.of g1, atL (j := 0) rfl, _, rfl, q1, _, _, _, rfl, rfl, SqT.of h1, atL (j := 0) rfl, rfl, _, rfl, ?_⟩
          rw [decide_eq_true rfl]
          refine iteF ?_
          refine ⟨_, rfl, q1, _, _, _, rfl, rfl, SqT.of h1, atL (j := 0) rfl, rfl, _, rfl, ?_⟩
          rw [decide_eq_true rfl]
          refine iteT ?_
          refine ⟨_, rfl, q2, _, _, _, rfl, rfl, SqT.of g1, atL (j := 1) rfl, _, rfl, q1, _, _, _, rfl, rfl, SqT.of h1, atL (j := 1) rfl, ?_⟩
          refine ⟨_, _, Dp.tup (SqT.of g2) (.cons (.int _) (.cons (.int _) (.cons (.int _) .nil))), Dp.tup (SqT.of h2) (.cons (.int _) (.cons (.int _) (.cons (.int _) .nil))), rfl, rfl, _, rfl, ?_⟩
          rw [eqv3]
          have ee := eqE dp
          have ed : decide (((S2 I2).1 * b ^ (S2 I2).2.2.toNat, (S2 I2).2.1 * b ^ (S2 I2).2.2.toNat, ((-(S2 I2).2.2).toNat : Int)) = ((S I).1 * b ^ (S I).2.2.toNat, (S I).2.1 * b ^ (S I).2.2.toNat, ((-(S I).2.2).toNat : Int))) = true := decide_eq_true ee
          rw [ed]
          exact iteF fin
        · exact absurd (iff.mp dp) dp2
      · rcases TD2 with ⟨dp2, sp2, g1, g2⟩ | ⟨dp2, g1⟩
        · exact absurd (iff.mpr dp2) dp
        · refine ⟨_, rfl, q2, _, _, _, rfl, rfl, SqT.of g1, atL (j := 0) rfl, _, rfl, q1, _, _, _, rfl, rfl, SqT.of h1, atL (j := 0) rfl, rfl, _, rfl, ?_⟩
          rw [decide_eq_true rfl]
          refine iteF ?_
          refine ⟨_, rfl, q1, _, _, _, rfl, rfl, SqT.of h1, atL (j := 0) rfl, rfl, _, rfl, ?_⟩
          refine iteF ?_
          exact fin
    · rintro σ H11 ⟨v3, v4, rfl, s11⟩
      exact q _ (s110.trans s11)
end
end Ax

/-! # Promises of defs that are called where no guard stands below: they may tell texts of data (repr). -/
namespace Ax
open PySem PySem.Spec PyProof.Rows L2
structure FnG (P : Program) (w : World) (K : PySem.W.Frag) (mg : Str → Option Value) (base : Heap) (k : Nat) (f : Addr) (fd : FuncData) (ps : List Str) (sp : Sp) : Prop where
  many : ∀ vs H Q E, sp vs H Q E → vs.length = ps.length
  go : ∀ {A : Around} {callers : List Env} {st : Shared} {H : Hp} {ar : Args} {us : List Value} {vs : List V} {Q : VK} {E : XK}, A.guards = some [] → Room k A →
    Env0 P w K mg base A callers st H → BindsTo st fd ar (ps.zip us) → Vals vs us → sp vs H Q E →
    codeAny (model P w) A (.call (.ref f) ar) (CR CX0 callers P w H st Q E) st
section
variable {P : Program} {w : World} {K : PySem.W.Frag} {mg : Str → Option Value} {base : Heap} {k : Nat} {f : Addr} {fd : FuncData} {ps N : List Str} {sp : Sp}
/-- by its body -/
theorem fnG {x qual : Str} {d : Stmt} (F : Fun K x qual d f fd) (S : FnScope N ps (defScope d)) (many : ∀ vs H Q E, sp vs H Q E → vs.length = ps.length)
    (body : ∀ (cd : Value) (A : Around) (callers : List Env) (st : Shared) (H : Hp) (vs : List V) (Q : VK) (E : XK), A.guards = some [] → Room k (A.deeper (envOfC qual (defScope d) st.heap.objs.size f cd)) → sp vs H Q E →
      ∃ t, PSs (cxOf CX0 P w K mg base N qual (defScope d) f cd A callers st H E).nox (defBody d) t ∧ t ⟨fun _ H' => Q .non H', Q, fun _ _ => False, fun _ _ => False⟩ (L2.start N vs) H) :
    FnG P w K mg base (k + 1) f fd ps sp := by
  obtain ⟨_, _, _, _, _, _, cd, _, _, rfl, look, isCode⟩ := F.ex
  constructor
  · exact many
  · intro A callers st H ar us vs Q E hg room en bi rel hsp
    have old : ∀ b o, base.get? b = some o → st.heap.get? b = some o := fun b o e => (en.bs b o e).1
    have inK := en.mod.kin.keeps old
    have free := en.mod.nolimit.keeps old
    have kinds : ∀ y ∈ ps.zip us, (defScope d).names.lookup y.1 = some .local ∨ (defScope d).names.lookup y.1 = some .cell ∧ ((cellsFrom (st.heap.objs.size + 1) (defScope d).names []).lookup y.1).isSome = true := by
      rintro ⟨n, u⟩ hy
      exact (S.par n (List.of_mem_zip hy).1).imp id fun z => ⟨z, PySem.W.cellsFrom_some _ _ _ (.inl z)⟩
    refine codeAny_call_function room.depth (inK _ _ look) rfl S.co S.gen rfl (PySem.W.codeRec_of inK isCode) (bi _ _ _ _ (wpAny_newFunctionEnv_cells S.kind kinds ?_))
    rintro _ rfl s1 fresh
    refine ⟨free.keeps fresh.toInCall.keep, codeAny_func ?_⟩
    obtain ⟨t, read, now⟩ := body cd A callers st H vs Q E hg (room.deeper _) hsp
    have start := inv_start (CX := CX0) (E := E) S room.hd en (many _ _ _ _ hsp) rel fresh
    refine wpAny_mono (read.nox.run [] s1 (L2.start N vs) H _ start now) ?_ fun _ _ z => z
    intro fl s2 hs
    have out : ∀ {σ' : L2.St} {H' : Hp} {v : V} {u : Value}, Inv (cxOf CX0 P w K mg base N qual (defScope d) f cd A callers st H E) [] σ' H' s2 → RelV v u → Q v H' → CE callers P w H st Q u s2 :=
      fun J r q => ⟨_, _, J.os, J.bare, J.base, J.hok, r, q⟩
    match fl, hs with
    | .ret u, ⟨v, σ', H', J, r, q⟩ => exact out J r q
    | .next, ⟨σ', H', J, q⟩ => exact out (v := .non) (u := .none) J rfl q
    | .brk, ⟨_, _, _, q⟩ => exact q.elim
    | .cont, ⟨_, _, _, q⟩ => exact q.elim
end
/-! ### its call -/
section
variable {X : Cx} {k : Nat} {f : Addr} {fd : FuncData} {ps : List Str} {sp : Sp} {E : XK} {x : Str} {p pos : Pos} {e : Expr} {es : List Expr} {t : TA}
theorem pe_callG (F : FnG X.prog X.w X.K X.mg X.base k f fd ps sp) (gu : X.A.guards = some []) (room : Room k X.A) (gl : Gl X x) (hm : X.mg x = some (.ref f)) (kp : PySem.W.keepIn X.K (.ref f) = true) (bi : Binds X.K fd ps []) (ps0 : Passes CX0 X E)
    (args : PA X (e :: es) t) (nd : (x == ("__debug__" : Str)) = false := by decide) (st1 : starEach (e :: es) X.env = (false, eval e X.env) :: starEach es X.env := by rfl)
    (st2 : (backTo pos (starEach es X.env)).any (·.1) = false := by rfl) : PE X (.Call (.Name x p) (e :: es) [] pos) (tCall sp [] E t) := by
  constructor
  intro pins s σ H Q I h
  refine wpAny_Call_Name_kw (ld_glob I gl hm (PySem.W.callWith_K (h₀ := X.base) I.ok.mod.kin kp (thn (args.run pos pins s σ H _ I h) ?_) st1 st2) nd)
  rintro us s1 ⟨vs, H1, I1, rel, now⟩
  refine ⟨I1.kIn, ?_⟩
  have rel' : Vals (vs ++ []) (us ++ []) := rel.append .nil
  have len : (us ++ []).length = ps.length := rel'.length.symm.trans (F.many _ _ _ _ now)
  refine wpAny_call (codeAny_mono (F.go gu room I1.env0 (bi s1 us I1.kIn len) rel' now) ?_)
  rintro (er | fl) s2 z
  · exact ps0 pins σ H1 s1 er s2 I1 z
  · match fl, z with
    | .ret u, z => exact I1.after z
    | .next, z => exact z.elim
    | .brk, z => exact z.elim
    | .cont, z => exact z.elim
end
/-! ### the law's call -/
theorem lawG {P : Program} {w : World} {K : PySem.W.Frag} {mg mb : Str → Option Value} {k : Nat} {fa a : Addr} {fd : FuncData} {x : Str} {sp : Sp} {st : Shared} {vs : List Value} {ns : List Int}
    (inK : K.In st.heap) (gl : st.heap.Ns mainGlobals mg) (bl : st.heap.Ns builtinsNs mb) (bb : ∀ y : Str, y ≠ "__name__" → mb y = bootBuiltins y) (free : st.heap.NoLimit) (gens : st.gens = #[])
    (at_ : st.heap.get? a = some { cls := .type "list", data := .seq vs.toArray }) (isI : IntsAre vs ns) (few : ns.length ≤ sizeLine) (room : Room k callerA)
    (F : ∀ base : Heap, K.In base → base.Ns mainGlobals mg → FnG P w K mg base k fa fd [x] sp) (bi : ∀ (s : Shared) (u : Value), BindsTo s fd ⟨[u], []⟩ [(x, u)])
    (hsp : ∀ H : Hp, SqL K H a (ns.map V.int) → sp [.ref a] H (fun v _ => v = .bl true) fun _ _ _ => False) :
    codeAny (model P w) callerA (.call (.ref fa) ⟨[.ref a], []⟩) (fun r s' => r = .ok (.ret (.bool true)) ∧ OldK st.heap s'.heap ∧ s'.os = st.os ∧ AllBare s'.gens) st := by
  have rel := vals_ints isI
  obtain ⟨ob, eob⟩ : ∃ ob : Obj, ob = { cls := .type "list", data := .seq vs.toArray } := ⟨_, rfl⟩
  obtain ⟨H, eH⟩ : ∃ H : Hp, H = fun b => if b = a ∧ K.lookup a = none then some (.frz ob (.lst (ns.map V.int))) else none := ⟨_, rfl⟩
  have only : ∀ {b u}, H b = some u → b = a ∧ K.lookup a = none ∧ u = .frz ob (.lst (ns.map V.int)) := fun {b u} z => by
    rw [eH] at z
    by_cases c : b = a ∧ K.lookup a = none
    · exact ⟨c.1, c.2, (Option.some.inj ((if_pos c).symm.trans z)).symm⟩
    · cases (if_neg c).symm.trans z
  have sizes : vs.length = ns.length := isI.length
  have hS : SqL K H a (ns.map V.int) := by
    cases look : K.lookup a with
    | some o =>
      have same := inK a o look
      rw [at_] at same
      cases same
      exact .inr ⟨_, vs.toArray, _, look, rfl, rfl, rfl, by rw [List.size_toArray, sizes]; exact few, by simpa using rel⟩
    | none => exact .inl (.inr ⟨ob, by rw [eH]; exact if_pos ⟨rfl, look⟩⟩)
  have ok : HOk P w H st.heap := fun b u z => by
    obtain ⟨rfl, _, rfl⟩ := only z
    subst eob
    exact ⟨at_, by rw [List.length_map]; exact few, vs, _, rel, at_⟩
  have shown : ∀ {b o}, st.heap.get? b = some o → (b = a → K.lookup a ≠ none) → (hidT st.heap H).get? b = some o := fun {b o} e n => hidT_get e (by
    cases z : H b with
    | none => rfl
    | some u => exact absurd (only z).2.1 (n (only z).1))
  have names : ∀ {b m}, st.heap.Ns b m → (hidT st.heap H).Ns b m := by
    rintro b m ⟨o, es, ep, e, dd, r⟩
    refine ⟨o, es, ep, shown e (fun z => ?_), dd, r⟩
    rw [z, at_] at e
    cases e
    cases dd
  have inB : K.In (hidT st.heap H) := by
    intro b o e
    refine shown (inK b o e) (fun z n => ?_)
    rw [z, n] at e
    cases e
  have nolim : (hidT st.heap H).NoLimit := by
    obtain ⟨mc, h1, h2⟩ := free
    exact ⟨mc, names h1, h2⟩
  have en : Env0 P w K mg (hidT st.heap H) callerA [] st H :=
    { frames := rfl, mod := ⟨inB, names gl, ⟨mb, names bl, bb⟩, nolim⟩, bs := fun b o e => of_hidT e, bsz := Nat.le_of_eq (hidT_size _ _), funs := trivial,
      frf := fun b hb => (List.not_mem_nil hb).elim, hok := ok, bare := .of_eq gens }
  refine codeAny_mono ((F _ inB (names gl)).go rfl room en (us := [.ref a]) (vs := [V.ref a]) (bi st (.ref a)) (.cons rfl .nil) (hsp H hS)) ?_
  rintro (er | fl) s' z
  · exact (show False from z).elim
  · match fl, z with
    | .next, z => exact z.elim
    | .brk, z => exact z.elim
    | .cont, z => exact z.elim
    | .ret u, ⟨v, H', os, bare, un, ok', r, q⟩ =>
      cases (show v = .bl true from q)
      cases (show u = Value.bool true from r)
      refine ⟨rfl, OldK.of_keep fun b o e => ?_, os, bare⟩
      cases z : H b with
      | none => exact un.keep b o e z (fun y => (List.not_mem_nil y).elim) (fun y => (List.not_mem_nil y).elim)
      | some u =>
        obtain ⟨rfl, _, rfl⟩ := only z
        have e1 := (ok _ _ z).1
        have e2 := (ok' _ _ (un.frzs _ _ _ z)).1
        rw [e] at e1
        cases e1
        exact e2
theorem walkG {l : PySem.W.OpenLaw} {q : Program} {loose : List Str} {XP : (Str → Option Value) → Heap → Prop} {YP : World → Heap → Prop} {d : DefRec} {K : Params → PySem.W.Frag} {k : Nat} {x : Str} {sp : World → Sp}
    (most : l.most = some 63) (nodef : d.params.defaults = []) (room : Room k callerA) (inK : ∀ (w : World) (h : Heap), YP w h → (K w.params).In h)
    (F : ∀ (w : World) (mg : Str → Option Value) (fa : Addr) (h : Heap), (K w.params).In h → h.Ns mainGlobals mg → mg d.name = some (.ref fa) →
      ∃ fd : FuncData, (∀ (s : Shared) (u : Value), BindsTo s fd ⟨[u], []⟩ [(x, u)]) ∧ ∀ base : Heap, (K w.params).In base → base.Ns mainGlobals mg → FnG l.prog w (K w.params) mg base k fa fd [x] (sp w))
    (hsp : ∀ (w : World) (H : Hp) (a : Addr) (ns : List Int), ns.length ≤ 63 → SqL (K w.params) H a (ns.map V.int) → sp w [.ref a] H (fun v _ => v = .bl true) fun _ _ _ => False) :
    PySem.W.WalkO q loose XP YP l.row.toRowW d [] (fun f vs => PySem.call f vs) := by
  refine Att.attach_call most nodef ?_
  intro w s0 st mg mb fa o pm cd doc a vs ns G Y _ _ _ hm at_ isI few gens
  obtain ⟨fd, bi, hF⟩ := F w mg fa _ (inK w _ Y) G.T.g hm
  exact lawG (inK w _ Y) G.T.g G.T.b G.T.builtins G.T.nolimit gens at_ isI (Nat.le_trans few (by decide)) room hF bi fun H hS => hsp w H a ns few hS
/-! ### texts of data -/
/-- repr of data that holds no dict, where no guard stands below -/
def rRepr (K : PySem.W.Frag) (A : Around) : List V → Hp → VK → Prop := fun xs H Q => ∃ (a : Addr) (d : PyData), xs = [.ref a] ∧ Dp K H (.ref a) d ∧ d.showable = true ∧ d.hasDict = false ∧ d.shown.length ≤ sizeLine ∧ A.units + (d.depth + 1) < cLine ∧ Q (.str d.shown) H
theorem call_reprD {X : Cx} (gu : X.A.guards = some []) : CallR X (.builtin "repr") (rRepr X.K X.A) := by
  intro pins s σ H xs us Q I rel h
  obtain ⟨a, d, rfl, dp, s1, s2, s3, s4, q⟩ := h
  obtain ⟨u, rfl, ru⟩ : ∃ u, us = [u] ∧ RelV (.ref a) u := by
    cases rel with
    | cons h t =>
      cases t
      exact ⟨_, rfl, h⟩
  cases ru
  obtain ⟨as, rd⟩ := Dp.reads I d _ _ dp rfl
  refine repr_of_reads' rd s1 (PyData.noDict_hsm s2) gu s4 (fun _ _ e => e) (fun h' u tk kept => ?_) s3
  exact ⟨.str d.shown, H, I.kept kept, ⟨u, rfl⟩, q⟩
theorem shown2 {a b : Int} (h1 : a.natAbs.log2 < 1920) (h2 : b.natAbs.log2 < 1920) : (PyData.tuple [.int a, .int b]).showable = true ∧ (PyData.tuple [.int a, .int b]).hasDict = false ∧ (PyData.tuple [.int a, .int b]).shown.length ≤ sizeLine ∧ (PyData.tuple [.int a, .int b]).depth ≤ 8 := by
  refine ⟨?_, ?_, ?_, ?_⟩
  · simp [PyData.showable, PyData.showableAll, h1, h2]
  · simp [PyData.hasDict, PyData.hasDictAll]
  · have l1 := PyProof.Rows.int_text_len_1921 h1
    have l2 := PyProof.Rows.int_text_len_1921 h2
    simp only [PyData.shown, PyData.shownAll]
    unfold tupleText
    rw [strLen_append, strLen_append]
    have j := join_length_add [Str.ofString (toString a), Str.ofString (toString b)] (by simp)
    simp only [piled] at j
    simp only [List.map_cons, List.map_nil, List.sum_cons, List.sum_nil] at j
    have e1 : (Str.ofString "(").length = 1 := rfl
    have e2 : (Str.ofString (if ([Str.ofString (toString a), Str.ofString (toString b)].length == 1) = true then ",)" else ")")).length ≤ 2 := by
      rw [if_neg (by simp)]
      decide
    rw [sizeLine_eq]
    omega
  · simp [PyData.depth, PyData.depthAll]
end Ax

namespace Ax
open PySem L2
/-- what a course of a drawn range tells is small -/
theorem course_told2 {b l h d : Int} {rs : List CRu} {S : Nat → Tri} {I J n0 : Nat} (ne : rs ≠ []) (le3 : rs.length ≤ 3) (cv : ∀ r ∈ rs, Cov b r.1 r.2) (lt : l < h) (d0 : 0 ≤ d) (d10 : d ≤ 10) (hl : -(2 ^ 66) < l) (hh : h < 2 ^ 66)
    (SH : Shp b l h (S 0).1 (S 0).2.1 n0) (p0 : (S 0).2.2 = -d + n0) (C : Course b rs S I J) : ∀ n ≤ J, -(2 ^ 1300) ≤ (toldT b (S n)).1 ∧ (toldT b (S n)).2.1 ≤ 2 ^ 1300 ∧ (toldT b (S n)).1 < (toldT b (S n)).2.1 ∧ -17 ≤ (S n).2.2 := by
  intro n hn
  have C0 := cv _ (List.getLast_mem ne)
  have b2 := C0.b2
  have b1 : 1 ≤ b := by omega
  have e0 : Eq3 b (l, h, d) (sT (S 0)) := by
    have := sT_eq3 (d := d) SH
    rw [← p0] at this
    exact this
  let T : Nat → Tri := fun i => if i = 0 then (l, h, d) else sT (S i)
  have T0 : T 0 = (l, h, d) := rfl
  have Te : ∀ i, Eq3 b (T i) (sT (S i)) := fun i => by
    by_cases c : i = 0
    · subst c
      exact e0
    · show Eq3 b (if i = 0 then (l, h, d) else sT (S i)) _
      rw [if_neg c]
      exact Eq3.refl ..
  have RD : ∀ i < n, Round b rs (T i) (T (i + 1)) := fun i hi => by
    have := (C.rd i (by omega)).fro (Te i)
    show Round b rs (T i) (if i + 1 = 0 then (l, h, d) else sT (S (i + 1)))
    rw [if_neg (by omega)]
    exact this
  have DF : ∀ i j, i < j → j < n → ¬ SameS b (T i).1 (T i).2.1 (T j).1 (T j).2.1 := fun i j h1 h2 s => by
    refine C.df i j h1 (by omega) (keys_same b1 (C.no i (by omega)) (C.no j (by omega)) ?_)
    exact same_of (U := sT (S i)) (U' := sT (S j)) (Te i) (Te j) s
  obtain ⟨X, Y, eq, sm, big⟩ := course_small ne le3 cv lt T0 hl hh RD DF
  have eq := (eq n (Nat.le_refl _)).trans (Te n)
  obtain ⟨g1, g2, g3⟩ := sm n (Nat.le_refl _)
  obtain ⟨k', f1, f2, f3⟩ := eq.red b1 (C.no n hn)
  have f1 : X n = (S n).1 * b ^ k' := f1
  have f2 : Y n = (S n).2.1 * b ^ k' := f2
  have f3 : d + 7 = -(S n).2.2 + k' := f3
  have pk' := pow_pos' b1 k'
  have l12 : (S n).1 < (S n).2.1 := Int.lt_of_mul_lt_mul_right (show (S n).1 * b ^ k' < (S n).2.1 * b ^ k' by rw [← f1, ← f2]; exact g3) (by omega)
  have kk : (S n).2.2.toNat ≤ k' := by omega
  have ex : ∀ v : Int, v * b ^ k' = v * b ^ (S n).2.2.toNat * b ^ (k' - (S n).2.2.toNat) := fun v => by
    rw [mul_pow3, show (S n).2.2.toNat + (k' - (S n).2.2.toNat) = k' by omega]
  have q1 := abs_pow (x := (S n).1 * b ^ (S n).2.2.toNat) (M := 2 ^ 1300) (k := k' - (S n).2.2.toNat) b1 (by rw [← ex, ← f1]; exact g1) (by rw [← ex, ← f1]; omega)
  have q2 := abs_pow (x := (S n).2.1 * b ^ (S n).2.2.toNat) (M := 2 ^ 1300) (k := k' - (S n).2.2.toNat) b1 (by rw [← ex, ← f2]; omega) (by rw [← ex, ← f2]; exact g2)
  have pp := pow_pos' b1 (S n).2.2.toNat
  exact ⟨q1.1, q2.2, (mul_lt_iff (by omega)).mpr l12, by omega⟩
section
variable {P : Program} {w : World} {K : PySem.W.Frag} {mg : Str → Option Value} {base : Heap} {A : Adr}
def spLaw (K : PySem.W.Frag) : Sp := fun vs H Q _ => ∃ (a : Addr) (ns : List Int), vs = [.ref a] ∧ SqL K H a (ns.map V.int) ∧ ns.length ≤ 63 ∧ ∀ H', Q (.bl true) H'
abbrev nm_law : List Str := ["_law_script", "_law_cell", "_law_purse_here", "_law_rules", "_law_made", "_law_base", "_law_small", "_law_outer", "_law_inner_here", "_law_rule", "_law_wide", "_law_near"]
theorem sc_law : FnScope ["_law_script", "_law_cell", "_law_purse_here", "_law_rules", "_law_made", "_law_base", "_law_small", "_law_outer", "_law_inner_here", "_law_rule", "_law_wide", "_law_near"] ["_law_script"] (defScope s_law) := ⟨rfl, rfl, rfl, by decide +kernel, rfl, by decide +kernel, by decide +kernel⟩
theorem ok_law (T : Txt K mg A w) : FnG P w K mg base 10 A.a_law A.d_law ["_law_script"] (spLaw K) := by
  have G_law_purse : FnOk P w K mg base CX0 1 A.a_law_purse A.d_law_purse ["_law_script", "_law_at"] (spPurse K) := ok_purse T
  have G_law_draw : FnOk P w K mg base CX0 1 A.a_law_draw A.d_law_draw ["_law_purse_here", "_law_many"] spDraw := ok_draw T
  have G_law_pick : FnOk P w K mg base CX0 2 A.a_law_pick A.d_law_pick ["_law_purse_here", "_law_items"] spPick := ok_pick T
  have G_law_dividing_rules : FnOk P w K mg base CX0 3 A.a_law_dividing_rules A.d_law_dividing_rules ["_law_purse_here", "_law_most"] spDRules := ok_drules T
  have G_law_made_rules : FnOk P w K mg base CX0 6 A.a_law_made_rules A.d_law_made_rules ["_law_rules"] (spMRules A) := ok_mrules T
  have G_law_drawn_span : FnOk P w K mg base CX0 3 A.a_law_drawn_span A.d_law_drawn_span ["_law_purse_here", "_law_base"] spDSpan := ok_dspan T
  have G_law_inner : FnOk P w K mg base CX0 2 A.a_law_inner A.d_law_inner ["_law_purse_here", "_law_span"] spInner := ok_inner T
  have G_law_is_within : FnOk P w K mg base CX0 2 A.a_law_is_within A.d_law_is_within ["_law_base", "_law_inner_here", "_law_outer"] spWithin := ok_within T
  have G_law_ends_alike : FnOk P w K mg base CX0 9 A.a_law_ends_alike A.d_law_ends_alike ["_law_made", "_law_span"] (spAlk A) := ok_alk T
  have G_widened : FnOk P w K mg base CX0 6 A.a_widened A.d_widened ["rule", "span"] (spWd A) := ok_wd T
  have G_settle : FnOk P w K mg base CX0 8 A.a_settle A.d_settle ["rules", "span"] (spSettle A) := ok_settle T
  refine fnG (T.F_law) sc_law (fun vs H Q E h => ?_) (fun cdv A0 outer s H vs Q E hg hr h => ?_)
  · obtain ⟨a, ns, rfl, _⟩ := h
    rfl
  · obtain ⟨sc, ns, rfl, hS, hlen, q⟩ := h
    refine ⟨_, (pss_cons (ps_for PassesOwn.never rfl (pi_range1 rfl T.n_range (pa_cons pe_int pa_nil)) (pg_name (i := 1) sc_law.nd rfl (Or.inl rfl))
  (pss_cons (ps_set (i := 2) sc_law.nd rfl (Or.inl rfl) (pe_call G_law_purse (hr.mono (by decide)) (by rfl) T.m_law_purse T.F_law_purse.kp T.B_law_purse .nil pass0 (pa_cons (pv 0) (pa_cons (pv 1) pa_nil))))
  (pss_cons (ps_set (i := 3) sc_law.nd rfl (Or.inl rfl) (pe_call G_law_dividing_rules (hr.mono (by decide)) (by rfl) T.m_law_dividing_rules T.F_law_dividing_rules.kp T.B_law_dividing_rules .nil pass0 (pa_cons (pv 2) (pa_cons pe_int pa_nil))))
  (pss_cons (ps_par (i := 4) (j := 5) (by rfl) sc_law.nd rfl rfl (by decide) rfl rfl (pa_cons (pe_call G_law_made_rules (hr.mono (by decide)) (by rfl) T.m_law_made_rules T.F_law_made_rules.kp T.B_law_made_rules .nil pass0 (pa_cons (pv 3) pa_nil)) (pa_cons (pe_ix ix_tup (pe_ix ix_list (pv 3) pe_int (fun _ _ => rfl)) pe_int (fun _ _ => rfl)) pa_nil)) (by rfl))
  (pss_cons (ps_set (i := 6) sc_law.nd rfl (Or.inl rfl) (pe_tup (pa_cons (pe_op op_sub pe_int (pe_call G_law_draw (hr.mono (by decide)) (by rfl) T.m_law_draw T.F_law_draw.kp T.B_law_draw .nil pass0 (pa_cons (pv 2) (pa_cons pe_int pa_nil)))) (pa_cons (pe_op op_add pe_int (pe_call G_law_draw (hr.mono (by decide)) (by rfl) T.m_law_draw T.F_law_draw.kp T.B_law_draw .nil pass0 (pa_cons (pv 2) (pa_cons pe_int pa_nil)))) (pa_cons pe_int pa_nil)))))
  (pss_cons (ps_set (i := 7) sc_law.nd rfl (Or.inl rfl) (pe_call G_law_pick (hr.mono (by decide)) (by rfl) T.m_law_pick T.F_law_pick.kp T.B_law_pick .nil pass0 (pa_cons (pv 2) (pa_cons (pe_lst (pa_cons (pv 6) (pa_cons (pe_call G_law_drawn_span (hr.mono (by decide)) (by rfl) T.m_law_drawn_span T.F_law_drawn_span.kp T.B_law_drawn_span .nil pass0 (pa_cons (pv 2) (pa_cons (pv 5) pa_nil))) pa_nil))) pa_nil))))
  (pss_cons (ps_set (i := 8) sc_law.nd rfl (Or.inl rfl) (pe_call G_law_inner (hr.mono (by decide)) (by rfl) T.m_law_inner T.F_law_inner.kp T.B_law_inner .nil pass0 (pa_cons (pv 2) (pa_cons (pv 7) pa_nil))))
  (pss_cons (ps_for PassesOwn.never rfl (pi_list (pv 4)) (pg_name (i := 9) sc_law.nd rfl (Or.inl rfl))
  (pss_one (ps_if (pt_not (pt_val (pe_call G_law_is_within (hr.mono (by decide)) (by rfl) T.m_law_is_within T.F_law_is_within.kp T.B_law_is_within .nil pass0 (pa_cons (pv 5) (pa_cons (pe_call G_widened (hr.mono (by decide)) (by rfl) T.m_widened T.F_widened.kp T.B_widened .nil pass0 (pa_cons (pv 9) (pa_cons (pv 8) pa_nil))) (pa_cons (pe_call G_widened (hr.mono (by decide)) (by rfl) T.m_widened T.F_widened.kp T.B_widened .nil pass0 (pa_cons (pv 9) (pa_cons (pv 7) pa_nil))) pa_nil)))))) (pss_one (ps_ret pe_bl)) pss_nil)))
  (pss_cons (ps_if (PW.pt (pw_or (pt_not (pt_val (pe_call G_law_ends_alike (hr.mono (by decide)) (by rfl) T.m_law_ends_alike T.F_law_ends_alike.kp T.B_law_ends_alike .nil pass0 (pa_cons (pv 4) (pa_cons (pv 8) pa_nil))))) (pw_or1 (pt_not (pt_val (pe_call G_law_ends_alike (hr.mono (by decide)) (by rfl) T.m_law_ends_alike T.F_law_ends_alike.kp T.B_law_ends_alike .nil pass0 (pa_cons (pv 4) (pa_cons (pv 7) pa_nil)))))))) (pss_one (ps_ret pe_bl)) pss_nil)
  (pss_cons (ps_par (i := 10) (j := 11) (by rfl) sc_law.nd rfl rfl (by decide) rfl rfl (pa_cons (pe_call G_settle (hr.mono (by decide)) (by rfl) T.m_settle T.F_settle.kp T.B_settle .nil pass0 (pa_cons (pv 4) (pa_cons (pv 7) pa_nil))) (pa_cons (pe_call G_settle (hr.mono (by decide)) (by rfl) T.m_settle T.F_settle.kp T.B_settle .nil pass0 (pa_cons (pv 4) (pa_cons (pv 8) pa_nil))) pa_nil)) (by rfl))
  (pss_one (ps_if (PW.pt (pw_and (pt_cmpR op_eq (pe_ix ix_tup (pv 10) pe_int (fun _ _ => rfl)) pe_str (nomark _)) (pw_and1 (PW.pt (pw_or (pt_cmpR op_ne (pe_ix ix_tup (pv 11) pe_int (fun _ _ => rfl)) pe_str (nomark _)) (pw_or1 (pt_not (pt_val (pe_call G_law_is_within (hr.mono (by decide)) (by rfl) T.m_law_is_within T.F_law_is_within.kp T.B_law_is_within .nil pass0 (pa_cons (pv 5) (pa_cons (pe_ix ix_tup (pv 11) pe_int (fun _ _ => rfl)) (pa_cons (pe_ix ix_tup (pv 10) pe_int (fun _ _ => rfl)) pa_nil)))))))))))) (pss_one (ps_ret pe_bl)) pss_nil))))))))))))
  (pss_one (ps_ret pe_bl))), ?_⟩
    refine ⟨3, rfl, by decide, by decide, for_range (lo := 0) (n := 3) (fun i σ H' => ∃ v1 v2 v3 v4 v5 v6 v7 v8 v9 v10 v11 : Option V, σ = [some (.ref sc), v1, v2, v3, v4, v5, v6, v7, v8, v9, v10, v11] ∧ Same H H') ⟨_, _, _, _, _, _, _, _, _, _, _, rfl, Same.refl H⟩ ?_ ?_⟩
    · rintro i σ H0 hi ⟨v1, v2, v3, v4, v5, v6, v7, v8, v9, v10, v11, rfl, s0⟩
      refine ⟨_, rfl, _, rfl, sc, ns, i, by rw [Int.zero_add]; rfl, s0.seq hS, hlen, fun H1 p s1 p0 P1 => ?_⟩
      refine ⟨_, rfl, p, 0, 2, rfl, P1, by decide, by decide, by decide, fun H2 L as rs b k2 P2 hL nLp RC CD ne le2 b2 b10 => ?_⟩
      have cv := CD.cov
      have CA : CovAll b rs := cv
      have b1 : 1 ≤ b := by omega
      have le2 : rs.length ≤ 2 := by omega
      have le3 : rs.length ≤ 3 := by omega
      have hb : b < BIG := lt_big (n := 64) (by omega) (by decide)
      have e66 : (2 : Int) ^ 66 = 73786976294838206464 := by decide
      refine gN (σ' := [some (.ref sc), some (.int (0 + (i : Int))), some (.ref p), some (.ref L), v4, v5, v6, v7, v8, v9, v10, v11]) rfl ?_
      obtain ⟨a0, ea0, lh0, hs0, most0, R0⟩ := RC.first ne
      -- made, base
      refine ⟨_, rfl, L, as, rs, b, rfl, hL, RC.at_, CA, le3, fun H3 M ms s3 M0 hM RQ => ?_⟩
      have P3 := P2.same s3
      have nMp : M ≠ p := P2.ne M0
      obtain ⟨pl, hp2⟩ := P2.some
      refine ⟨_, rfl, L, _, _, .ref a0, rfl, rfl, SqL.of (s3 _ _ hL), atL (j := 0) (by rw [List.getElem?_map, ea0]; rfl), a0, _, _, _, rfl, rfl, SqT.of (R0.same s3).1, atL (j := 0) rfl, ?_⟩
      refine ⟨_, _, rfl, ?_⟩
      refine norm2 (σ' := [some (.ref sc), some (.int (0 + (i : Int))), some (.ref p), some (.ref L), some (.ref M), some (.int b), v6, v7, v8, v9, v10, v11]) rfl ?_
      -- small, outer, inner
      refine ⟨_, rfl, p, 20, _, rfl, P3, by decide, by decide, small2000 (by decide), fun H6 f6 k6 P6 f60 f69 => ?_⟩
      refine ⟨_, _, rfl, rfl, _, rfl, p, 20, _, rfl, P6, by decide, by decide, small2000 (by decide), fun H7 f7 k7 P7 f70 f79 => ?_⟩
      refine ⟨_, _, rfl, rfl, (by show 3 ≤ sizeLine; decide), fun sm hsm => ?_⟩
      refine gN (σ' := [some (.ref sc), some (.int (0 + (i : Int))), some (.ref p), some (.ref L), some (.ref M), some (.int b), some (.ref sm), v7, v8, v9, v10, v11]) rfl ?_
      have a9 := same_new (o := .tup [.int (0 - f6), .int (1 + f7), .int 0]) hsm
      have P9 := P7.same a9
      refine ⟨_, rfl, _, rfl, _, rfl, _, rfl, p, _, b, rfl, P9, by decide, b2, b10, fun H10 ds l h d k10 P10 hds ds0 lt bl bh d0 dd3 => ?_⟩
      have hsm10 := kpT k10 P9 (upd_same (H := H7) (a := sm) (o := .tup [.int (0 - f6), .int (1 + f7), .int 0]))
      refine ⟨(by show 2 ≤ sizeLine; decide), fun l11 hl11 => ?_⟩
      have a11 := same_new (o := .lst [.ref sm, .ref ds]) hl11
      have P11 := P10.same a11
      refine ⟨p, l11, [.ref sm, .ref ds], _, rfl, P11, by decide, upd_same, P10.ne hl11, (by show 0 < 2; decide), (by show 2 ≤ 1000; decide), fun H12 i12 x12 k12 P12 g12 => ?_⟩
      have rng : ∃ (o : Addr) (l h d : Int), x12 = .ref o ∧ H12 o = some (.tup [.int l, .int h, .int d]) ∧ l < h ∧ 0 ≤ d ∧ d ≤ 10 ∧ -(2 ^ 66) < l ∧ h < 2 ^ 66 := by
        have hy := List.mem_of_getElem? g12
        simp only [List.mem_cons, List.not_mem_nil, or_false] at hy
        rcases hy with rfl | rfl
        · exact ⟨sm, _, _, _, rfl, kpT k12 P11 (a11 _ _ hsm10), by omega, by omega, by omega, by omega, by omega⟩
        · exact ⟨ds, l, h, d, rfl, kpT k12 P11 (a11 _ _ hds), lt, d0, by omega, bl, bh⟩
      obtain ⟨ou, l, h, d, rfl, hou, lt, d0, d10, hl, hh⟩ := rng
      refine gN (σ' := [some (.ref sc), some (.int (0 + (i : Int))), some (.ref p), some (.ref L), some (.ref M), some (.int b), some (.ref sm), some (.ref ou), v8, v9, v10, v11]) rfl ?_
      refine ⟨_, rfl, _, rfl, p, ou, _, l, h, d, rfl, P12, by decide, hou, lt, hl, hh, fun H13 inn x y k13 P13 hin lx lxy hy => ?_⟩
      refine gN (σ' := [some (.ref sc), some (.int (0 + (i : Int))), some (.ref p), some (.ref L), some (.ref M), some (.int b), some (.ref sm), some (.ref ou), some (.ref inn), v9, v10, v11]) rfl ?_
      have kAll : Kp p H3 H13 := (((k6.trans k7).trans (Ax.Same.kp a9 p)).trans ((k10.trans (Ax.Same.kp a11 p)).trans k12)).trans k13
      have hou13 := kpT k13 P12 hou
      have hM13 := kAll _ _ nMp hM
      have RA13 : RlsAt A.c_Rule b H13 rs ms := (RlsQ.kp hp2 P3 kAll RQ).r
      have inIn : In b (x, y, d) (l, h, d) := In.at_ lx hy
      have tail : ∀ H', Same H13 H' → Same H H' := fun H' s7 c o e => by
        have e1 := s1 _ _ (s0 _ _ e)
        have ncp : c ≠ p := fun z => by
          rw [z] at e
          rw [s0 _ _ e] at p0
          cases p0
        exact s7 _ _ (kAll c o ncp (s3 _ _ (k2 c o ncp e1)))
      clear hds hsm10 hou
      -- each rule
      refine ⟨_, rfl, M, rfl, ⟨_, SqL.of hM13⟩, for_list (K := K) (a := M) (xs := ms.map V.ref) (fun j σ H' => ∃ v9 : Option V, σ = [some (.ref sc), some (.int (0 + (i : Int))), some (.ref p), some (.ref L), some (.ref M), some (.int b), some (.ref sm), some (.ref ou), some (.ref inn), v9, v10, v11] ∧ Same H13 H') ⟨_, rfl, Same.refl _⟩ (fun j σ H' _ ⟨_, _, s⟩ => SqL.of (s _ _ hM13)) ?_ ?_⟩
      · rintro j yv σ H14 hj ⟨v9, rfl, s14⟩
        obtain ⟨r, er, rfl⟩ := ref_get hj
        obtain ⟨cr, hcr, D, X⟩ := RA13.get er
        obtain ⟨C, dv⟩ := CD cr (List.mem_of_getElem? hcr)
        refine gN (σ' := [some (.ref sc), some (.int (0 + (i : Int))), some (.ref p), some (.ref L), some (.ref M), some (.int b), some (.ref sm), some (.ref ou), some (.ref inn), some (.ref r), v10, v11]) rfl ?_
        refine ⟨_, rfl, _, rfl, _, rfl, r, inn, b, x, y, d, _, _, D, rfl, X.same s14, C, s14 _ _ hin, lxy, d0, d10, by omega, by omega, fun H15 q15 x1 y1 z1 s15 _ hq15 W1 red1 lt1 lo1 hi1 z1B => ?_⟩
        have s1315 := s14.trans s15
        refine ⟨_, rfl, _, rfl, r, ou, b, l, h, d, _, _, D, rfl, X.same s1315, C, s1315 _ _ hou13, lt, d0, d10, hl, hh, fun H16 q16 x2 y2 z2 s16 _ hq16 W2 red2 lt2 lo2 hi2 z2B => ?_⟩
        have within := wid_mono C dv (T := (x, y, d)) (U := (l, h, d)) lxy lt inIn W1 W2
        refine ⟨q15, q16, b, (x1, y1, z1), (x2, y2, z2), rfl, b2, b10, s16 _ _ hq15, hq16, within, red1.1, z1B, red2.1, z2B, fun z hz => ?_, fun H17 s17 => ⟨_, rfl, iteF ?_⟩⟩
        · obtain ⟨n1, n2⟩ := absM (n := 1301) lt1 lo1 hi1 (pow_lt' (by decide) (by decide))
          obtain ⟨n3, n4⟩ := absM (n := 1301) lt2 lo2 hi2 (pow_lt' (by decide) (by decide))
          simp only [List.mem_cons, List.not_mem_nil, or_false] at hz
          rcases hz with rfl | rfl | rfl | rfl <;> assumption
        · exact ⟨_, rfl, s1315.trans (s16.trans s17)⟩
      rintro σ H14 ⟨v9, rfl, s14⟩
      have hM14 := s14 _ _ hM13
      have RA14 := RA13.same s14
      have hou14 := s14 _ _ hou13
      have hin14 := s14 _ _ hin
      refine ⟨_, rfl, _, rfl, M, inn, ms, rs, b, x, y, d, rfl, hM14, RA14, CD, ne, le2, hin14, lxy, d0, d10, by omega, by omega, fun H15 s15 => ⟨_, rfl, iteF ?_⟩⟩
      refine ⟨_, rfl, _, rfl, M, ou, ms, rs, b, l, h, d, rfl, s15 _ _ hM14, RA14.same s15, CD, ne, le2, s15 _ _ hou14, lt, d0, d10, hl, hh, fun H16 s16 => ⟨_, rfl, iteF ?_⟩⟩
      have s1416 := s15.trans s16
      -- settle
      refine ⟨_, rfl, _, rfl, M, ou, ms, rs, b, l, h, d, rfl, s1416 _ _ hM14, RA14.same s1416, CA, ne, le3, s1416 _ _ hou14, lt, d0, fun l3 h3 n SH => mild_of ne le3 cv lt d0 hl hh SH, fun H17 q17 S I J n0 s17 _ SH p0' J979 CO TD => ?_⟩
      have s1417 := s1416.trans s17
      refine ⟨_, rfl, _, rfl, M, inn, ms, rs, b, x, y, d, rfl, s1417 _ _ hM14, RA14.same s1417, CA, ne, le3, s1417 _ _ hin14, lxy, d0, fun l3 h3 n SH => mild_of ne le3 cv lxy d0 (by omega) (by omega) SH, fun H18 q18 S' I' J' n0' s18 _ SH' p0'' J979' CO' TD' => ?_⟩
      refine ⟨_, _, rfl, ?_⟩
      refine norm2 (σ' := [some (.ref sc), some (.int (0 + (i : Int))), some (.ref p), some (.ref L), some (.ref M), some (.int b), some (.ref sm), some (.ref ou), some (.ref inn), v9, some (.ref q17), some (.ref q18)]) rfl ?_
      have TD18 := TD.same s18
      have s1418 := s1417.trans s18
      have done : ∀ H', Same H18 H' → ∃ v1 v2 v3 v4 v5 v6 v7 v8 v9' v10 v11 : Option V, [some (V.ref sc), some (.int (0 + (i : Int))), some (.ref p), some (.ref L), some (.ref M), some (.int b), some (.ref sm), some (.ref ou), some (.ref inn), v9, some (.ref q17), some (.ref q18)] = [some (V.ref sc), v1, v2, v3, v4, v5, v6, v7, v8, v9', v10, v11] ∧ Same H H' := fun H' s => ⟨_, _, _, _, _, _, _, _, _, _, _, rfl, tail H' ((s14.trans s1418).trans s)⟩
      rcases TD18 with ⟨dp, sp1, h1, h2⟩ | ⟨dp, h1⟩
      · refine ⟨_, rfl, q17, _, _, _, rfl, rfl, SqT.of h1, atL (j := 0) rfl, rfl, _, rfl, ?_⟩
        rw [decide_eq_true rfl]
        refine iteT ?_
        have lt0 := (Shp.bound (M := max (-l) h) SH b1 lt (by omega) (by omega)).1
        have lt0' := (Shp.bound (M := max (-x) y) SH' b1 lxy (by omega) (by omega)).1
        have eO : Eq3 b (l, h, d) (sT (S 0)) := by
          have := sT_eq3 (d := d) SH
          rw [← p0'] at this
          exact this
        have eI : Eq3 b (x, y, d) (sT (S' 0)) := by
          have := sT_eq3 (d := d) SH'
          rw [← p0''] at this
          exact this
        have in0 : In b (sT (S' 0)) (sT (S 0)) := ((In.of_eq eI.symm).trans b1 inIn).trans b1 (In.of_eq eO)
        obtain ⟨dp', inE⟩ := ends_in b2 ne ne CD (fun r hr => hr) CO CO' lt0 lt0' in0 dp
        obtain ⟨t1, t2, t3, t4⟩ := course_told2 ne le3 cv lt d0 d10 hl hh SH p0' CO I (Nat.le_of_lt CO.lt)
        obtain ⟨u1, u2, u3, u4⟩ := course_told2 ne le3 cv lxy d0 d10 (by omega) (by omega) SH' p0'' CO' I' (Nat.le_of_lt CO'.lt)
        rcases TD' with ⟨_, sp2, g1, g2⟩ | ⟨z, _⟩
        · refine ⟨_, rfl, q18, _, _, _, rfl, rfl, SqT.of g1, atL (j := 0) rfl, rfl, _, rfl, ?_⟩
          rw [decide_eq_true rfl]
          refine iteF ?_
          refine ⟨_, rfl, _, rfl, q18, _, _, _, rfl, rfl, SqT.of g1, atL (j := 1) rfl, _, rfl, q17, _, _, _, rfl, rfl, SqT.of h1, atL (j := 1) rfl, sp2, sp1, b, toldT b (S' I'), toldT b (S I), rfl, b2, b10, g2, h2, inE, Int.natCast_nonneg _, ?_, Int.natCast_nonneg _, ?_, fun z hz => ?_, fun H19 s19 => ⟨_, rfl, iteF ?_⟩⟩
          · show ((-(S' I').2.2).toNat : Int) < 100
            omega
          · show ((-(S I).2.2).toNat : Int) < 100
            omega
          · obtain ⟨n1, n2⟩ := absM (n := 1301) u3 u1 u2 (pow_lt' (by decide) (by decide))
            obtain ⟨n3, n4⟩ := absM (n := 1301) t3 t1 t2 (pow_lt' (by decide) (by decide))
            simp only [List.mem_cons, List.not_mem_nil, or_false] at hz
            rcases hz with rfl | rfl | rfl | rfl <;> assumption
          · exact done H19 s19
        · exact absurd dp' z
      · refine ⟨_, rfl, q17, _, _, _, rfl, rfl, SqT.of h1, atL (j := 0) rfl, rfl, _, rfl, ?_⟩
        refine iteF ?_
        exact done H18 (Same.refl _)
    · rintro σ H' ⟨v1, v2, v3, v4, v5, v6, v7, v8, v9, v10, v11, rfl, s0⟩
      exact q H'
end
end Ax

namespace Ax
open PySem L2
/-! ### what the top has written, the head -/
theorem keys3 {P : Params} {x1 x2 x3 : Str} {t1 t2 t3 : Tok} {v1 v2 v3 : Value} : PySem.W.KeysLit P [{ hash := PyData.keyHash P x1, key := .str x1 t1, val := v1 }, { hash := PyData.keyHash P x2, key := .str x2 t2, val := v2 }, { hash := PyData.keyHash P x3, key := .str x3 t3, val := v3 }] := by
  simp only [PySem.W.KeysLit]
  exact ⟨⟨_, _, rfl, rfl⟩, ⟨_, _, rfl, rfl⟩, ⟨_, _, rfl, rfl⟩, trivial⟩
theorem all_mk {l : PySem.W.OpenLaw} {w : World} {K : PySem.W.Frag} {h : Heap} {mg : Str → Option Value} {fa C aL : Addr} {es : Array DictEntry} {nL : Nat} {t1 t2 t3 : Tok} (X : K.In h) (G : h.Ns mainGlobals mg) (hfa : mg "law" = some (.ref fa))
    {f1 : Addr} {od1 an1 : Option Addr} {sl1 : Array (Option Value)} {oc1 kV1 dc1 pm1 cd1 ct1 : Value}
    {f2 : Addr} {od2 an2 : Option Addr} {sl2 : Array (Option Value)} {oc2 kV2 dc2 pm2 cd2 ct2 : Value}
    {f3 : Addr} {od3 an3 : Option Addr} {sl3 : Array (Option Value)} {oc3 kV3 dc3 pm3 cd3 ct3 : Value}
    {f4 : Addr} {od4 an4 : Option Addr} {sl4 : Array (Option Value)} {oc4 kV4 dc4 pm4 cd4 ct4 : Value}
    {f5 : Addr} {od5 an5 : Option Addr} {sl5 : Array (Option Value)} {oc5 kV5 dc5 pm5 cd5 ct5 : Value}
    {f6 : Addr} {od6 an6 : Option Addr} {sl6 : Array (Option Value)} {oc6 kV6 dc6 pm6 cd6 ct6 : Value}
    {f7 : Addr} {od7 an7 : Option Addr} {sl7 : Array (Option Value)} {oc7 kV7 dc7 pm7 cd7 ct7 : Value}
    {f8 : Addr} {od8 an8 : Option Addr} {sl8 : Array (Option Value)} {oc8 kV8 dc8 pm8 cd8 ct8 : Value}
    {f9 : Addr} {od9 an9 : Option Addr} {sl9 : Array (Option Value)} {oc9 kV9 dc9 pm9 cd9 ct9 : Value}
    {f10 : Addr} {od10 an10 : Option Addr} {sl10 : Array (Option Value)} {oc10 kV10 dc10 pm10 cd10 ct10 : Value}
    {f11 : Addr} {od11 an11 : Option Addr} {sl11 : Array (Option Value)} {oc11 kV11 dc11 pm11 cd11 ct11 : Value}
    {f12 : Addr} {od12 an12 : Option Addr} {sl12 : Array (Option Value)} {oc12 kV12 dc12 pm12 cd12 ct12 : Value}
    {f13 : Addr} {od13 an13 : Option Addr} {sl13 : Array (Option Value)} {oc13 kV13 dc13 pm13 cd13 ct13 : Value}
    {f14 : Addr} {od14 an14 : Option Addr} {sl14 : Array (Option Value)} {oc14 kV14 dc14 pm14 cd14 ct14 : Value}
    {f15 : Addr} {od15 an15 : Option Addr} {sl15 : Array (Option Value)} {oc15 kV15 dc15 pm15 cd15 ct15 : Value}
    {f16 : Addr} {od16 an16 : Option Addr} {sl16 : Array (Option Value)} {oc16 kV16 dc16 pm16 cd16 ct16 : Value}
    {f17 : Addr} {od17 an17 : Option Addr} {sl17 : Array (Option Value)} {oc17 kV17 dc17 pm17 cd17 ct17 : Value}
    {f18 : Addr} {od18 an18 : Option Addr} {sl18 : Array (Option Value)} {oc18 kV18 dc18 pm18 cd18 ct18 : Value}
    {f19 : Addr} {od19 an19 : Option Addr} {sl19 : Array (Option Value)} {oc19 kV19 dc19 pm19 cd19 ct19 : Value}
    {f20 : Addr} {od20 an20 : Option Addr} {sl20 : Array (Option Value)} {oc20 kV20 dc20 pm20 cd20 ct20 : Value}
    {f21 : Addr} {od21 an21 : Option Addr} {sl21 : Array (Option Value)} {oc21 kV21 dc21 pm21 cd21 ct21 : Value}
    {f22 : Addr} {od22 an22 : Option Addr} {sl22 : Array (Option Value)} {oc22 kV22 dc22 pm22 cd22 ct22 : Value}
    {f23 : Addr} {od23 an23 : Option Addr} {sl23 : Array (Option Value)} {oc23 kV23 dc23 pm23 cd23 ct23 : Value}
    {f24 : Addr} {od24 an24 : Option Addr} {sl24 : Array (Option Value)} {oc24 kV24 dc24 pm24 cd24 ct24 : Value}
    {f25 : Addr} {od25 an25 : Option Addr} {sl25 : Array (Option Value)} {oc25 kV25 dc25 pm25 cd25 ct25 : Value}
    {f26 : Addr} {od26 an26 : Option Addr} {sl26 : Array (Option Value)} {oc26 kV26 dc26 pm26 cd26 ct26 : Value}
    {f27 : Addr} {od27 an27 : Option Addr} {sl27 : Array (Option Value)} {oc27 kV27 dc27 pm27 cd27 ct27 : Value}
    {f28 : Addr} {od28 an28 : Option Addr} {sl28 : Array (Option Value)} {oc28 kV28 dc28 pm28 cd28 ct28 : Value}
    {f29 : Addr} {od29 an29 : Option Addr} {sl29 : Array (Option Value)} {oc29 kV29 dc29 pm29 cd29 ct29 : Value}
    {f30 : Addr} {od30 an30 : Option Addr} {sl30 : Array (Option Value)} {oc30 kV30 dc30 pm30 cd30 ct30 : Value}
    {f31 : Addr} {od31 an31 : Option Addr} {sl31 : Array (Option Value)} {oc31 kV31 dc31 pm31 cd31 ct31 : Value}
    {f32 : Addr} {od32 an32 : Option Addr} {sl32 : Array (Option Value)} {oc32 kV32 dc32 pm32 cd32 ct32 : Value}
    {f33 : Addr} {od33 an33 : Option Addr} {sl33 : Array (Option Value)} {oc33 kV33 dc33 pm33 cd33 ct33 : Value}
    {f34 : Addr} {od34 an34 : Option Addr} {sl34 : Array (Option Value)} {oc34 kV34 dc34 pm34 cd34 ct34 : Value}
    {f35 : Addr} {od35 an35 : Option Addr} {sl35 : Array (Option Value)} {oc35 kV35 dc35 pm35 cd35 ct35 : Value}
    {f36 : Addr} {od36 an36 : Option Addr} {sl36 : Array (Option Value)} {oc36 kV36 dc36 pm36 cd36 ct36 : Value}
    {f37 : Addr} {od37 an37 : Option Addr} {sl37 : Array (Option Value)} {oc37 kV37 dc37 pm37 cd37 ct37 : Value}
    {f38 : Addr} {od38 an38 : Option Addr} {sl38 : Array (Option Value)} {oc38 kV38 dc38 pm38 cd38 ct38 : Value}
    {f39 : Addr} {od39 an39 : Option Addr} {sl39 : Array (Option Value)} {oc39 kV39 dc39 pm39 cd39 ct39 : Value}
    {f40 : Addr} {od40 an40 : Option Addr} {sl40 : Array (Option Value)} {oc40 kV40 dc40 pm40 cd40 ct40 : Value}
    {f41 : Addr} {od41 an41 : Option Addr} {sl41 : Array (Option Value)} {oc41 kV41 dc41 pm41 cd41 ct41 : Value}
    {f42 : Addr} {od42 an42 : Option Addr} {sl42 : Array (Option Value)} {oc42 kV42 dc42 pm42 cd42 ct42 : Value}
    {f43 pA43 : Addr} {od43 an43 : Option Addr} {sl43 : Array (Option Value)} {oc43 kV43 dc43 pm43 cd43 ct43 : Value} {rest43 : List Value}
    {f44 pA44 : Addr} {od44 an44 : Option Addr} {sl44 : Array (Option Value)} {oc44 kV44 dc44 pm44 cd44 ct44 : Value} {rest44 : List Value}
    (a1 : PySem.W.nsIn K mainGlobals "is_whole" = some (some (.ref f1)))
    (l1 : K.lookup f1 = some ⟨oc1, od1, .func (PySem.W.fnOf "is_whole" "is_whole" (defArgs s_is_whole) (defBody s_is_whole) (defScope s_is_whole) .none kV1 dc1 pm1 an1 cd1 ct1), sl1⟩) (c1 : PySem.W.codeIn K cd1 "is_whole" = true) (k1 : PySem.W.keepIn K (.ref f1) = true)
    (a2 : PySem.W.nsIn K mainGlobals "is_base" = some (some (.ref f2)))
    (l2 : K.lookup f2 = some ⟨oc2, od2, .func (PySem.W.fnOf "is_base" "is_base" (defArgs s_is_base) (defBody s_is_base) (defScope s_is_base) .none kV2 dc2 pm2 an2 cd2 ct2), sl2⟩) (c2 : PySem.W.codeIn K cd2 "is_base" = true) (k2 : PySem.W.keepIn K (.ref f2) = true)
    (a3 : PySem.W.nsIn K mainGlobals "is_span" = some (some (.ref f3)))
    (l3 : K.lookup f3 = some ⟨oc3, od3, .func (PySem.W.fnOf "is_span" "is_span" (defArgs s_is_span) (defBody s_is_span) (defScope s_is_span) .none kV3 dc3 pm3 an3 cd3 ct3), sl3⟩) (c3 : PySem.W.codeIn K cd3 "is_span" = true) (k3 : PySem.W.keepIn K (.ref f3) = true)
    (a4 : PySem.W.nsIn K mainGlobals "power_of" = some (some (.ref f4)))
    (l4 : K.lookup f4 = some ⟨oc4, od4, .func (PySem.W.fnOf "power_of" "power_of" (defArgs s_power_of) (defBody s_power_of) (defScope s_power_of) .none kV4 dc4 pm4 an4 cd4 ct4), sl4⟩) (c4 : PySem.W.codeIn K cd4 "power_of" = true) (k4 : PySem.W.keepIn K (.ref f4) = true)
    (a5 : PySem.W.nsIn K mainGlobals "log_of" = some (some (.ref f5)))
    (l5 : K.lookup f5 = some ⟨oc5, od5, .func (PySem.W.fnOf "log_of" "log_of" (defArgs s_log_of) (defBody s_log_of) (defScope s_log_of) .none kV5 dc5 pm5 an5 cd5 ct5), sl5⟩) (c5 : PySem.W.codeIn K cd5 "log_of" = true) (k5 : PySem.W.keepIn K (.ref f5) = true)
    (a6 : PySem.W.nsIn K mainGlobals "measure" = some (some (.ref f6)))
    (l6 : K.lookup f6 = some ⟨oc6, od6, .func (PySem.W.fnOf "measure" "measure" (defArgs s_measure) (defBody s_measure) (defScope s_measure) .none kV6 dc6 pm6 an6 cd6 ct6), sl6⟩) (c6 : PySem.W.codeIn K cd6 "measure" = true) (k6 : PySem.W.keepIn K (.ref f6) = true)
    (a7 : PySem.W.nsIn K mainGlobals "reach" = some (some (.ref f7)))
    (l7 : K.lookup f7 = some ⟨oc7, od7, .func (PySem.W.fnOf "reach" "reach" (defArgs s_reach) (defBody s_reach) (defScope s_reach) .none kV7 dc7 pm7 an7 cd7 ct7), sl7⟩) (c7 : PySem.W.codeIn K cd7 "reach" = true) (k7 : PySem.W.keepIn K (.ref f7) = true)
    (a8 : PySem.W.nsIn K mainGlobals "rungs_of" = some (some (.ref f8)))
    (l8 : K.lookup f8 = some ⟨oc8, od8, .func (PySem.W.fnOf "rungs_of" "rungs_of" (defArgs s_rungs_of) (defBody s_rungs_of) (defScope s_rungs_of) .none kV8 dc8 pm8 an8 cd8 ct8), sl8⟩) (c8 : PySem.W.codeIn K cd8 "rungs_of" = true) (k8 : PySem.W.keepIn K (.ref f8) = true)
    (a9 : PySem.W.nsIn K mainGlobals "step_at" = some (some (.ref f9)))
    (l9 : K.lookup f9 = some ⟨oc9, od9, .func (PySem.W.fnOf "step_at" "step_at" (defArgs s_step_at) (defBody s_step_at) (defScope s_step_at) .none kV9 dc9 pm9 an9 cd9 ct9), sl9⟩) (c9 : PySem.W.codeIn K cd9 "step_at" = true) (k9 : PySem.W.keepIn K (.ref f9) = true)
    (a10 : PySem.W.nsIn K mainGlobals "low_rung" = some (some (.ref f10)))
    (l10 : K.lookup f10 = some ⟨oc10, od10, .func (PySem.W.fnOf "low_rung" "low_rung" (defArgs s_low_rung) (defBody s_low_rung) (defScope s_low_rung) .none kV10 dc10 pm10 an10 cd10 ct10), sl10⟩) (c10 : PySem.W.codeIn K cd10 "low_rung" = true) (k10 : PySem.W.keepIn K (.ref f10) = true)
    (a11 : PySem.W.nsIn K mainGlobals "_kind_and_most_fit" = some (some (.ref f11)))
    (l11 : K.lookup f11 = some ⟨oc11, od11, .func (PySem.W.fnOf "_kind_and_most_fit" "_kind_and_most_fit" (defArgs s_kind_and_most_fit) (defBody s_kind_and_most_fit) (defScope s_kind_and_most_fit) .none kV11 dc11 pm11 an11 cd11 ct11), sl11⟩) (c11 : PySem.W.codeIn K cd11 "_kind_and_most_fit" = true) (k11 : PySem.W.keepIn K (.ref f11) = true)
    (a12 : PySem.W.nsIn K mainGlobals "_mantissas_fit" = some (some (.ref f12)))
    (l12 : K.lookup f12 = some ⟨oc12, od12, .func (PySem.W.fnOf "_mantissas_fit" "_mantissas_fit" (defArgs s_mantissas_fit) (defBody s_mantissas_fit) (defScope s_mantissas_fit) .none kV12 dc12 pm12 an12 cd12 ct12), sl12⟩) (c12 : PySem.W.codeIn K cd12 "_mantissas_fit" = true) (k12 : PySem.W.keepIn K (.ref f12) = true)
    (a13 : PySem.W.nsIn K mainGlobals "_arguments_fit" = some (some (.ref f13)))
    (l13 : K.lookup f13 = some ⟨oc13, od13, .func (PySem.W.fnOf "_arguments_fit" "_arguments_fit" (defArgs s_arguments_fit) (defBody s_arguments_fit) (defScope s_arguments_fit) .none kV13 dc13 pm13 an13 cd13 ct13), sl13⟩) (c13 : PySem.W.codeIn K cd13 "_arguments_fit" = true) (k13 : PySem.W.keepIn K (.ref f13) = true)
    (a14 : PySem.W.nsIn K mainGlobals "_is_dividing" = some (some (.ref f14)))
    (l14 : K.lookup f14 = some ⟨oc14, od14, .func (PySem.W.fnOf "_is_dividing" "_is_dividing" (defArgs s_is_dividing) (defBody s_is_dividing) (defScope s_is_dividing) .none kV14 dc14 pm14 an14 cd14 ct14), sl14⟩) (c14 : PySem.W.codeIn K cd14 "_is_dividing" = true) (k14 : PySem.W.keepIn K (.ref f14) = true)
    (a15 : PySem.W.findIn K (.ref C) "__init__" = some (some (.ref f15))) (i15 : PySem.W.isFn K (.ref f15) = true)
    (l15 : K.lookup f15 = some ⟨oc15, od15, .func (PySem.W.fnOf "__init__" "Rule.__init__" (defArgs s_Rule_init) (defBody s_Rule_init) (defScope s_Rule_init) .none kV15 dc15 pm15 an15 cd15 ct15), sl15⟩) (c15 : PySem.W.codeIn K cd15 "Rule.__init__" = true) (k15 : PySem.W.keepIn K (.ref f15) = true)
    (a16 : PySem.W.findIn K (.ref C) "step" = some (some (.ref f16))) (i16 : PySem.W.isFn K (.ref f16) = true)
    (l16 : K.lookup f16 = some ⟨oc16, od16, .func (PySem.W.fnOf "step" "Rule.step" (defArgs s_Rule_step) (defBody s_Rule_step) (defScope s_Rule_step) .none kV16 dc16 pm16 an16 cd16 ct16), sl16⟩) (c16 : PySem.W.codeIn K cd16 "Rule.step" = true) (k16 : PySem.W.keepIn K (.ref f16) = true)
    (a17 : PySem.W.findIn K (.ref C) "marks" = some (some (.ref f17))) (i17 : PySem.W.isFn K (.ref f17) = true)
    (l17 : K.lookup f17 = some ⟨oc17, od17, .func (PySem.W.fnOf "marks" "Rule.marks" (defArgs s_Rule_marks) (defBody s_Rule_marks) (defScope s_Rule_marks) .none kV17 dc17 pm17 an17 cd17 ct17), sl17⟩) (c17 : PySem.W.codeIn K cd17 "Rule.marks" = true) (k17 : PySem.W.keepIn K (.ref f17) = true)
    (a18 : PySem.W.findIn K (.ref C) "_fits" = some (some (.ref f18))) (i18 : PySem.W.isFn K (.ref f18) = true)
    (l18 : K.lookup f18 = some ⟨oc18, od18, .func (PySem.W.fnOf "_fits" "Rule._fits" (defArgs s_Rule__fits) (defBody s_Rule__fits) (defScope s_Rule__fits) .none kV18 dc18 pm18 an18 cd18 ct18), sl18⟩) (c18 : PySem.W.codeIn K cd18 "Rule._fits" = true) (k18 : PySem.W.keepIn K (.ref f18) = true)
    (a19 : PySem.W.nsIn K mainGlobals "check_rule" = some (some (.ref f19)))
    (l19 : K.lookup f19 = some ⟨oc19, od19, .func (PySem.W.fnOf "check_rule" "check_rule" (defArgs s_check_rule) (defBody s_check_rule) (defScope s_check_rule) .none kV19 dc19 pm19 an19 cd19 ct19), sl19⟩) (c19 : PySem.W.codeIn K cd19 "check_rule" = true) (k19 : PySem.W.keepIn K (.ref f19) = true)
    (a20 : PySem.W.nsIn K mainGlobals "shape_of" = some (some (.ref f20)))
    (l20 : K.lookup f20 = some ⟨oc20, od20, .func (PySem.W.fnOf "shape_of" "shape_of" (defArgs s_shape_of) (defBody s_shape_of) (defScope s_shape_of) .none kV20 dc20 pm20 an20 cd20 ct20), sl20⟩) (c20 : PySem.W.codeIn K cd20 "shape_of" = true) (k20 : PySem.W.keepIn K (.ref f20) = true)
    (a21 : PySem.W.nsIn K mainGlobals "span_of" = some (some (.ref f21)))
    (l21 : K.lookup f21 = some ⟨oc21, od21, .func (PySem.W.fnOf "span_of" "span_of" (defArgs s_span_of) (defBody s_span_of) (defScope s_span_of) .none kV21 dc21 pm21 an21 cd21 ct21), sl21⟩) (c21 : PySem.W.codeIn K cd21 "span_of" = true) (k21 : PySem.W.keepIn K (.ref f21) = true)
    (a22 : PySem.W.nsIn K mainGlobals "widen" = some (some (.ref f22)))
    (l22 : K.lookup f22 = some ⟨oc22, od22, .func (PySem.W.fnOf "widen" "widen" (defArgs s_widen) (defBody s_widen) (defScope s_widen) .none kV22 dc22 pm22 an22 cd22 ct22), sl22⟩) (c22 : PySem.W.codeIn K cd22 "widen" = true) (k22 : PySem.W.keepIn K (.ref f22) = true)
    (a23 : PySem.W.nsIn K mainGlobals "next_shape" = some (some (.ref f23)))
    (l23 : K.lookup f23 = some ⟨oc23, od23, .func (PySem.W.fnOf "next_shape" "next_shape" (defArgs s_next_shape) (defBody s_next_shape) (defScope s_next_shape) .none kV23 dc23 pm23 an23 cd23 ct23), sl23⟩) (c23 : PySem.W.codeIn K cd23 "next_shape" = true) (k23 : PySem.W.keepIn K (.ref f23) = true)
    (a24 : PySem.W.nsIn K mainGlobals "course" = some (some (.ref f24)))
    (l24 : K.lookup f24 = some ⟨oc24, od24, .func (PySem.W.fnOf "course" "course" (defArgs s_course) (defBody s_course) (defScope s_course) .none kV24 dc24 pm24 an24 cd24 ct24), sl24⟩) (c24 : PySem.W.codeIn K cd24 "course" = true) (k24 : PySem.W.keepIn K (.ref f24) = true)
    (a25 : PySem.W.nsIn K mainGlobals "_are_rules" = some (some (.ref f25)))
    (l25 : K.lookup f25 = some ⟨oc25, od25, .func (PySem.W.fnOf "_are_rules" "_are_rules" (defArgs s_are_rules) (defBody s_are_rules) (defScope s_are_rules) .none kV25 dc25 pm25 an25 cd25 ct25), sl25⟩) (c25 : PySem.W.codeIn K cd25 "_are_rules" = true) (k25 : PySem.W.keepIn K (.ref f25) = true)
    (a26 : PySem.W.nsIn K mainGlobals "_check_rules" = some (some (.ref f26)))
    (l26 : K.lookup f26 = some ⟨oc26, od26, .func (PySem.W.fnOf "_check_rules" "_check_rules" (defArgs s_check_rules) (defBody s_check_rules) (defScope s_check_rules) .none kV26 dc26 pm26 an26 cd26 ct26), sl26⟩) (c26 : PySem.W.codeIn K cd26 "_check_rules" = true) (k26 : PySem.W.keepIn K (.ref f26) = true)
    (a27 : PySem.W.nsIn K mainGlobals "_check_span" = some (some (.ref f27)))
    (l27 : K.lookup f27 = some ⟨oc27, od27, .func (PySem.W.fnOf "_check_span" "_check_span" (defArgs s_check_span) (defBody s_check_span) (defScope s_check_span) .none kV27 dc27 pm27 an27 cd27 ct27), sl27⟩) (c27 : PySem.W.codeIn K cd27 "_check_span" = true) (k27 : PySem.W.keepIn K (.ref f27) = true)
    (a28 : PySem.W.nsIn K mainGlobals "_reduced" = some (some (.ref f28)))
    (l28 : K.lookup f28 = some ⟨oc28, od28, .func (PySem.W.fnOf "_reduced" "_reduced" (defArgs s_reduced) (defBody s_reduced) (defScope s_reduced) .none kV28 dc28 pm28 an28 cd28 ct28), sl28⟩) (c28 : PySem.W.codeIn K cd28 "_reduced" = true) (k28 : PySem.W.keepIn K (.ref f28) = true)
    (a29 : PySem.W.nsIn K mainGlobals "widened" = some (some (.ref f29)))
    (l29 : K.lookup f29 = some ⟨oc29, od29, .func (PySem.W.fnOf "widened" "widened" (defArgs s_widened) (defBody s_widened) (defScope s_widened) .none kV29 dc29 pm29 an29 cd29 ct29), sl29⟩) (c29 : PySem.W.codeIn K cd29 "widened" = true) (k29 : PySem.W.keepIn K (.ref f29) = true)
    (a30 : PySem.W.nsIn K mainGlobals "settle" = some (some (.ref f30)))
    (l30 : K.lookup f30 = some ⟨oc30, od30, .func (PySem.W.fnOf "settle" "settle" (defArgs s_settle) (defBody s_settle) (defScope s_settle) .none kV30 dc30 pm30 an30 cd30 ct30), sl30⟩) (c30 : PySem.W.codeIn K cd30 "settle" = true) (k30 : PySem.W.keepIn K (.ref f30) = true)
    (a31 : PySem.W.nsIn K mainGlobals "_law_purse" = some (some (.ref f31)))
    (l31 : K.lookup f31 = some ⟨oc31, od31, .func (PySem.W.fnOf "_law_purse" "_law_purse" (defArgs s_law_purse) (defBody s_law_purse) (defScope s_law_purse) .none kV31 dc31 pm31 an31 cd31 ct31), sl31⟩) (c31 : PySem.W.codeIn K cd31 "_law_purse" = true) (k31 : PySem.W.keepIn K (.ref f31) = true)
    (a32 : PySem.W.nsIn K mainGlobals "_law_draw" = some (some (.ref f32)))
    (l32 : K.lookup f32 = some ⟨oc32, od32, .func (PySem.W.fnOf "_law_draw" "_law_draw" (defArgs s_law_draw) (defBody s_law_draw) (defScope s_law_draw) .none kV32 dc32 pm32 an32 cd32 ct32), sl32⟩) (c32 : PySem.W.codeIn K cd32 "_law_draw" = true) (k32 : PySem.W.keepIn K (.ref f32) = true)
    (a33 : PySem.W.nsIn K mainGlobals "_law_pick" = some (some (.ref f33)))
    (l33 : K.lookup f33 = some ⟨oc33, od33, .func (PySem.W.fnOf "_law_pick" "_law_pick" (defArgs s_law_pick) (defBody s_law_pick) (defScope s_law_pick) .none kV33 dc33 pm33 an33 cd33 ct33), sl33⟩) (c33 : PySem.W.codeIn K cd33 "_law_pick" = true) (k33 : PySem.W.keepIn K (.ref f33) = true)
    (a34 : PySem.W.nsIn K mainGlobals "_law_raised" = some (some (.ref f34)))
    (l34 : K.lookup f34 = some ⟨oc34, od34, .func (PySem.W.fnOf "_law_raised" "_law_raised" (defArgs s_law_raised) (defBody s_law_raised) (defScope s_law_raised) .none kV34 dc34 pm34 an34 cd34 ct34), sl34⟩) (c34 : PySem.W.codeIn K cd34 "_law_raised" = true) (k34 : PySem.W.keepIn K (.ref f34) = true)
    (a35 : PySem.W.nsIn K mainGlobals "_law_made_rules" = some (some (.ref f35)))
    (l35 : K.lookup f35 = some ⟨oc35, od35, .func (PySem.W.fnOf "_law_made_rules" "_law_made_rules" (defArgs s_law_made_rules) (defBody s_law_made_rules) (defScope s_law_made_rules) .none kV35 dc35 pm35 an35 cd35 ct35), sl35⟩) (c35 : PySem.W.codeIn K cd35 "_law_made_rules" = true) (k35 : PySem.W.keepIn K (.ref f35) = true)
    (a36 : PySem.W.nsIn K mainGlobals "_law_drawn_span" = some (some (.ref f36)))
    (l36 : K.lookup f36 = some ⟨oc36, od36, .func (PySem.W.fnOf "_law_drawn_span" "_law_drawn_span" (defArgs s_law_drawn_span) (defBody s_law_drawn_span) (defScope s_law_drawn_span) .none kV36 dc36 pm36 an36 cd36 ct36), sl36⟩) (c36 : PySem.W.codeIn K cd36 "_law_drawn_span" = true) (k36 : PySem.W.keepIn K (.ref f36) = true)
    (a37 : PySem.W.nsIn K mainGlobals "_law_is_dividing" = some (some (.ref f37)))
    (l37 : K.lookup f37 = some ⟨oc37, od37, .func (PySem.W.fnOf "_law_is_dividing" "_law_is_dividing" (defArgs s_law_is_dividing) (defBody s_law_is_dividing) (defScope s_law_is_dividing) .none kV37 dc37 pm37 an37 cd37 ct37), sl37⟩) (c37 : PySem.W.codeIn K cd37 "_law_is_dividing" = true) (k37 : PySem.W.keepIn K (.ref f37) = true)
    (a38 : PySem.W.nsIn K mainGlobals "_law_dividing_rules" = some (some (.ref f38)))
    (l38 : K.lookup f38 = some ⟨oc38, od38, .func (PySem.W.fnOf "_law_dividing_rules" "_law_dividing_rules" (defArgs s_law_dividing_rules) (defBody s_law_dividing_rules) (defScope s_law_dividing_rules) .none kV38 dc38 pm38 an38 cd38 ct38), sl38⟩) (c38 : PySem.W.codeIn K cd38 "_law_dividing_rules" = true) (k38 : PySem.W.keepIn K (.ref f38) = true)
    (a39 : PySem.W.nsIn K mainGlobals "_law_is_within" = some (some (.ref f39)))
    (l39 : K.lookup f39 = some ⟨oc39, od39, .func (PySem.W.fnOf "_law_is_within" "_law_is_within" (defArgs s_law_is_within) (defBody s_law_is_within) (defScope s_law_is_within) .none kV39 dc39 pm39 an39 cd39 ct39), sl39⟩) (c39 : PySem.W.codeIn K cd39 "_law_is_within" = true) (k39 : PySem.W.keepIn K (.ref f39) = true)
    (a40 : PySem.W.nsIn K mainGlobals "_law_inner" = some (some (.ref f40)))
    (l40 : K.lookup f40 = some ⟨oc40, od40, .func (PySem.W.fnOf "_law_inner" "_law_inner" (defArgs s_law_inner) (defBody s_law_inner) (defScope s_law_inner) .none kV40 dc40 pm40 an40 cd40 ct40), sl40⟩) (c40 : PySem.W.codeIn K cd40 "_law_inner" = true) (k40 : PySem.W.keepIn K (.ref f40) = true)
    (a41 : PySem.W.nsIn K mainGlobals "_law_ends_alike" = some (some (.ref f41)))
    (l41 : K.lookup f41 = some ⟨oc41, od41, .func (PySem.W.fnOf "_law_ends_alike" "_law_ends_alike" (defArgs s_law_ends_alike) (defBody s_law_ends_alike) (defScope s_law_ends_alike) .none kV41 dc41 pm41 an41 cd41 ct41), sl41⟩) (c41 : PySem.W.codeIn K cd41 "_law_ends_alike" = true) (k41 : PySem.W.keepIn K (.ref f41) = true)
    (a42 : PySem.W.nsIn K mainGlobals "law" = some (some (.ref f42)))
    (l42 : K.lookup f42 = some ⟨oc42, od42, .func (PySem.W.fnOf "law" "law" (defArgs s_law) (defBody s_law) (defScope s_law) .none kV42 dc42 pm42 an42 cd42 ct42), sl42⟩) (c42 : PySem.W.codeIn K cd42 "law" = true) (k42 : PySem.W.keepIn K (.ref f42) = true)
    (a43 : PySem.W.findIn K (.ref C) "base" = some (some (.ref pA43))) (g43 : PySem.W.specialIn K (.ref pA43) "__get__" = some (some (.builtin "property.__get__"))) (t43 : PySem.W.takesIn K (.ref pA43) = some true) (r43 : PySem.W.recIn K pA43 "property" = some (.ref f43 :: rest43))
    (l43 : K.lookup f43 = some ⟨oc43, od43, .func (PySem.W.fnOf "base" "Rule.base" (defArgs s_Rule_base) (defBody s_Rule_base) (defScope s_Rule_base) .none kV43 dc43 pm43 an43 cd43 ct43), sl43⟩) (c43 : PySem.W.codeIn K cd43 "Rule.base" = true) (k43 : PySem.W.keepIn K (.ref f43) = true)
    (a44 : PySem.W.findIn K (.ref C) "kind" = some (some (.ref pA44))) (g44 : PySem.W.specialIn K (.ref pA44) "__get__" = some (some (.builtin "property.__get__"))) (t44 : PySem.W.takesIn K (.ref pA44) = some true) (r44 : PySem.W.recIn K pA44 "property" = some (.ref f44 :: rest44))
    (l44 : K.lookup f44 = some ⟨oc44, od44, .func (PySem.W.fnOf "kind" "Rule.kind" (defArgs s_Rule_kind) (defBody s_Rule_kind) (defScope s_Rule_kind) .none kV44 dc44 pm44 an44 cd44 ct44), sl44⟩) (c44 : PySem.W.codeIn K cd44 "Rule.kind" = true) (k44 : PySem.W.keepIn K (.ref f44) = true)
    (aC : PySem.W.nsIn K mainGlobals "Rule" = some (some (.ref C))) (pg : PySem.W.plainGet K C Str.empty = true) (hd : PySem.W.hasDictIn K C = true) (po : PySem.W.plainOver K C = true) (sa : PySem.W.findIn K (.ref C) "__setattr__" = some (some (.builtin "object.__setattr__"))) (mk : PySem.W.makesIn K C = true) (kc : PySem.W.keepIn K (.ref C) = true)
    (iA : PySem.W.findIn K (.ref C) "__class__" = some (some (.builtin "object.__class__"))) (iB : PySem.W.specialIn K (.builtin "object.__class__") "__get__" = some (some (.builtin "getset_descriptor.__get__"))) (iD : PySem.W.takesIn K (.builtin "object.__class__") = some true) (iE : PySem.W.mroIn K C (.type "object") = some true)
    (nA0 : PySem.W.findIn K (.ref C) "_base" = some none)
    (nA1 : PySem.W.findIn K (.ref C) "_kind" = some none)
    (nA2 : PySem.W.findIn K (.ref C) "_mantissas" = some none)
    (nA3 : PySem.W.findIn K (.ref C) "_most" = some none)
    (nA4 : PySem.W.findIn K (.ref C) "_dividing" = some none)
    (nA5 : PySem.W.findIn K (.ref C) "_rungs" = some none)
    (z_len : PySem.W.nsIn K mainGlobals "len" = some none)
    (z_isinstance : PySem.W.nsIn K mainGlobals "isinstance" = some none)
    (z_all : PySem.W.nsIn K mainGlobals "all" = some none)
    (z_int : PySem.W.nsIn K mainGlobals "int" = some none)
    (z_bool : PySem.W.nsIn K mainGlobals "bool" = some none)
    (z_str : PySem.W.nsIn K mainGlobals "str" = some none)
    (z_tuple : PySem.W.nsIn K mainGlobals "tuple" = some none)
    (z_list : PySem.W.nsIn K mainGlobals "list" = some none)
    (z_range : PySem.W.nsIn K mainGlobals "range" = some none)
    (z_reversed : PySem.W.nsIn K mainGlobals "reversed" = some none)
    (z_zip : PySem.W.nsIn K mainGlobals "zip" = some none)
    (z_max : PySem.W.nsIn K mainGlobals "max" = some none)
    (z_min : PySem.W.nsIn K mainGlobals "min" = some none)
    (z_abs : PySem.W.nsIn K mainGlobals "abs" = some none)
    (z_sorted : PySem.W.nsIn K mainGlobals "sorted" = some none)
    (z_set : PySem.W.nsIn K mainGlobals "set" = some none)
    (z_divmod : PySem.W.nsIn K mainGlobals "divmod" = some none)
    (z_repr : PySem.W.nsIn K mainGlobals "repr" = some none)
    (z_enumerate : PySem.W.nsIn K mainGlobals "enumerate" = some none)
    (aLM : PySem.W.nsIn K mainGlobals "LEAST_MOST" = some (some (.ref aL))) (lLM : K.lookup aL = some ⟨.type "dict", none, .dict es nL, #[]⟩) (kLM : PySem.W.KeysLit w.params es.toList) (wLM : (aL == sysModules) = false)
    (vI : PySem.W.nsIn K aL "inside" = some (some (.int 1 t1))) (vC : PySem.W.nsIn K aL "cover" = some (some (.int 2 t2))) (vL : PySem.W.nsIn K aL "length" = some (some (.int 1 t3))) :
    ∃ fd : FuncData, (∀ (s : Shared) (v : Value), BindsTo s fd ⟨[v], []⟩ [("_law_script", v)]) ∧ ∀ base : Heap, K.In base → base.Ns mainGlobals mg → FnG l.prog w K mg base 10 fa fd ["_law_script"] (spLaw K) := by
  have e := hfa.symm.trans (PySem.W.mg_of X G a42)
  cases e
  have F1 := fun_mk (st := s_is_whole) l1 c1 k1
  have b1 := F1.binds (ps := ["value"]) fun _ _ _ _ _ _ us hl => match us, hl with | [_], _ => rfl
  have F2 := fun_mk (st := s_is_base) l2 c2 k2
  have b2 := F2.binds (ps := ["value"]) fun _ _ _ _ _ _ us hl => match us, hl with | [_], _ => rfl
  have F3 := fun_mk (st := s_is_span) l3 c3 k3
  have b3 := F3.binds (ps := ["value"]) fun _ _ _ _ _ _ us hl => match us, hl with | [_], _ => rfl
  have F4 := fun_mk (st := s_power_of) l4 c4 k4
  have b4 := F4.binds (ps := ["base", "exponent"]) fun _ _ _ _ _ _ us hl => match us, hl with | [_, _], _ => rfl
  have F5 := fun_mk (st := s_log_of) l5 c5 k5
  have b5 := F5.binds (ps := ["base", "number"]) fun _ _ _ _ _ _ us hl => match us, hl with | [_, _], _ => rfl
  have F6 := fun_mk (st := s_measure) l6 c6 k6
  have b6 := F6.binds (ps := ["base", "step", "digits"]) fun _ _ _ _ _ _ us hl => match us, hl with | [_, _, _], _ => rfl
  have F7 := fun_mk (st := s_reach) l7 c7 k7
  have b7 := F7.binds (ps := ["kind", "most", "low", "size"]) fun _ _ _ _ _ _ us hl => match us, hl with | [_, _, _, _], _ => rfl
  have F8 := fun_mk (st := s_rungs_of) l8 c8 k8
  have b8 := F8.binds (ps := ["base", "mantissas"]) fun _ _ _ _ _ _ us hl => match us, hl with | [_, _], _ => rfl
  have F9 := fun_mk (st := s_step_at) l9 c9 k9
  have b9 := F9.binds (ps := ["rungs", "number"]) fun _ _ _ _ _ _ us hl => match us, hl with | [_, _], _ => rfl
  have F10 := fun_mk (st := s_low_rung) l10 c10 k10
  have b10 := F10.binds (ps := ["base", "rungs", "most", "length", "digits"]) fun _ _ _ _ _ _ us hl => match us, hl with | [_, _, _, _, _], _ => rfl
  have F11 := fun_mk (st := s_kind_and_most_fit) l11 c11 k11
  have b11 := F11.binds (ps := ["kind", "most"]) fun _ _ _ _ _ _ us hl => match us, hl with | [_, _], _ => rfl
  have F12 := fun_mk (st := s_mantissas_fit) l12 c12 k12
  have b12 := F12.binds (ps := ["base", "mantissas"]) fun _ _ _ _ _ _ us hl => match us, hl with | [_, _], _ => rfl
  have F13 := fun_mk (st := s_arguments_fit) l13 c13 k13
  have b13 := F13.binds (ps := ["base", "kind", "mantissas", "most"]) fun _ _ _ _ _ _ us hl => match us, hl with | [_, _, _, _], _ => rfl
  have F14 := fun_mk (st := s_is_dividing) l14 c14 k14
  have b14 := F14.binds (ps := ["base", "rungs"]) fun _ _ _ _ _ _ us hl => match us, hl with | [_, _], _ => rfl
  have F15 := fun_mk (st := s_Rule_init) l15 c15 k15
  have b15 := F15.binds (ps := ["self", "base", "kind", "mantissas", "most"]) fun _ _ _ _ _ _ us hl => match us, hl with | [_, _, _, _, _], _ => rfl
  have F16 := fun_mk (st := s_Rule_step) l16 c16 k16
  have b16 := F16.binds (ps := ["self", "span"]) fun _ _ _ _ _ _ us hl => match us, hl with | [_, _], _ => rfl
  have F17 := fun_mk (st := s_Rule_marks) l17 c17 k17
  have b17 := F17.binds (ps := ["self", "span"]) fun _ _ _ _ _ _ us hl => match us, hl with | [_, _], _ => rfl
  have F18 := fun_mk (st := s_Rule__fits) l18 c18 k18
  have b18 := F18.binds (ps := ["self", "step", "span"]) fun _ _ _ _ _ _ us hl => match us, hl with | [_, _, _], _ => rfl
  have F19 := fun_mk (st := s_check_rule) l19 c19 k19
  have b19 := F19.binds (ps := ["rule"]) fun _ _ _ _ _ _ us hl => match us, hl with | [_], _ => rfl
  have F20 := fun_mk (st := s_shape_of) l20 c20 k20
  have b20 := F20.binds (ps := ["base", "span"]) fun _ _ _ _ _ _ us hl => match us, hl with | [_, _], _ => rfl
  have F21 := fun_mk (st := s_span_of) l21 c21 k21
  have b21 := F21.binds (ps := ["base", "shape"]) fun _ _ _ _ _ _ us hl => match us, hl with | [_, _], _ => rfl
  have F22 := fun_mk (st := s_widen) l22 c22 k22
  have b22 := F22.binds (ps := ["rule", "span"]) fun _ _ _ _ _ _ us hl => match us, hl with | [_, _], _ => rfl
  have F23 := fun_mk (st := s_next_shape) l23 c23 k23
  have b23 := F23.binds (ps := ["rules", "shape"]) fun _ _ _ _ _ _ us hl => match us, hl with | [_, _], _ => rfl
  have F24 := fun_mk (st := s_course) l24 c24 k24
  have b24 := F24.binds (ps := ["rules", "shape"]) fun _ _ _ _ _ _ us hl => match us, hl with | [_, _], _ => rfl
  have F25 := fun_mk (st := s_are_rules) l25 c25 k25
  have b25 := F25.binds (ps := ["rules"]) fun _ _ _ _ _ _ us hl => match us, hl with | [_], _ => rfl
  have F26 := fun_mk (st := s_check_rules) l26 c26 k26
  have b26 := F26.binds (ps := ["rules"]) fun _ _ _ _ _ _ us hl => match us, hl with | [_], _ => rfl
  have F27 := fun_mk (st := s_check_span) l27 c27 k27
  have b27 := F27.binds (ps := ["span"]) fun _ _ _ _ _ _ us hl => match us, hl with | [_], _ => rfl
  have F28 := fun_mk (st := s_reduced) l28 c28 k28
  have b28 := F28.binds (ps := ["base", "span"]) fun _ _ _ _ _ _ us hl => match us, hl with | [_, _], _ => rfl
  have F29 := fun_mk (st := s_widened) l29 c29 k29
  have b29 := F29.binds (ps := ["rule", "span"]) fun _ _ _ _ _ _ us hl => match us, hl with | [_, _], _ => rfl
  have F30 := fun_mk (st := s_settle) l30 c30 k30
  have b30 := F30.binds (ps := ["rules", "span"]) fun _ _ _ _ _ _ us hl => match us, hl with | [_, _], _ => rfl
  have F31 := fun_mk (st := s_law_purse) l31 c31 k31
  have b31 := F31.binds (ps := ["_law_script", "_law_at"]) fun _ _ _ _ _ _ us hl => match us, hl with | [_, _], _ => rfl
  have F32 := fun_mk (st := s_law_draw) l32 c32 k32
  have b32 := F32.binds (ps := ["_law_purse_here", "_law_many"]) fun _ _ _ _ _ _ us hl => match us, hl with | [_, _], _ => rfl
  have F33 := fun_mk (st := s_law_pick) l33 c33 k33
  have b33 := F33.binds (ps := ["_law_purse_here", "_law_items"]) fun _ _ _ _ _ _ us hl => match us, hl with | [_, _], _ => rfl
  have F34 := fun_mk (st := s_law_raised) l34 c34 k34
  have b34 := F34.binds (ps := ["_law_base", "_law_many"]) fun _ _ _ _ _ _ us hl => match us, hl with | [_, _], _ => rfl
  have F35 := fun_mk (st := s_law_made_rules) l35 c35 k35
  have b35 := F35.binds (ps := ["_law_rules"]) fun _ _ _ _ _ _ us hl => match us, hl with | [_], _ => rfl
  have F36 := fun_mk (st := s_law_drawn_span) l36 c36 k36
  have b36 := F36.binds (ps := ["_law_purse_here", "_law_base"]) fun _ _ _ _ _ _ us hl => match us, hl with | [_, _], _ => rfl
  have F37 := fun_mk (st := s_law_is_dividing) l37 c37 k37
  have b37 := F37.binds (ps := ["_law_base", "_law_heads"]) fun _ _ _ _ _ _ us hl => match us, hl with | [_, _], _ => rfl
  have F38 := fun_mk (st := s_law_dividing_rules) l38 c38 k38
  have b38 := F38.binds (ps := ["_law_purse_here", "_law_most"]) fun _ _ _ _ _ _ us hl => match us, hl with | [_, _], _ => rfl
  have F39 := fun_mk (st := s_law_is_within) l39 c39 k39
  have b39 := F39.binds (ps := ["_law_base", "_law_inner_here", "_law_outer"]) fun _ _ _ _ _ _ us hl => match us, hl with | [_, _, _], _ => rfl
  have F40 := fun_mk (st := s_law_inner) l40 c40 k40
  have b40 := F40.binds (ps := ["_law_purse_here", "_law_span"]) fun _ _ _ _ _ _ us hl => match us, hl with | [_, _], _ => rfl
  have F41 := fun_mk (st := s_law_ends_alike) l41 c41 k41
  have b41 := F41.binds (ps := ["_law_made", "_law_span"]) fun _ _ _ _ _ _ us hl => match us, hl with | [_, _], _ => rfl
  have F42 := fun_mk (st := s_law) l42 c42 k42
  have b42 := F42.binds (ps := ["_law_script"]) fun _ _ _ _ _ _ us hl => match us, hl with | [_], _ => rfl
  have F43 := fun_mk (st := s_Rule_base) l43 c43 k43
  have b43 := F43.binds (ps := ["self"]) fun _ _ _ _ _ _ us hl => match us, hl with | [_], _ => rfl
  have F44 := fun_mk (st := s_Rule_kind) l44 c44 k44
  have b44 := F44.binds (ps := ["self"]) fun _ _ _ _ _ _ us hl => match us, hl with | [_], _ => rfl
  let A : Adr := {
    a_is_whole := f1
    d_is_whole := PySem.W.fnOf "is_whole" "is_whole" (defArgs s_is_whole) (defBody s_is_whole) (defScope s_is_whole) .none kV1 dc1 pm1 an1 cd1 ct1
    a_is_base := f2
    d_is_base := PySem.W.fnOf "is_base" "is_base" (defArgs s_is_base) (defBody s_is_base) (defScope s_is_base) .none kV2 dc2 pm2 an2 cd2 ct2
    a_is_span := f3
    d_is_span := PySem.W.fnOf "is_span" "is_span" (defArgs s_is_span) (defBody s_is_span) (defScope s_is_span) .none kV3 dc3 pm3 an3 cd3 ct3
    a_power_of := f4
    d_power_of := PySem.W.fnOf "power_of" "power_of" (defArgs s_power_of) (defBody s_power_of) (defScope s_power_of) .none kV4 dc4 pm4 an4 cd4 ct4
    a_log_of := f5
    d_log_of := PySem.W.fnOf "log_of" "log_of" (defArgs s_log_of) (defBody s_log_of) (defScope s_log_of) .none kV5 dc5 pm5 an5 cd5 ct5
    a_measure := f6
    d_measure := PySem.W.fnOf "measure" "measure" (defArgs s_measure) (defBody s_measure) (defScope s_measure) .none kV6 dc6 pm6 an6 cd6 ct6
    a_reach := f7
    d_reach := PySem.W.fnOf "reach" "reach" (defArgs s_reach) (defBody s_reach) (defScope s_reach) .none kV7 dc7 pm7 an7 cd7 ct7
    a_rungs_of := f8
    d_rungs_of := PySem.W.fnOf "rungs_of" "rungs_of" (defArgs s_rungs_of) (defBody s_rungs_of) (defScope s_rungs_of) .none kV8 dc8 pm8 an8 cd8 ct8
    a_step_at := f9
    d_step_at := PySem.W.fnOf "step_at" "step_at" (defArgs s_step_at) (defBody s_step_at) (defScope s_step_at) .none kV9 dc9 pm9 an9 cd9 ct9
    a_low_rung := f10
    d_low_rung := PySem.W.fnOf "low_rung" "low_rung" (defArgs s_low_rung) (defBody s_low_rung) (defScope s_low_rung) .none kV10 dc10 pm10 an10 cd10 ct10
    a_kind_and_most_fit := f11
    d_kind_and_most_fit := PySem.W.fnOf "_kind_and_most_fit" "_kind_and_most_fit" (defArgs s_kind_and_most_fit) (defBody s_kind_and_most_fit) (defScope s_kind_and_most_fit) .none kV11 dc11 pm11 an11 cd11 ct11
    a_mantissas_fit := f12
    d_mantissas_fit := PySem.W.fnOf "_mantissas_fit" "_mantissas_fit" (defArgs s_mantissas_fit) (defBody s_mantissas_fit) (defScope s_mantissas_fit) .none kV12 dc12 pm12 an12 cd12 ct12
    a_arguments_fit := f13
    d_arguments_fit := PySem.W.fnOf "_arguments_fit" "_arguments_fit" (defArgs s_arguments_fit) (defBody s_arguments_fit) (defScope s_arguments_fit) .none kV13 dc13 pm13 an13 cd13 ct13
    a_is_dividing := f14
    d_is_dividing := PySem.W.fnOf "_is_dividing" "_is_dividing" (defArgs s_is_dividing) (defBody s_is_dividing) (defScope s_is_dividing) .none kV14 dc14 pm14 an14 cd14 ct14
    a_Rule_init := f15
    d_Rule_init := PySem.W.fnOf "__init__" "Rule.__init__" (defArgs s_Rule_init) (defBody s_Rule_init) (defScope s_Rule_init) .none kV15 dc15 pm15 an15 cd15 ct15
    a_Rule_step := f16
    d_Rule_step := PySem.W.fnOf "step" "Rule.step" (defArgs s_Rule_step) (defBody s_Rule_step) (defScope s_Rule_step) .none kV16 dc16 pm16 an16 cd16 ct16
    a_Rule_marks := f17
    d_Rule_marks := PySem.W.fnOf "marks" "Rule.marks" (defArgs s_Rule_marks) (defBody s_Rule_marks) (defScope s_Rule_marks) .none kV17 dc17 pm17 an17 cd17 ct17
    a_Rule__fits := f18
    d_Rule__fits := PySem.W.fnOf "_fits" "Rule._fits" (defArgs s_Rule__fits) (defBody s_Rule__fits) (defScope s_Rule__fits) .none kV18 dc18 pm18 an18 cd18 ct18
    a_check_rule := f19
    d_check_rule := PySem.W.fnOf "check_rule" "check_rule" (defArgs s_check_rule) (defBody s_check_rule) (defScope s_check_rule) .none kV19 dc19 pm19 an19 cd19 ct19
    a_shape_of := f20
    d_shape_of := PySem.W.fnOf "shape_of" "shape_of" (defArgs s_shape_of) (defBody s_shape_of) (defScope s_shape_of) .none kV20 dc20 pm20 an20 cd20 ct20
    a_span_of := f21
    d_span_of := PySem.W.fnOf "span_of" "span_of" (defArgs s_span_of) (defBody s_span_of) (defScope s_span_of) .none kV21 dc21 pm21 an21 cd21 ct21
    a_widen := f22
    d_widen := PySem.W.fnOf "widen" "widen" (defArgs s_widen) (defBody s_widen) (defScope s_widen) .none kV22 dc22 pm22 an22 cd22 ct22
    a_next_shape := f23
    d_next_shape := PySem.W.fnOf "next_shape" "next_shape" (defArgs s_next_shape) (defBody s_next_shape) (defScope s_next_shape) .none kV23 dc23 pm23 an23 cd23 ct23
    a_course := f24
    d_course := PySem.W.fnOf "course" "course" (defArgs s_course) (defBody s_course) (defScope s_course) .none kV24 dc24 pm24 an24 cd24 ct24
    a_are_rules := f25
    d_are_rules := PySem.W.fnOf "_are_rules" "_are_rules" (defArgs s_are_rules) (defBody s_are_rules) (defScope s_are_rules) .none kV25 dc25 pm25 an25 cd25 ct25
    a_check_rules := f26
    d_check_rules := PySem.W.fnOf "_check_rules" "_check_rules" (defArgs s_check_rules) (defBody s_check_rules) (defScope s_check_rules) .none kV26 dc26 pm26 an26 cd26 ct26
    a_check_span := f27
    d_check_span := PySem.W.fnOf "_check_span" "_check_span" (defArgs s_check_span) (defBody s_check_span) (defScope s_check_span) .none kV27 dc27 pm27 an27 cd27 ct27
    a_reduced := f28
    d_reduced := PySem.W.fnOf "_reduced" "_reduced" (defArgs s_reduced) (defBody s_reduced) (defScope s_reduced) .none kV28 dc28 pm28 an28 cd28 ct28
    a_widened := f29
    d_widened := PySem.W.fnOf "widened" "widened" (defArgs s_widened) (defBody s_widened) (defScope s_widened) .none kV29 dc29 pm29 an29 cd29 ct29
    a_settle := f30
    d_settle := PySem.W.fnOf "settle" "settle" (defArgs s_settle) (defBody s_settle) (defScope s_settle) .none kV30 dc30 pm30 an30 cd30 ct30
    a_law_purse := f31
    d_law_purse := PySem.W.fnOf "_law_purse" "_law_purse" (defArgs s_law_purse) (defBody s_law_purse) (defScope s_law_purse) .none kV31 dc31 pm31 an31 cd31 ct31
    a_law_draw := f32
    d_law_draw := PySem.W.fnOf "_law_draw" "_law_draw" (defArgs s_law_draw) (defBody s_law_draw) (defScope s_law_draw) .none kV32 dc32 pm32 an32 cd32 ct32
    a_law_pick := f33
    d_law_pick := PySem.W.fnOf "_law_pick" "_law_pick" (defArgs s_law_pick) (defBody s_law_pick) (defScope s_law_pick) .none kV33 dc33 pm33 an33 cd33 ct33
    a_law_raised := f34
    d_law_raised := PySem.W.fnOf "_law_raised" "_law_raised" (defArgs s_law_raised) (defBody s_law_raised) (defScope s_law_raised) .none kV34 dc34 pm34 an34 cd34 ct34
    a_law_made_rules := f35
    d_law_made_rules := PySem.W.fnOf "_law_made_rules" "_law_made_rules" (defArgs s_law_made_rules) (defBody s_law_made_rules) (defScope s_law_made_rules) .none kV35 dc35 pm35 an35 cd35 ct35
    a_law_drawn_span := f36
    d_law_drawn_span := PySem.W.fnOf "_law_drawn_span" "_law_drawn_span" (defArgs s_law_drawn_span) (defBody s_law_drawn_span) (defScope s_law_drawn_span) .none kV36 dc36 pm36 an36 cd36 ct36
    a_law_is_dividing := f37
    d_law_is_dividing := PySem.W.fnOf "_law_is_dividing" "_law_is_dividing" (defArgs s_law_is_dividing) (defBody s_law_is_dividing) (defScope s_law_is_dividing) .none kV37 dc37 pm37 an37 cd37 ct37
    a_law_dividing_rules := f38
    d_law_dividing_rules := PySem.W.fnOf "_law_dividing_rules" "_law_dividing_rules" (defArgs s_law_dividing_rules) (defBody s_law_dividing_rules) (defScope s_law_dividing_rules) .none kV38 dc38 pm38 an38 cd38 ct38
    a_law_is_within := f39
    d_law_is_within := PySem.W.fnOf "_law_is_within" "_law_is_within" (defArgs s_law_is_within) (defBody s_law_is_within) (defScope s_law_is_within) .none kV39 dc39 pm39 an39 cd39 ct39
    a_law_inner := f40
    d_law_inner := PySem.W.fnOf "_law_inner" "_law_inner" (defArgs s_law_inner) (defBody s_law_inner) (defScope s_law_inner) .none kV40 dc40 pm40 an40 cd40 ct40
    a_law_ends_alike := f41
    d_law_ends_alike := PySem.W.fnOf "_law_ends_alike" "_law_ends_alike" (defArgs s_law_ends_alike) (defBody s_law_ends_alike) (defScope s_law_ends_alike) .none kV41 dc41 pm41 an41 cd41 ct41
    a_law := fa
    d_law := PySem.W.fnOf "law" "law" (defArgs s_law) (defBody s_law) (defScope s_law) .none kV42 dc42 pm42 an42 cd42 ct42
    a_Rule_base := f43
    d_Rule_base := PySem.W.fnOf "base" "Rule.base" (defArgs s_Rule_base) (defBody s_Rule_base) (defScope s_Rule_base) .none kV43 dc43 pm43 an43 cd43 ct43
    p_Rule_base := pA43
    a_Rule_kind := f44
    d_Rule_kind := PySem.W.fnOf "kind" "Rule.kind" (defArgs s_Rule_kind) (defBody s_Rule_kind) (defScope s_Rule_kind) .none kV44 dc44 pm44 an44 cd44 ct44
    p_Rule_kind := pA44
    c_Rule := C
    a_LEAST := aL }
  have T : Txt K mg A w := {
    F_Rule_base := F43
    B_Rule_base := b43
    pr_Rule_base := ⟨a43, g43, t43, ⟨_, r43⟩⟩
    F_Rule_kind := F44
    B_Rule_kind := b44
    pr_Rule_kind := ⟨a44, g44, t44, ⟨_, r44⟩⟩
    n_len := PySem.W.mg_none_of X G z_len
    n_isinstance := PySem.W.mg_none_of X G z_isinstance
    n_all := PySem.W.mg_none_of X G z_all
    n_int := PySem.W.mg_none_of X G z_int
    n_bool := PySem.W.mg_none_of X G z_bool
    n_str := PySem.W.mg_none_of X G z_str
    n_tuple := PySem.W.mg_none_of X G z_tuple
    n_list := PySem.W.mg_none_of X G z_list
    n_range := PySem.W.mg_none_of X G z_range
    n_reversed := PySem.W.mg_none_of X G z_reversed
    n_zip := PySem.W.mg_none_of X G z_zip
    n_max := PySem.W.mg_none_of X G z_max
    n_min := PySem.W.mg_none_of X G z_min
    n_abs := PySem.W.mg_none_of X G z_abs
    n_sorted := PySem.W.mg_none_of X G z_sorted
    n_set := PySem.W.mg_none_of X G z_set
    n_divmod := PySem.W.mg_none_of X G z_divmod
    n_repr := PySem.W.mg_none_of X G z_repr
    n_enumerate := PySem.W.mg_none_of X G z_enumerate
    F_is_whole := F1
    B_is_whole := b1
    m_is_whole := PySem.W.mg_of X G a1
    F_is_base := F2
    B_is_base := b2
    m_is_base := PySem.W.mg_of X G a2
    F_is_span := F3
    B_is_span := b3
    m_is_span := PySem.W.mg_of X G a3
    F_power_of := F4
    B_power_of := b4
    m_power_of := PySem.W.mg_of X G a4
    F_log_of := F5
    B_log_of := b5
    m_log_of := PySem.W.mg_of X G a5
    F_measure := F6
    B_measure := b6
    m_measure := PySem.W.mg_of X G a6
    F_reach := F7
    B_reach := b7
    m_reach := PySem.W.mg_of X G a7
    F_rungs_of := F8
    B_rungs_of := b8
    m_rungs_of := PySem.W.mg_of X G a8
    F_step_at := F9
    B_step_at := b9
    m_step_at := PySem.W.mg_of X G a9
    F_low_rung := F10
    B_low_rung := b10
    m_low_rung := PySem.W.mg_of X G a10
    F_kind_and_most_fit := F11
    B_kind_and_most_fit := b11
    m_kind_and_most_fit := PySem.W.mg_of X G a11
    F_mantissas_fit := F12
    B_mantissas_fit := b12
    m_mantissas_fit := PySem.W.mg_of X G a12
    F_arguments_fit := F13
    B_arguments_fit := b13
    m_arguments_fit := PySem.W.mg_of X G a13
    F_is_dividing := F14
    B_is_dividing := b14
    m_is_dividing := PySem.W.mg_of X G a14
    F_Rule_init := F15
    B_Rule_init := b15
    F_Rule_step := F16
    B_Rule_step := b16
    t_Rule_step := ⟨a16, i16, k16⟩
    F_Rule_marks := F17
    B_Rule_marks := b17
    t_Rule_marks := ⟨a17, i17, k17⟩
    F_Rule__fits := F18
    B_Rule__fits := b18
    t_Rule__fits := ⟨a18, i18, k18⟩
    F_check_rule := F19
    B_check_rule := b19
    m_check_rule := PySem.W.mg_of X G a19
    F_shape_of := F20
    B_shape_of := b20
    m_shape_of := PySem.W.mg_of X G a20
    F_span_of := F21
    B_span_of := b21
    m_span_of := PySem.W.mg_of X G a21
    F_widen := F22
    B_widen := b22
    m_widen := PySem.W.mg_of X G a22
    F_next_shape := F23
    B_next_shape := b23
    m_next_shape := PySem.W.mg_of X G a23
    F_course := F24
    B_course := b24
    m_course := PySem.W.mg_of X G a24
    F_are_rules := F25
    B_are_rules := b25
    m_are_rules := PySem.W.mg_of X G a25
    F_check_rules := F26
    B_check_rules := b26
    m_check_rules := PySem.W.mg_of X G a26
    F_check_span := F27
    B_check_span := b27
    m_check_span := PySem.W.mg_of X G a27
    F_reduced := F28
    B_reduced := b28
    m_reduced := PySem.W.mg_of X G a28
    F_widened := F29
    B_widened := b29
    m_widened := PySem.W.mg_of X G a29
    F_settle := F30
    B_settle := b30
    m_settle := PySem.W.mg_of X G a30
    F_law_purse := F31
    B_law_purse := b31
    m_law_purse := PySem.W.mg_of X G a31
    F_law_draw := F32
    B_law_draw := b32
    m_law_draw := PySem.W.mg_of X G a32
    F_law_pick := F33
    B_law_pick := b33
    m_law_pick := PySem.W.mg_of X G a33
    F_law_raised := F34
    B_law_raised := b34
    m_law_raised := PySem.W.mg_of X G a34
    F_law_made_rules := F35
    B_law_made_rules := b35
    m_law_made_rules := PySem.W.mg_of X G a35
    F_law_drawn_span := F36
    B_law_drawn_span := b36
    m_law_drawn_span := PySem.W.mg_of X G a36
    F_law_is_dividing := F37
    B_law_is_dividing := b37
    m_law_is_dividing := PySem.W.mg_of X G a37
    F_law_dividing_rules := F38
    B_law_dividing_rules := b38
    m_law_dividing_rules := PySem.W.mg_of X G a38
    F_law_is_within := F39
    B_law_is_within := b39
    m_law_is_within := PySem.W.mg_of X G a39
    F_law_inner := F40
    B_law_inner := b40
    m_law_inner := PySem.W.mg_of X G a40
    F_law_ends_alike := F41
    B_law_ends_alike := b41
    m_law_ends_alike := PySem.W.mg_of X G a41
    F_law := F42
    B_law := b42
    m_law := PySem.W.mg_of X G a42
    cl := ⟨pg, hd, po, sa⟩
    c_Rule := PySem.W.mg_of X G aC
    mk_Rule := ⟨mk, a15, i15, kc⟩
    na_base := nA0
    na_kind := nA1
    na_mantissas := nA2
    na_most := nA3
    na_dividing := nA4
    na_rungs := nA5
    ic := ⟨⟨pg, hd, po, sa⟩, iA, iB, iD, iE, by unfold PySem.W.kitOne; exact if_pos (beq_self_eq_true _)⟩
    m_LEAST_MOST := PySem.W.mg_of X G aLM
    kd := ⟨es, nL, lLM, kLM, wLM⟩
    kd_inside := ⟨t1, vI⟩
    kd_cover := ⟨t2, vC⟩
    kd_length := ⟨t3, vL⟩ }
  exact ⟨_, fun s v => .of_eq rfl, fun base _ _ => ok_law (A := A) T⟩
theorem walk {l : PySem.W.OpenLaw} {q : Program} {loose : List Str} {XP : (Str → Option Value) → Heap → Prop} {YP : World → Heap → Prop} {d : DefRec} {K : Params → PySem.W.Frag} (hn : l.most = some 63) (hdf : d.params.defaults = [])
    (hY : ∀ (w : World) (h : Heap), YP w h → (K w.params).In h)
    (F : ∀ (w : World) (mg : Str → Option Value) (fa : Addr) (h : Heap), (K w.params).In h → h.Ns mainGlobals mg → mg d.name = some (.ref fa) →
      ∃ fd : FuncData, (∀ (s : Shared) (u : Value), BindsTo s fd ⟨[u], []⟩ [("_law_script", u)]) ∧ ∀ base : Heap, (K w.params).In base → base.Ns mainGlobals mg → FnG l.prog w (K w.params) mg base 10 fa fd ["_law_script"] (spLaw (K w.params))) :
    PySem.W.WalkO q loose XP YP l.row.toRowW d [] (fun f vs => PySem.call f vs) :=
  walkG (k := 10) (x := "_law_script") (sp := fun w => spLaw (K w.params)) hn hdf ⟨rfl, by decide, by decide⟩ hY F (fun _ _ a ns hl hS => ⟨a, ns, rfl, hS, hl, fun _ => rfl⟩)
end Ax

open PySem PySem.W PyProof.Rows in
set_option maxRecDepth 100000 in
set_option maxHeartbeats 0 in
theorem PySem.Challenge.cw_axisticks_k71_whole_dividing_in_any_orde_holds : PySem.Challenge.rw_axisticks_k71_whole_dividing_in_any_orde.Holds := by
  w_on; o_law; k_head; (case hw => w_witness2)
  k_fill
  refine Ax.walk (l := PySem.Challenge.rw_axisticks_k71_whole_dividing_in_any_orde) rfl rfl (fun w h Y => PySem.W.kIn_of Y) ?F
  case F =>
    intro w mg fa h KX G hmg
    refine' Ax.all_mk KX G hmg ?a1 ?l1 ?c1 ?k1 ?a2 ?l2 ?c2 ?k2 ?a3 ?l3 ?c3 ?k3 ?a4 ?l4 ?c4 ?k4 ?a5 ?l5 ?c5 ?k5 ?a6 ?l6 ?c6 ?k6 ?a7 ?l7 ?c7 ?k7 ?a8 ?l8 ?c8 ?k8 ?a9 ?l9 ?c9 ?k9 ?a10 ?l10 ?c10 ?k10 ?a11 ?l11 ?c11 ?k11 ?a12 ?l12 ?c12 ?k12 ?a13 ?l13 ?c13 ?k13 ?a14 ?l14 ?c14 ?k14 ?a15 ?i15 ?l15 ?c15 ?k15 ?a16 ?i16 ?l16 ?c16 ?k16 ?a17 ?i17 ?l17 ?c17 ?k17 ?a18 ?i18 ?l18 ?c18 ?k18 ?a19 ?l19 ?c19 ?k19 ?a20 ?l20 ?c20 ?k20 ?a21 ?l21 ?c21 ?k21 ?a22 ?l22 ?c22 ?k22 ?a23 ?l23 ?c23 ?k23 ?a24 ?l24 ?c24 ?k24 ?a25 ?l25 ?c25 ?k25 ?a26 ?l26 ?c26 ?k26 ?a27 ?l27 ?c27 ?k27 ?a28 ?l28 ?c28 ?k28 ?a29 ?l29 ?c29 ?k29 ?a30 ?l30 ?c30 ?k30 ?a31 ?l31 ?c31 ?k31 ?a32 ?l32 ?c32 ?k32 ?a33 ?l33 ?c33 ?k33 ?a34 ?l34 ?c34 ?k34 ?a35 ?l35 ?c35 ?k35 ?a36 ?l36 ?c36 ?k36 ?a37 ?l37 ?c37 ?k37 ?a38 ?l38 ?c38 ?k38 ?a39 ?l39 ?c39 ?k39 ?a40 ?l40 ?c40 ?k40 ?a41 ?l41 ?c41 ?k41 ?a42 ?l42 ?c42 ?k42 ?a43 ?g43 ?t43 ?r43 ?l43 ?c43 ?k43 ?a44 ?g44 ?t44 ?r44 ?l44 ?c44 ?k44 ?aC ?pg ?hd ?po ?sa ?mk ?kc ?iA ?iB ?iD ?iE ?nA0 ?nA1 ?nA2 ?nA3 ?nA4 ?nA5 ?z_len ?z_isinstance ?z_all ?z_int ?z_bool ?z_str ?z_tuple ?z_list ?z_range ?z_reversed ?z_zip ?z_max ?z_min ?z_abs ?z_sorted ?z_set ?z_divmod ?z_repr ?z_enumerate ?aLM ?lLM ?kLM ?wLM ?vI ?vC ?vL
    (case aC => k_is)
    (case aLM => k_is)
    (case lLM => k_is)
    (case a1 => k_is)
    (case l1 => k_is)
    (case c1 => k_is)
    (case k1 => k_is)
    (case a2 => k_is)
    (case l2 => k_is)
    (case c2 => k_is)
    (case k2 => k_is)
    (case a3 => k_is)
    (case l3 => k_is)
    (case c3 => k_is)
    (case k3 => k_is)
    (case a4 => k_is)
    (case l4 => k_is)
    (case c4 => k_is)
    (case k4 => k_is)
    (case a5 => k_is)
    (case l5 => k_is)
    (case c5 => k_is)
    (case k5 => k_is)
    (case a6 => k_is)
    (case l6 => k_is)
    (case c6 => k_is)
    (case k6 => k_is)
    (case a7 => k_is)
    (case l7 => k_is)
    (case c7 => k_is)
    (case k7 => k_is)
    (case a8 => k_is)
    (case l8 => k_is)
    (case c8 => k_is)
    (case k8 => k_is)
    (case a9 => k_is)
    (case l9 => k_is)
    (case c9 => k_is)
    (case k9 => k_is)
    (case a10 => k_is)
    (case l10 => k_is)
    (case c10 => k_is)
    (case k10 => k_is)
    (case a11 => k_is)
    (case l11 => k_is)
    (case c11 => k_is)
    (case k11 => k_is)
    (case a12 => k_is)
    (case l12 => k_is)
    (case c12 => k_is)
    (case k12 => k_is)
    (case a13 => k_is)
    (case l13 => k_is)
    (case c13 => k_is)
    (case k13 => k_is)
    (case a14 => k_is)
    (case l14 => k_is)
    (case c14 => k_is)
    (case k14 => k_is)
    (case a15 => k_is)
    (case i15 => k_is)
    (case l15 => k_is)
    (case c15 => k_is)
    (case k15 => k_is)
    (case a16 => k_is)
    (case i16 => k_is)
    (case l16 => k_is)
    (case c16 => k_is)
    (case k16 => k_is)
    (case a17 => k_is)
    (case i17 => k_is)
    (case l17 => k_is)
    (case c17 => k_is)
    (case k17 => k_is)
    (case a18 => k_is)
    (case i18 => k_is)
    (case l18 => k_is)
    (case c18 => k_is)
    (case k18 => k_is)
    (case a19 => k_is)
    (case l19 => k_is)
    (case c19 => k_is)
    (case k19 => k_is)
    (case a20 => k_is)
    (case l20 => k_is)
    (case c20 => k_is)
    (case k20 => k_is)
    (case a21 => k_is)
    (case l21 => k_is)
    (case c21 => k_is)
    (case k21 => k_is)
    (case a22 => k_is)
    (case l22 => k_is)
    (case c22 => k_is)
    (case k22 => k_is)
    (case a23 => k_is)
    (case l23 => k_is)
    (case c23 => k_is)
    (case k23 => k_is)
    (case a24 => k_is)
    (case l24 => k_is)
    (case c24 => k_is)
    (case k24 => k_is)
    (case a25 => k_is)
    (case l25 => k_is)
    (case c25 => k_is)
    (case k25 => k_is)
    (case a26 => k_is)
    (case l26 => k_is)
    (case c26 => k_is)
    (case k26 => k_is)
    (case a27 => k_is)
    (case l27 => k_is)
    (case c27 => k_is)
    (case k27 => k_is)
    (case a28 => k_is)
    (case l28 => k_is)
    (case c28 => k_is)
    (case k28 => k_is)
    (case a29 => k_is)
    (case l29 => k_is)
    (case c29 => k_is)
    (case k29 => k_is)
    (case a30 => k_is)
    (case l30 => k_is)
    (case c30 => k_is)
    (case k30 => k_is)
    (case a31 => k_is)
    (case l31 => k_is)
    (case c31 => k_is)
    (case k31 => k_is)
    (case a32 => k_is)
    (case l32 => k_is)
    (case c32 => k_is)
    (case k32 => k_is)
    (case a33 => k_is)
    (case l33 => k_is)
    (case c33 => k_is)
    (case k33 => k_is)
    (case a34 => k_is)
    (case l34 => k_is)
    (case c34 => k_is)
    (case k34 => k_is)
    (case a35 => k_is)
    (case l35 => k_is)
    (case c35 => k_is)
    (case k35 => k_is)
    (case a36 => k_is)
    (case l36 => k_is)
    (case c36 => k_is)
    (case k36 => k_is)
    (case a37 => k_is)
    (case l37 => k_is)
    (case c37 => k_is)
    (case k37 => k_is)
    (case a38 => k_is)
    (case l38 => k_is)
    (case c38 => k_is)
    (case k38 => k_is)
    (case a39 => k_is)
    (case l39 => k_is)
    (case c39 => k_is)
    (case k39 => k_is)
    (case a40 => k_is)
    (case l40 => k_is)
    (case c40 => k_is)
    (case k40 => k_is)
    (case a41 => k_is)
    (case l41 => k_is)
    (case c41 => k_is)
    (case k41 => k_is)
    (case a42 => k_is)
    (case l42 => k_is)
    (case c42 => k_is)
    (case k42 => k_is)
    (case a43 => k_is)
    (case g43 => k_is)
    (case t43 => k_is)
    (case r43 => k_is)
    (case l43 => k_is)
    (case c43 => k_is)
    (case k43 => k_is)
    (case a44 => k_is)
    (case g44 => k_is)
    (case t44 => k_is)
    (case r44 => k_is)
    (case l44 => k_is)
    (case c44 => k_is)
    (case k44 => k_is)
    (case pg => k_is)
    (case hd => k_is)
    (case po => k_is)
    (case sa => k_is)
    (case mk => k_is)
    (case kc => k_is)
    (case iA => k_is)
    (case iB => k_is)
    (case iD => k_is)
    (case iE => k_is)
    (case nA0 => k_is)
    (case nA1 => k_is)
    (case nA2 => k_is)
    (case nA3 => k_is)
    (case nA4 => k_is)
    (case nA5 => k_is)
    (case z_len => k_is)
    (case z_isinstance => k_is)
    (case z_all => k_is)
    (case z_int => k_is)
    (case z_bool => k_is)
    (case z_str => k_is)
    (case z_tuple => k_is)
    (case z_list => k_is)
    (case z_range => k_is)
    (case z_reversed => k_is)
    (case z_zip => k_is)
    (case z_max => k_is)
    (case z_min => k_is)
    (case z_abs => k_is)
    (case z_sorted => k_is)
    (case z_set => k_is)
    (case z_divmod => k_is)
    (case z_repr => k_is)
    (case z_enumerate => k_is)
    (case kLM => exact Ax.keys3)
    (case wLM => rfl)
    (case vI => k_is)
    (case vC => k_is)
    (case vL => k_is)


