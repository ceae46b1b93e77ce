import PyProof.Rows.All
import Wide.All
import OpenK.AllK
import Wide.FinOn
import HandS.ExcInit
import HandS.ExcField
import HandS.MakeKw
import KE.KExcIs
import HandS.ForExc
import HandS.CallSlots
import HandS.ForMost
import HandS.IsInst
import HandS.Wide
import HandS.WideBits
import HandS.More
import HandS.NoneIn
import HandS.SortKw
import HandS.Zip
import HandS.Property
import HandS.Codes
import KE.KMinBuiltin
import HandS.Walk
import HandS.Evl
import PyProof.ReprRoads
import HandS.OwnEq
import PyProof.InstNe
import HandS.Style
import PySem.Challenge.RW_axisticks_k02_rules_made
set_option Elab.async false
set_option linter.all false
set_option maxRecDepth 100000
set_option maxHeartbeats 4000000
/-! # Own exceptions as values: made by position, by name, without a value; asked for their class and their field. -/
namespace XcV
open PySem PySem.HandSPX Builtin Builtin.ObjectAttr
section
variable {M : Model} {A : Around} {E : Value → Shared → Prop} {h : Heap} {g : Array GenState} {d : Drawn} {t : Nat} {os : OsState}
variable {nm q : Str} {C N : Addr} {bs bm bmB : List Value} {hdct : Bool} {sn : List Str} {sub : List Value} {ab : Bool} {col : Option Bool} {dd : Option Addr} {k0 k1 k2 k3 k5 : Option Value} {B newId initId : String}
theorem checked (F : ExcBaseFacts B newId initId bmB) (hT : ∀ X : String, bm.contains (.type X) = bmB.contains (.type X)) {n : Str} {u : Value} {Q : Unit → Shared → Prop}
    (hC : h.get? C = some (excClassObj nm q C N bs bm hdct sn sub ab col dd k0 k1 k2 k3 k5 newId)) (hq : Q () ⟨h, g, d, t, os⟩) : wpAny M A (checkBuiltinCall newId ⟨[.ref C], [(n, u)]⟩) Q E ⟨h, g, d, t, os⟩ := by
  have own : (Value.ref C :: bm).contains (.type B) = true := by rw [List.contains_cons, hT, F.hasB, Bool.or_true]
  have star := F.noStar
  simp only [checkBuiltinCall, F.newKind, F.newSplit, F.newRow]
  repeat (first | refine wpAny_loadPart_at hC ?_ | (refine wpAny_isSubtype_exc hC ?_; rw [own]) | refine wpAny_staticBase_exc hC ?_ | refine wpAny_madeBy_exc hC ?_ | simp only [bne_self_eq_false, Bool.false_eq_true, if_false] | wp_step)
  exact hq
end
section
variable {prog : Program} {w : World} {A : Around} {E : Value → Shared → Prop} {R : Result → Shared → Prop} {h : Heap} {g : Array GenState} {d : Drawn} {t : Nat} {os : OsState}
variable {nm q : Str} {C N : Addr} {bs bm bmB : List Value} {hdct : Bool} {sn : List Str} {sub : List Value} {ab : Bool} {col : Option Bool} {dd : Option Addr} {k0 k1 k2 k3 k5 : Option Value} {B newId initId : String}
/-- the heap with the new exception -/
abbrev laid (h : Heap) (C : Addr) : Heap := (h.push (W.kdv_tup [])).push (excO C h.objs.size)
theorem newed (F : ExcBaseFacts B newId initId bmB) (hT : ∀ X : String, bm.contains (.type X) = bmB.contains (.type X)) {n : Str} {u : Value}
    (hC : h.get? C = some (excClassObj nm q C N bs bm hdct sn sub ab col dd k0 k1 k2 k3 k5 newId)) (hq : R (.ok (.ret (.ref (h.objs.size + 1)))) ⟨laid h C, g, d, t, os⟩) :
    codeAny (model prog w) A (.builtin newId ⟨[.ref C], [(n, u)]⟩) R ⟨h, g, d, t, os⟩ := by
  have ends := F.ends
  have isB : (Value.ref C :: bm).contains (.type B) = true := by rw [List.contains_cons, hT, F.hasB, Bool.or_true]
  have noA : (Value.ref C :: bm).contains (.type "AttributeError") = false := by rw [List.contains_cons, hT, F.noAttr]; rfl
  have noN : (Value.ref C :: bm).contains (.type "NameError") = false := by rw [List.contains_cons, hT, F.noName]; rfl
  refine codeAny_builtinAt F.entry ?_
  unfold Builtin.«BaseException.__new__»
  refine wpAt_bind ?_
  show wpAt _ _ _ (stack >>= _) _ _ _
  refine wpAt_bind (wpAt_stack fun p below => wpAt_of_wpAny ?_)
  wp_walk
  refine wpAt_of_wpAny ?_
  rw [F.owner]
  repeat (first | with_reducible refine wpAny_madeHere_exc F.canon hC ?_ | with_reducible refine wpAny_loadPart_at hC ?_ | (with_reducible refine wpAny_isSubtype_exc hC ?_; first | rw [isB] | rw [noA] | rw [noN]) | wp_step)
  show R _ _
  rw [Heap.size_push]
  exact hq
theorem typeCall (F : ExcBaseFacts B newId initId bmB) (hT : ∀ X : String, bm.contains (.type X) = bmB.contains (.type X)) {n : Str} {u : Value} {fI : Addr} {Q : Fin → Shared → Prop}
    (hC : h.get? C = some (excClassObj nm q C N bs bm hdct sn sub ab col dd k0 k1 k2 k3 k5 newId))
    (hi : W.Looks (model prog w) h (typeLookup (.ref C) "__init__") (some (.ref fI))) (hb : ∀ self, W.Looks (model prog w) h (bindSpecial (.ref fI) self) (.ref fI, [self]))
    (hq : codeAny (model prog w) A (.call (.ref fI) ⟨[.ref (h.objs.size + 1)], [(n, u)]⟩)
      (fun r s' => match r with | .ok (.ret v) => v = .none ∧ Q (.done (.ret (.ref (h.objs.size + 1)))) s' | .ok _ => False | .error e => E e s') ⟨laid h C, g, d, t, os⟩) :
    wpAny (model prog w) A (Builtin.«type.__call__» ⟨[.ref C], [(n, u)]⟩) Q E ⟨h, g, d, t, os⟩ := by
  repeat (first | with_reducible refine wpAny_loadPart_at hC ?_ | with_reducible refine wpAny_madeBy_exc hC ?_ | wp_step)
  refine codeAny_call_builtin_code (Code.quiet_builtin _ F.quiet) (checked F hT hC ?_)
  refine newed F hT hC ?_
  show wpAny _ _ _ _ _ _
  have k : ∀ b o, h.get? b = some o → (laid h C).get? b = some o := fun b o e => Heap.get?_push_of_some _ (Heap.get?_push_of_some _ e)
  have hC2 := k _ _ hC
  have here : (laid h C).get? (h.objs.size + 1) = some (excO C h.objs.size) := by heap_get
  have same : (Value.ref C :: bm).contains (.ref C) = true := by simp
  have i1 := hi.keeps k
  have b1 := (hb (.ref (h.objs.size + 1))).keeps k
  unfold isInstance
  repeat (first | with_reducible refine wpAny_loadPart_at here ?_ | (with_reducible refine wpAny_isSubtype_exc hC2 ?_; rw [same]) | wp_step)
  show wpAny _ _ (typeLookup (.ref C) _) _ _ _
  refine i1.at ?_
  refine wpAny_holding (wpAny_bind (b1.at ?_))
  refine wpAny_bind (wpAny_call (codeAny_mono hq fun r s' z => ?_))
  rcases r with e | (v | _ | _ | _) <;> first | exact z | exact z.elim | skip
  obtain ⟨rfl, z⟩ := z
  first
    | exact wpAny_pure (wpAny_pure z)
    | (wp_walk; exact z)
theorem called (F : ExcBaseFacts B newId initId bmB) (hT : ∀ X : String, bm.contains (.type X) = bmB.contains (.type X)) {n : Str} {u : Value} {fI : Addr}
    (hC : h.get? C = some (excClassObj nm q C N bs bm hdct sn sub ab col dd k0 k1 k2 k3 k5 newId))
    (hi : W.Looks (model prog w) h (typeLookup (.ref C) "__init__") (some (.ref fI))) (hb : ∀ self, W.Looks (model prog w) h (bindSpecial (.ref fI) self) (.ref fI, [self]))
    (hq : codeAny (model prog w) (A.under (.builtin "type.__call__" ⟨[.ref C], [(n, u)]⟩)) (.call (.ref fI) ⟨[.ref (h.objs.size + 1)], [(n, u)]⟩) (W.InitBack (h.objs.size + 1) R) ⟨laid h C, g, d, t, os⟩) :
    codeAny (model prog w) A (.call (.ref C) ⟨[], [(n, u)]⟩) R ⟨h, g, d, t, os⟩ := by
  have f1 := tc_lookup
  have f2 := tc_bind (.ref C)
  have hTy : (⟨h, g, d, t, os⟩ : Shared).TypeIs (.ref C) "type" := ⟨_, hC, rfl⟩
  refine codeAny_of_tree ?_
  show wpAny _ _ (callAny (.ref C) _) _ _ _
  repeat (any_goals (first | assumption | with_reducible refine wpAny_loadPart_at hC ?_ | wp_step))
  refine ⟨rfl, ?_⟩
  refine codeAny_call_builtin_at (Code.quiet_builtin _ (by decide +kernel)) entry_typeCall ?_
  have f3 := tc_sub
  show wpAny _ _ (checkBuiltinCall "type.__call__" ⟨[.ref C], [(n, u)]⟩) _ _ _
  have ok : ∀ {A' : Around} {Q' : Unit → Shared → Prop} {E' : Value → Shared → Prop}, Q' () ⟨h, g, d, t, os⟩ → wpAny (model prog w) A' (checkBuiltinCall "type.__call__" ⟨[.ref C], [(n, u)]⟩) Q' E' ⟨h, g, d, t, os⟩ := fun {A' Q' E'} z => by
    simp only [checkBuiltinCall, tc_kind, tc_split]
    repeat (any_goals (first | assumption | with_reducible refine wpAny_loadPart_at hC ?_ | with_reducible refine wpAny_onRaise ?_ | with_reducible refine wpAny_map ?_ | wp_step))
  refine ok ?_
  refine typeCall F hT hC hi hb ?_
  refine codeAny_mono hq fun r s' z => ?_
  rcases r with e | (v | _ | _ | _) <;> exact z
end
end XcV
namespace L2
open PySem PySem.Spec PyProof.Rows
/-- what a made exception is: its object, its dict -/
def tMkV (C : Addr) (sp : Sp) (gV : List V → List V → List V) (ta tk : TA) : TE := fun σ H Q => ta σ H fun vs H1 => tk σ H1 fun zs H2 => vs.length ≤ 1 ∧ zs.length + vs.length ≤ 1 ∧ ∀ a, H2 a = none → sp (.ref a :: gV vs zs) (upd H2 a (exo a C none)) (fun v H3 => v = .non ∧ Q (.ref a) H3) (fun _ _ _ => False)
section
variable {X : Cx} {CX : CXT} {C fI : Addr} {k : Nat} {fd : FuncData} {ps : List Str} {sp : Sp} {pins : List (Addr × Obj)} {σ : St} {H : Hp} {s : Shared} {Q : VK}
/-- what a class asks for, and its own __init__ -/
structure Xmk (X : Cx) (CX : CXT) (C fI : Addr) (k : Nat) (fd : FuncData) (ps : List Str) (sp : Sp) : Prop where
  T : OexC X.K C
  iC : PySem.W.findIn X.K (.ref C) "__init__" = some (some (.ref fI))
  tI : PySem.W.typeIn X.K (.ref fI) = some (.type "function")
  F1 : FnOk X.prog X.w X.K X.mg X.base CX k fI fd ps sp
  hx : Passes CX X (fun _ _ _ => False)
theorem run_xv0 {us ds : List Value} {vs dvs : List V} (M : Xmk X CX C fI k fd ps sp) (hr : Room (k + 1) X.A) (hb : Binds X.K fd ps ds) (hd : Vals dvs ds) (I : Inv X pins σ H s) (r : Vals vs us) (hz : vs.length ≤ 1)
    (h : ∀ a, H a = none → sp (.ref a :: (vs ++ dvs)) (upd H a (exo a C none)) (fun v H3 => v = .non ∧ Q (.ref a) H3) (fun _ _ _ => False)) : wpAny (model X.prog X.w) X.A (call (.ref C) us) (EP X pins σ Q) X.xe s := by
  obtain ⟨nm, q, N, bs, bm, sn, sub, ab, col, dd, k0, k1, k2, k3, k5, hC, hbm⟩ := M.T.cls
  obtain ⟨hp, g, dr, tk, os⟩ := s
  have up1 : hp.objs.size ≤ hp.objs.size + 1 := Nat.le_succ _
  have hq := h (hp.objs.size + 1) (I.hok.fresh up1)
  have kk : ∀ b o, hp.get? b = some o → ((hp.push (PySem.W.kdv_tup us)).push (PySem.HandSPX.excO C hp.objs.size)).get? b = some o := fun b o e => Heap.get?_push_of_some _ (Heap.get?_push_of_some _ e)
  have here : ((hp.push (PySem.W.kdv_tup us)).push (PySem.HandSPX.excO C hp.objs.size)).get? (hp.objs.size + 1) = some (PySem.HandSPX.excO C hp.objs.size) := by heap_get
  have I2 : Inv X pins σ (upd H (hp.objs.size + 1) (exo (hp.objs.size + 1) C none)) ⟨(hp.push (PySem.W.kdv_tup us)).push (PySem.HandSPX.excO C hp.objs.size), g, dr, tk, os⟩ := I.laid (t' := tk) kk up1 (exo_ok here)
  have r2 : Vals (V.ref (hp.objs.size + 1) :: (vs ++ dvs)) (Value.ref (hp.objs.size + 1) :: (us ++ ds)) := .cons rfl (r.append hd)
  have hl : (Value.ref (hp.objs.size + 1) :: us ++ ds).length = ps.length := (r2.length.symm.trans (M.F1.len _ _ _ _ hq))
  have hus : us.length ≤ sizeLine := by
    rw [← Paired.length r, sizeLine_eq]
    omega
  refine wpAny_call (PySem.HandSPX.call_own F.excBase_ValueError (fun Y => PySem.HandSPX.refsVE_contains Y bm hbm) (I.kIn _ _ hC) (PySem.W.looks_findIn I.kIn M.iC) (fun self => PySem.W.bind_fn I.kIn self M.tI) hus
    (codeAny_mono (M.F1.run _ X.stack _ _ ⟨Value.ref (hp.objs.size + 1) :: us, []⟩ (Value.ref (hp.objs.size + 1) :: (us ++ ds)) _ _ (fun _ _ _ => False) (hr.make C us []) (I2.env0.make C us []) (hb _ (Value.ref (hp.objs.size + 1) :: us) I2.kIn hl) r2 hq) fun r s' hq' => ?_))
  cases r with
  | error er => exact M.hx pins σ _ _ er s' I2 hq'
  | ok fl =>
    cases fl with
    | ret u =>
      obtain ⟨v, H', I3, rv, ev, q3⟩ := I2.after hq'
      subst ev
      -- what was tracked ahead of the call stands as it did: the entry's heap is that of I
      exact ⟨rv, ⟨V.ref (hp.objs.size + 1), H', I3, rfl, q3⟩⟩
    | next => exact False.elim hq'
    | brk => exact False.elim hq'
    | cont => exact False.elim hq'
theorem run_xvK {w' : Value} {v' : V} {n : Str} {g : List Value → List Value → List Value} {gV : List V → List V → List V} (M : Xmk X CX C fI k fd ps sp) (hr : Room (k + 1) X.A) (hb : KBn X.K fd ps 1 [n] g gV) (I : Inv X pins σ H s) (r : RelV v' w')
    (h : ∀ a, H a = none → sp (gV [.ref a] [v']) (upd H a (exo a C none)) (fun v H3 => v = .non ∧ Q (.ref a) H3) (fun _ _ _ => False)) : wpAny (model X.prog X.w) X.A (call (.ref C) [] [(n, w')]) (EP X pins σ Q) X.xe s := by
  obtain ⟨nm, q, N, bs, bm, sn, sub, ab, col, dd, k0, k1, k2, k3, k5, hC, hbm⟩ := M.T.cls
  obtain ⟨hp, gn, dr, tk, os⟩ := s
  have up1 : hp.objs.size ≤ hp.objs.size + 1 := Nat.le_succ _
  have hq := h (hp.objs.size + 1) (I.hok.fresh up1)
  have kk : ∀ b o, hp.get? b = some o → (XcV.laid hp C).get? b = some o := fun b o e => Heap.get?_push_of_some _ (Heap.get?_push_of_some _ e)
  have here : (XcV.laid hp C).get? (hp.objs.size + 1) = some (PySem.HandSPX.excO C hp.objs.size) := by heap_get
  have I2 : Inv X pins σ (upd H (hp.objs.size + 1) (exo (hp.objs.size + 1) C none)) ⟨XcV.laid hp C, gn, dr, tk, os⟩ := I.laid (t' := tk) kk up1 (exo_ok here)
  have r2 : Vals (gV [V.ref (hp.objs.size + 1)] [v']) (g [Value.ref (hp.objs.size + 1)] [w']) := hb.rel (.cons rfl .nil) (.cons r .nil)
  refine wpAny_call (XcV.called F.excBase_ValueError (fun Y => PySem.HandSPX.refsVE_contains Y bm hbm) (I.kIn _ _ hC) (PySem.W.looks_findIn I.kIn M.iC) (fun self => PySem.W.bind_fn I.kIn self M.tI)
    (codeAny_mono (M.F1.run _ X.stack _ _ ⟨[Value.ref (hp.objs.size + 1)], [(n, w')]⟩ (g [Value.ref (hp.objs.size + 1)] [w']) _ _ (fun _ _ _ => False) (hr.make C [] [(n, w')]) (I2.env0.make C [] [(n, w')]) (hb.to _ [Value.ref (hp.objs.size + 1)] [w'] I2.kIn rfl rfl) r2 hq) fun r s' hq' => ?_))
  cases r with
  | error er => exact M.hx pins σ _ _ er s' I2 hq'
  | ok fl =>
    cases fl with
    | ret u =>
      obtain ⟨v, H', I3, rv, ev, q3⟩ := I2.after hq'
      subst ev
      exact ⟨rv, ⟨V.ref (hp.objs.size + 1), H', I3, rfl, q3⟩⟩
    | next => exact False.elim hq'
    | brk => exact False.elim hq'
    | cont => exact False.elim hq'
end
/-- C(e) -/
def tXv (C : Addr) (sp : Sp) (dvs : List V) (ta : TA) : TE := fun σ H Q => ta σ H fun vs H1 => vs.length ≤ 1 ∧ ∀ a, H1 a = none → sp (.ref a :: (vs ++ dvs)) (upd H1 a (exo a C none)) (fun v H3 => v = .non ∧ Q (.ref a) H3) (fun _ _ _ => False)
/-- C(n=e) -/
def tXvK (C : Addr) (sp : Sp) (gV : List V → List V → List V) (te : TE) : TE := fun σ H Q => tCons te tNil σ H fun zs H1 => ∃ v, zs = [v] ∧ ∀ a, H1 a = none → sp (gV [.ref a] [v]) (upd H1 a (exo a C none)) (fun v H3 => v = .non ∧ Q (.ref a) H3) (fun _ _ _ => False)
section
variable {X : Cx} {CX : CXT} {C fI : Addr} {k : Nat} {fd : FuncData} {ps : List Str} {sp : Sp} {ds : List Value} {dvs : List V} {x : Str} {p pos : Pos} {e : Expr} {ta : TA} {te : TE}
theorem pe_xv (M : Xmk X CX C fI k fd ps sp) (hr : Room (k + 1) X.A) (hb : Binds X.K fd ps ds) (hd : Vals dvs ds) (hg : Gl X x) (hm : X.mg x = some (.ref C)) (ha : PA X [e] ta)
    (hdb : (x == ("__debug__" : Str)) = false := by decide) (he : starEach [e] X.env = (false, eval e X.env) :: starEach [] X.env := by rfl) (hpl : (backTo pos (starEach [] X.env)).any (·.1) = false := by rfl) : PE X (.Call (.Name x p) [e] [] pos) (tXv C sp dvs ta) := by
  refine ⟨fun pins s σ H Q I h => ?_⟩
  refine wpAny_Call_Name_kw (ld_glob I hg hm ?_ hdb)
  exact PySem.W.callWith_K (h₀ := X.base) I.ok.mod.kin M.T.kC (thn (ha.run pos pins s σ H _ I h) fun us s1 ⟨vs, H1, I1, r, hz, q⟩ => ⟨I1.kIn, run_xv0 M hr hb hd I1 r hz q⟩) he hpl
theorem pe_xv0 (M : Xmk X CX C fI k fd ps sp) (hr : Room (k + 1) X.A) (hb : Binds X.K fd ps ds) (hd : Vals dvs ds) (hg : Gl X x) (hm : X.mg x = some (.ref C)) (hdb : (x == ("__debug__" : Str)) = false := by decide) : PE X (.Call (.Name x p) [] [] pos) (tXv C sp dvs tNil) := by
  refine ⟨fun pins s σ H Q I h => ?_⟩
  refine wpAny_Call_Name_kw (ld_glob I hg hm ?_ hdb)
  exact PySem.W.callWith_K0 I.kIn M.T.kC (run_xv0 (us := []) M hr hb hd I .nil h.1 h.2)
theorem pe_xvK {n : Str} {kp : Pos} {g : List Value → List Value → List Value} {gV : List V → List V → List V} (M : Xmk X CX C fI k fd ps sp) (hr : Room (k + 1) X.A) (hb : KBn X.K fd ps 1 [n] g gV) (hg : Gl X x) (hm : X.mg x = some (.ref C)) (he : PE X e te)
    (hall : (backToKw pos (keywordEach [⟨some n, e, kp⟩] X.env)).all (·.1.isSome) = true := by rfl) (hks : (backToKw pos (keywordEach [⟨some n, e, kp⟩] X.env)).filterMap (·.1) = [n] := by rfl) (hdb : (x == ("__debug__" : Str)) = false := by decide)
    (hpl : ((backTo pos (starEach [] X.env)).any (·.1) || (backToKw pos (keywordEach [⟨some n, e, kp⟩] X.env)).any (·.1.isNone)) = false := by rfl) : PE X (.Call (.Name x p) [] [⟨some n, e, kp⟩] pos) (tXvK C sp gV te) := by
  refine ⟨fun pins s σ H Q I h => ?_⟩
  refine wpAny_Call_Name_kw (ld_glob I hg hm ?_ hdb)
  refine PySem.W.callWith_KW0 (h₀ := X.base) I.ok.mod.kin M.T.kC hall ?_ hpl
  refine thn ((pk_cons (kpos := kp) (nm := some n) he pk_nil).run pos pins s σ H (fun zs H1 => ∃ v, zs = [v] ∧ ∀ a, H1 a = none → sp (gV [.ref a] [v]) (upd H1 a (exo a C none)) (fun v H3 => v = .non ∧ Q (.ref a) H3) (fun _ _ _ => False)) I ?_) fun ws s1 ⟨zs, H1, I1, rz, v, ez, q⟩ => ⟨I1.kIn, ?_⟩
  · exact h
  · subst ez
    cases rz with
    | cons r rn =>
      cases rn
      rw [hks]
      exact run_xvK M hr hb I1 r q
end
/-! ### asked for its class, its field -/
/-- what a class must say for that -/
structure Xask (K : PySem.W.Frag) (C : Addr) : Prop where
  ga : PySem.W.findIn K (.ref C) "__getattribute__" = some (some (.builtin "BaseException.__getattribute__"))
  gg : PySem.W.findIn K (.ref C) "__getattr__" = some none
  ex : PySem.W.subIn K (.ref C) (.type "BaseException") = some true
  hd : PySem.W.hasDictIn K C = true
  ca : PySem.W.findIn K (.ref C) "__class__" = some (some (.builtin "object.__class__"))
  cn : PySem.W.specialIn K (.builtin "object.__class__") "__get__" = some (some (.builtin "getset_descriptor.__get__"))
  ct : PySem.W.takesIn K (.builtin "object.__class__") = some true
  cm : PySem.W.mroIn K C (.type "object") = some true
/-- an exception at a, of the class at C, with these fields -/
def Xat (H : Hp) (a C : Addr) (fs : List (Str × V)) : Prop := ∃ d, H a = some (exo a C (some d)) ∧ H d = some (exd d fs)
theorem Xat.same {H H' : Hp} {a C : Addr} {fs : List (Str × V)} (s : ∀ b o, H b = some o → H' b = some o) (x : Xat H a C fs) : Xat H' a C fs := by
  obtain ⟨d, h1, h2⟩ := x
  exact ⟨d, s _ _ h1, s _ _ h2⟩
section
variable {X : Cx} {pins : List (Addr × Obj)} {σ : St} {H : Hp} {s : Shared} {a C : Addr} {fs : List (Str × V)}
theorem xat_inst (I : Inv X pins σ H s) (x : Xat H a C fs) : ∃ (ox od : Obj) (mA : Str → Option Value), PySem.W.InstAt s.heap a ox C (some od) ∧ (∀ f, PySem.W.lookIn f od = some (mA f)) ∧ ∀ f, RelO (fs.lookup f) (mA f) := by
  obtain ⟨d, h1, h2⟩ := x
  obtain ⟨t1, ho⟩ := exo_at I.hok h1
  obtain ⟨mA, hns, rel⟩ := exd_at I.hok h2
  obtain ⟨od, hod, hl⟩ := lookIn_ns hns
  exact ⟨_, od, mA, ⟨ho, rfl, rfl, hod⟩, hl, rel⟩
/-- isinstance(e, c) -/
def rIsX (K : PySem.W.Frag) : List V → Hp → VK → Prop := fun xs H Q => ∃ (a C : Addr) (fs : List (Str × V)) (c : V) (cv : Value) (b : Bool), xs = [.ref a, c] ∧ Xask K C ∧ Xat H a C fs ∧ (∀ u, RelV c u → u = cv) ∧ PySem.W.kitOne K (.ref C) cv = some b ∧ Q (.bl b) H
theorem call_isX : CallR X (.builtin "isinstance") (rIsX X.K) := by
  intro pins s σ H xs us Q I r h
  obtain ⟨a, C, fs, c, cv, b, rfl, T, x, hcv, e, q⟩ := h
  cases r with
  | cons rx rr =>
    cases rr with
    | cons rt rr =>
      cases rr
      cases rx
      obtain rfl := hcv _ rt
      obtain ⟨ox, od, mA, J, _, _⟩ := xat_inst I x
      obtain ⟨cd, hcd, _⟩ := PySem.W.any_some T.hd
      exact PySem.W.kia_one (PySem.W.kitx_exc (od := some od) (by rw [hcd]; rfl) T.ga T.gg T.ex T.ca T.cn T.ct T.cm) I.kIn J e (fun z => nomatch z) fun tk => ⟨.bl b, H, I.kept (t' := tk) fun _ _ z => z, rfl, q⟩
/-- e.f -/
def tXf2 (K : PySem.W.Frag) (f : Str) (te : TE) : TE := fun σ H Q => te σ H fun x H1 => ∃ (a C : Addr) (fs : List (Str × V)) (v : V), x = .ref a ∧ Xask K C ∧ PySem.W.findIn K (.ref C) f = some none ∧ Xat H1 a C fs ∧ fs.lookup f = some v ∧ Q v H1
theorem pe_xf2 {e : Expr} {te : TE} {f : Str} {pos : Pos} (he : PE X e te) (hb : attributeBase e f X.env (eval e X.env) = eval e X.env := by rfl) : PE X (.Attribute e f pos) (tXf2 X.K f te) := by
  refine ⟨fun pins s σ H Q I h => ?_⟩
  refine attr_of hb (thn (he.run pins s σ H _ I h) fun u s1 hh => ?_)
  obtain ⟨x, H1, I1, rx, a, C, fs, v, rfl, T, no, xa, lk, q⟩ := hh
  obtain rfl : u = Value.ref a := rx
  obtain ⟨ox, od, mA, J, hl, rel⟩ := xat_inst I1 xa
  obtain ⟨u, hu, ru⟩ := RelO.some_of (v := v) (o := mA f) (by rw [← lk]; exact rel f)
  exact PySem.HandSPX.exc_get I1.kIn J T.ga T.gg T.ex (PySem.W.findObj_own T.hd no rfl (by rw [hl, hu])) (handed_of ru) ⟨v, H1, I1.tok _, ru, q⟩
end
end L2

/-! # A caught exception that is kept behind its except clause; a class whose __init__ raises -/
namespace L2
open PySem PySem.Spec PyProof.Rows
/-- a caught exception, kept -/
def exr (e : Addr) (cls : Value) (d : Option Addr) : HO := .ext fun h => ∃ (o : Obj) (vs : Array Value), h.get? e = some o ∧ o.cls = cls ∧ o.dict = d ∧ o.data = .fields vs
theorem exr_ok {P : Program} {w : World} {H : Hp} {h : Heap} {e : Addr} {cls : Value} {d : Option Addr} {o : Obj} {vs : Array Value} (he : h.get? e = some o) (hz : Zc cls d o) (hd : o.data = .fields vs) : ObjOk P w H h e (exr e cls d) :=
  ⟨⟨o, vs, he, hz.1, hz.2, hd⟩, ⟨_, he⟩, fun h1 h2 z k => by
    obtain ⟨o, vs, q, r⟩ := z
    exact ⟨o, vs, k _ q, r⟩⟩
theorem exr_at {P : Program} {w : World} {H : Hp} {h : Heap} {e : Addr} {cls : Value} {d : Option Addr} (hok : HOk P w H h) (he : H e = some (exr e cls d)) : ∃ (o : Obj) (vs : Array Value), h.get? e = some o ∧ o.cls = cls ∧ o.dict = d ∧ o.data = .fields vs := by
  have x : ObjOk P w H h e (.ext fun h => ∃ (o : Obj) (vs : Array Value), h.get? e = some o ∧ o.cls = cls ∧ o.dict = d ∧ o.data = .fields vs) := hok e _ he
  exact x.1
section
variable {X : Cx} {pins : List (Addr × Obj)} {σ : St} {H : Hp} {s : Shared}
theorem Inv.track (hex : X.ex = []) {a : Addr} {oe : Obj} {vs : Array Value} {cls : Value} {d : Option Addr} (I : Inv X pins σ H s) (ha : s.heap.get? a = some oe) (hz : Zc cls d oe) (hd : oe.data = .fields vs) (na : H a = none)
    (n0 : X.s_0.heap.get? a = none) (nL : a ≠ X.env.locals) (np : ∀ p ∈ X.pn ++ pins, p.1 ≠ a) : Inv X pins σ (upd H a (exr a cls d)) s := by
  refine ⟨I.ok, I.os, I.bare, ⟨I.base.keep, I.base.slot, fun b o e n hx => ?_, I.base.there, fun b xs q => ?_, fun b o u q => ?_, fun b ps q => ?_⟩, I.loc, I.cell, ?_, fun x c e => ?_, fun p hp => ?_, fun b o q => ?_, I.len⟩
  · have ne : b ≠ a := fun z => by rw [z, n0] at e; cases e
    rw [upd_ne ne]
    exact I.base.free b o e n hx
  · have r := I.base.tups b xs q
    rw [upd_ne (ne_of_none r na)]
    exact r
  · have r := I.base.frzs b o u q
    rw [upd_ne (ne_of_none r na)]
    exact r
  · obtain ⟨more, r⟩ := I.base.tbls b ps q
    exact ⟨more, by rw [upd_ne (ne_of_none r na)]; exact r⟩
  · rw [upd_ne (Ne.symm nL)]
    exact I.free
  · obtain ⟨v, z⟩ := I.cell x c e
    have ne : c ≠ a := fun y => by
      rw [y] at z
      obtain ⟨o, z1, z2⟩ := z
      rw [ha] at z1
      cases z1
      rw [hd] at z2
      cases z2
    rw [upd_ne ne]
    exact I.freeC x c e
  · obtain ⟨e, n, r⟩ := I.pin p hp
    exact ⟨e, by rw [upd_ne (np p hp)]; exact n, r⟩
  · by_cases hb : b = a
    · subst hb
      rw [upd_same] at q
      cases q
      exact exr_ok ha hz hd
    · rw [upd_ne hb] at q
      exact (I.hok b o q).stay (fun c u hc z => z) (fun c hc => by rw [upd_ne (ne_of_none hc na)]; exact hc) (fun c xs hc => by rw [upd_ne (ne_of_none hc na)]; exact hc)
end
/-- what the clause 'except x as n' wishes, the exception kept behind it -/
def wAsK (K : PySem.W.Frag) (c : Value) (i : Nat) (ts : Addr → Value → Option Addr → TS) (Wout : WX) (D : Ends) : WX := fun cls d σ H =>
  ∃ b, PySem.W.exmOne K cls c = some b ∧ (b = true → ∀ a, H a = none → ts a cls d { nx := fun σ' H' => D.nx (σ'.set i none) (upd H' a (exr a cls d)), rt := D.rt, bk := fun σ' H' => D.bk (σ'.set i none) H', ct := fun σ' H' => D.ct (σ'.set i none) H' } (σ.set i (some (.ref a))) H) ∧
    (b = false → Wout cls d σ H)
section
variable {X : Cx} {x n : Str} {c : Value} {i : Nat} {body suite : List Stmt} {b₀ : Stmt} {np pos pos' : Pos} {tb : WX → TS} {ts : Addr → Value → Option Addr → TS} {Wout : WX}
theorem gone_okK {pins : List (Addr × Obj)} {σ : St} {H : Hp} {s : Shared} {M : Model} {A : Around} {E : Value → Shared → Prop} {i : Nat} {n : Str} {pos : Pos} {Q : Unit → Shared → Prop} (I : Inv X pins σ H s) (hN : X.N.Nodup) (hi : X.N[i]? = some n) (hl : X.env.kindOf n = some .local)
    (h : ∀ s', Inv X pins (σ.set i none) H s' → (∀ b o, b ≠ X.env.locals → s.heap.get? b = some o → s'.heap.get? b = some o) → Q () s') : wpAny M A (do bindName X.env n .none; unbindBehindTheSuite X.env n pos) Q E s := by
  obtain ⟨m, hn, hlk⟩ := id I.loc
  have hcls : (X.env.scope.kind == .class || (X.env.scope.kind == .module && X.env.locals != X.env.globals)) = false := by rw [I.ok.kind]; rfl
  refine wpAny_nameGoes_keeps hl hn hcls fun h' v hn' hs => h _ ?_ (fun b o nb e => (hs.2 b nb).trans e)
  obtain ⟨oL, _, _, hoL, _⟩ := id hn
  have neL : ∀ b o, X.s_0.heap.get? b = some o → b ≠ X.env.locals := fun b o e => Nat.ne_of_lt (Nat.lt_of_lt_of_le (Heap.lt_size e) I.ok.above)
  refine ⟨I.ok, I.os, I.bare, ⟨fun b o e n hb hx => ?_, fun b o e n hb hx => ?_, I.base.free, fun b o e hx => ?_, I.base.tups, I.base.frzs, I.base.tbls⟩, ⟨_, hn', fun j y v' e1 e2 e3 => ?_⟩, fun y c e => ?_, I.free, I.freeC, fun p hp => ?_, fun b ob e => ?_, by simpa using I.len⟩
  · exact (hs.2 b (neL b o e)).trans (I.base.keep b o e n hb hx)
  · obtain ⟨sl, e1⟩ := I.base.slot b o e n hb hx
    exact ⟨sl, (hs.2 b (neL b o e)).trans e1⟩
  · obtain ⟨o', e1⟩ := I.base.there b o e hx
    exact ⟨o', (hs.2 b (neL b o e)).trans e1⟩
  · by_cases hj : j = i
    · subst hj
      by_cases hlt : j < σ.length
      · rw [List.getElem?_set_self hlt] at e2; cases e2
      · rw [List.getElem?_eq_none (by simpa using hlt)] at e2; cases e2
    · rw [List.getElem?_set_ne (Ne.symm hj)] at e2
      obtain ⟨u', r', q⟩ := hlk j y v' e1 e2 e3
      refine ⟨u', r', ?_⟩
      rcases q with ⟨k, e⟩ | ⟨k, c, e, z⟩
      · have ny : y ≠ n := fun e => hj (nodup_ix hN e1 (e ▸ hi))
        exact .inl ⟨k, (if_neg ny).trans e⟩
      · exact .inr ⟨k, c, e, z.sameBut hs (I.cne y c e)⟩
  · obtain ⟨w', z⟩ := I.cell y c e
    exact ⟨w', z.sameBut hs (I.cne y c e)⟩
  · obtain ⟨e, n, ne, nf, d⟩ := I.pin p hp
    exact ⟨(hs.2 p.1 ne).trans e, n, ne, nf, d⟩
  · refine (I.hok b ob e).stay (fun c w' hc q => (hs.2 c ?_).trans q) (fun _ q => q) fun _ _ q => q
    intro z
    subst z
    rcases hc with hc | hc
    · rw [← hc, I.free] at e; cases e
    · rw [I.free] at hc; cases hc
theorem ps_try_asK (hex : X.ex = []) (hs : X.stack = X.env :: X.outer) (hf : X.env.frame = some X.env.locals) (hN : X.N.Nodup) (hi : X.N[i]? = some n) (hln : X.env.kindOf n = some .local) (hc : Names X x c) (tk : Takes X Wout)
    (hb : ∀ (W : WX) (pn : List (Addr × Obj)) (xe : Value → Shared → Prop), Takes (X.tr pn xe) W → PassesOwn (model X.prog X.w) X.A X.env xe → PSs (X.tr pn xe) body (tb W))
    (hsu : ∀ (a : Addr) (oe : Obj) (cls : Value) (d : Option Addr) (pn : List (Addr × Obj)), Zc cls d oe → (∃ vs, oe.data = .fields vs) → PSs (X.suite a ((a, oe) :: pn)) (b₀ :: suite) (ts a cls d)) :
    PS X (.Try body [.ExceptHandler (some (.Name x np)) (some n) (b₀ :: suite) pos'] [] [] pos) (fun D σ H => tb (wAsK X.K c i ts Wout D) D σ H) := by
  refine ⟨fun pins s σ H D I h => ?_⟩
  have ok := I.ok
  have hfr : X.A.frames = some (X.env :: X.outer) := by rw [ok.frames, hs]
  have hloc : Loc X.env.scope n := .inl hln
  refine wpAny_Try_except ?_
  refine wpAny_mono ((hb (wAsK X.K c i ts Wout D) (X.pn ++ pins) (fun e s₁ => wpAny (model X.prog X.w) X.A (noteFrame e X.env) (fun _ s₂ => wpAny (model X.prog X.w) X.A (setFlight e none) (fun _ s₃ =>
    wpAny (model X.prog X.w) X.A (handleBy e X.env [.ExceptHandler (some (.Name x np)) (some n) (b₀ :: suite) pos']) (SP X pins D) X.xe s₃) X.xe s₂) X.xe s₁) (fun u s' xx => ?_) PassesOwn.looking).run [] s σ H D (I.toTry _) h) (fun f s1 hsp => ?_) (fun e s1 he => he)
  · -- the catch
    obtain ⟨a, B, sI, pins', σ', H', cls, d, rfl, J', nb, up, sky, na, os, ag, b, hb1, hyes, hno⟩ := xx
    have J : Inv X pins σ' H' sI := J'.ofTry ok
    have sky' : Sky B (X.env :: X.outer) a (Zc cls d) X.env.locals s'.heap := by rw [← hs]; exact sky
    have nBa : B.get? a = none := by
      rcases sky' with z | z | z
      · exact z.2.1
      · exact z.2.1
      · exact z.2.1
    show wpAny (model X.prog X.w) X.A (noteFrame (.ref a) X.env) _ _ _
    refine Sky.land Zc.steady hfr hf sky' fun h3 fl3 up3 => ?_
    have J3 : Inv X pins σ' H' { s' with heap := h3 } := J.landed nb fl3.1 (up.trans up3) os ag
    obtain ⟨oe3, vs3, he3, hz3, hd3⟩ := fl3.there
    have notFr : ∀ {h : Heap} {o : Obj} {vs : Array Value}, h.FunFrames B (X.env :: X.outer) → h.get? a = some o → o.data = .fields vs → a ∉ frs (X.env :: X.outer) := fun {h o vs} ff e dd hm => by
      obtain ⟨_, o', e', hnf⟩ := ff.mem hm
      rw [e] at e'; cases e'
      exact hnf _ dd
    have nfr := notFr fl3.2.2.1 he3 hd3
    have nL : a ≠ X.env.locals := fun z => nfr (List.mem_filterMap.mpr ⟨X.env, List.mem_cons_self, by rw [hf, z]⟩)
    have nF : a ∉ X.fs := fun hm => by
      obtain ⟨e, he, q⟩ := List.mem_filterMap.mp hm
      exact nfr (List.mem_filterMap.mpr ⟨e, List.mem_cons_of_mem _ he, q⟩)
    -- it is new
    have nI : sI.heap.get? a = none := by
      cases z : sI.heap.get? a with
      | none => rfl
      | some o =>
        have q := nb a o z (by rw [hs]; exact nfr)
        rw [nBa] at q
        cases q
    have n0 : X.s_0.heap.get? a = none := by
      cases z : X.s_0.heap.get? a with
      | none => rfl
      | some o =>
        obtain ⟨o', q⟩ := J.base.there a o z (by rw [hex]; exact List.not_mem_nil)
        rw [nI] at q
        cases q
    have npin : ∀ p ∈ X.pn ++ pins, p.1 ≠ a := fun p hp z => by
      obtain ⟨e, _⟩ := J.pin p hp
      rw [z, nI] at e
      cases e
    have S3 := J3.suite he3 hd3 na nL nF
    refine wpAny_handleBy_cons (codeAny_handlers_test ?_) (by intro q; cases q)
    have LT : PySem.W.Looks (model X.prog X.w) h3 (typeOf (.ref a)) cls := fun A Q E s k q => wpAny_typeOf_ref (k _ _ he3) (by rw [hz3.1]; exact q)
    have LM := PySem.W.exm_one (M := model X.prog X.w) (J3.kIn) LT hb1
    have test : ∀ {Q : Value → Shared → Prop} {E : Value → Shared → Prop}, Q c { s' with heap := h3 } → wpAny (model X.prog X.w) (X.A.mark (some (.ref a))) (eval (.Name x np) X.env) Q E { s' with heap := h3 } := fun {Q E} q => by
      obtain ⟨hg, hdbg, hm | ⟨hm, hv, hnn⟩⟩ := hc
      · exact ld_glob (X := X.suite a ((a, oe3) :: (X.pn ++ pins))) S3 hg hm q hdbg
      · exact ld_blt (X := X.suite a ((a, oe3) :: (X.pn ++ pins))) S3 hg hm hv q hnn hdbg
    refine test (LM.here ?_)
    cases b with
    | true =>
      refine codeAny_handlers_suite_as ?_
      refine HandSPX.lands_againZ fl3 fun h4 fl4 up4 => ?_
      have J4 : Inv X pins σ' H' { s' with heap := h4 } := J.landed nb fl4.1 ((up.trans up3).trans up4) os ag
      obtain ⟨oe4, vs4, he4, hz4, hd4⟩ := fl4.there
      have S4 := J4.suite he4 hd4 na nL nF
      refine store_ok (X := X.suite a ((a, oe4) :: (X.pn ++ pins))) (v := .ref a) S4 hN hi hloc rfl (fun s5 S5 => ?_) (.inr hln)
      refine wpAny_mono ((hsu a oe4 cls d (X.pn ++ pins) hz4 ⟨_, hd4⟩).run [] s5 _ H' _ S5 (hyes rfl a na)) (fun f s6 hsp => ?_) (fun _ _ z => False.elim z)
      have end_ : ∀ {σ6 : St} {H6 : Hp} {Q : Shared → Prop}, Inv (X.suite a ((a, oe4) :: (X.pn ++ pins))) [] σ6 H6 s6 → (∀ s7, Inv X pins (σ6.set i none) H6 s7 → Q s7) →
          wpAny (model X.prog X.w) X.A (do bindName X.env n .none; unbindBehindTheSuite X.env n pos') (fun _ s7 => Q s7) X.xe s6 := fun {σ6 H6 Q} S6 hq => gone_ok (S6.unsuite ok) hN hi hln hq
      cases f with
      | next =>
        obtain ⟨σ6, H6, S6, q6⟩ := hsp
        obtain ⟨p1, p2, _, _, _⟩ := S6.pin (a, oe4) (List.mem_append_left _ List.mem_cons_self)
        exact gone_okK (S6.unsuite ok) hN hi hln fun s7 J7 k7 => ⟨_, _, J7.track hex (k7 _ _ nL p1) hz4 hd4 p2 n0 nL npin, q6⟩
      | brk =>
        obtain ⟨σ6, H6, S6, q6⟩ := hsp
        exact end_ S6 fun s7 J7 => ⟨_, _, J7, q6⟩
      | cont =>
        obtain ⟨σ6, H6, S6, q6⟩ := hsp
        exact end_ S6 fun s7 J7 => ⟨_, _, J7, q6⟩
      | ret u =>
        obtain ⟨v6, σ6, H6, S6, r6, q6⟩ := hsp
        exact end_ S6 fun s7 J7 => ⟨_, _, _, J7, r6, q6⟩
    | false =>
      show wpAny _ X.A (handleBy (.ref a) X.env []) _ _ _
      refine wpAny_handleBy_nil ?_
      obtain ⟨k1, k2, k3, oe, vs, T, oT, ts', he, hz, hd, h1, hr⟩ := id fl3
      unfold PySem.passOn
      refine wpAny_bind (wpAny_field he hd h1 ?_)
      rw [if_neg (show ¬ ((Value.ref T == Value.none) = true) from by simp)]
      have fin : wpAny (model X.prog X.w) X.A (setFlight (.ref a) X.env.frame) (fun _ s4 => wpAny (model X.prog X.w) X.A (throw (.ref a) : Sem Flow) (SP X pins D) X.xe s4) X.xe { s' with heap := h3 } := by
        rw [hf]
        refine HandSPX.setFlight_upZ fl3 fun h4 hh4 up4 => wpAny_throw (tk _ _ ?_)
        exact ⟨a, B, sI, pins, σ', H', cls, d, rfl, J, nb, (up.trans up3).trans up4, .inr (.inr (by rw [hs]; exact hh4)), na, os, ag, hno rfl⟩
      first
        | exact wpAny_bind (wpAny_pure (wpAny_bind fin))
        | exact wpAny_bind fin
  · cases f with
    | next =>
      obtain ⟨σ', H', J', q⟩ := hsp
      exact wpAny_execs_nil ⟨σ', H', J'.ofTry ok, q⟩
    | brk =>
      obtain ⟨σ', H', J', q⟩ := hsp
      exact ⟨σ', H', J'.ofTry ok, q⟩
    | cont =>
      obtain ⟨σ', H', J', q⟩ := hsp
      exact ⟨σ', H', J'.ofTry ok, q⟩
    | ret u =>
      obtain ⟨v, σ', H', J', r, q⟩ := hsp
      exact ⟨v, σ', H', J'.ofTry ok, r, q⟩
end
/-! ### a class whose __init__ raises -/
section
variable {X : Cx} {CX : CXT} {k : Nat} {f C : Addr} {fd : FuncData} {ps : List Str} {sp : Sp} {dvs : List V} {ds : List Value} {E : St → XK} {x : Str} {p pos : Pos} {e : Expr} {es : List Expr} {t : TA}
def tMakeS (C : Addr) (sp : Sp) (E : St → XK) (t : TA) : TE := fun σ H Q => t σ H fun vs H1 => ∀ x dx, H1 x = none → H1 dx = none → dx ≠ x →
  sp (.ref x :: vs) (upd (upd H1 dx (.own x)) x (.ins C dx [])) (fun v H2 => v = .non ∧ Q (.ref x) H2) (E σ)
theorem run_makeS {pins : List (Addr × Obj)} {σ : St} {H : Hp} {s : Shared} {Q : VK} {us : List Value} {vs : List V} (M : Mk X.K C f) (F : FnOk X.prog X.w X.K X.mg X.base CX k f fd ps sp) (hr : Room (k + 1) X.A) (hb : Binds X.K fd ps [])
    (hx : PassesAt CX X σ (E σ)) (I : Inv X pins σ H s) (r : Vals vs us)
    (h : ∀ x dx, H x = none → H dx = none → dx ≠ x → sp (.ref x :: vs) (upd (upd H dx (.own x)) x (.ins C dx [])) (fun v H2 => v = .non ∧ Q (.ref x) H2) (E σ)) :
    wpAny (model X.prog X.w) X.A (call (.ref C) us) (EP X pins σ Q) X.xe s := by
  have hq := h (s.heap.objs.size + 1) s.heap.objs.size (I.hok.fresh (Nat.le_succ _)) (I.hok.fresh (Nat.le_refl _)) (Nat.ne_of_lt (Nat.lt_succ_self _))
  have I2 := Inv.made (C := C) I
  have r2 : Vals (V.ref (s.heap.objs.size + 1) :: vs) (Value.ref (s.heap.objs.size + 1) :: us) := .cons rfl r
  have hl : (Value.ref (s.heap.objs.size + 1) :: us).length = ps.length := by
    have e := r2.length
    rw [F.len _ _ _ _ hq] at e
    exact e.symm
  have b := hb _ (Value.ref (s.heap.objs.size + 1) :: us) I2.kIn (by rw [List.append_nil]; exact hl)
  rw [List.append_nil] at b
  refine wpAny_call (make_map (f := f) I.kIn M.makes M.init (beq_iff_eq.mp M.fn) (codeAny_mono (F.run _ X.stack _ _ ⟨Value.ref (s.heap.objs.size + 1) :: us, []⟩ (Value.ref (s.heap.objs.size + 1) :: us) _ _ (E σ) (hr.make C us [])
    (I2.env0.make C us []) b r2 hq) fun r s' hq' => ?_))
  cases r with
  | error e => exact hx pins _ _ e s' I2 hq'
  | ok fl =>
    cases fl with
    | ret u =>
      obtain ⟨v, H', I3, rv, ev, q3⟩ := I2.after hq'
      subst ev
      exact ⟨rv, ⟨V.ref (s.heap.objs.size + 1), H', I3, rfl, q3⟩⟩
    | next => exact False.elim hq'
    | brk => exact False.elim hq'
    | cont => exact False.elim hq'
theorem pe_makeS (M : Mk X.K C f) (F : FnOk X.prog X.w X.K X.mg X.base CX k f fd ps sp) (hr : Room (k + 1) X.A) (hg : Gl X x) (hm : X.mg x = some (.ref C)) (hb : Binds X.K fd ps []) (hx : ∀ σ, PassesAt CX X σ (E σ))
    (ha : PA X (e :: es) t) (hdb : (x == ("__debug__" : Str)) = false := by decide) (he : starEach (e :: es) X.env = (false, eval e X.env) :: starEach es X.env := by rfl) (hpl : (backTo pos (starEach es X.env)).any (·.1) = false := by rfl) :
    PE X (.Call (.Name x p) (e :: es) [] pos) (tMakeS C sp E t) := by
  refine ⟨fun pins s σ H Q I h => ?_⟩
  refine wpAny_Call_Name_kw (ld_glob I hg hm ?_ hdb)
  refine PySem.W.callWith_K (h₀ := X.base) I.ok.mod.kin M.kp (thn (ha.run pos pins s σ H _ I h) fun us s1 ⟨vs, H1, I1, r, q⟩ => ⟨I1.kIn, ?_⟩) he hpl
  exact run_makeS M F hr hb (hx σ) I1 r q
end
/-! ### asked for its class, its field -/
/-- a kept exception at a, of the class at C, with these fields -/
def Xkp (H : Hp) (a C : Addr) (fs : List (Str × V)) : Prop := ∃ d, H a = some (exr a (.ref C) (some d)) ∧ H d = some (.xd fs)
theorem Xkp.same {H H' : Hp} {a C : Addr} {fs : List (Str × V)} (s : ∀ b o, H b = some o → H' b = some o) (x : Xkp H a C fs) : Xkp H' a C fs := by
  obtain ⟨d, h1, h2⟩ := x
  exact ⟨d, s _ _ h1, s _ _ h2⟩
section
variable {X : Cx} {pins : List (Addr × Obj)} {σ : St} {H : Hp} {s : Shared} {a C : Addr} {fs : List (Str × V)}
theorem xkp_inst (I : Inv X pins σ H s) (x : Xkp H a C fs) : ∃ (ox od : Obj) (mA : Str → Option Value), PySem.W.InstAt s.heap a ox C (some od) ∧ (∀ f, PySem.W.lookIn f od = some (mA f)) ∧ ∀ f, RelO (fs.lookup f) (mA f) := by
  obtain ⟨d, h1, h2⟩ := x
  obtain ⟨o, vs, ho, hc, hdt, hd⟩ := exr_at I.hok h1
  have hx : ObjOk X.prog X.w H s.heap d (.xd fs) := I.hok d _ h2
  obtain ⟨mA, hns, rel⟩ := hx
  obtain ⟨od, hod, hl⟩ := lookIn_ns hns
  exact ⟨o, od, mA, ⟨ho, hc, by unfold PySem.W.notCls; rw [hd] <;> rfl, by rw [hdt]; exact hod⟩, hl, rel⟩
/-- isinstance(e, c) -/
def rIsK (K : PySem.W.Frag) : List V → Hp → VK → Prop := fun xs H Q => ∃ (a C : Addr) (fs : List (Str × V)) (c : V) (cv : Value) (b : Bool), xs = [.ref a, c] ∧ Xask K C ∧ Xkp H a C fs ∧ (∀ u, RelV c u → u = cv) ∧ PySem.W.kitOne K (.ref C) cv = some b ∧ Q (.bl b) H
theorem call_isK : CallR X (.builtin "isinstance") (rIsK X.K) := by
  intro pins s σ H xs us Q I r h
  obtain ⟨a, C, fs, c, cv, b, rfl, T, x, hcv, e, q⟩ := h
  cases r with
  | cons rx rr =>
    cases rr with
    | cons rt rr =>
      cases rr
      cases rx
      obtain rfl := hcv _ rt
      obtain ⟨ox, od, mA, J, _, _⟩ := xkp_inst I x
      obtain ⟨cd, hcd, _⟩ := PySem.W.any_some T.hd
      exact PySem.W.kia_one (PySem.W.kitx_exc (od := some od) (by rw [hcd]; rfl) T.ga T.gg T.ex T.ca T.cn T.ct T.cm) I.kIn J e (fun z => nomatch z) fun tk => ⟨.bl b, H, I.kept (t' := tk) fun _ _ z => z, rfl, q⟩
/-- e.f -/
def tXkf (K : PySem.W.Frag) (f : Str) (te : TE) : TE := fun σ H Q => te σ H fun x H1 => ∃ (a C : Addr) (fs : List (Str × V)) (v : V), x = .ref a ∧ Xask K C ∧ PySem.W.findIn K (.ref C) f = some none ∧ Xkp H1 a C fs ∧ fs.lookup f = some v ∧ Q v H1
theorem pe_xkf {e : Expr} {te : TE} {f : Str} {pos : Pos} (he : PE X e te) (hb : attributeBase e f X.env (eval e X.env) = eval e X.env := by rfl) : PE X (.Attribute e f pos) (tXkf X.K f te) := by
  refine ⟨fun pins s σ H Q I h => ?_⟩
  refine attr_of hb (thn (he.run pins s σ H _ I h) fun u s1 hh => ?_)
  obtain ⟨x, H1, I1, rx, a, C, fs, v, rfl, T, no, xa, lk, q⟩ := hh
  obtain rfl : u = Value.ref a := rx
  obtain ⟨ox, od, mA, J, hl, rel⟩ := xkp_inst I1 xa
  obtain ⟨u, hu, ru⟩ := RelO.some_of (v := v) (o := mA f) (by rw [← lk]; exact rel f)
  exact PySem.HandSPX.exc_get I1.kIn J T.ga T.gg T.ex (PySem.W.findObj_own T.hd no rfl (by rw [hl, hu])) (handed_of ru) ⟨v, H1, I1.tok _, ru, q⟩
end
end L2

/-! # The program's defs, one promise each. -/
namespace Ax
open PySem L2
def top (i : Nat) : Stmt := PySem.Challenge.pw_axisticks_k02_rules_made.main.body.getD i (.Pass ⟨0, 0, 0, 0⟩)
abbrev s_is_whole : Stmt := top 2
abbrev s_is_base : Stmt := top 3
abbrev s_is_span : Stmt := top 4
abbrev s_power_of : Stmt := top 10
abbrev s_log_of : Stmt := top 11
abbrev s_measure : Stmt := top 13
abbrev s_reach : Stmt := top 14
abbrev s_rungs_of : Stmt := top 16
abbrev s_step_at : Stmt := top 17
abbrev s_low_rung : Stmt := top 18
abbrev s_kind_and_most_fit : Stmt := top 21
abbrev s_mantissas_fit : Stmt := top 22
abbrev s_arguments_fit : Stmt := top 23
abbrev s_is_dividing : Stmt := top 24
abbrev s_Rule_init : Stmt := inClass (top 25) 0
abbrev s_Rule___eq__ : Stmt := inClass (top 25) 6
abbrev s_Rule_step : Stmt := inClass (top 25) 7
abbrev s_Rule_marks : Stmt := inClass (top 25) 8
abbrev s_Rule__fits : Stmt := inClass (top 25) 10
abbrev s_law_purse : Stmt := top 27
abbrev s_law_draw : Stmt := top 28
abbrev s_law_pick : Stmt := top 29
abbrev s_law_family : Stmt := top 30
abbrev s_law_rule : Stmt := top 31
abbrev s_law_made : Stmt := top 32
abbrev s_law_times : Stmt := top 33
abbrev s_law_refused : Stmt := top 34
abbrev s_law_fields : Stmt := top 35
abbrev s_law_odd : Stmt := top 36
abbrev s_law_is_dividing : Stmt := top 37
abbrev s_law_right : Stmt := top 38
abbrev s_law : Stmt := top 39
abbrev s_Rule_base : Stmt := inClass (top 25) 1
abbrev s_Rule_kind : Stmt := inClass (top 25) 2
abbrev s_Rule_mantissas : Stmt := inClass (top 25) 3
abbrev s_Rule_most : Stmt := inClass (top 25) 4
abbrev s_Rule_dividing : Stmt := inClass (top 25) 5
abbrev s_InvalidRule_init : Stmt := inClass (top 7) 0
/-- what stands of an exception class nm at C, its __init__ at f -/
structure XcF (K : PySem.W.Frag) (mg : Str → Option Value) (nm qual : Str) (st : Stmt) (C f : Addr) (fd : FuncData) : Prop where
  mgC : mg nm = some (.ref C)
  oex : OexC K C
  ask : Xask K C
  ini : PySem.W.findIn K (.ref C) "__init__" = some (some (.ref f))
  fty : PySem.W.typeIn K (.ref f) = some (.type "function")
  no : PySem.W.findIn K (.ref C) "value" = some none
  self : PySem.W.exmOne K (.ref C) (.ref C) = some true
  F : FunD K "__init__" qual (defArgs st) (defBody st) (defScope st) [.non] [] f fd
/-- what stands of a class with an own == and no != -/
structure NeOk (K : PySem.W.Frag) (C f : Addr) : Prop where
  cls : ∃ nm q N bs hd sn sub ab co dd k0 k1 k2 k3 k5, K.lookup C = some (excClassObj nm q C N bs [.type "object"] hd sn sub ab co dd k0 k1 k2 k3 k5 "object.__new__") ∧ PySem.W.nsOkIn K N = true ∧ PySem.W.nsIn K N "__eq__" = some (some (.ref f)) ∧ PySem.W.nsIn K N "__ne__" = some none
  fty : PySem.W.typeIn K (.ref f) = some (.type "function")
  tyC : PySem.W.typeIn K (.ref C) = some (.type "type")
structure Adr where
  a_is_whole : Addr
  d_is_whole : FuncData
  a_is_base : Addr
  d_is_base : FuncData
  a_is_span : Addr
  d_is_span : FuncData
  a_power_of : Addr
  d_power_of : FuncData
  a_log_of : Addr
  d_log_of : FuncData
  a_measure : Addr
  d_measure : FuncData
  a_reach : Addr
  d_reach : FuncData
  a_rungs_of : Addr
  d_rungs_of : FuncData
  a_step_at : Addr
  d_step_at : FuncData
  a_low_rung : Addr
  d_low_rung : FuncData
  a_kind_and_most_fit : Addr
  d_kind_and_most_fit : FuncData
  a_mantissas_fit : Addr
  d_mantissas_fit : FuncData
  a_arguments_fit : Addr
  d_arguments_fit : FuncData
  a_is_dividing : Addr
  d_is_dividing : FuncData
  a_Rule_init : Addr
  d_Rule_init : FuncData
  a_Rule___eq__ : Addr
  d_Rule___eq__ : FuncData
  a_Rule_step : Addr
  d_Rule_step : FuncData
  a_Rule_marks : Addr
  d_Rule_marks : FuncData
  a_Rule__fits : Addr
  d_Rule__fits : FuncData
  a_law_purse : Addr
  d_law_purse : FuncData
  a_law_draw : Addr
  d_law_draw : FuncData
  a_law_pick : Addr
  d_law_pick : FuncData
  a_law_family : Addr
  d_law_family : FuncData
  a_law_rule : Addr
  d_law_rule : FuncData
  a_law_made : Addr
  d_law_made : FuncData
  a_law_times : Addr
  d_law_times : FuncData
  a_law_refused : Addr
  d_law_refused : FuncData
  a_law_fields : Addr
  d_law_fields : FuncData
  a_law_odd : Addr
  d_law_odd : FuncData
  a_law_is_dividing : Addr
  d_law_is_dividing : FuncData
  a_law_right : Addr
  d_law_right : FuncData
  a_law : Addr
  d_law : FuncData
  a_Rule_base : Addr
  d_Rule_base : FuncData
  p_Rule_base : Addr
  a_Rule_kind : Addr
  d_Rule_kind : FuncData
  p_Rule_kind : Addr
  a_Rule_mantissas : Addr
  d_Rule_mantissas : FuncData
  p_Rule_mantissas : Addr
  a_Rule_most : Addr
  d_Rule_most : FuncData
  p_Rule_most : Addr
  a_Rule_dividing : Addr
  d_Rule_dividing : FuncData
  p_Rule_dividing : Addr
  c_Rule : Addr
  a_LEAST : Addr
  e_InvalidRule : Addr
  i_InvalidRule : Addr
  j_InvalidRule : FuncData

structure Txt (K : PySem.W.Frag) (mg : Str → Option Value) (A : Adr) (w : World) : Prop where
  n_len : mg "len" = none
  n_isinstance : mg "isinstance" = none
  n_all : mg "all" = none
  n_int : mg "int" = none
  n_bool : mg "bool" = none
  n_str : mg "str" = none
  n_tuple : mg "tuple" = none
  n_list : mg "list" = none
  n_range : mg "range" = none
  n_reversed : mg "reversed" = none
  n_zip : mg "zip" = none
  n_max : mg "max" = none
  n_min : mg "min" = none
  n_abs : mg "abs" = none
  n_sorted : mg "sorted" = none
  n_set : mg "set" = none
  n_divmod : mg "divmod" = none
  n_repr : mg "repr" = none
  n_enumerate : mg "enumerate" = none
  F_is_whole : Fun K "is_whole" "is_whole" s_is_whole A.a_is_whole A.d_is_whole
  B_is_whole : Binds K A.d_is_whole ["value"] []
  m_is_whole : mg "is_whole" = some (.ref A.a_is_whole)
  F_is_base : Fun K "is_base" "is_base" s_is_base A.a_is_base A.d_is_base
  B_is_base : Binds K A.d_is_base ["value"] []
  m_is_base : mg "is_base" = some (.ref A.a_is_base)
  F_is_span : Fun K "is_span" "is_span" s_is_span A.a_is_span A.d_is_span
  B_is_span : Binds K A.d_is_span ["value"] []
  m_is_span : mg "is_span" = some (.ref A.a_is_span)
  F_power_of : Fun K "power_of" "power_of" s_power_of A.a_power_of A.d_power_of
  B_power_of : Binds K A.d_power_of ["base", "exponent"] []
  m_power_of : mg "power_of" = some (.ref A.a_power_of)
  F_log_of : Fun K "log_of" "log_of" s_log_of A.a_log_of A.d_log_of
  B_log_of : Binds K A.d_log_of ["base", "number"] []
  m_log_of : mg "log_of" = some (.ref A.a_log_of)
  F_measure : Fun K "measure" "measure" s_measure A.a_measure A.d_measure
  B_measure : Binds K A.d_measure ["base", "step", "digits"] []
  m_measure : mg "measure" = some (.ref A.a_measure)
  F_reach : Fun K "reach" "reach" s_reach A.a_reach A.d_reach
  B_reach : Binds K A.d_reach ["kind", "most", "low", "size"] []
  m_reach : mg "reach" = some (.ref A.a_reach)
  F_rungs_of : Fun K "rungs_of" "rungs_of" s_rungs_of A.a_rungs_of A.d_rungs_of
  B_rungs_of : Binds K A.d_rungs_of ["base", "mantissas"] []
  m_rungs_of : mg "rungs_of" = some (.ref A.a_rungs_of)
  F_step_at : Fun K "step_at" "step_at" s_step_at A.a_step_at A.d_step_at
  B_step_at : Binds K A.d_step_at ["rungs", "number"] []
  m_step_at : mg "step_at" = some (.ref A.a_step_at)
  F_low_rung : Fun K "low_rung" "low_rung" s_low_rung A.a_low_rung A.d_low_rung
  B_low_rung : Binds K A.d_low_rung ["base", "rungs", "most", "length", "digits"] []
  m_low_rung : mg "low_rung" = some (.ref A.a_low_rung)
  F_kind_and_most_fit : Fun K "_kind_and_most_fit" "_kind_and_most_fit" s_kind_and_most_fit A.a_kind_and_most_fit A.d_kind_and_most_fit
  B_kind_and_most_fit : Binds K A.d_kind_and_most_fit ["kind", "most"] []
  m_kind_and_most_fit : mg "_kind_and_most_fit" = some (.ref A.a_kind_and_most_fit)
  F_mantissas_fit : Fun K "_mantissas_fit" "_mantissas_fit" s_mantissas_fit A.a_mantissas_fit A.d_mantissas_fit
  B_mantissas_fit : Binds K A.d_mantissas_fit ["base", "mantissas"] []
  m_mantissas_fit : mg "_mantissas_fit" = some (.ref A.a_mantissas_fit)
  F_arguments_fit : Fun K "_arguments_fit" "_arguments_fit" s_arguments_fit A.a_arguments_fit A.d_arguments_fit
  B_arguments_fit : Binds K A.d_arguments_fit ["base", "kind", "mantissas", "most"] []
  m_arguments_fit : mg "_arguments_fit" = some (.ref A.a_arguments_fit)
  F_is_dividing : Fun K "_is_dividing" "_is_dividing" s_is_dividing A.a_is_dividing A.d_is_dividing
  B_is_dividing : Binds K A.d_is_dividing ["base", "rungs"] []
  m_is_dividing : mg "_is_dividing" = some (.ref A.a_is_dividing)
  F_Rule_init : Fun K "__init__" "Rule.__init__" s_Rule_init A.a_Rule_init A.d_Rule_init
  B_Rule_init : Binds K A.d_Rule_init ["self", "base", "kind", "mantissas", "most"] []
  F_Rule___eq__ : Fun K "__eq__" "Rule.__eq__" s_Rule___eq__ A.a_Rule___eq__ A.d_Rule___eq__
  B_Rule___eq__ : Binds K A.d_Rule___eq__ ["self", "other"] []
  t_Rule___eq__ : Meth K A.c_Rule "__eq__" A.a_Rule___eq__
  F_Rule_step : Fun K "step" "Rule.step" s_Rule_step A.a_Rule_step A.d_Rule_step
  B_Rule_step : Binds K A.d_Rule_step ["self", "span"] []
  t_Rule_step : Meth K A.c_Rule "step" A.a_Rule_step
  F_Rule_marks : Fun K "marks" "Rule.marks" s_Rule_marks A.a_Rule_marks A.d_Rule_marks
  B_Rule_marks : Binds K A.d_Rule_marks ["self", "span"] []
  t_Rule_marks : Meth K A.c_Rule "marks" A.a_Rule_marks
  F_Rule__fits : Fun K "_fits" "Rule._fits" s_Rule__fits A.a_Rule__fits A.d_Rule__fits
  B_Rule__fits : Binds K A.d_Rule__fits ["self", "step", "span"] []
  t_Rule__fits : Meth K A.c_Rule "_fits" A.a_Rule__fits
  F_law_purse : Fun K "_law_purse" "_law_purse" s_law_purse A.a_law_purse A.d_law_purse
  B_law_purse : Binds K A.d_law_purse ["_law_script", "_law_at"] []
  m_law_purse : mg "_law_purse" = some (.ref A.a_law_purse)
  F_law_draw : Fun K "_law_draw" "_law_draw" s_law_draw A.a_law_draw A.d_law_draw
  B_law_draw : Binds K A.d_law_draw ["_law_purse_here", "_law_many"] []
  m_law_draw : mg "_law_draw" = some (.ref A.a_law_draw)
  F_law_pick : Fun K "_law_pick" "_law_pick" s_law_pick A.a_law_pick A.d_law_pick
  B_law_pick : Binds K A.d_law_pick ["_law_purse_here", "_law_items"] []
  m_law_pick : mg "_law_pick" = some (.ref A.a_law_pick)
  F_law_family : Fun K "_law_family" "_law_family" s_law_family A.a_law_family A.d_law_family
  B_law_family : Binds K A.d_law_family ["_law_purse_here"] []
  m_law_family : mg "_law_family" = some (.ref A.a_law_family)
  F_law_rule : Fun K "_law_rule" "_law_rule" s_law_rule A.a_law_rule A.d_law_rule
  B_law_rule : Binds K A.d_law_rule ["_law_purse_here", "_law_family_here"] []
  m_law_rule : mg "_law_rule" = some (.ref A.a_law_rule)
  F_law_made : Fun K "_law_made" "_law_made" s_law_made A.a_law_made A.d_law_made
  B_law_made : Binds K A.d_law_made ["_law_rule_here"] []
  m_law_made : mg "_law_made" = some (.ref A.a_law_made)
  F_law_times : Fun K "_law_times" "_law_times" s_law_times A.a_law_times A.d_law_times
  B_law_times : Binds K A.d_law_times ["_law_base", "_law_many"] []
  m_law_times : mg "_law_times" = some (.ref A.a_law_times)
  F_law_refused : Fun K "_law_refused" "_law_refused" s_law_refused A.a_law_refused A.d_law_refused
  B_law_refused : Binds K A.d_law_refused ["_law_base", "_law_kind", "_law_mantissas", "_law_most"] []
  m_law_refused : mg "_law_refused" = some (.ref A.a_law_refused)
  F_law_fields : Fun K "_law_fields" "_law_fields" s_law_fields A.a_law_fields A.d_law_fields
  B_law_fields : Binds K A.d_law_fields ["_law_made_here"] []
  m_law_fields : mg "_law_fields" = some (.ref A.a_law_fields)
  F_law_odd : Fun K "_law_odd" "_law_odd" s_law_odd A.a_law_odd A.d_law_odd
  B_law_odd : Binds K A.d_law_odd ["_law_purse_here", "_law_base", "_law_kind", "_law_heads", "_law_most"] []
  m_law_odd : mg "_law_odd" = some (.ref A.a_law_odd)
  F_law_is_dividing : Fun K "_law_is_dividing" "_law_is_dividing" s_law_is_dividing A.a_law_is_dividing A.d_law_is_dividing
  B_law_is_dividing : Binds K A.d_law_is_dividing ["_law_base", "_law_heads"] []
  m_law_is_dividing : mg "_law_is_dividing" = some (.ref A.a_law_is_dividing)
  F_law_right : Fun K "_law_right" "_law_right" s_law_right A.a_law_right A.d_law_right
  B_law_right : Binds K A.d_law_right ["_law_purse_here"] []
  m_law_right : mg "_law_right" = some (.ref A.a_law_right)
  F_law : Fun K "law" "law" s_law A.a_law A.d_law
  B_law : Binds K A.d_law ["_law_script"] []
  m_law : mg "law" = some (.ref A.a_law)
  F_Rule_base : Fun K "base" "Rule.base" s_Rule_base A.a_Rule_base A.d_Rule_base
  B_Rule_base : Binds K A.d_Rule_base ["self"] []
  pr_Rule_base : PropOf K A.c_Rule "base" A.p_Rule_base A.a_Rule_base
  F_Rule_kind : Fun K "kind" "Rule.kind" s_Rule_kind A.a_Rule_kind A.d_Rule_kind
  B_Rule_kind : Binds K A.d_Rule_kind ["self"] []
  pr_Rule_kind : PropOf K A.c_Rule "kind" A.p_Rule_kind A.a_Rule_kind
  F_Rule_mantissas : Fun K "mantissas" "Rule.mantissas" s_Rule_mantissas A.a_Rule_mantissas A.d_Rule_mantissas
  B_Rule_mantissas : Binds K A.d_Rule_mantissas ["self"] []
  pr_Rule_mantissas : PropOf K A.c_Rule "mantissas" A.p_Rule_mantissas A.a_Rule_mantissas
  F_Rule_most : Fun K "most" "Rule.most" s_Rule_most A.a_Rule_most A.d_Rule_most
  B_Rule_most : Binds K A.d_Rule_most ["self"] []
  pr_Rule_most : PropOf K A.c_Rule "most" A.p_Rule_most A.a_Rule_most
  F_Rule_dividing : Fun K "dividing" "Rule.dividing" s_Rule_dividing A.a_Rule_dividing A.d_Rule_dividing
  B_Rule_dividing : Binds K A.d_Rule_dividing ["self"] []
  pr_Rule_dividing : PropOf K A.c_Rule "dividing" A.p_Rule_dividing A.a_Rule_dividing
  cl : Cls K A.c_Rule
  c_Rule : mg "Rule" = some (.ref A.c_Rule)
  mk_Rule : Mk K A.c_Rule A.a_Rule_init
  na_base : NoAttr K A.c_Rule "_base"
  na_kind : NoAttr K A.c_Rule "_kind"
  na_mantissas : NoAttr K A.c_Rule "_mantissas"
  na_most : NoAttr K A.c_Rule "_most"
  na_dividing : NoAttr K A.c_Rule "_dividing"
  na_rungs : NoAttr K A.c_Rule "_rungs"
  ic : C8.InsC K A.c_Rule
  m_LEAST_MOST : mg "LEAST_MOST" = some (.ref A.a_LEAST)
  kd : ∃ es n, KDict K w A.a_LEAST es n
  kd_inside : ∃ t, PySem.W.nsIn K A.a_LEAST "inside" = some (some (.int 1 t))
  kd_cover : ∃ t, PySem.W.nsIn K A.a_LEAST "cover" = some (some (.int 2 t))
  kd_length : ∃ t, PySem.W.nsIn K A.a_LEAST "length" = some (some (.int 1 t))
  ne_Rule : NeOk K A.c_Rule A.a_Rule___eq__
  kz_Inside : PySem.W.nsIn K A.a_LEAST "Inside" = some none
  kz_empty : PySem.W.nsIn K A.a_LEAST "" = some none
  kz_ticks : PySem.W.nsIn K A.a_LEAST "ticks" = some none
  x_InvalidRule : XcF K mg "InvalidRule" "InvalidRule.__init__" s_InvalidRule_init A.e_InvalidRule A.i_InvalidRule A.j_InvalidRule

section
variable {P : Program} {w : World} {K : PySem.W.Frag} {mg : Str → Option Value} {base : Heap} {A : Adr}
/-! ### is_whole -/
/-- any value of a known kind -/
def spWhole (K : PySem.W.Frag) : Sp := fun vs H Q _ => ∃ (v : V) (t : Value) (b1 b2 : Bool), vs = [v] ∧ TyX K H v t ∧ PySem.W.kitOne K t (.type "int") = some b1 ∧ (b1 = true → PySem.W.kitOne K t (.type "bool") = some b2) ∧ Q (.bl (b1 && !b2)) H
abbrev nm_is_whole : List Str := ["value"]
theorem sc_is_whole : FnScope ["value"] ["value"] (defScope s_is_whole) := ⟨rfl, rfl, rfl, by decide +kernel, rfl, by decide +kernel, by decide +kernel⟩
theorem ok_is_whole (T : Txt K mg A w) : FnOk P w K mg base CX0 1 A.a_is_whole A.d_is_whole ["value"] (spWhole K) := by
  refine T.F_is_whole.ok sc_is_whole (fun vs H Q E h => ?_) (fun cdv A0 outer s H vs Q E hr h => ?_)
  · obtain ⟨v, t, b1, b2, rfl, _⟩ := h
    rfl
  · obtain ⟨v, t, b1, b2, rfl, ty, h1, h2, q⟩ := h
    refine ⟨_, (pss_one (ps_ret (pe_and (pe_callB call_isi (by rfl) T.n_isinstance (by decide +kernel) (pa_cons (pv 0) (pa_cons (pe_bltn (v := .ty "int") (by rfl) T.n_int (by decide +kernel) rfl) pa_nil))) (pe_one (pe_not (pe_callB call_isi (by rfl) T.n_isinstance (by decide +kernel) (pa_cons (pv 0) (pa_cons (pe_bltn (v := .ty "bool") (by rfl) T.n_bool (by decide +kernel) rfl) pa_nil)))))))), ?_⟩
    refine ⟨v, rfl, v, .ty "int", t, .type "int", b1, rfl, .ty _, ty, h1, b1, rfl, ?_⟩
    cases b1 with
    | false => exact iteF q
    | true => exact iteT ⟨v, rfl, v, .ty "bool", t, .type "bool", b2, rfl, .ty _, ty, h2 rfl, b2, rfl, q⟩
theorem sp_whole_int {H : Hp} {n : Int} {Q : VK} {E : XK} (q : Q (.bl true) H) : spWhole K [.int n] H Q E :=
  ⟨.int n, .type "int", true, false, rfl, .base (.int n), kit_ty (by decide +kernel), fun _ => kit_ty (by decide +kernel), q⟩
end
end Ax

namespace Ax
theorem pow_pos' {b : Int} (h : 1 ≤ b) (n : Nat) : 1 ≤ b ^ n := by
  induction n with
  | zero => simp
  | succ n ih =>
    rw [Int.pow_succ]
    have := Int.mul_le_mul ih h (by omega) (by omega)
    omega
theorem pow_add' (b : Int) (m n : Nat) : b ^ (m + n) = b ^ m * b ^ n := by
  induction n with
  | zero => simp
  | succ n ih => rw [← Nat.add_assoc, Int.pow_succ, ih, Int.pow_succ, Int.mul_assoc]
theorem pow_le' {b : Int} (h : 1 ≤ b) {m n : Nat} (hm : m ≤ n) : b ^ m ≤ b ^ n := by
  obtain ⟨k, rfl⟩ := Nat.le.dest hm
  rw [pow_add']
  have h1 := pow_pos' h m
  have h2 := pow_pos' h k
  have := Int.mul_le_mul_of_nonneg_left h2 (show (0:Int) ≤ b ^ m by omega)
  omega
theorem pow_lt' {b : Int} (h : 2 ≤ b) {m n : Nat} (hm : m < n) : b ^ m < b ^ n := by
  have h1 := pow_le' (b := b) (by omega) (show m + 1 ≤ n from hm)
  rw [Int.pow_succ] at h1
  have h2 := pow_pos' (b := b) (by omega) m
  have := Int.mul_le_mul_of_nonneg_left h (show (0:Int) ≤ b ^ m by omega)
  omega
theorem sq_pow (s : Int) (n : Nat) : (s * s) ^ n = s ^ (2 * n) := by
  induction n with
  | zero => simp
  | succ n ih =>
    rw [Int.pow_succ, ih, show 2 * (n + 1) = 2 * n + 1 + 1 by omega, Int.pow_succ, Int.pow_succ, Int.mul_assoc]
/-- a turn of power_of -/
theorem turn_odd {r s : Int} {n : Nat} (h : n % 2 = 1) : (r * s) * (s * s) ^ (n / 2) = r * s ^ n := by
  rw [sq_pow, Int.mul_assoc, Int.mul_comm s, ← Int.pow_succ]
  congr 2
  omega
theorem turn_even {r s : Int} {n : Nat} (h : n % 2 = 0) : r * (s * s) ^ (n / 2) = r * s ^ n := by
  rw [sq_pow]
  congr 2
  omega
theorem le_of_prod {r s B : Int} {n : Nat} (hr : 1 ≤ r) (hs : 1 ≤ s) (e : r * s ^ n = B) : r ≤ B ∧ (1 ≤ n → s ≤ B) := by
  have h1 := pow_pos' hs n
  have h2 := Int.mul_le_mul_of_nonneg_left h1 (show (0:Int) ≤ r by omega)
  refine ⟨by omega, fun hn => ?_⟩
  have h3 := pow_le' hs hn
  rw [Int.pow_succ, Int.pow_zero, Int.one_mul] at h3
  have h4 := Int.mul_le_mul_of_nonneg_right hr (show (0:Int) ≤ s ^ n by omega)
  omega
theorem abs_lt_pow {i : Int} {k : Nat} (h0 : 0 ≤ i) (h : i < 2 ^ k) : i.natAbs < 2 ^ k := by
  have e : ((i.natAbs : Nat) : Int) = i := by omega
  have : ((i.natAbs : Nat) : Int) < ((2 ^ k : Nat) : Int) := by rw [e, Int.natCast_pow]; exact h
  exact Int.ofNat_lt.mp this
end Ax
namespace Ax
/-! ### the exponent of the greatest power that is at most a number -/
/-- what log_of's second loop keeps: j squares are left -/
def LogInv (b n : Int) (j : Nat) (E : Nat) (p : Int) : Prop := p = b ^ (E * 2 ^ j) ∧ p ≤ n ∧ n < b ^ ((E + 1) * 2 ^ j)
theorem LogInv.start {b n : Int} {j : Nat} (hn : 1 ≤ n) (h : n < b ^ (2 ^ j)) : LogInv b n j 0 1 := by
  refine ⟨by simp, hn, ?_⟩
  simpa using h
theorem LogInv.yes {b n p : Int} {j E : Nat} (h : LogInv b n (j + 1) E p) (hle : p * b ^ (2 ^ j) ≤ n) : LogInv b n j (2 * E + 1) (p * b ^ (2 ^ j)) := by
  obtain ⟨h1, h2, h3⟩ := h
  refine ⟨?_, hle, ?_⟩
  · rw [h1, ← pow_add']
    congr 1
    rw [Nat.pow_succ, Nat.add_mul, Nat.mul_comm 2 E, Nat.mul_assoc, Nat.mul_comm 2 (2 ^ j), Nat.one_mul]
  · have e : (2 * E + 1 + 1) * 2 ^ j = (E + 1) * 2 ^ (j + 1) := by
      rw [Nat.pow_succ, show 2 * E + 1 + 1 = (E + 1) * 2 by omega, Nat.mul_assoc, Nat.mul_comm 2 (2 ^ j)]
    rw [e]
    exact h3
theorem LogInv.no {b n p : Int} {j E : Nat} (h : LogInv b n (j + 1) E p) (hgt : ¬ p * b ^ (2 ^ j) ≤ n) : LogInv b n j (2 * E) p := by
  obtain ⟨h1, h2, h3⟩ := h
  have e0 : 2 * E * 2 ^ j = E * 2 ^ (j + 1) := by rw [Nat.pow_succ, Nat.mul_comm 2 E, Nat.mul_assoc, Nat.mul_comm 2 (2 ^ j)]
  refine ⟨by rw [e0]; exact h1, h2, ?_⟩
  have e : (2 * E + 1) * 2 ^ j = E * 2 ^ (j + 1) + 2 ^ j := by rw [Nat.add_mul, e0, Nat.one_mul]
  rw [e, pow_add', ← h1]
  omega
theorem LogInv.fin {b n p : Int} {E : Nat} (h : LogInv b n 0 E p) : b ^ E ≤ n ∧ n < b ^ (E + 1) := by
  obtain ⟨h1, h2, h3⟩ := h
  simp only [Nat.pow_zero, Nat.mul_one] at h1 h3
  exact ⟨by omega, h3⟩
theorem sq_two (b : Int) (k : Nat) : b ^ (2 ^ k) * b ^ (2 ^ k) = b ^ (2 ^ (k + 1)) := by
  rw [← pow_add', Nat.pow_succ]
  congr 1
  omega
theorem log_unique {b n : Int} (hb : 2 ≤ b) {E F : Nat} (h1 : b ^ E ≤ n) (h2 : n < b ^ (E + 1)) (h3 : b ^ F ≤ n) (h4 : n < b ^ (F + 1)) : E = F := by
  rcases Nat.lt_trichotomy E F with h | h | h
  · have := pow_le' (b := b) (by omega) (show E + 1 ≤ F from h)
    omega
  · exact h
  · have := pow_le' (b := b) (by omega) (show F + 1 ≤ E from h)
    omega
end Ax
namespace Ax
theorem pow_base_le {a b : Int} (h0 : 1 ≤ a) (h : a ≤ b) (n : Nat) : a ^ n ≤ b ^ n := by
  induction n with
  | zero => simp
  | succ n ih =>
    rw [Int.pow_succ, Int.pow_succ]
    have := pow_pos' h0 n
    exact Int.mul_le_mul ih h (by omega) (by omega)
theorem exp_lt {b : Int} (hb : 2 ≤ b) {m n : Nat} (h : b ^ m < 2 ^ n) : m < n := by
  apply Nat.lt_of_not_le
  intro c
  have h1 := pow_base_le (a := 2) (by decide) hb m
  have h2 := pow_le' (b := 2) (by decide) c
  omega
theorem k_small {b : Int} (hb : 2 ≤ b) {k : Nat} (h : b ^ (2 ^ k) < 2 ^ 8000) : k < 13 := by
  have h1 := exp_lt hb h
  apply Nat.lt_of_not_le
  intro c
  have : 2 ^ 13 ≤ 2 ^ k := Nat.pow_le_pow_right (by decide) c
  have : (2 : Nat) ^ 13 = 8192 := by decide
  omega
end Ax
namespace Ax
/-! ### the exponent as a function; sizes of the least steps -/
noncomputable def lg (b m : Int) : Nat := Classical.epsilon fun E => b ^ E ≤ m ∧ m < b ^ (E + 1)
theorem lg_ex {b m : Int} (hm : 1 ≤ m) : ∀ N : Nat, m < b ^ N → ∃ E, b ^ E ≤ m ∧ m < b ^ (E + 1)
  | 0, h => by
    rw [Int.pow_zero] at h
    omega
  | N + 1, h => by
    by_cases c : m < b ^ N
    · exact lg_ex hm N c
    · exact ⟨N, by omega, h⟩
theorem lt_two_pow (n : Nat) : n < 2 ^ n := Nat.lt_two_pow_self
theorem lg_spec {b m : Int} (hb : 2 ≤ b) (hm : 1 ≤ m) : b ^ lg b m ≤ m ∧ m < b ^ (lg b m + 1) := by
  have h : ∃ E, b ^ E ≤ m ∧ m < b ^ (E + 1) := lg_ex hm m.toNat (by
    have h1 := pow_base_le (a := 2) (by decide) hb m.toNat
    have h2 := lt_two_pow m.toNat
    have h3 : ((m.toNat : Nat) : Int) < ((2 ^ m.toNat : Nat) : Int) := Int.ofNat_lt.mpr h2
    rw [Int.natCast_pow] at h3
    have h4 : ((m.toNat : Nat) : Int) = m := by omega
    rw [h4] at h3
    exact Int.lt_of_lt_of_le h3 h1)
  exact Classical.epsilon_spec h
theorem lg_eq {b m : Int} {E : Nat} (hb : 2 ≤ b) (hm : 1 ≤ m) (h1 : b ^ E ≤ m) (h2 : m < b ^ (E + 1)) : E = lg b m :=
  log_unique hb h1 h2 (lg_spec hb hm).1 (lg_spec hb hm).2
theorem lg_mono {b m M : Int} (hb : 2 ≤ b) (hm : 1 ≤ m) (h : m ≤ M) : lg b m ≤ lg b M := by
  have a := lg_spec hb hm
  have c := lg_spec hb (show 1 ≤ M by omega)
  apply Nat.le_of_not_lt
  intro q
  have := pow_le' (b := b) (by omega) (show lg b M + 1 ≤ lg b m from q)
  omega
/-- the size of the least step of a mantissa that is at least 1, in units of b ^ -top -/
noncomputable def keyOf (b : Int) (top : Nat) (m : Int) : Int := m * b ^ (top - lg b m)
theorem mul_cancel {a b c : Int} (hc : 1 ≤ c) (h : a * c = b * c) : a = b := Int.eq_of_mul_eq_mul_right (by omega) h
theorem dvd_of_mul {m n b : Int} {k : Nat} (h : m * b ^ (k + 1) = n) : n % b = 0 := by
  rw [← h, Int.pow_succ, ← Int.mul_assoc]
  exact Int.mul_emod_left _ _
theorem key_inj' {b m n : Int} {top : Nat} (hb : 2 ≤ b) (hn : n % b ≠ 0) (ln : lg b n ≤ top) (c : lg b m ≤ lg b n) (h : keyOf b top m = keyOf b top n) : m = n := by
  unfold keyOf at h
  have e : top - lg b m = (lg b n - lg b m) + (top - lg b n) := by omega
  rw [e, pow_add', ← Int.mul_assoc] at h
  have h2 := mul_cancel (pow_pos' (by omega) _) h
  cases q : lg b n - lg b m with
  | zero =>
    rw [q, Int.pow_zero, Int.mul_one] at h2
    exact h2
  | succ k =>
    rw [q] at h2
    exact absurd (dvd_of_mul h2) hn
theorem key_inj {b m n : Int} {top : Nat} (hb : 2 ≤ b) (hm : m % b ≠ 0) (hn : n % b ≠ 0) (lm : lg b m ≤ top) (ln : lg b n ≤ top) (h : keyOf b top m = keyOf b top n) : m = n := by
  rcases Nat.le_total (lg b m) (lg b n) with c | c
  · exact key_inj' hb hn ln c h
  · exact (key_inj' hb hm lm c h.symm).symm
theorem key_pos {b m : Int} {top : Nat} (hb : 2 ≤ b) (hm : 1 ≤ m) : 1 ≤ keyOf b top m := by
  have h1 := pow_pos' (b := b) (by omega) (top - lg b m)
  have := Int.mul_le_mul hm h1 (by omega) (by omega)
  unfold keyOf
  omega
theorem key_lt {b m : Int} {top : Nat} (hb : 2 ≤ b) (hm : 1 ≤ m) (h : lg b m ≤ top) : b ^ top ≤ keyOf b top m ∧ keyOf b top m < b ^ (top + 1) := by
  obtain ⟨h1, h2⟩ := lg_spec hb hm
  have h3 := pow_pos' (b := b) (by omega) (top - lg b m)
  have e1 : b ^ top = b ^ lg b m * b ^ (top - lg b m) := by rw [← pow_add']; congr 1; omega
  have e2 : b ^ (top + 1) = b ^ (lg b m + 1) * b ^ (top - lg b m) := by rw [← pow_add']; congr 1; omega
  rw [e1, e2]
  exact ⟨Int.mul_le_mul_of_nonneg_right h1 (by omega), Int.mul_lt_mul_of_pos_right h2 (by omega)⟩
end Ax
namespace Ax
theorem perm_lift {α β : Type} {f : α → β} : ∀ {zs : List β} {ms : List α}, zs.Perm (ms.map f) → ∃ rs : List α, rs.Perm ms ∧ zs = rs.map f
  | [], ms, h => by
    have e := h.length_eq
    rw [List.length_map] at e
    have : ms = [] := List.eq_nil_of_length_eq_zero e.symm
    subst this
    exact ⟨[], .nil, rfl⟩
  | z :: zs, ms, h => by
    have hz : z ∈ ms.map f := h.mem_iff.mp (List.mem_cons_self ..)
    obtain ⟨m, hm, rfl⟩ := List.mem_map.mp hz
    obtain ⟨l1, l2, rfl⟩ := List.append_of_mem hm
    have h2 : (f m :: zs).Perm (f m :: (l1 ++ l2).map f) := by
      refine h.trans ?_
      rw [List.map_append, List.map_cons, List.map_append]
      exact List.perm_middle
    obtain ⟨rs, p, e⟩ := perm_lift ((List.perm_cons _).mp h2)
    refine ⟨m :: rs, ((List.perm_cons m).mpr p).trans List.perm_middle.symm, by rw [e]; rfl⟩
theorem nodup_map {α β : Type} {f : α → β} {ms : List α} (nd : ms.Nodup) (inj : ∀ x ∈ ms, ∀ y ∈ ms, f x = f y → x = y) : (ms.map f).Nodup := by
  unfold List.Nodup
  rw [List.pairwise_map]
  exact List.Pairwise.imp_of_mem (fun {a b} ha hb h z => h (inj a ha b hb z)) nd
theorem strict {zs : List Int} (h : zs.Pairwise (· ≤ ·)) (nd : zs.Nodup) : zs.Pairwise (· < ·) := (h.and nd).imp fun ⟨a, b⟩ => by omega
end Ax

namespace Ax
open PySem L2
section
variable {P : Program} {w : World} {K : PySem.W.Frag} {mg : Str → Option Value} {base : Heap} {A : Adr}
/-- the size that numbers stay below -/
abbrev BIG : Int := 2 ^ 8000
theorem mulBig {i j : Int} (h0 : 0 ≤ i) (h1 : i < 2 ^ 400000) (h2 : 0 ≤ j) (h3 : j < 2 ^ 400000) : CMulW i j :=
  wide_mul (abs_lt_pow h0 h1) (abs_lt_pow h2 h3) (by decide) (by decide) (by decide)
theorem big_le {i : Int} (h : i < BIG) : i < 2 ^ 400000 := Int.lt_of_lt_of_le h (pow_le' (b := 2) (by decide) (by decide))
theorem two_div : CDivW i 2 := ⟨by decide, by decide⟩
/-! ### power_of -/
def spPow : Sp := fun vs H Q _ => ∃ (b : Int) (e : Int), vs = [.int b, .int e] ∧ 1 ≤ b ∧ 0 ≤ e ∧ b ^ e.toNat < BIG ∧ b < BIG ∧ Q (.int (b ^ e.toNat)) H
abbrev nm_power_of : List Str := ["base", "exponent", "result", "square", "rest"]
theorem sc_power_of : FnScope ["base", "exponent", "result", "square", "rest"] ["base", "exponent"] (defScope s_power_of) := ⟨rfl, rfl, rfl, by decide +kernel, rfl, by decide +kernel, by decide +kernel⟩
theorem ok_power_of (T : Txt K mg A w) : FnOk P w K mg base CX0 1 A.a_power_of A.d_power_of ["base", "exponent"] spPow := by
  refine T.F_power_of.ok sc_power_of (fun vs H Q E h => ?_) (fun cdv A0 outer s H vs Q E hr h => ?_)
  · obtain ⟨b, e, rfl, _⟩ := h
    rfl
  · obtain ⟨b, e, rfl, hb, he, hB, hbB, q⟩ := h
    refine ⟨_, (pss_cons (ps_set (i := 2) sc_power_of.nd rfl (Or.inl rfl) pe_int)
  (pss_cons (ps_set (i := 3) sc_power_of.nd rfl (Or.inl rfl) (pv 0))
  (pss_cons (ps_set (i := 4) sc_power_of.nd rfl (Or.inl rfl) (pv 1))
  (pss_cons (ps_while PassesOwn.never (pt_cmpR op_gt (pv 4) pe_int (nomark _))
  (pss_cons (ps_if (pt_cmpR op_eq (pe_op op_mod (pv 4) pe_int) pe_int (nomark _)) (pss_one (ps_set (i := 2) sc_power_of.nd rfl (Or.inl rfl) (pe_op op_mulW (pv 2) (pv 3)))) pss_nil)
  (pss_cons (ps_set (i := 3) sc_power_of.nd rfl (Or.inl rfl) (pe_op op_mulW (pv 3) (pv 3)))
  (pss_one (ps_set (i := 4) sc_power_of.nd rfl (Or.inl rfl) (pe_op op_fdivW (pv 4) pe_int))))))
  (pss_one (ps_ret (pv 2))))))), ?_⟩
    refine ⟨_, rfl, _, rfl, ?_⟩
    refine ⟨fun m σ H' => ∃ r sq rest : Int, σ = [some (.int b), some (.int e), some (.int r), some (.int sq), some (.int rest)] ∧ H' = H ∧ 0 ≤ rest ∧ rest.toNat = m ∧ 1 ≤ r ∧ 1 ≤ sq ∧ r * sq ^ m = b ^ e.toNat ∧ (m = 0 → r < BIG),
      ⟨e.toNat, 1, b, e, rfl, rfl, he, rfl, by decide, hb, by rw [Int.one_mul], fun _ => by show (1 : Int) < 2 ^ 8000; exact Int.lt_of_lt_of_le (by decide : (1 : Int) < 2 ^ 1) (pow_le' (b := 2) (by decide) (by decide))⟩, ?_⟩
    rintro m σ H' ⟨r, sq, rest, rfl, rfl, h0, hm, hr1, hs1, hp, hrB⟩
    refine ⟨_, rfl, _, _, rfl, rfl, _, rfl, ?_⟩
    refine ite2 (fun hc => ?_) (fun hc => ?_)
    · have hc : (0 : Int) < rest := of_decide_eq_true hc
      obtain ⟨rB, sB⟩ := le_of_prod hr1 hs1 hp
      have sB := sB (by omega)
      have hsq : CMulW sq sq := mulBig (by omega) (big_le (by omega)) (by omega) (big_le (by omega))
      have ss1 : 1 ≤ sq * sq := by have := Int.mul_le_mul hs1 hs1 (by omega) (by omega); omega
      refine ⟨fun σ' H2 => ∃ r' : Int, σ' = [some (.int b), some (.int e), some (.int r'), some (.int (sq * sq)), some (.int (rest / 2))] ∧ H2 = H' ∧ 1 ≤ r' ∧ r' * (sq * sq) ^ (m / 2) = b ^ e.toNat, ?_, ?_⟩
      · rintro σ' H2 ⟨r', rfl, rfl, h1, h2⟩
        refine ⟨m / 2, by omega, r', sq * sq, rest / 2, rfl, rfl, by omega, by omega, h1, ss1, h2, fun hz => ?_⟩
        have := (le_of_prod h1 ss1 h2).1
        omega
      · refine ⟨_, rfl, _, _, rfl, rfl, (by show (0 : Int) < 2; decide), rfl, _, rfl, ?_⟩
        refine ite2 (fun hd => ?_) (fun hd => ?_)
        · have hd : V.int (rest % 2) = V.int 1 := of_decide_eq_true hd
          have hd : rest % 2 = 1 := V.int.inj hd
          refine ⟨_, rfl, _, rfl, _, _, rfl, rfl, mulBig (by omega) (big_le (by omega)) (by omega) (big_le (by omega)), ?_⟩
          refine ⟨_, rfl, _, rfl, _, _, rfl, rfl, hsq, ?_⟩
          refine ⟨_, rfl, _, _, rfl, rfl, two_div, ?_⟩
          refine ⟨r * sq, rfl, rfl, ?_, ?_⟩
          · have := Int.mul_le_mul hr1 hs1 (by omega) (by omega)
            omega
          · rw [turn_odd (by omega)]
            exact hp
        · have hd : ¬ V.int (rest % 2) = V.int 1 := fun z => hd (decide_eq_true z)
          have hd : ¬ rest % 2 = 1 := fun z => hd (by rw [z])
          refine ⟨_, rfl, _, rfl, _, _, rfl, rfl, hsq, ?_⟩
          refine ⟨_, rfl, _, _, rfl, rfl, two_div, ?_⟩
          refine ⟨r, rfl, rfl, hr1, ?_⟩
          rw [turn_even (by omega)]
          exact hp
    · have hc : ¬ (0 : Int) < rest := fun z => hc (decide_eq_true z)
      refine ⟨_, rfl, ?_⟩
      have hm0 : m = 0 := by omega
      subst hm0
      rw [Int.pow_zero, Int.mul_one] at hp
      rw [hp]
      exact q
/-! ### log_of -/
def spLog : Sp := fun vs H Q _ => ∃ (b n : Int), vs = [.int b, .int n] ∧ 2 ≤ b ∧ b < BIG ∧ 1 ≤ n ∧ n < BIG ∧ ∀ (E : Nat) (H' : Hp), Same H H' → b ^ E ≤ n → n < b ^ (E + 1) → Q (.int E) H'
/-- the list of squares -/
def Sqs (b : Int) (k : Nat) (sqs : List Int) : Prop := sqs.length = k + 1 ∧ ∀ i, i < k + 1 → sqs[i]? = some (b ^ (2 ^ i))
theorem Sqs.one (b : Int) : Sqs b 0 [b] := ⟨rfl, fun i h => by
  have e : i = 0 := by omega
  subst e
  rw [Nat.pow_zero, Int.pow_succ, Int.pow_zero, Int.one_mul]
  rfl⟩
theorem Sqs.more {b : Int} {k : Nat} {sqs : List Int} (h : Sqs b k sqs) : Sqs b (k + 1) (sqs ++ [b ^ (2 ^ (k + 1))]) := by
  obtain ⟨h1, h2⟩ := h
  refine ⟨by simp [h1], fun i hi => ?_⟩
  by_cases c : i < k + 1
  · rw [List.getElem?_append_left (by omega)]
    exact h2 i c
  · have e : i = k + 1 := by omega
    subst e
    rw [List.getElem?_append_right (by omega), h1]
    simp
theorem at_neg {sqs : List Int} {b : Int} {k : Nat} (h : Sqs b k sqs) : atI (sqs.map V.int) (-1) = some (V.int (b ^ (2 ^ k))) := by
  obtain ⟨h1, h2⟩ := h
  have e : sqs = sqs.dropLast ++ [b ^ (2 ^ k)] := by
    have hne : sqs ≠ [] := by intro z; rw [z] at h1; simp at h1
    have hl := List.dropLast_concat_getLast hne
    have hg : sqs.getLast hne = b ^ (2 ^ k) := by
      have := h2 k (by omega)
      rw [List.getLast_eq_getElem]
      rw [List.getElem?_eq_some_iff] at this
      obtain ⟨hh, hv⟩ := this
      simp only [h1, Nat.add_sub_cancel]
      exact hv
    rw [hg] at hl
    exact hl.symm
  rw [e, List.map_append]
  exact atI_last _ _
abbrev nm_log_of : List Str := ["base", "number", "squares", "exponent", "power", "square"]
theorem sc_log_of : FnScope ["base", "number", "squares", "exponent", "power", "square"] ["base", "number"] (defScope s_log_of) := ⟨rfl, rfl, rfl, by decide +kernel, rfl, by decide +kernel, by decide +kernel⟩
theorem ok_log_of (T : Txt K mg A w) : FnOk P w K mg base CX0 1 A.a_log_of A.d_log_of ["base", "number"] spLog := by
  refine T.F_log_of.ok sc_log_of (fun vs H Q E h => ?_) (fun cdv A0 outer s H vs Q E hr h => ?_)
  · obtain ⟨b, e, rfl, _⟩ := h
    rfl
  · obtain ⟨b, n, rfl, hb, hbB, hn, hnB, q⟩ := h
    refine ⟨_, (pss_cons (ps_set (i := 2) sc_log_of.nd rfl (Or.inl rfl) (pe_lst (pa_cons (pv 0) pa_nil)))
  (pss_cons (ps_while PassesOwn.never (pt_cmpR op_le (pe_op op_mulW (pe_ix ix_list (pv 2) (pe_un un_neg pe_int) (fun _ _ => rfl)) (pe_ix ix_list (pv 2) (pe_un un_neg pe_int) (fun _ _ => rfl))) (pv 1) (nomark _))
  (pss_one (ps_expr (pe_bm PySem.F.plainAttrs_list PySem.F.slot_list_append PySem.F.type_list_append mt_append (pv 2) (pa_cons (pe_op op_mulW (pe_ix ix_list (pv 2) (pe_un un_neg pe_int) (fun _ _ => rfl)) (pe_ix ix_list (pv 2) (pe_un un_neg pe_int) (fun _ _ => rfl))) pa_nil)))))
  (pss_cons (ps_set (i := 3) sc_log_of.nd rfl (Or.inl rfl) pe_int)
  (pss_cons (ps_set (i := 4) sc_log_of.nd rfl (Or.inl rfl) pe_int)
  (pss_cons (ps_for PassesOwn.never rfl (pi_reversed (by rfl) T.n_reversed (pa_cons (pv 2) pa_nil)) (pg_name (i := 5) sc_log_of.nd rfl (Or.inl rfl))
  (pss_cons (ps_set (i := 3) sc_log_of.nd rfl (Or.inl rfl) (pe_op op_mulW pe_int (pv 3)))
  (pss_one (ps_if (pt_cmpR op_le (pe_op op_mulW (pv 4) (pv 5)) (pv 1) (nomark _)) (pss_cons (ps_set (i := 4) sc_log_of.nd rfl (Or.inl rfl) (pe_op op_mulW (pv 4) (pv 5)))
  (pss_one (ps_set (i := 3) sc_log_of.nd rfl (Or.inl rfl) (pe_op op_add (pv 3) pe_int)))) pss_nil))))
  (pss_one (ps_ret (pv 3)))))))), ?_⟩
    refine ⟨_, rfl, by show 1 ≤ sizeLine; decide, fun p hp => ?_⟩
    -- the squares
    refine ⟨fun m σ H' => ∃ (k : Nat) (sqs : List Int), σ = [some (.int b), some (.int n), some (.ref p), none, none, none] ∧ Same H H' ∧ H' p = some (.lst (sqs.map V.int)) ∧ Sqs b k sqs ∧ (b ^ (2 ^ k) ≤ n ∨ k = 0) ∧ m = (b + n - b ^ (2 ^ k)).toNat,
      ⟨_, 0, [b], rfl, fun c o e => by rw [upd_ne (ne_of_none e hp)]; exact e, upd_same, Sqs.one b, .inr rfl, rfl⟩, ?_⟩
    rintro m σ H' ⟨k, sqs, rfl, s1, hL, hS, hk, rfl⟩
    have hl1 : 2 ≤ b ^ (2 ^ k) := by
      have := pow_le' (b := b) (by omega) (show 1 ≤ 2 ^ k from Nat.one_le_two_pow)
      rw [Int.pow_succ, Int.pow_zero, Int.one_mul] at this
      omega
    have hlB : b ^ (2 ^ k) < BIG := by
      rcases hk with h | h
      · omega
      · subst h
        rw [Nat.pow_zero, Int.pow_succ, Int.pow_zero, Int.one_mul]
        exact hbB
    have hk13 := k_small hb hlB
    have hneg : atI (sqs.map V.int) (-1) = some (V.int (b ^ (2 ^ k))) := at_neg hS
    have hmul : CMulW (b ^ (2 ^ k)) (b ^ (2 ^ k)) := mulBig (by omega) (big_le hlB) (by omega) (big_le hlB)
    refine ⟨_, rfl, _, rfl, p, _, _, _, rfl, rfl, SqL.of hL, hneg, _, rfl, _, rfl, p, _, _, _, rfl, rfl, SqL.of hL, hneg, _, _, rfl, rfl, hmul, _, rfl, _, _, rfl, rfl, _, rfl, ?_⟩
    refine ite2 (fun hc => ?_) (fun hc => ?_)
    · have hc : b ^ (2 ^ k) * b ^ (2 ^ k) ≤ n := of_decide_eq_true hc
      refine ⟨fun σ' H2 => σ' = [some (.int b), some (.int n), some (.ref p), none, none, none] ∧ H2 = upd H' p (.lst ((sqs ++ [b ^ (2 ^ (k + 1))]).map V.int)), ?_, ?_⟩
      · rintro σ' H2 ⟨rfl, rfl⟩
        refine ⟨(b + n - b ^ (2 ^ (k + 1))).toNat, ?_, k + 1, _, rfl, fun c o e => ?_, upd_same, hS.more, .inl (by rw [← sq_two]; exact hc), rfl⟩
        · have h2 : b ^ (2 ^ k) < b ^ (2 ^ (k + 1)) := pow_lt' hb (Nat.pow_lt_pow_right (by decide) (Nat.lt_succ_self k))
          have h3 : b ^ (2 ^ (k + 1)) ≤ n := by rw [← sq_two]; exact hc
          omega
        · rw [upd_ne (ne_of_none e hp)]
          exact s1 c o e
      · refine ⟨_, rfl, .inl ⟨rfl, _, SqL.of hL⟩, _, rfl, _, rfl, p, _, _, _, rfl, rfl, SqL.of hL, hneg, _, rfl, _, rfl, p, _, _, _, rfl, rfl, SqL.of hL, hneg, _, _, rfl, rfl, hmul, ?_⟩
        refine ⟨p, _, _, rfl, rfl, hL, ?_, rfl, ?_⟩
        · rw [List.length_map, hS.1]
          exact small1000 (by omega)
        · show upd H' p (HO.lst (List.map V.int sqs ++ [V.int (b ^ 2 ^ k * b ^ 2 ^ k)])) = _
          rw [sq_two, List.map_append]
          rfl
    · have hc : ¬ b ^ (2 ^ k) * b ^ (2 ^ k) ≤ n := fun z => hc (decide_eq_true z)
      rw [sq_two] at hc
      refine ⟨_, rfl, p, _, rfl, SqL.of hL, ?_⟩
      have hlen : (sqs.map V.int).length = k + 1 := by rw [List.length_map]; exact hS.1
      -- the squares from behind
      refine ⟨fun i m σ H2 => i ≤ k + 1 ∧ m = k + 1 - i ∧ H2 = H' ∧ ∃ (E : Nat) (pw : Int) (v : Option V), σ = [some (.int b), some (.int n), some (.ref p), some (.int (E : Int)), some (.int pw), v] ∧ LogInv b n (k + 1 - i) E pw,
        ⟨k + 1, by omega, rfl, rfl, 0, 1, none, rfl, LogInv.start hn (by rw [Nat.sub_zero]; omega)⟩, ?_⟩
      rintro i m σ H2 ⟨hi, rfl, rfl, E, pw, v, rfl, hI⟩
      by_cases hlt : i < k + 1
      · have hget : (sqs.map V.int)[k - i]? = some (V.int (b ^ (2 ^ (k - i)))) := by
          rw [List.getElem?_map, hS.2 (k - i) (by omega)]
          rfl
        refine .inr ⟨⟨by rw [hlen]; exact hlt, _, _, SqL.of hL, by rw [hlen, show k + 1 - 1 - i = k - i by omega]; exact hget⟩, fun σ' H3 => H3 = H2 ∧ ∃ (E : Nat) (pw : Int) (v : Option V), σ' = [some (.int b), some (.int n), some (.ref p), some (.int (E : Int)), some (.int pw), v] ∧ LogInv b n (k - i) E pw, ?_, ?_⟩
        · rintro σ' H3 ⟨rfl, E', pw', v', rfl, hI'⟩
          exact ⟨k - i, by omega, by omega, by omega, rfl, E', pw', v', rfl, by rw [show k + 1 - (i + 1) = k - i by omega]; exact hI'⟩
        · rintro x H3 ⟨rfl, hx⟩
          have hx := hx _ (SqL.of hL)
          rw [hlen, show k + 1 - 1 - i = k - i by omega, hget] at hx
          obtain rfl := Option.some.inj hx
          rw [show k + 1 - i = (k - i) + 1 by omega] at hI
          have hp1 : 1 ≤ pw := by rw [hI.1]; exact pow_pos' (by omega) _
          have hpB : pw < BIG := by have := hI.2.1; omega
          have hs1 : 1 ≤ b ^ (2 ^ (k - i)) := pow_pos' (by omega) _
          have hsB : b ^ (2 ^ (k - i)) < BIG := by
            have := pow_le' (b := b) (by omega) (Nat.pow_le_pow_right (show 0 < 2 by decide) (show k - i ≤ k by omega))
            omega
          have hmul2 : CMulW pw (b ^ (2 ^ (k - i))) := mulBig (by omega) (big_le hpB) (by omega) (big_le hsB)
          have hE : E < 8000 := by
            have h1 : b ^ (E * 2 ^ (k - i + 1)) < 2 ^ 8000 := by rw [← hI.1]; exact hpB
            exact Nat.lt_of_le_of_lt (Nat.le_mul_of_pos_right E (Nat.two_pow_pos _)) (exp_lt hb h1)
          have hmul3 : CMulW 2 (E : Int) := wide_mul (a := 2) (b := 13) (by decide) (by rw [Int.natAbs_natCast]; omega) (by decide) (by decide) (by decide)
          refine ⟨_, rfl, _, _, rfl, rfl, hmul3, ?_⟩
          refine ⟨_, rfl, _, rfl, _, _, rfl, rfl, hmul2, _, rfl, _, _, rfl, rfl, _, rfl, ?_⟩
          refine ite2 (fun hc => ?_) (fun hc => ?_)
          · have hc : pw * b ^ (2 ^ (k - i)) ≤ n := of_decide_eq_true hc
            refine ⟨_, rfl, _, rfl, _, _, rfl, rfl, hmul2, ?_⟩
            refine ⟨_, rfl, _, _, rfl, rfl, ?_⟩
            exact ⟨rfl, 2 * E + 1, _, _, rfl, hI.yes hc⟩
          · have hc : ¬ pw * b ^ (2 ^ (k - i)) ≤ n := fun z => hc (decide_eq_true z)
            exact ⟨rfl, 2 * E, _, _, rfl, hI.no hc⟩
      · have e : i = k + 1 := by omega
        subst e
        rw [Nat.sub_self] at hI
        exact .inl ⟨by show (sqs.map V.int).length ≤ k + 1; rw [hlen]; exact Nat.le_refl _, _, rfl, q E H2 s1 hI.fin.1 hI.fin.2⟩
end
end Ax

namespace Ax
/-! ### kinds, sizes, reaches -/
inductive Kd where | ins | cov | len
  deriving DecidableEq
/-- how often the ends are scaled: the step is a whole number beside them -/
def facZ (b e : Int) : Int := if 0 ≤ e then 1 else b ^ (-e).toNat
def sizZ (b m e : Int) : Int := if 0 ≤ e then m * b ^ e.toNat else m
def reachZ (k : Kd) (most low size : Int) : Int := match k with
  | .len => low + most * size
  | .cov => (low / size + most) * size
  | .ins => (-(-low / size) + most) * size - 1
theorem mul_le_iff {a b c : Int} (h : 0 < c) : a * c ≤ b * c ↔ a ≤ b := ⟨fun q => Int.le_of_mul_le_mul_right q h, fun q => Int.mul_le_mul_of_nonneg_right q (by omega)⟩
theorem mul_lt_iff {a b c : Int} (h : 0 < c) : a * c < b * c ↔ a < b := ⟨fun q => Int.lt_of_mul_lt_mul_right q (by omega), fun q => Int.mul_lt_mul_of_pos_right q h⟩
theorem reach_scale {k : Kd} {most l h s c : Int} (hc : 0 < c) (hs : 0 < s) : h * c ≤ reachZ k most (l * c) (s * c) ↔ h ≤ reachZ k most l s := by
  have d : ∀ x : Int, x * c / (s * c) = x / s := fun x => Int.mul_ediv_mul_of_pos_left x s hc
  cases k with
  | len =>
    show h * c ≤ l * c + most * (s * c) ↔ h ≤ l + most * s
    rw [← Int.mul_assoc, ← Int.add_mul]
    exact mul_le_iff hc
  | cov =>
    show h * c ≤ (l * c / (s * c) + most) * (s * c) ↔ h ≤ (l / s + most) * s
    rw [d, ← Int.mul_assoc]
    exact mul_le_iff hc
  | ins =>
    show h * c ≤ (-(-(l * c) / (s * c)) + most) * (s * c) - 1 ↔ h ≤ (-(-l / s) + most) * s - 1
    rw [← Int.neg_mul, d, ← Int.mul_assoc]
    constructor
    · intro q
      have := (mul_lt_iff hc).mp (show h * c < (-(-l / s) + most) * s * c by omega)
      omega
    · intro q
      have := (mul_lt_iff (c := c) hc).mpr (show h < (-(-l / s) + most) * s by omega)
      omega
/-- a step's size in units of b ^ -N -/
def szN (b N m p : Int) : Int := m * b ^ (N + p).toNat
theorem szN_pos {b N m p : Int} (hb : 1 ≤ b) (hm : 1 ≤ m) : 1 ≤ szN b N m p := by
  have h1 := pow_pos' hb (N + p).toNat
  have := Int.mul_le_mul hm h1 (by omega) (by omega)
  unfold szN
  omega
theorem szN_shift {b N m p c : Int} (h : 0 ≤ N + p) (hc : 0 ≤ c) : szN b (N + c) m p = szN b N m p * b ^ c.toNat := by
  unfold szN
  rw [Int.mul_assoc, ← pow_add']
  congr 2
  omega
/-- whether a step fits: e is its power beside the ends' digits -/
def FitE (b : Int) (k : Kd) (most l h m e : Int) : Prop := h * facZ b e ≤ reachZ k most (l * facZ b e) (sizZ b m e)
theorem fitE_N {b : Int} {k : Kd} {most l h m e N : Int} (hb : 1 ≤ b) (hm : 1 ≤ m) (hN : 0 ≤ N) (he : 0 ≤ N + e) : FitE b k most l h m e ↔ h * b ^ N.toNat ≤ reachZ k most (l * b ^ N.toNat) (szN b N m e) := by
  unfold FitE facZ sizZ
  by_cases c : 0 ≤ e
  · rw [if_pos c, if_pos c, Int.mul_one, Int.mul_one]
    have e1 : szN b N m e = m * b ^ e.toNat * b ^ N.toNat := by
      unfold szN
      rw [Int.mul_assoc, ← pow_add']
      congr 2
      omega
    rw [e1]
    exact (reach_scale (by have := pow_pos' hb N.toNat; omega) (by
      have h1 := pow_pos' hb e.toNat
      have := Int.mul_le_mul hm h1 (by omega) (by omega)
      omega)).symm
  · rw [if_neg c, if_neg c]
    have e1 : N.toNat = (-e).toNat + (N + e).toNat := by omega
    have e2 : szN b N m e = m * b ^ (N + e).toNat := rfl
    rw [e2, e1, pow_add', ← Int.mul_assoc, ← Int.mul_assoc]
    exact (reach_scale (by have := pow_pos' hb (N + e).toNat; omega) (by omega)).symm
/-- a great step fits -/
theorem fit_big {k : Kd} {most l h s : Int} (h1 : 1 ≤ most) (h2 : k = .cov → 2 ≤ most) (hs : h - l < s) (hp : 0 < s) : h ≤ reachZ k most l s := by
  have e1 := Int.emod_add_mul_ediv l s
  have e2 := Int.emod_nonneg l (show s ≠ 0 by omega)
  have e3 := Int.emod_lt_of_pos l hp
  have f1 := Int.emod_add_mul_ediv (-l) s
  have f2 := Int.emod_nonneg (-l) (show s ≠ 0 by omega)
  have f3 := Int.emod_lt_of_pos (-l) hp
  cases k with
  | len =>
    show h ≤ l + most * s
    have := Int.mul_le_mul_of_nonneg_right h1 (show 0 ≤ s by omega)
    omega
  | cov =>
    show h ≤ (l / s + most) * s
    have := Int.mul_le_mul_of_nonneg_right (h2 rfl) (show 0 ≤ s by omega)
    rw [Int.add_mul, Int.mul_comm (l / s)]
    omega
  | ins =>
    show h ≤ (-(-l / s) + most) * s - 1
    have := Int.mul_le_mul_of_nonneg_right h1 (show 0 ≤ s by omega)
    rw [Int.add_mul, Int.neg_mul, Int.mul_comm (-l / s)]
    omega
/-- a small one does not -/
theorem fit_small {k : Kd} {most l h s : Int} (hs : (most + 1) * s ≤ h - l) (hp : 0 < s) : ¬ h ≤ reachZ k most l s := by
  have e1 := Int.emod_add_mul_ediv l s
  have e2 := Int.emod_nonneg l (show s ≠ 0 by omega)
  have f1 := Int.emod_add_mul_ediv (-l) s
  have f3 := Int.emod_lt_of_pos (-l) hp
  rw [Int.add_mul] at hs
  cases k with
  | len =>
    show ¬ h ≤ l + most * s
    omega
  | cov =>
    show ¬ h ≤ (l / s + most) * s
    rw [Int.add_mul, Int.mul_comm (l / s)]
    omega
  | ins =>
    show ¬ h ≤ (-(-l / s) + most) * s - 1
    rw [Int.add_mul, Int.neg_mul, Int.mul_comm (-l / s)]
    omega
/-- a step is less than another one -/
def SLt (b : Int) (x y : Int × Int) : Prop := ∃ N : Int, 0 ≤ N + x.2 ∧ 0 ≤ N + y.2 ∧ szN b N x.1 x.2 < szN b N y.1 y.2
theorem SLt.at {b : Int} (hb : 1 ≤ b) {x y : Int × Int} (h : SLt b x y) {M : Int} (h1 : 0 ≤ M + x.2) (h2 : 0 ≤ M + y.2) : szN b M x.1 x.2 < szN b M y.1 y.2 := by
  obtain ⟨N, a1, a2, a3⟩ := h
  rcases Int.le_total N M with c | c
  · have e : M = N + (M - N) := by omega
    rw [e, szN_shift a1 (by omega), szN_shift a2 (by omega)]
    exact (mul_lt_iff (by have := pow_pos' hb (M - N).toNat; omega)).mpr a3
  · have e : N = M + (N - M) := by omega
    rw [e, szN_shift h1 (by omega), szN_shift h2 (by omega)] at a3
    exact (mul_lt_iff (by have := pow_pos' hb (N - M).toNat; omega)).mp a3
/-! ### the steps in order -/
noncomputable def sAt (b : Int) (rs : List Int) (i : Int) : Int × Int := (rs.getD (i % rs.length).toNat 1, i / rs.length - lg b (rs.getD (i % rs.length).toNat 1))
/-- what is known of the mantissas in the order of their least steps -/
structure Rungs (b : Int) (rs : List Int) (top : Nat) : Prop where
  b2 : 2 ≤ b
  ne : 0 < rs.length
  pos : ∀ m ∈ rs, 1 ≤ m
  top_ : ∀ m ∈ rs, lg b m ≤ top
  st : rs.Pairwise (fun m n => keyOf b top m < keyOf b top n)
section
variable {b : Int} {rs : List Int} {top : Nat}
theorem Rungs.mem (R : Rungs b rs top) (i : Int) : (sAt b rs i).1 ∈ rs := by
  have h1 := Int.emod_nonneg i (show (rs.length : Int) ≠ 0 by have := R.ne; omega)
  have h2 := Int.emod_lt_of_pos i (show 0 < (rs.length : Int) by have := R.ne; omega)
  show rs.getD (i % rs.length).toNat 1 ∈ rs
  rw [List.getD_eq_getElem?_getD, List.getElem?_eq_getElem (show (i % rs.length).toNat < rs.length by omega)]
  exact List.getElem_mem _
/-- between which powers of the base a step's size lies -/
theorem Rungs.size (R : Rungs b rs top) {i N : Int} (hN : (lg b (sAt b rs i).1 : Int) ≤ N + i / rs.length) : szN b N (sAt b rs i).1 (sAt b rs i).2 = (sAt b rs i).1 * b ^ ((N + i / rs.length).toNat - lg b (sAt b rs i).1) := by
  unfold szN
  congr 2
  show (N + (i / rs.length - lg b (sAt b rs i).1)).toNat = _
  omega
theorem Rungs.bounds (R : Rungs b rs top) {i N : Int} (hN : (lg b (sAt b rs i).1 : Int) ≤ N + i / rs.length) : b ^ (N + i / rs.length).toNat ≤ szN b N (sAt b rs i).1 (sAt b rs i).2 ∧ szN b N (sAt b rs i).1 (sAt b rs i).2 < b ^ ((N + i / rs.length).toNat + 1) := by
  rw [R.size hN]
  exact key_lt (top := (N + i / rs.length).toNat) R.b2 (R.pos _ (R.mem i)) (by omega)
theorem keyOf_shift {top top' : Nat} {m : Int} (h : lg b m ≤ top) (h2 : top ≤ top') : keyOf b top' m = keyOf b top m * b ^ (top' - top) := by
  unfold keyOf
  rw [Int.mul_assoc, ← pow_add']
  congr 2
  omega
theorem Rungs.mono (R : Rungs b rs top) {i j N : Int} (hij : i < j) (hi : (top : Int) ≤ N + i / rs.length) : szN b N (sAt b rs i).1 (sAt b rs i).2 < szN b N (sAt b rs j).1 (sAt b rs j).2 := by
  have hn : 0 < (rs.length : Int) := by have := R.ne; omega
  have ti := R.top_ _ (R.mem i)
  have tj := R.top_ _ (R.mem j)
  have dij : i / rs.length ≤ j / rs.length := Int.ediv_le_ediv hn (by omega)
  obtain ⟨a1, a2⟩ := R.bounds (i := i) (N := N) (by omega)
  obtain ⟨c1, c2⟩ := R.bounds (i := j) (N := N) (by omega)
  by_cases q : i / rs.length = j / rs.length
  · have e1 := Int.emod_add_mul_ediv i rs.length
    have e2 := Int.emod_add_mul_ediv j rs.length
    have f1 := Int.emod_nonneg i (show (rs.length : Int) ≠ 0 by omega)
    have f2 := Int.emod_lt_of_pos i hn
    have g1 := Int.emod_nonneg j (show (rs.length : Int) ≠ 0 by omega)
    have g2 := Int.emod_lt_of_pos j hn
    rw [q] at e1
    have lt : (i % rs.length).toNat < (j % rs.length).toNat := by omega
    rw [R.size (by omega), R.size (by omega), q]
    have hp := (List.pairwise_iff_getElem.mp R.st) (i % rs.length).toNat (j % rs.length).toNat (by omega) (by omega) lt
    have ei : (sAt b rs i).1 = rs[(i % rs.length).toNat]'(by omega) := by
      show rs.getD (i % rs.length).toNat 1 = _
      rw [List.getD_eq_getElem?_getD, List.getElem?_eq_getElem (show (i % rs.length).toNat < rs.length by omega)]
      rfl
    have ej : (sAt b rs j).1 = rs[(j % rs.length).toNat]'(by omega) := by
      show rs.getD (j % rs.length).toNat 1 = _
      rw [List.getD_eq_getElem?_getD, List.getElem?_eq_getElem (show (j % rs.length).toNat < rs.length by omega)]
      rfl
    rw [← ei, ← ej] at hp
    have k1 := keyOf_shift (b := b) ti (show top ≤ (N + j / rs.length).toNat by omega)
    have k2 := keyOf_shift (b := b) tj (show top ≤ (N + j / rs.length).toNat by omega)
    show keyOf b (N + j / rs.length).toNat _ < keyOf b (N + j / rs.length).toNat _
    rw [k1, k2]
    exact (mul_lt_iff (by have := pow_pos' (b := b) (by have := R.b2; omega) ((N + j / rs.length).toNat - top); omega)).mpr hp
  · have := pow_le' (b := b) (by have := R.b2; omega) (show (N + i / rs.length).toNat + 1 ≤ (N + j / rs.length).toNat by omega)
    omega
/-- every step has its place -/
theorem Rungs.place (R : Rungs b rs top) {m p : Int} (hm : m ∈ rs) : ∃ i : Int, sAt b rs i = (m, p) := by
  obtain ⟨j, hj, e⟩ := List.getElem_of_mem hm
  refine ⟨(p + lg b m) * rs.length + j, ?_⟩
  have hn : 0 < (rs.length : Int) := by omega
  have e1 : ((p + lg b m) * rs.length + j) % rs.length = j := by
    rw [Int.add_comm, Int.add_mul_emod_self_right]
    exact Int.emod_eq_of_lt (by omega) (by omega)
  have e2 : ((p + lg b m) * rs.length + j) / rs.length = p + lg b m := by
    rw [Int.add_comm, Int.add_mul_ediv_right _ _ (by omega), Int.ediv_eq_zero_of_lt (by omega) (by omega)]
    omega
  unfold sAt
  rw [e1, e2]
  have e3 : rs.getD (j : Int).toNat 1 = m := by
    rw [Int.toNat_natCast, List.getD_eq_getElem?_getD, List.getElem?_eq_getElem hj, e]
    rfl
  rw [e3]
  exact Prod.ext rfl (by show p + (lg b m : Int) - (lg b m : Int) = p; omega)
end
end Ax

namespace Ax
/-- the i-th step fits -/
def FitI (b : Int) (rs : List Int) (k : Kd) (most l h d i : Int) : Prop := FitE b k most l h (sAt b rs i).1 ((sAt b rs i).2 + d)
noncomputable def lowQ (b most l h d : Int) : Int := lg b (h - l) - d - (lg b (most + 1) + 1)
theorem szN_digits {b N m p d : Int} : szN b N m (p + d) = szN b (N + d) m p := by
  unfold szN
  congr 2
  omega
section
variable {b : Int} {rs : List Int} {top : Nat} {k : Kd} {most l h d : Int}
theorem fit_low (R : Rungs b rs top) (hlt : l < h) (hm : 1 ≤ most) {i : Int} (hi : i < lowQ b most l h d * rs.length) : ¬ FitI b rs k most l h d i := by
  have hb := R.b2
  have hn : 0 < (rs.length : Int) := by have := R.ne; omega
  have q1 : i / rs.length < lowQ b most l h d := Int.ediv_lt_of_lt_mul hn hi
  have tm := R.top_ _ (R.mem i)
  have mp := R.pos _ (R.mem i)
  obtain ⟨g1, g2⟩ := lg_spec (b := b) (m := h - l) hb (by omega)
  obtain ⟨g3, g4⟩ := lg_spec (b := b) (m := most + 1) hb (by omega)
  -- units that are small enough
  obtain ⟨N, hN⟩ : ∃ N : Int, N = top + (i / rs.length).natAbs + d.natAbs := ⟨_, rfl⟩
  have b1 := R.bounds (i := i) (N := N + d) (by omega)
  unfold FitI
  rw [fitE_N (N := N) (by omega) mp (by omega) (by show 0 ≤ N + (i / rs.length - lg b (sAt b rs i).1 + d); omega), szN_digits]
  refine fit_small ?_ (by have := szN_pos (b := b) (N := N + d) (p := (sAt b rs i).2) (by omega) mp; omega)
  rw [← Int.sub_mul]
  unfold lowQ at q1
  have p1 := pow_pos' (b := b) (by omega) N.toNat
  have h1 : (most + 1) * szN b (N + d) (sAt b rs i).1 (sAt b rs i).2 ≤ b ^ (lg b (most + 1) + 1) * b ^ ((N + d + i / rs.length).toNat + 1) := by
    have s0 := szN_pos (b := b) (N := N + d) (p := (sAt b rs i).2) (by omega) mp
    exact Int.mul_le_mul (by omega) (by omega) (by omega) (by omega)
  have h2 : b ^ (lg b (most + 1) + 1) * b ^ ((N + d + i / rs.length).toNat + 1) ≤ b ^ lg b (h - l) * b ^ N.toNat := by
    rw [← pow_add', ← pow_add']
    exact pow_le' (by omega) (by omega)
  have h3 := Int.mul_le_mul_of_nonneg_right g1 (show 0 ≤ b ^ N.toNat by omega)
  omega
theorem fit_high (R : Rungs b rs top) (hlt : l < h) (hm : 1 ≤ most) (hc : k = .cov → 2 ≤ most) {i : Int} (hi : (lg b (h - l) - d + 1) * rs.length ≤ i) : FitI b rs k most l h d i := by
  have hb := R.b2
  have hn : 0 < (rs.length : Int) := by have := R.ne; omega
  have q1 : (lg b (h - l) - d + 1 : Int) ≤ i / rs.length := (Int.le_ediv_iff_mul_le hn).mpr hi
  have tm := R.top_ _ (R.mem i)
  have mp := R.pos _ (R.mem i)
  obtain ⟨g1, g2⟩ := lg_spec (b := b) (m := h - l) hb (by omega)
  obtain ⟨N, hN⟩ : ∃ N : Int, N = top + (i / rs.length).natAbs + d.natAbs := ⟨_, rfl⟩
  have b1 := R.bounds (i := i) (N := N + d) (by omega)
  unfold FitI
  rw [fitE_N (N := N) (by omega) mp (by omega) (by show 0 ≤ N + (i / rs.length - lg b (sAt b rs i).1 + d); omega), szN_digits]
  refine fit_big hm hc ?_ (by have := szN_pos (b := b) (N := N + d) (p := (sAt b rs i).2) (by omega) mp; omega)
  rw [← Int.sub_mul]
  have p1 := pow_pos' (b := b) (by omega) N.toNat
  have h2 : b ^ (lg b (h - l) + 1) * b ^ N.toNat ≤ b ^ (N + d + i / rs.length).toNat := by
    rw [← pow_add']
    exact pow_le' (by omega) (by omega)
  have h3 := (mul_lt_iff (c := b ^ N.toNat) (by omega)).mpr g2
  omega
/-- how far the power of a step that comes into question lies from the ends' digits -/
theorem exp_bound (R : Rungs b rs top) (hb : b < 2 ^ 64) (hlt : l < h) (hlen : h - l < 2 ^ 1000) (hm : 1 ≤ most) (hmB : most < 2 ^ 60) (hrB : ∀ m ∈ rs, m < 2 ^ 64) {i : Int} (h1 : lowQ b most l h d * rs.length ≤ i) (h2 : i ≤ (lg b (h - l) - d + 1) * rs.length) :
    b ^ ((sAt b rs i).2 + d).natAbs < 2 ^ 2000 := by
  have hn : 0 < (rs.length : Int) := by have := R.ne; omega
  have q1 : lowQ b most l h d ≤ i / rs.length := (Int.le_ediv_iff_mul_le hn).mpr h1
  have q2 : i / rs.length ≤ (lg b (h - l) - d + 1 : Int) := Int.ediv_le_of_le_mul hn h2
  unfold lowQ at q1
  have hb2 := R.b2
  have mp := R.pos _ (R.mem i)
  have mB := hrB _ (R.mem i)
  have g1 := (lg_spec (b := b) (m := h - l) hb2 (by omega)).1
  have g2 := (lg_spec (b := b) (m := most + 1) hb2 (by omega)).1
  have g3 := (lg_spec (b := b) (m := (sAt b rs i).1) hb2 mp).1
  have e1 : ((sAt b rs i).2 + d).natAbs ≤ lg b (h - l) + (lg b (most + 1) + (lg b (sAt b rs i).1 + (1 + 1))) := by
    show (i / rs.length - lg b (sAt b rs i).1 + d).natAbs ≤ _
    omega
  refine Int.lt_of_le_of_lt (pow_le' (by omega) e1) ?_
  rw [pow_add', pow_add', pow_add', pow_add', Int.pow_succ, Int.pow_zero, Int.one_mul]
  have p1 := pow_pos' (b := b) (by omega) (lg b (h - l))
  have p2 := pow_pos' (b := b) (by omega) (lg b (most + 1))
  have p3 := pow_pos' (b := b) (by omega) (lg b (sAt b rs i).1)
  have c0 : b * b ≤ 2 ^ 64 * 2 ^ 64 := Int.mul_le_mul (by omega) (by omega) (by omega) (by decide)
  have z0 : 0 ≤ b * b := Int.mul_nonneg (by omega) (by omega)
  have c1 : b ^ lg b (sAt b rs i).1 * (b * b) ≤ 2 ^ 64 * (2 ^ 64 * 2 ^ 64) := Int.mul_le_mul (by omega) c0 z0 (by decide)
  have z1 : 0 ≤ b ^ lg b (sAt b rs i).1 * (b * b) := Int.mul_nonneg (by omega) z0
  have c2 : b ^ lg b (most + 1) * (b ^ lg b (sAt b rs i).1 * (b * b)) ≤ 2 ^ 61 * (2 ^ 64 * (2 ^ 64 * 2 ^ 64)) := Int.mul_le_mul (by
    have : (2 : Int) ^ 60 + 1 ≤ 2 ^ 61 := by decide
    omega) c1 z1 (by decide)
  have z2 : 0 ≤ b ^ lg b (most + 1) * (b ^ lg b (sAt b rs i).1 * (b * b)) := Int.mul_nonneg (by omega) z1
  have c3 : b ^ lg b (h - l) * (b ^ lg b (most + 1) * (b ^ lg b (sAt b rs i).1 * (b * b))) ≤ 2 ^ 1000 * (2 ^ 61 * (2 ^ 64 * (2 ^ 64 * 2 ^ 64))) := Int.mul_le_mul (by omega) c2 z2 (by have := pow_pos' (b := 2) (by decide) 1000; omega)
  refine Int.lt_of_le_of_lt c3 ?_
  rw [← pow_add', ← pow_add', ← pow_add', ← pow_add']
  exact pow_lt' (b := 2) (by decide) (by decide)
/-- THE STEP: the least of a rule that fits -/
structure LeastFit (b : Int) (ms : List Int) (k : Kd) (most l h d m p : Int) : Prop where
  mem : m ∈ ms
  fit : FitE b k most l h m (p + d)
  least : ∀ m' ∈ ms, ∀ p' : Int, SLt b (m', p') (m, p) → ¬ FitE b k most l h m' (p' + d)
theorem least_of (R : Rungs b rs top) (hlt : l < h) (hm : 1 ≤ most) {ms : List Int} (pm : rs.Perm ms) {i : Int} (h1 : FitI b rs k most l h d i) (h2 : ∀ j, lowQ b most l h d * rs.length ≤ j → j < i → ¬ FitI b rs k most l h d j) : LeastFit b ms k most l h d (sAt b rs i).1 (sAt b rs i).2 := by
  refine ⟨pm.mem_iff.mp (R.mem i), h1, fun m' hm' p' hs => ?_⟩
  obtain ⟨j, hj⟩ := R.place (p := p') (pm.mem_iff.mpr hm')
  have hji : j < i := by
    apply Int.lt_of_not_ge
    intro c
    rcases Int.lt_or_eq_of_le c with c | c
    · have tm := R.top_ _ (R.mem i)
      have tj := R.top_ _ (R.mem j)
      obtain ⟨N, hN⟩ : ∃ N : Int, N = top + (i / rs.length).natAbs + (j / rs.length).natAbs := ⟨_, rfl⟩
      have a := R.mono (i := i) (j := j) (N := N) c (by omega)
      have a2 : szN b N (sAt b rs j).1 (sAt b rs j).2 < szN b N (sAt b rs i).1 (sAt b rs i).2 := by
        rw [hj]
        refine hs.at (by have := R.b2; omega) ?_ ?_
        · have e : (sAt b rs j).2 = p' := by rw [hj]
          show 0 ≤ N + p'
          rw [← e]
          show 0 ≤ N + (j / rs.length - lg b (sAt b rs j).1)
          omega
        · show 0 ≤ N + (i / rs.length - lg b (sAt b rs i).1)
          omega
      omega
    · subst c
      rw [hj] at hs
      obtain ⟨N, _, _, q⟩ := hs
      exact absurd q (Int.lt_irrefl _)
  have nf : ¬ FitI b rs k most l h d j := by
    by_cases q : lowQ b most l h d * rs.length ≤ j
    · exact h2 j q hji
    · exact fit_low R hlt hm (by omega)
  unfold FitI at nf
  rw [hj] at nf
  exact nf
end
end Ax
namespace Ax
instance {b : Int} {k : Kd} {most l h m e : Int} : Decidable (FitE b k most l h m e) := inferInstanceAs (Decidable (_ ≤ _))
theorem fac_bound {b e : Int} {n : Nat} (hb : 1 ≤ b) (h : b ^ e.natAbs < 2 ^ n) : 1 ≤ facZ b e ∧ facZ b e < 2 ^ n := by
  have h1 := pow_pos' hb e.natAbs
  unfold facZ
  by_cases c : 0 ≤ e
  · rw [if_pos c]
    omega
  · rw [if_neg c, show (-e).toNat = e.natAbs by omega]
    exact ⟨h1, h⟩
theorem siz_bound {b m e : Int} {n : Nat} (hb : 1 ≤ b) (hm : 1 ≤ m) (hmB : m < 2 ^ 64) (h : b ^ e.natAbs < 2 ^ n) : 1 ≤ sizZ b m e ∧ sizZ b m e < 2 ^ (64 + n) := by
  have h1 := pow_pos' hb e.natAbs
  unfold sizZ
  by_cases c : 0 ≤ e
  · rw [if_pos c, show e.toNat = e.natAbs by omega]
    have a := Int.mul_le_mul hm h1 (by omega) (by omega)
    have a1 := Int.mul_lt_mul_of_pos_right hmB (show 0 < b ^ e.natAbs by omega)
    have a2 := Int.mul_lt_mul_of_pos_left h (show (0 : Int) < 2 ^ 64 by decide)
    rw [pow_add']
    omega
  · rw [if_neg c]
    have := pow_le' (b := 2) (by decide) (Nat.le_add_right 64 n)
    omega
end Ax

namespace Ax
open PySem L2
/-! ### kinds, sizes, reaches: the mathematics' own words -/
def Kd.s : Kd → Str
  | .ins => "inside" | .cov => "cover" | .len => "length"
section
variable {P : Program} {w : World} {K : PySem.W.Frag} {mg : Str → Option Value} {base : Heap} {A : Adr}
/-! ### measure -/
def spMeasure (K : PySem.W.Frag) : Sp := fun vs H Q _ => ∃ (b m p d : Int) (t : Addr), vs = [.int b, .ref t, .int d] ∧ SqT K H t [.int m, .int p] ∧ 1 ≤ b ∧ b < BIG ∧ b ^ (p + d).natAbs < BIG ∧ 0 ≤ m ∧ m < BIG ∧
  ∀ (H' : Hp) (q : Addr), Same H H' → H q = none → H' = upd H q (.tup [.int (facZ b (p + d)), .int (sizZ b m (p + d))]) → Q (.ref q) H'
abbrev nm_measure : List Str := ["base", "step", "digits", "mantissa", "power", "exponent"]
theorem sc_measure : FnScope ["base", "step", "digits", "mantissa", "power", "exponent"] ["base", "step", "digits"] (defScope s_measure) := ⟨rfl, rfl, rfl, by decide +kernel, rfl, by decide +kernel, by decide +kernel⟩
theorem ok_measure (T : Txt K mg A w) : FnOk P w K mg base CX0 2 A.a_measure A.d_measure ["base", "step", "digits"] (spMeasure K) := by
  have G_power_of : FnOk P w K mg base CX0 1 A.a_power_of A.d_power_of ["base", "exponent"] spPow := ok_power_of T
  refine T.F_measure.ok sc_measure (fun vs H Q E h => ?_) (fun cdv A0 outer s H vs Q E hr h => ?_)
  · obtain ⟨b, m, p, d, t, rfl, _⟩ := h
    rfl
  · obtain ⟨b, m, p, d, t, rfl, hT, hb, hbB, hpB, hm, hmB, q⟩ := h
    refine ⟨_, (pss_cons (ps_asg (pv 1) (pg_tup (by rfl) (pgs_cons (pg_name (i := 3) sc_measure.nd rfl (Or.inl rfl)) (pgs_cons (pg_name (i := 4) sc_measure.nd rfl (Or.inl rfl)) pgs_nil))))
  (pss_cons (ps_set (i := 5) sc_measure.nd rfl (Or.inl rfl) (pe_op op_add (pv 4) (pv 2)))
  (pss_cons (ps_if (pt_cmpR op_ge (pv 5) pe_int (nomark _)) (pss_one (ps_ret (pe_tup (pa_cons pe_int (pa_cons (pe_op op_mulW (pv 3) (pe_call G_power_of (hr.mono (by decide)) (by rfl) T.m_power_of T.F_power_of.kp T.B_power_of .nil pass0 (pa_cons (pv 0) (pa_cons (pv 5) pa_nil)))) pa_nil))))) pss_nil)
  (pss_one (ps_ret (pe_tup (pa_cons (pe_call G_power_of (hr.mono (by decide)) (by rfl) T.m_power_of T.F_power_of.kp T.B_power_of .nil pass0 (pa_cons (pv 0) (pa_cons (pe_un un_neg (pv 5)) pa_nil))) (pa_cons (pv 3) pa_nil)))))))), ?_⟩
    refine ⟨_, rfl, t, _, rfl, hT, rfl, _, _, rfl, _, _, rfl, rfl, ?_⟩
    refine ⟨_, rfl, _, rfl, _, _, rfl, rfl, ?_⟩
    refine ⟨_, rfl, _, _, rfl, rfl, _, rfl, ?_⟩
    refine ite2 (fun hc => ?_) (fun hc => ?_)
    · have hc : 0 ≤ p + d := of_decide_eq_true hc
      have e1 : facZ b (p + d) = 1 := if_pos hc
      have e2 : sizZ b m (p + d) = m * b ^ (p + d).toNat := if_pos hc
      have hpB' : b ^ (p + d).toNat < BIG := by rw [show (p + d).toNat = (p + d).natAbs by omega]; exact hpB
      refine ⟨_, rfl, _, rfl, _, rfl, b, p + d, rfl, hb, hc, hpB', hbB, ?_⟩
      have hp1 := pow_pos' hb (p + d).toNat
      refine ⟨_, _, rfl, rfl, mulBig hm (big_le hmB) (by omega) (big_le hpB'), (by show 2 ≤ sizeLine; decide), fun r hr0 => ?_⟩
      refine q _ r (fun c o e => ?_) hr0 ?_
      · rw [upd_ne (ne_of_none e hr0)]
        exact e
      · rw [e1, e2]
    · have hc : ¬ 0 ≤ p + d := fun z => hc (decide_eq_true z)
      have e1 : facZ b (p + d) = b ^ (-(p + d)).toNat := if_neg hc
      have e2 : sizZ b m (p + d) = m := if_neg hc
      have hpB' : b ^ (-(p + d)).toNat < BIG := by rw [show (-(p + d)).toNat = (p + d).natAbs by omega]; exact hpB
      refine ⟨_, rfl, _, rfl, _, rfl, b, -(p + d), rfl, hb, by omega, hpB', hbB, ?_⟩
      refine ⟨_, rfl, (by show 2 ≤ sizeLine; decide), fun r hr0 => ?_⟩
      refine q _ r (fun c o e => ?_) hr0 ?_
      · rw [upd_ne (ne_of_none e hr0)]
        exact e
      · rw [e1, e2]
/-! ### reach -/
def spReach : Sp := fun vs H Q _ => ∃ (k : Kd) (most low size : Int), vs = [.str k.s, .int most, .int low, .int size] ∧ 1 ≤ size ∧ size < BIG ∧ -BIG < low ∧ low < BIG ∧ 0 ≤ most ∧ most < BIG ∧ Q (.int (reachZ k most low size)) H
abbrev nm_reach : List Str := ["kind", "most", "low", "size"]
theorem sc_reach : FnScope ["kind", "most", "low", "size"] ["kind", "most", "low", "size"] (defScope s_reach) := ⟨rfl, rfl, rfl, by decide +kernel, rfl, by decide +kernel, by decide +kernel⟩
theorem div_big {i j : Int} (h1 : 1 ≤ j) (h2 : -BIG < i) (h3 : i < BIG) : -BIG ≤ i / j ∧ i / j < BIG := by
  have hB : (0 : Int) < BIG := by show (0 : Int) < 2 ^ 8000; exact Int.lt_of_lt_of_le (by decide) (pow_pos' (b := 2) (by decide) 8000)
  constructor
  · refine (Int.le_ediv_iff_mul_le (by omega)).mpr ?_
    have := Int.mul_le_mul_of_nonneg_left h1 (show (0 : Int) ≤ BIG by omega)
    rw [Int.neg_mul]
    omega
  · refine (Int.ediv_lt_iff_lt_mul (by omega)).mpr ?_
    have := Int.mul_le_mul_of_nonneg_left h1 (show (0 : Int) ≤ BIG by omega)
    omega
theorem size_div {j : Int} (h1 : 1 ≤ j) (h2 : j < BIG) (i : Int) : CDivW i j := wide_div (b := 8000) (by omega) (abs_lt_pow (by omega) h2) (by decide) (by decide)
theorem mulBig' {i j : Int} (h0 : -(BIG + BIG) ≤ i) (h1 : i ≤ BIG + BIG) (h2 : 0 ≤ j) (h3 : j < BIG) : CMulW i j := by
  refine wide_mul (a := 8002) (b := 8000) ?_ (abs_lt_pow h2 h3) (by decide) (by decide) (by decide)
  have e : (2 : Int) ^ 8002 = 2 ^ 8000 * 4 := by
    rw [show 8002 = 8000 + 2 from rfl, pow_add']
    rfl
  have hB : (0 : Int) < BIG := by show (0 : Int) < 2 ^ 8000; exact Int.lt_of_lt_of_le (by decide) (pow_pos' (b := 2) (by decide) 8000)
  rcases Int.le_total 0 i with h | h
  · exact abs_lt_pow h (by rw [e]; show i < BIG * 4; omega)
  · rw [← Int.natAbs_neg]
    exact abs_lt_pow (by omega) (by rw [e]; show -i < BIG * 4; omega)
theorem kd_is (k k' : Kd) : decide (V.str k.s = V.str k'.s) = decide (k = k') := by
  cases k <;> cases k' <;> decide +kernel
theorem ok_reach (T : Txt K mg A w) : FnOk P w K mg base CX0 1 A.a_reach A.d_reach ["kind", "most", "low", "size"] spReach := by
  refine T.F_reach.ok sc_reach (fun vs H Q E h => ?_) (fun cdv A0 outer s H vs Q E hr h => ?_)
  · obtain ⟨k, a, b, c, rfl, _⟩ := h
    rfl
  · obtain ⟨k, most, low, size, rfl, hs, hsB, hlo, hhi, hm, hmB, q⟩ := h
    refine ⟨_, (pss_cons (ps_if (pt_cmpR op_eq (pv 0) pe_str (nomark _)) (pss_one (ps_ret (pe_op op_add (pv 2) (pe_op op_mulW (pv 1) (pv 3))))) pss_nil)
  (pss_cons (ps_if (pt_cmpR op_eq (pv 0) pe_str (nomark _)) (pss_one (ps_ret (pe_op op_mulW (pe_op op_add (pe_op op_fdivW (pv 2) (pv 3)) (pv 1)) (pv 3)))) pss_nil)
  (pss_one (ps_ret (pe_op op_sub (pe_op op_mulW (pe_op op_add (pe_un un_neg (pe_op op_fdivW (pe_un un_neg (pv 2)) (pv 3))) (pv 1)) (pv 3)) pe_int))))), ?_⟩
    have d1 := div_big hs hlo hhi
    have d2 := div_big (i := -low) hs (by omega) (by omega)
    refine ⟨_, rfl, rfl, _, rfl, ?_⟩
    show if (decide (V.str k.s = V.str Kd.len.s)) = true then _ else _
    rw [kd_is]
    cases k with
    | len =>
      refine iteT ?_
      exact ⟨_, rfl, _, rfl, _, rfl, _, _, rfl, rfl, mulBig' (by omega) (by omega) (by omega) hsB, _, _, rfl, rfl, q⟩
    | cov =>
      refine iteF ?_
      refine ⟨_, rfl, rfl, _, rfl, ?_⟩
      show if (decide (V.str Kd.cov.s = V.str Kd.cov.s)) = true then _ else _
      rw [kd_is]
      refine iteT ?_
      exact ⟨_, rfl, _, rfl, _, _, rfl, rfl, size_div hs hsB _, _, rfl, _, _, rfl, rfl, _, rfl, _, _, rfl, rfl, mulBig' (by show -(BIG + BIG) ≤ low / size + most; omega) (by show low / size + most ≤ BIG + BIG; omega) (by omega) hsB, q⟩
    | ins =>
      refine iteF ?_
      refine ⟨_, rfl, rfl, _, rfl, ?_⟩
      show if (decide (V.str Kd.ins.s = V.str Kd.cov.s)) = true then _ else _
      rw [kd_is]
      refine iteF ?_
      exact ⟨_, rfl, _, rfl, _, rfl, _, _, rfl, rfl, size_div hs hsB _, _, rfl, _, rfl, _, _, rfl, rfl, _, rfl, _, _, rfl, rfl, mulBig' (by show -(BIG + BIG) ≤ -(-low / size) + most; omega) (by show -(-low / size) + most ≤ BIG + BIG; omega) (by omega) hsB, _, _, rfl, rfl, q⟩
/-! ### is_span -/
theorem yes_of {σ : L2.St} {H : Hp} {A B : Hp → Prop} (h : A H) : tYes σ H (fun b H3 => if b = true then A H3 else B H3) := by
  show if true = true then A H else B H
  rw [if_pos rfl]
  exact h
def spSpan : Sp := fun vs H Q _ => ∃ (t : Addr) (l h d : Int), vs = [.ref t] ∧ H t = some (.tup [.int l, .int h, .int d]) ∧ l < h ∧ 0 ≤ d ∧ ∀ H', Same H H' → Q (.bl true) H'
abbrev nm_is_span : List Str := ["value", "number", "low", "high", "digits"]
theorem sc_is_span : FnScope ["value", "number", "low", "high", "digits"] ["value"] (defScope s_is_span) := ⟨rfl, rfl, rfl, by decide +kernel, rfl, by decide +kernel, by decide +kernel⟩
theorem ok_is_span (T : Txt K mg A w) : FnOk P w K mg base CX0 2 A.a_is_span A.d_is_span ["value"] spSpan := by
  have G_is_whole : FnOk P w K mg base CX0 1 A.a_is_whole A.d_is_whole ["value"] (spWhole K) := ok_is_whole T
  refine T.F_is_span.ok sc_is_span (fun vs H Q E h => ?_) (fun cdv A0 outer s H vs Q E hr h => ?_)
  · obtain ⟨t, l, h, d, rfl, _⟩ := h
    rfl
  · obtain ⟨t, l, h, d, rfl, hT, hlh, hd, q⟩ := h
    refine ⟨_, (pss_cons (ps_if (PW.pt (pw_or (pt_not (pt_val (pe_callB call_isi (by rfl) T.n_isinstance (by decide +kernel) (pa_cons (pv 0) (pa_cons (pe_bltn (v := .ty "tuple") (by rfl) T.n_tuple (by decide +kernel) rfl) pa_nil))))) (pw_or1 (pt_cmpR op_ne (pe_callB call_len_seq (by rfl) T.n_len (by decide +kernel) (pa_cons (pv 0) pa_nil)) pe_int (nomark _))))) (pss_one (ps_ret pe_bl)) pss_nil)
  (pss_cons (ps_if (pt_not (pt_val (pe_callB (cr_all rfl) (by rfl) T.n_all (by decide +kernel) (pa_cons (pe_lc (own := [("number", 1)]) (g := gName 1) (tt := tYes) rfl sc_is_span.nd (pi_tup (pv 0)) (blkOk_by (own := [("number", 1)]) (N := nm_is_span) (sc := defScope s_is_span) (by decide +kernel)) (fun _ _ _ _ _ => (pg_name (i := 1) sc_is_span.nd rfl (Or.inl rfl))) (fun _ _ _ _ _ => pts_nil) (fun _ _ _ _ _ => (pe_call G_is_whole (hr.mono (by decide)) (by rfl) T.m_is_whole T.F_is_whole.kp T.B_is_whole .nil pass0 (pa_cons (pv 1) pa_nil)))) pa_nil)))) (pss_one (ps_ret pe_bl)) pss_nil)
  (pss_cons (ps_asg (pv 0) (pg_tup (by rfl) (pgs_cons (pg_name (i := 2) sc_is_span.nd rfl (Or.inl rfl)) (pgs_cons (pg_name (i := 3) sc_is_span.nd rfl (Or.inl rfl)) (pgs_cons (pg_name (i := 4) sc_is_span.nd rfl (Or.inl rfl)) pgs_nil)))))
  (pss_one (ps_ret (pe_and (pe_cmpR op_lt (pv 2) (pv 3) (nomark _)) (pe_one (pe_cmpR op_ge (pv 4) pe_int (nomark _))))))))), ?_⟩
    refine ⟨_, rfl, _, .ty "tuple", .type "tuple", .type "tuple", true, rfl, .ty _, .base (.tup hT), kit_ty (by decide +kernel), true, rfl, ?_⟩
    refine iteF ?_
    refine ⟨_, rfl, t, _, rfl, .inr (SqT.of hT), rfl, _, rfl, ?_⟩
    refine iteF ?_
    refine ⟨_, rfl, t, rfl, ⟨_, SqT.of hT⟩, fun D hD => lc_tup (K := K) (a := t) (xs := [.int l, .int h, .int d]) (fun i H' => H' = upd H D (.lst (List.replicate i (.bl true)))) rfl ?_ ?_ ?_⟩
    · rintro i H' _ rfl
      exact SqT.of (by rw [upd_ne (ne_of_none hT hD)]; exact hT)
    · rintro i x H' hi rfl
      obtain ⟨n, rfl⟩ : ∃ n, x = V.int n := by
        match i, hi with
        | 0, hi => exact ⟨l, (Option.some.inj hi).symm⟩
        | 1, hi => exact ⟨h, (Option.some.inj hi).symm⟩
        | 2, hi => exact ⟨d, (Option.some.inj hi).symm⟩
      refine ⟨rfl, yes_of ?_⟩
      refine ⟨_, rfl, .int n, .type "int", true, false, rfl, .base (.int n), kit_ty (by decide +kernel), fun _ => kit_ty (by decide +kernel), ?_⟩
      have hi3 : i < 3 := (List.getElem?_eq_some_iff.mp hi).1
      refine ⟨_, upd_same, ?_, ?_⟩
      · rw [List.length_replicate]
        exact small1000 (by omega)
      · rw [upd_upd, List.replicate_succ']
        rfl
    · rintro H' rfl
      have s1 : Same H (upd H D (.lst (List.replicate 3 (.bl true)))) := fun c o e => by
        rw [upd_ne (ne_of_none e hD)]
        exact e
      refine ⟨D, [true, true, true], rfl, SqL.of upd_same, true, rfl, iteF ?_⟩
      refine ⟨_, rfl, t, _, rfl, SqT.of (s1 _ _ hT), rfl, _, _, rfl, _, _, rfl, _, _, rfl, rfl, ?_⟩
      refine ⟨_, rfl, _, rfl, _, _, rfl, rfl, _, rfl, ?_⟩
      rw [decide_eq_true hlh]
      refine iteT ?_
      refine ⟨_, rfl, _, _, rfl, rfl, ?_⟩
      show Q (.bl (decide (0 ≤ d))) _
      rw [decide_eq_true hd]
      exact q _ s1
end
end Ax

namespace Ax
open PySem L2
/-- what a rule may be made of -/
structure RArgs (b : Int) (k : Kd) (ms : List Int) (most : Int) : Prop where
  b2 : 2 ≤ b
  bB : b < 2 ^ 64
  m1 : 1 ≤ most
  mB : most < 2 ^ 60
  mC : k = .cov → 2 ≤ most
  ne : ms ≠ []
  le : ms.length < 60
  nd : ms.Nodup
  all : ∀ m ∈ ms, 1 ≤ m ∧ m < 2 ^ 64 ∧ m % b ≠ 0
section
variable {P : Program} {w : World} {K : PySem.W.Frag} {mg : Str → Option Value} {base : Heap} {A : Adr}
/-! ### _kind_and_most_fit -/
def spKM : Sp := fun vs H Q _ => ∃ (k : Kd) (most : Int), vs = [.str k.s, .int most] ∧ 1 ≤ most ∧ (k = .cov → 2 ≤ most) ∧ Q (.bl true) H
abbrev nm_kind_and_most_fit : List Str := ["kind", "most"]
theorem sc_kind_and_most_fit : FnScope ["kind", "most"] ["kind", "most"] (defScope s_kind_and_most_fit) := ⟨rfl, rfl, rfl, by decide +kernel, rfl, by decide +kernel, by decide +kernel⟩
def Kd.least : Kd → Int
  | .cov => 2 | _ => 1
theorem kd_in (T : Txt K mg A w) (k : Kd) : ∃ t, PySem.W.nsIn K A.a_LEAST k.s = some (some (.int k.least t)) := by
  cases k with
  | ins => exact T.kd_inside
  | cov => exact T.kd_cover
  | len => exact T.kd_length
theorem ok_kind (T : Txt K mg A w) : FnOk P w K mg base CX0 2 A.a_kind_and_most_fit A.d_kind_and_most_fit ["kind", "most"] spKM := by
  have G_is_whole : FnOk P w K mg base CX0 1 A.a_is_whole A.d_is_whole ["value"] (spWhole K) := ok_is_whole T
  refine T.F_kind_and_most_fit.ok sc_kind_and_most_fit (fun vs H Q E h => ?_) (fun cdv A0 outer s H vs Q E hr h => ?_)
  · obtain ⟨k, m, rfl, _⟩ := h
    rfl
  · obtain ⟨k, m, rfl, hm, hc, q⟩ := h
    obtain ⟨es, n, D⟩ := T.kd
    obtain ⟨tk, hk⟩ := kd_in T k
    refine ⟨_, (pss_cons (ps_if (PW.pt (pw_or (pt_not (pt_val (pe_callB call_isi (by rfl) T.n_isinstance (by decide +kernel) (pa_cons (pv 0) (pa_cons (pe_bltn (v := .ty "str") (by rfl) T.n_str (by decide +kernel) rfl) pa_nil))))) (pw_or1 (pt_cmpR (op_notIn_kd D) (pv 0) (pe_glob (v := .ref A.a_LEAST) rfl T.m_LEAST_MOST rfl) (by rfl))))) (pss_one (ps_ret pe_bl)) pss_nil)
  (pss_one (ps_ret (pe_and (pe_call G_is_whole (hr.mono (by decide)) (by rfl) T.m_is_whole T.F_is_whole.kp T.B_is_whole .nil pass0 (pa_cons (pv 1) pa_nil)) (pe_one (pe_cmpR op_ge (pv 1) (pe_ix ix_kdict (pe_glob (v := .ref A.a_LEAST) rfl T.m_LEAST_MOST rfl) (pv 0) (fun _ _ => rfl)) (nomark _))))))), ?_⟩
    refine ⟨_, rfl, _, .ty "str", .type "str", .type "str", true, rfl, .ty _, .base (.str _), kit_ty (by decide +kernel), true, rfl, ?_⟩
    refine iteF ?_
    refine ⟨_, rfl, k.s, _, rfl, rfl, hk, _, rfl, ?_⟩
    refine iteF ?_
    refine ⟨_, rfl, .int m, .type "int", true, false, rfl, .base (.int m), kit_ty (by decide +kernel), fun _ => kit_ty (by decide +kernel), ?_⟩
    refine ⟨_, rfl, ?_⟩
    refine iteT ?_
    refine ⟨_, rfl, _, rfl, _, k.s, .int k.least, rfl, rfl, ⟨es, n, _, D.at_, D.lit, hk, tk, rfl⟩, _, _, rfl, rfl, ?_⟩
    show Q (.bl (decide (k.least ≤ m))) _
    rw [decide_eq_true (show k.least ≤ m by cases k <;> simp [Kd.least] at * <;> omega)]
    exact q
/-! ### _mantissas_fit -/
def spMF (K : PySem.W.Frag) : Sp := fun vs H Q _ => ∃ (k : Kd) (b most : Int) (ms : List Int) (a : Addr), vs = [.int b, .ref a] ∧ H a = some (.lst (ms.map V.int)) ∧ RArgs b k ms most ∧ ∀ H', Same H H' → Q (.bl true) H'
abbrev nm_mantissas_fit : List Str := ["base", "mantissas", "mantissa"]
theorem sc_mantissas_fit : FnScope ["base", "mantissas", "mantissa"] ["base", "mantissas"] (defScope s_mantissas_fit) := ⟨rfl, rfl, rfl, by decide +kernel, rfl, by decide +kernel, by decide +kernel⟩
theorem map_get {ms : List Int} {i : Nat} {x : V} (h : (ms.map V.int)[i]? = some x) : ∃ m, ms[i]? = some m ∧ x = .int m := by
  rw [List.getElem?_map] at h
  cases e : ms[i]? with
  | none =>
    rw [e] at h
    cases h
  | some m =>
    rw [e] at h
    exact ⟨m, rfl, (Option.some.inj h).symm⟩
theorem same_new {H : Hp} {D : Addr} {o : HO} (hD : H D = none) : Same H (upd H D o) := fun c o e => by
  rw [upd_ne (ne_of_none e hD)]
  exact e
theorem all_true (n : Nat) : (List.replicate n true).all id = true := by
  induction n with
  | zero => rfl
  | succ n ih =>
    rw [List.replicate_succ, List.all_cons, ih]
    rfl
theorem map_rep (n : Nat) : (List.replicate n true).map V.bl = List.replicate n (.bl true) := by
  rw [List.map_replicate]
theorem ok_mf (T : Txt K mg A w) : FnOk P w K mg base CX0 2 A.a_mantissas_fit A.d_mantissas_fit ["base", "mantissas"] (spMF K) := by
  have G_is_whole : FnOk P w K mg base CX0 1 A.a_is_whole A.d_is_whole ["value"] (spWhole K) := ok_is_whole T
  refine T.F_mantissas_fit.ok sc_mantissas_fit (fun vs H Q E h => ?_) (fun cdv A0 outer s H vs Q E hr h => ?_)
  · obtain ⟨k, b, most, ms, a, rfl, _⟩ := h
    rfl
  · obtain ⟨k, b, most, ms, a, rfl, hL, R, q⟩ := h
    have hlen : (ms.map V.int).length = ms.length := List.length_map _
    have hpos : 0 < ms.length := List.length_pos_iff.mpr R.ne
    refine ⟨_, (pss_cons (ps_if (PW.pt (pw_or (pt_not (pt_val (pe_callB call_isi (by rfl) T.n_isinstance (by decide +kernel) (pa_cons (pv 1) (pa_cons (pe_bltn (v := .ty "list") (by rfl) T.n_list (by decide +kernel) rfl) pa_nil))))) (pw_or1 (pt_cmpR op_eq (pe_callB call_len_seq (by rfl) T.n_len (by decide +kernel) (pa_cons (pv 1) pa_nil)) pe_int (nomark _))))) (pss_one (ps_ret pe_bl)) pss_nil)
  (pss_cons (ps_if (pt_not (pt_val (pe_callB (cr_all rfl) (by rfl) T.n_all (by decide +kernel) (pa_cons (pe_lc (own := [("mantissa", 2)]) (g := gName 2) (tt := tYes) rfl sc_mantissas_fit.nd (pi_list (pv 1)) (blkOk_by (own := [("mantissa", 2)]) (N := nm_mantissas_fit) (sc := defScope s_mantissas_fit) (by decide +kernel)) (fun _ _ _ _ _ => (pg_name (i := 2) sc_mantissas_fit.nd rfl (Or.inl rfl))) (fun _ _ _ _ _ => pts_nil) (fun _ _ _ _ _ => (pe_call G_is_whole (hr.mono (by decide)) (by rfl) T.m_is_whole T.F_is_whole.kp T.B_is_whole .nil pass0 (pa_cons (pv 2) pa_nil)))) pa_nil)))) (pss_one (ps_ret pe_bl)) pss_nil)
  (pss_cons (ps_if (pt_cmpR op_ne (RZ.pe_lenSetI rfl T.n_len rfl T.n_set (pv 1)) (pe_callB call_len_seq (by rfl) T.n_len (by decide +kernel) (pa_cons (pv 1) pa_nil)) (nomark _)) (pss_one (ps_ret pe_bl)) pss_nil)
  (pss_one (ps_ret (pe_callB (cr_all rfl) (by rfl) T.n_all (by decide +kernel) (pa_cons (pe_lc (own := [("mantissa", 2)]) (g := gName 2) (tt := tYes) rfl sc_mantissas_fit.nd (pi_list (pv 1)) (blkOk_by (own := [("mantissa", 2)]) (N := nm_mantissas_fit) (sc := defScope s_mantissas_fit) (by decide +kernel)) (fun _ _ _ _ _ => (pg_name (i := 2) sc_mantissas_fit.nd rfl (Or.inl rfl))) (fun _ _ _ _ _ => pts_nil) (fun _ _ _ _ _ => (pe_and (pe_cmpR op_ge (pv 2) pe_int (nomark _)) (pe_one (pe_cmpR op_ne (pe_op op_mod (pv 2) (pv 0)) pe_int (nomark _)))))) pa_nil))))))), ?_⟩
    refine ⟨_, rfl, _, .ty "list", .type "list", .type "list", true, rfl, .ty _, .base (.lst hL), kit_ty (by decide +kernel), true, rfl, ?_⟩
    refine iteF ?_
    refine ⟨_, rfl, a, _, rfl, .inl (SqL.of hL), rfl, _, rfl, ?_⟩
    have z0 : decide (V.int ((ms.map V.int).length : Nat) = V.int 0) = false := decide_eq_false (fun z => by have := V.int.inj z; omega)
    show if (decide (V.int ((ms.map V.int).length : Nat) = V.int 0)) = true then _ else _
    rw [z0]
    refine iteF ?_
    -- the first comprehension
    refine ⟨_, rfl, a, rfl, ⟨_, SqL.of hL⟩, fun D hD => lc_list (K := K) (a := a) (xs := ms.map V.int) (fun i H' => H' = upd H D (.lst (List.replicate i (.bl true)))) rfl ?_ ?_ ?_⟩
    · rintro i H' _ rfl
      exact SqL.of (by rw [upd_ne (ne_of_none hL hD)]; exact hL)
    · rintro i x H' hi rfl
      obtain ⟨n, hn, rfl⟩ := map_get hi
      have hi3 : i < ms.length := (List.getElem?_eq_some_iff.mp hn).1
      refine ⟨rfl, yes_of ?_⟩
      refine ⟨_, rfl, .int n, .type "int", true, false, rfl, .base (.int n), kit_ty (by decide +kernel), fun _ => kit_ty (by decide +kernel), ?_⟩
      refine ⟨_, upd_same, ?_, ?_⟩
      · rw [List.length_replicate]
        exact small1000 (by have := R.le; omega)
      · rw [upd_upd, List.replicate_succ']
        rfl
    · rintro H' rfl
      have s1 : Same H (upd H D (.lst (List.replicate (ms.map V.int).length (.bl true)))) := same_new hD
      refine ⟨D, List.replicate (ms.map V.int).length true, rfl, SqL.of (by rw [map_rep]; exact upd_same), _, rfl, ?_⟩
      rw [all_true]
      refine iteF ?_
      refine ⟨_, rfl, a, ms, rfl, SqL.of (s1 _ _ hL), R.nd, by have := R.le; omega, ?_⟩
      refine ⟨_, rfl, a, _, rfl, .inl (SqL.of (s1 _ _ hL)), rfl, _, rfl, ?_⟩
      rw [hlen] at s1
      rw [hlen, decide_eq_true (rfl : V.int (ms.length : Nat) = V.int (ms.length : Nat))]
      refine iteF ?_
      -- the second one
      refine ⟨_, rfl, a, rfl, ⟨_, SqL.of (s1 _ _ hL)⟩, fun D2 hD2 => lc_list (K := K) (a := a) (xs := ms.map V.int) (fun i H' => H' = upd (upd H D (.lst (List.replicate ms.length (.bl true)))) D2 (.lst (List.replicate i (.bl true)))) rfl ?_ ?_ ?_⟩
      · rintro i H' _ rfl
        exact SqL.of (by rw [upd_ne (ne_of_none (s1 _ _ hL) hD2)]; exact s1 _ _ hL)
      · rintro i x H' hi rfl
        obtain ⟨n, hn, rfl⟩ := map_get hi
        have hi3 : i < ms.length := (List.getElem?_eq_some_iff.mp hn).1
        obtain ⟨n1, n2, n3⟩ := R.all n (List.mem_of_getElem? hn)
        refine ⟨rfl, yes_of ?_⟩
        refine ⟨_, rfl, _, _, rfl, rfl, _, rfl, ?_⟩
        rw [decide_eq_true n1]
        refine iteT ?_
        refine ⟨_, rfl, _, rfl, _, _, rfl, rfl, (by have := R.b2; show 0 < b; omega), rfl, ?_⟩
        refine ⟨_, upd_same, ?_, ?_⟩
        · rw [List.length_replicate]
          exact small1000 (by have := R.le; omega)
        · rw [upd_upd, List.replicate_succ']
          have e : decide (V.int (n % b) = V.int 0) = false := decide_eq_false (fun z => n3 (V.int.inj z))
          show upd _ D2 (HO.lst (List.replicate i (V.bl true) ++ [V.bl (!decide (V.int (n % b) = V.int 0))])) = _
          rw [e]
          rfl
      · rintro H' rfl
        rw [hlen]
        refine ⟨D2, List.replicate ms.length true, rfl, SqL.of (by rw [map_rep]; exact upd_same), ?_⟩
        rw [all_true]
        exact q _ (s1.trans (same_new hD2))
/-! ### is_base -/
def spBase : Sp := fun vs H Q _ => ∃ b : Int, vs = [.int b] ∧ 2 ≤ b ∧ Q (.bl true) H
abbrev nm_is_base : List Str := ["value"]
theorem sc_is_base : FnScope ["value"] ["value"] (defScope s_is_base) := ⟨rfl, rfl, rfl, by decide +kernel, rfl, by decide +kernel, by decide +kernel⟩
theorem ok_is_base (T : Txt K mg A w) : FnOk P w K mg base CX0 2 A.a_is_base A.d_is_base ["value"] spBase := by
  have G_is_whole : FnOk P w K mg base CX0 1 A.a_is_whole A.d_is_whole ["value"] (spWhole K) := ok_is_whole T
  refine T.F_is_base.ok sc_is_base (fun vs H Q E h => ?_) (fun cdv A0 outer s H vs Q E hr h => ?_)
  · obtain ⟨b, rfl, _⟩ := h
    rfl
  · obtain ⟨b, rfl, hb, q⟩ := h
    refine ⟨_, (pss_one (ps_ret (pe_and (pe_call G_is_whole (hr.mono (by decide)) (by rfl) T.m_is_whole T.F_is_whole.kp T.B_is_whole .nil pass0 (pa_cons (pv 0) pa_nil)) (pe_one (pe_cmpR op_ge (pv 0) pe_int (nomark _)))))), ?_⟩
    refine ⟨_, rfl, .int b, .type "int", true, false, rfl, .base (.int b), kit_ty (by decide +kernel), fun _ => kit_ty (by decide +kernel), ?_⟩
    refine ⟨_, rfl, ?_⟩
    refine iteT ?_
    refine ⟨_, rfl, _, _, rfl, rfl, ?_⟩
    show Q (.bl (decide (2 ≤ b))) _
    rw [decide_eq_true hb]
    exact q
/-! ### _arguments_fit -/
def spAF (K : PySem.W.Frag) : Sp := fun vs H Q _ => ∃ (b : Int) (k : Kd) (ms : List Int) (a : Addr) (most : Int), vs = [.int b, .str k.s, .ref a, .int most] ∧ H a = some (.lst (ms.map V.int)) ∧ RArgs b k ms most ∧ ∀ H', Same H H' → Q (.bl true) H'
abbrev nm_arguments_fit : List Str := ["base", "kind", "mantissas", "most"]
theorem sc_arguments_fit : FnScope ["base", "kind", "mantissas", "most"] ["base", "kind", "mantissas", "most"] (defScope s_arguments_fit) := ⟨rfl, rfl, rfl, by decide +kernel, rfl, by decide +kernel, by decide +kernel⟩
theorem ok_af (T : Txt K mg A w) : FnOk P w K mg base CX0 3 A.a_arguments_fit A.d_arguments_fit ["base", "kind", "mantissas", "most"] (spAF K) := by
  have G_is_base : FnOk P w K mg base CX0 2 A.a_is_base A.d_is_base ["value"] spBase := ok_is_base T
  have G_kind_and_most_fit : FnOk P w K mg base CX0 2 A.a_kind_and_most_fit A.d_kind_and_most_fit ["kind", "most"] spKM := ok_kind T
  have G_mantissas_fit : FnOk P w K mg base CX0 2 A.a_mantissas_fit A.d_mantissas_fit ["base", "mantissas"] (spMF K) := ok_mf T
  refine T.F_arguments_fit.ok sc_arguments_fit (fun vs H Q E h => ?_) (fun cdv A0 outer s H vs Q E hr h => ?_)
  · obtain ⟨b, k, ms, a, most, rfl, _⟩ := h
    rfl
  · obtain ⟨b, k, ms, a, most, rfl, hL, R, q⟩ := h
    refine ⟨_, (pss_one (ps_ret (pe_and (pe_call G_is_base (hr.mono (by decide)) (by rfl) T.m_is_base T.F_is_base.kp T.B_is_base .nil pass0 (pa_cons (pv 0) pa_nil)) (pe_and (pe_call G_kind_and_most_fit (hr.mono (by decide)) (by rfl) T.m_kind_and_most_fit T.F_kind_and_most_fit.kp T.B_kind_and_most_fit .nil pass0 (pa_cons (pv 1) (pa_cons (pv 3) pa_nil))) (pe_one (pe_call G_mantissas_fit (hr.mono (by decide)) (by rfl) T.m_mantissas_fit T.F_mantissas_fit.kp T.B_mantissas_fit .nil pass0 (pa_cons (pv 0) (pa_cons (pv 2) pa_nil)))))))), ?_⟩
    refine ⟨_, rfl, b, rfl, R.b2, ?_⟩
    refine ⟨_, rfl, ?_⟩
    refine iteT ?_
    refine ⟨_, rfl, _, rfl, k, most, rfl, R.m1, R.mC, ?_⟩
    refine ⟨_, rfl, ?_⟩
    refine iteT ?_
    exact ⟨_, rfl, _, rfl, k, b, most, ms, a, rfl, hL, R, fun H' s1 => q H' s1⟩
end
end Ax

/-! max and sorted of whole numbers with key=int: the key of a whole number is the number itself, nothing else happens. -/
namespace Ax
open PySem PyProof.Rows
def Keep (h h' : Heap) : Prop := ∀ b o, h.get? b = some o → h'.get? b = some o
theorem Keep.refl (h : Heap) : Keep h h := fun _ _ e => e
theorem Keep.lst {h h' : Heap} {l : Addr} {xs : Array Value} (k : Keep h h') (e : h.IsList l xs) : h'.IsList l xs := let ⟨o, q, r⟩ := e; ⟨o, k _ _ q, r⟩
section
variable {prog : Program} {w : World} {A : Around} {E : Value → Shared → Prop} {s : Shared} {G : Heap} {l I S : Addr} {vs : List Value} {ns : List Int} {R : Result → Shared → Prop} {Q : Value → Shared → Prop}
theorem mx_loop (calm : A.handled = none) (isL : G.IsList l vs.toArray) (allI : IntsAre vs ns) (gI : G.get? I = none) (gS : G.get? S = none) (dif : I ≠ S)
    (fin : ∀ (M : Int) (t : Tok) (h : Heap) (tk : Nat), Keep G h → M ∈ ns → (∀ a ∈ ns, a ≤ M) → R (.ok (.ret (.int M t))) { s with heap := h, toks := tk }) :
    ∀ (r j : Nat) (M : Int) (h : Heap) (tk : Nat) (t t' : Tok) (c : Nat), vs.length - j = r → j ≤ vs.length → Keep G h → h.get? S = some (seqObj "list" #[.int M t, .int M t'] c) → h.IsListIter I l j → M ∈ ns → (∀ i a, i < j → ns[i]? = some a → a ≤ M) →
      codeAny (model prog w) A (.builtin "max.loop" ⟨[.ref I, .type "int", .ref S], []⟩) R { s with heap := h, toks := tk } := by
  have nm : (toString "max" ++ toString ".loop" : String) = "max.loop" := by decide
  have lI : l ≠ I := fun z => by
    obtain ⟨o, e, _⟩ := isL
    rw [z, gI] at e
    cases e
  have W := Walks.list (prog := prog) (w := w) (A := A.in1) calm I l lI vs.toArray
  have sz : vs.toArray.size = vs.length := List.size_toArray ..
  have ln := allI.length
  intro r
  induction r with
  | zero =>
    intro j M h tk t t' c hr hj K hS it hM hb
    have ej : j = vs.length := by omega
    refine codeAny_builtin (PySem.F.entry_max_loop) ?_
    rw [Around.under_plainId (PySem.F.plain_max_loop) _]
    show wpAny _ A.in1 (seqItems? (Value.ref S) >>= _) _ _ _
    refine wpAny_bind (wpAny_seqItems hS rfl ?_)
    show wpAny _ A.in1 (tryCatch (pyNext (Value.ref I)) _ >>= _) _ _ _
    refine wpAny_bind (wpAny_tryCatch (W.done _ _ _ ⟨by rw [sz, ← ej]; exact it, K.lst isL⟩ fun h2 tk2 k2 => ?_))
    have hS2 := k2 S _ (fun z => dif (List.mem_singleton.mp z).symm) hS
    have u := Heap.SameBut.update h2 S (Obj.mapSeq fun _ => (#[] : Array Value))
    show wpAny _ A.in1 (updateSeq S (fun _ => #[]) >>= _) _ _ _
    refine wpAny_bind (wpAny_updateSeq hS2 rfl (wpAny_bind (wpAny_letGo (wpAny_pure ?_))))
    refine fin M t _ _ (fun b o e => ?_) hM fun a ha => ?_
    · have b1 : b ≠ S := fun z => by rw [z, gS] at e; cases e
      have b2 : b ≠ I := fun z => by rw [z, gI] at e; cases e
      exact (u.2 b b1).trans (k2 b o (fun z => b2 (List.mem_singleton.mp z)) (K b o e))
    · obtain ⟨i, hi, ei⟩ := List.getElem_of_mem ha
      exact hb i a (by omega) (by rw [List.getElem?_eq_getElem hi, ei])
  | succ r ih =>
    intro j M h tk t t' c hr hj K hS it hM hb
    have lt : j < vs.length := by omega
    refine codeAny_builtin (PySem.F.entry_max_loop) ?_
    rw [Around.under_plainId (PySem.F.plain_max_loop) _]
    show wpAny _ A.in1 (seqItems? (Value.ref S) >>= _) _ _ _
    refine wpAny_bind (wpAny_seqItems hS rfl ?_)
    show wpAny _ A.in1 (tryCatch (pyNext (Value.ref I)) _ >>= _) _ _ _
    refine wpAny_bind (wpAny_tryCatch (W.item j _ _ _ (by rw [sz]; exact lt) ⟨it, K.lst isL⟩ fun v h2 tk2 at2 st2 k2 => ?_))
    have ev : vs[j]? = some v := by simpa using at2
    obtain ⟨n, en⟩ : ∃ n, ns[j]? = some n := ⟨_, List.getElem?_eq_getElem (by omega)⟩
    obtain ⟨tn, etn⟩ := allI.get j n en
    rw [etn] at ev
    obtain rfl := Option.some.inj ev
    obtain ⟨oI, eI, cI, dI⟩ := id st2.1
    have hS2 := k2 S _ (fun z => dif (List.mem_singleton.mp z).symm) hS
    have K2 : Keep G h2 := fun b o e => k2 b o (fun z => by rw [List.mem_singleton.mp z, gI] at e; cases e) (K b o e)
    show wpAny _ A.in1 (tryCatch (holding [Value.int n tn] (call (.type "int") [Value.int n tn])) _ >>= _) _ _ _
    refine wpAny_bind (wpAny_tryCatch (wpAny_holding (call_int_int ?_)))
    show wpAny _ A.in1 (tryCatch (holding [Value.int n tn, Value.int n tn] (richCompare .Gt (Value.int n tn) (Value.int M t') >>= _)) _ >>= _) _ _ _
    refine wpAny_bind (wpAny_tryCatch (wpAny_holding (wpAny_bind (CmpOf.ints_gt (prog := prog) (w := w) (A := A.in1) (P := fun i v => ∃ t, v = .int (if i = 0 then n else M) t) (fun i => if i = 0 then n else M) (fun i v h => h) 0 1 _ _ _ _ _ ⟨tn, rfl⟩ ⟨t', rfl⟩ ?_))))
    refine wpAny_bind (wpAny_holding (wpAny_truthy_bool ?_))
    refine wpAny_bind (wpAny_letGo (wpAny_pure ?_))
    have better : ∀ i a, i < j + 1 → ns[i]? = some a → a ≤ M ∨ i = j ∧ a = n := fun i a hi e => by
      by_cases q : i = j
      · rw [q, en] at e
        exact .inr ⟨q, (Option.some.inj e).symm⟩
      · exact .inl (hb i a (by omega) e)
    by_cases gt : n > M
    · have u := Heap.SameBut.update h2 S (Obj.mapSeq fun _ => #[Value.int n tn, Value.int n tn])
      obtain ⟨c2, ec2⟩ : ∃ c2, (h2.update S (Obj.mapSeq fun _ => #[Value.int n tn, Value.int n tn])).get? S = some (seqObj "list" #[Value.int n tn, Value.int n tn] c2) := ⟨_, get?_update_seq hS2 fun _ => _⟩
      simp only [if_true, Nat.one_ne_zero, if_false, gt, decide_true]
      refine wpAny_bind (wpAny_updateSeq hS2 rfl (wpAny_bind (wpAny_letGo ?_)))
      rw [nm]
      refine wpAny_pure ⟨plainId_quiet PySem.F.plain_max_loop _, ih (j + 1) n _ _ tn tn c2 (by omega) lt (fun b o e => ?_) ec2 ⟨oI, (u.2 I dif).trans eI, cI, dI⟩ (List.mem_of_getElem? en) fun i a hi e => ?_⟩
      · have b1 : b ≠ S := fun z => by rw [z, gS] at e; cases e
        exact (u.2 b b1).trans (K2 b o e)
      · rcases better i a hi e with q | ⟨_, q⟩ <;> omega
    · simp only [if_true, Nat.one_ne_zero, if_false, gt, decide_false, Bool.false_eq_true]
      refine wpAny_bind (wpAny_letGo ?_)
      rw [nm]
      refine wpAny_pure ⟨plainId_quiet PySem.F.plain_max_loop _, ih (j + 1) M _ _ t t' c (by omega) lt K2 hS2 ⟨oI, eI, cI, dI⟩ hM fun i a hi e => ?_⟩
      rcases better i a hi e with q | ⟨_, q⟩ <;> omega
theorem call_max_int (calm : A.handled = none) (isL : s.heap.IsList l vs.toArray) (allI : IntsAre vs ns) (ne : 0 < vs.length)
    (fin : ∀ (M : Int) (t : Tok) (h : Heap) (tk : Nat), Keep s.heap h → M ∈ ns → (∀ a ∈ ns, a ≤ M) → Q (.int M t) { s with heap := h, toks := tk }) :
    wpAny (model prog w) A (call (.builtin "max") [.ref l] [(Str.ofString "key", .type "int")]) Q E s := by
  have nm : (toString "max" ++ toString ".loop" : String) = "max.loop" := by decide
  have sz : vs.toArray.size = vs.length := List.size_toArray ..
  have ln := allI.length
  refine kmb_tree PySem.F.kind_max PySem.F.plain_max (PySem.F.entry_max) (kmb_max_key _ _) ?_
  show wpAny _ A.in1 (Builtin.Builtins.bindParams "max" ["key", "default"] 0 ⟨[], [(Str.ofString "key", .type "int")]⟩ >>= _) _ _ s
  refine wpAny_bind (wpAny_of_eq (show Builtin.Builtins.bindParams "max" ["key", "default"] 0 ⟨[], [(Str.ofString "key", .type "int")]⟩ = pure [some (.type "int"), none] from rfl) ?_)
  refine wpAny_bind (wpAny_pure (wpAny_bind (wpAny_pyIter_list isL ?_)))
  refine wpAny_bind (wpAny_newList ?_ (Nat.zero_le _))
  rw [nm]
  refine wpAny_pure ⟨plainId_quiet PySem.F.plain_max_loop _, ?_⟩
  obtain ⟨I, eqI⟩ : ∃ I, I = s.heap.objs.size := ⟨_, rfl⟩
  obtain ⟨h1, eq1⟩ : ∃ h1, h1 = s.heap.push { cls := .type "list_iterator", data := .fields #[.ref l, .int 0 0] } := ⟨_, rfl⟩
  obtain ⟨S, eqS⟩ : ∃ S, S = h1.objs.size := ⟨_, rfl⟩
  obtain ⟨h2, eq2⟩ : ∃ h2, h2 = h1.push (seqObj "list" #[] 0) := ⟨_, rfl⟩
  have gI : s.heap.get? I = none := Heap.get?_none_of_le (by omega)
  have szS : S = s.heap.objs.size + 1 := by rw [eqS, eq1]; exact size_push' ..
  have gS : s.heap.get? S = none := Heap.get?_none_of_le (by omega)
  have dif : I ≠ S := by omega
  have lI : l ≠ I := fun z => by
    obtain ⟨o, e, _⟩ := isL
    rw [z, gI] at e
    cases e
  have K2 : Keep s.heap h2 := fun b o e => by rw [eq2, eq1]; exact Heap.get?_push_of_some _ (Heap.get?_push_of_some _ e)
  have eI : h2.get? I = some { cls := .type "list_iterator", data := .fields #[.ref l, .int 0 0] } := by rw [eq2, eq1, eqI]; exact Heap.get?_push_of_some _ (Heap.get?_push_size _ rfl)
  have eS : h2.get? S = some (seqObj "list" #[] 0) := by rw [eq2, eqS]; exact Heap.get?_push_size _ rfl
  show codeAny (model prog w) A (.builtin "max.loop" ⟨[.ref s.heap.objs.size, .type "int", .ref (s.heap.push { cls := .type "list_iterator", data := .fields #[.ref l, .int 0 0] }).objs.size], []⟩) _ { s with heap := (s.heap.push { cls := .type "list_iterator", data := .fields #[.ref l, .int 0 0] }).push (seqObj "list" #[] 0) }
  rw [← eq1, ← eq2, ← eqS, ← eqI]
  have W := Walks.list (prog := prog) (w := w) (A := A.in1) calm I l lI vs.toArray
  refine codeAny_builtin (PySem.F.entry_max_loop) ?_
  rw [Around.under_plainId (PySem.F.plain_max_loop) _]
  show wpAny _ A.in1 (seqItems? (Value.ref S) >>= _) _ _ _
  refine wpAny_bind (wpAny_seqItems eS rfl ?_)
  show wpAny _ A.in1 (tryCatch (pyNext (Value.ref I)) _ >>= _) _ _ _
  refine wpAny_bind (wpAny_tryCatch (W.item 0 _ _ _ (by rw [sz]; exact ne) ⟨⟨_, eI, rfl, rfl⟩, K2.lst isL⟩ fun v h3 tk3 at3 st3 k3 => ?_))
  have ev : vs[0]? = some v := by simpa using at3
  obtain ⟨n, en⟩ : ∃ n, ns[0]? = some n := ⟨_, List.getElem?_eq_getElem (by omega)⟩
  obtain ⟨tn, etn⟩ := allI.get 0 n en
  rw [etn] at ev
  obtain rfl := Option.some.inj ev
  obtain ⟨oI, eI3, cI, dI⟩ := id st3.1
  have hS3 := k3 S _ (fun z => dif (List.mem_singleton.mp z).symm) eS
  have K3 : Keep s.heap h3 := fun b o e => k3 b o (fun z => by rw [List.mem_singleton.mp z, gI] at e; cases e) (K2 b o e)
  show wpAny _ A.in1 (tryCatch (holding [Value.int n tn] (call (.type "int") [Value.int n tn])) _ >>= _) _ _ _
  refine wpAny_bind (wpAny_tryCatch (wpAny_holding (call_int_int ?_)))
  have u := Heap.SameBut.update h3 S (Obj.mapSeq fun _ => #[Value.int n tn, Value.int n tn])
  obtain ⟨c4, ec4⟩ : ∃ c4, (h3.update S (Obj.mapSeq fun _ => #[Value.int n tn, Value.int n tn])).get? S = some (seqObj "list" #[Value.int n tn, Value.int n tn] c4) := ⟨_, get?_update_seq hS3 fun _ => _⟩
  show wpAny _ A.in1 (updateSeq S (fun _ => #[Value.int n tn, Value.int n tn]) >>= _) _ _ _
  refine wpAny_bind (wpAny_updateSeq hS3 rfl ?_)
  rw [nm]
  refine wpAny_pure ⟨plainId_quiet PySem.F.plain_max_loop _, mx_loop (s := s) (G := s.heap) calm isL allI gI gS dif (fun M t h tk k hM hb => fin M t h tk k hM hb) _ 1 n _ _ tn tn c4 rfl ne (fun b o e => ?_) ec4 ⟨oI, (u.2 I dif).trans eI3, cI, dI⟩ (List.mem_of_getElem? en) fun i a hi e => ?_⟩
  · have b1 : b ≠ S := fun z => by rw [z, gS] at e; cases e
    exact (u.2 b b1).trans (K3 b o e)
  · have z : i = 0 := by omega
    rw [z, en] at e
    have := Option.some.inj e
    omega
end
end Ax
namespace Ax
open PySem PySem.Spec PyProof.Rows L2
section
variable {X : Cx}
/-- max(xs, key=int), xs a list of whole numbers -/
def rMaxInt (K : PySem.W.Frag) : List V → List V → Hp → VK → Prop := fun vs zs H Q => ∃ (a : Addr) (ns : List Int), vs = [V.ref a] ∧ zs = [.ty "int"] ∧ SqL K H a (ns.map V.int) ∧ 0 < ns.length ∧ ∀ M, M ∈ ns → (∀ y ∈ ns, y ≤ M) → Q (.int M) H
theorem cr_maxInt (hc : X.calm = true) : CallRK X (.builtin "max") [Str.ofString "key"] (rMaxInt X.K) := by
  intro pins s σ H vs zs us ws Q I r rz h
  obtain ⟨a, ns, rfl, rfl, hs, hne, q⟩ := h
  obtain rfl := Vals.ref1 r
  obtain ⟨w1, rfl, e1⟩ := vals1 rz
  obtain rfl : w1 = Value.type "int" := e1
  obtain ⟨its, rv, hl, hz⟩ := I.list hs
  have hi := rv.ints
  have hlen : its.length = ns.length := by rw [← rv.length, List.length_map]
  exact call_max_int (I.ok.hd hc) hl.isList hi (by omega) fun M t h tk k hM hb => ⟨.int M, H, I.kept k, ⟨t, rfl⟩, q M hM hb⟩
end
end Ax

namespace Ax
open PySem PyProof.Rows
/-! ### sorted with key=int -/
theorem ints_of_pairs : ∀ {ps : List (Int × Value)}, (∀ p ∈ ps, ∃ t, p.2 = .int p.1 t) → IntsAre (ps.map Prod.snd) (ps.map Prod.fst)
  | [], _ => .nil
  | (n, v) :: r, h => by
    obtain ⟨t, e⟩ := h (n, v) (List.mem_cons_self ..)
    cases (show v = Value.int n t from e)
    exact .cons n t (ints_of_pairs fun p hp => h p (List.mem_cons_of_mem _ hp))
theorem zip_pairs : ∀ {vs : List Value} {ns : List Int}, IntsAre vs ns → ∀ p ∈ ns.zip vs, ∃ t, p.2 = .int p.1 t
  | _, _, .nil, p, h => by simp at h
  | _, _, .cons n t r, p, h => by
    rw [List.zip_cons_cons] at h
    rcases List.mem_cons.mp h with e | h
    · rw [e]
      exact ⟨t, rfl⟩
    · exact zip_pairs r p h
/-- all that lives, but for two -/
def rest2 (h : Heap) (L D : Addr) : List (Addr × Obj) := (List.range h.objs.size).filterMap fun b => if b = L ∨ b = D then none else (h.get? b).map fun o => (b, o)
theorem mem_rest2 {h : Heap} {L D b : Addr} {o : Obj} : (b, o) ∈ rest2 h L D ↔ b ≠ L ∧ b ≠ D ∧ h.get? b = some o := by
  unfold rest2
  rw [List.mem_filterMap]
  constructor
  · rintro ⟨c, _, e⟩
    by_cases q : c = L ∨ c = D
    · rw [if_pos q] at e
      cases e
    · rw [if_neg q] at e
      cases eo : h.get? c with
      | none =>
        rw [eo] at e
        cases e
      | some u =>
        rw [eo] at e
        cases e
        exact ⟨fun z => q (.inl z), fun z => q (.inr z), eo⟩
  · rintro ⟨h1, h2, h3⟩
    refine ⟨b, List.mem_range.mpr (Heap.lt_size h3), ?_⟩
    rw [if_neg (fun z => z.elim h1 h2), h3]
    rfl
section
variable {prog : Program} {w : World} {A : Around} {E : Value → Shared → Prop} {s : Shared} {l D L : Addr} {m : Str → Option Value} {vs : List Value} {ns : List Int} {P : PySem.Fin → Shared → Prop}
theorem lsort_int (atD : s.heap.get? D = some (seqObj "list" vs.toArray 0)) (allI : IntsAre vs ns) (few : vs.length < 64) (nsL : s.heap.Ns L m) (dif : D ≠ L)
    (fin : ∀ (h : Heap) (tk : Nat) (out : Array Value) (c : Nat) (ms : List Int), (∀ b o, b ≠ L → b ≠ D → s.heap.get? b = some o → h.get? b = some o) → h.Ns L m → h.get? D = some (seqObj "list" out c) → IntsAre out.toList ms → ms.Perm ns → ms.Pairwise (· ≤ ·) →
      P (.done (.ret .none)) { s with heap := h, toks := tk }) :
    wpAny (model prog w) A (Builtin.«list.sort» ⟨[.ref D], [(Str.ofString "key", .type "int")]⟩) P E s := by
  have e0 : Builtin.«list.sort» ⟨[.ref D], [(Str.ofString "key", .type "int")]⟩ = ksk_tree D (.type "int") false := rfl
  rw [e0]
  have none0 : ∀ b, ({ s.heap with objs := #[] } : Heap).get? b = none := fun b => Heap.get?_none_of_le (Nat.zero_le _)
  have ln := allI.length
  refine ksk_sort (h₀ := { s.heap with objs := #[] }) (L := L) (m := m) (news := rest2 s.heap L D) (kz := ns) (b := false) ⟨nsL, fun b o e => (by rw [none0] at e; cases e), Nat.zero_le _⟩ (fun p hp => ?_) atD dif (none0 D) (fun p hp => ?_) ln.symm few (fun i v k hv hk h tk own F N => ?_) fun h tk out c F N ko => ?_
  · obtain ⟨b, o⟩ := p
    obtain ⟨h1, _, h3⟩ := mem_rest2.mp hp
    exact ⟨h3, h1, none0 b⟩
  · obtain ⟨b, o⟩ := p
    exact (mem_rest2.mp hp).2.1
  · obtain ⟨t, ht⟩ := allI.get i k hk
    rw [ht] at hv
    obtain rfl := Option.some.inj hv
    exact call_int_int ⟨h, tk, t, rfl, rfl, F, N⟩
  · obtain ⟨ps, pp, po, pw⟩ := ko
    have all := zip_pairs allI
    refine fin h tk out c (ps.map Prod.fst) (fun b o h1 h2 h3 => ?_) F.ns (N (D, seqObj "list" out c) (List.mem_cons_self ..)).1 ?_ ?_ ?_
    · exact (N (b, o) (List.mem_cons_of_mem _ (mem_rest2.mpr ⟨h1, h2, h3⟩))).1
    · rw [po]
      exact ints_of_pairs fun p hp => all p (pp.mem_iff.mp hp)
    · have := pp.map Prod.fst
      rwa [List.map_fst_zip (by omega)] at this
    · rw [List.pairwise_map]
      exact pw
end
end Ax
namespace L2
open PySem PySem.Spec PyProof.Rows
section
variable {X : Cx} {pins : List (Addr × Obj)} {σ : St} {H : Hp} {s : Shared} {h' : Heap}
/-- a new object tracked; the frame's own dict may be another object with the same names -/
theorem Inv.laidL {t' : Nat} {T : Addr} {ob : HO} (I : Inv X pins σ H s) (k : ∀ b o, b ≠ X.env.locals → s.heap.get? b = some o → h'.get? b = some o) (hns : ∀ m, s.heap.Ns X.env.locals m → h'.Ns X.env.locals m) (hT : s.heap.objs.size ≤ T)
    (new : ObjOk X.prog X.w (upd H T ob) h' T ob) : Inv X pins σ (upd H T ob) { s with heap := h', toks := t' } := by
  have hn : H T = none := I.hok.fresh hT
  obtain ⟨m0, n0, _⟩ := I.loc
  refine I.step (g' := s.gens) (d' := s.drawn) (ch := []) (fun b hb => nomatch hb) (fun b o h1 _ _ e _ => k b o h1 e) (fun b o h1 _ _ e _ => ⟨o.slots, k b o h1 e⟩)
    (fun b o _ e n => ?_) (fun b o _ e => ?_) (fun b xs e => ?_) (fun b o u e => ?_) (fun b ps e => ⟨#[], ?_⟩) (fun m hm => hns m hm) (fun b u e => ?_) I.bare
  · rw [upd_ne (Nat.ne_of_lt (Nat.lt_of_lt_of_le (Heap.lt_size e) hT))]
    exact n
  · by_cases q : b = X.env.locals
    · obtain ⟨o', _, _, e', _⟩ := hns m0 n0
      exact ⟨o', by rw [q]; exact e'⟩
    · exact ⟨o, k b o q e⟩
  · rw [upd_ne (ne_of_none e hn)]
    exact e
  · rw [upd_ne (ne_of_none e hn)]
    exact e
  · rw [upd_ne (ne_of_none e hn), e, Array.append_empty]
  · by_cases hb : b = T
    · subst hb
      rw [upd_same] at e
      cases e
      exact new
    · rw [upd_ne hb] at e
      refine (I.hok b u e).stay (fun c v hc q => k c v ?_ q) (fun c q => by rw [upd_ne (ne_of_none q hn)]; exact q) fun c xs q => by rw [upd_ne (ne_of_none q hn)]; exact q
      intro z
      have f := I.free
      rw [← z] at f
      rcases hc with y | y
      · rw [y, e] at f
        cases f
      · rw [y] at f
        cases f
end
end L2

namespace Ax
open PySem PySem.Spec PyProof.Rows L2
theorem ns_same {h : Heap} {L : Addr} {m m' : Str → Option Value} (a : h.Ns L m) (b : h.Ns L m') : m' = m := by
  obtain ⟨o, es, ep, e1, e2, _, e3⟩ := a
  obtain ⟨o', es', ep', f1, f2, _, f3⟩ := b
  rw [e1] at f1
  obtain rfl := Option.some.inj f1
  rw [e2] at f2
  cases f2
  funext x
  rw [← f3 x, e3 x]
section
variable {X : Cx}
/-- what is left to do behind the items: a new list of them, sorted -/
theorem sorted_tail {pins : List (Addr × Obj)} {σ : L2.St} {H : Hp} {s : Shared} {ns : List Int} {vs : List Value} {Q : VK} {E : Value → Shared → Prop} (I : Inv X pins σ H s) (allI : IntsAre vs ns) (few : vs.length < 64)
    (q : ∀ (ms : List Int) (p : Addr), ms.Perm ns → ms.Pairwise (· ≤ ·) → H p = none → Q (.ref p) (upd H p (.lst (ms.map V.int)))) :
    wpAny (model X.prog X.w) X.A.in1 (do
      let l ← newList vs
      let _ ← holding [l] (call (.builtin "list.sort") [l] [(Str.ofString "key", .type "int")])
      (ret l : Sem PySem.Fin)) (fun f s' => ∃ v, f = .done (.ret v) ∧ EP X pins σ Q v s') E s := by
  obtain ⟨mL, nsL, _⟩ := I.loc
  have ltL : X.env.locals < s.heap.objs.size := nsL.lt
  refine wpAny_bind (wpAny_newList ?_ (Nat.le_trans (Nat.le_of_lt few) (by decide)))
  have at1 : (s.heap.push (seqObj "list" vs.toArray 0)).get? s.heap.objs.size = some (seqObj "list" vs.toArray 0) := Heap.get?_push_size _ rfl
  have k1 : ∀ b o, s.heap.get? b = some o → (s.heap.push (seqObj "list" vs.toArray 0)).get? b = some o := fun b o e => Heap.get?_push_of_some _ e
  have ns1 : (s.heap.push (seqObj "list" vs.toArray 0)).Ns X.env.locals mL := by
    obtain ⟨o, es, ep, e, r⟩ := nsL
    exact ⟨o, es, ep, k1 _ _ e, r⟩
  refine wpAny_bind (wpAny_holding (wpAny_call_entry_kw slot_list_sort ⟨_, at1, rfl⟩ entry_list_sort ?_ (ksk_l1 _ _)))
  refine lsort_int (s := { s with heap := s.heap.push (seqObj "list" vs.toArray 0) }) at1 allI few ns1 (Nat.ne_of_gt ltL) fun h tk out c ms k n atD iO pm pw => ⟨_, rfl, ?_⟩
  have zl : (ms.map V.int).length ≤ sizeLine := by
    rw [List.length_map, pm.length_eq, ← allI.length, sizeLine_eq]
    omega
  have J : Inv X pins σ (upd H s.heap.objs.size (.lst (ms.map V.int))) { s with heap := h, toks := tk } :=
    Inv.laidL I (fun b o h1 e => k b o h1 (Nat.ne_of_lt (Heap.lt_size e)) (k1 b o e)) (fun m hm => by rw [ns_same nsL hm]; exact n) (Nat.le_refl _)
      (show ObjOk X.prog X.w _ _ _ (.lst (ms.map V.int)) from ⟨zl, out.toList, c, vals_of_ints iO, by rw [Array.toArray_toList]; exact atD⟩)
  exact wpAny_pure ⟨_, rfl, .ref s.heap.objs.size, _, J, rfl, q ms _ pm pw (I.hok.fresh (Nat.le_refl _))⟩
/-- sorted(xs, key=int), xs a list of whole numbers -/
def rSortInt (K : PySem.W.Frag) : List V → List V → Hp → VK → Prop := fun vs zs H Q => ∃ (a : Addr) (ns : List Int), vs = [V.ref a] ∧ zs = [.ty "int"] ∧ SqL K H a (ns.map V.int) ∧ ns.length < 64 ∧
  ∀ (ms : List Int) (p : Addr), ms.Perm ns → ms.Pairwise (· ≤ ·) → H p = none → Q (.ref p) (upd H p (.lst (ms.map V.int)))
theorem cr_sortInt : CallRK X (.builtin "sorted") [Str.ofString "key"] (rSortInt X.K) := by
  intro pins s σ H vs zs us ws Q I r rz h
  obtain ⟨a, ns, rfl, rfl, hs, few, q⟩ := h
  obtain rfl := Vals.ref1 r
  obtain ⟨w1, rfl, e1⟩ := vals1 rz
  obtain rfl : w1 = Value.type "int" := e1
  obtain ⟨its, rv, hl, hz⟩ := I.list hs
  have hi := rv.ints
  have ln : its.length = ns.length := by rw [← rv.length, List.length_map]
  refine call_function_entry_kw kind_sorted plain_sorted entry_sorted (ksk_s1 _ _) ?_
  unfold Builtin.«sorted»
  have kp : ∀ b o, s.heap.get? b = some o → ((s.heap.push (seqObj "list" #[] 0)).update s.heap.objs.size (Obj.mapSeq (· ++ its.toArray))).get? b = some o := fun b o e => by
    rw [Heap.get?_update_ne _ _ _ _ (Nat.ne_of_lt (Heap.lt_size e))]
    exact Heap.get?_push_of_some _ e
  refine wpAny_bind (m := checkCount "sorted" 1 1 _) (wpAny_pure (wpAny_bind (collect_list hl.isList ?_ (Nat.le_trans (Nat.le_of_lt (by omega)) (by decide : 64 ≤ sizeLine)))))
  have I1 : Inv X pins σ H { s with heap := (s.heap.push (seqObj "list" #[] 0)).update s.heap.objs.size (Obj.mapSeq (· ++ its.toArray)), toks := s.toks } := I.kept kp
  exact wpAny_mono (sorted_tail I1 hi (by omega) q) (fun f s' ⟨v, e, z⟩ => by rw [e]; exact ⟨v, rfl, z⟩) fun _ _ e => e
/-- sorted(d, key=int), d a dict whose keys are whole numbers -/
def rSortDInt : List V → List V → Hp → VK → Prop := fun vs zs H Q => ∃ (a : Addr) (kvs : List (Key × V)) (ks : List Int), vs = [V.ref a] ∧ zs = [.ty "int"] ∧ Rd H a (.dK kvs) ∧ kvs.map (·.1) = ks.map Sum.inl ∧ ks.length < 64 ∧
  ∀ (ms : List Int) (p : Addr), ms.Perm ks → ms.Pairwise (· ≤ ·) → H p = none → Q (.ref p) (upd H p (.lst (ms.map V.int)))
theorem cr_sortDInt (calm : X.calm = true) : CallRK X (.builtin "sorted") [Str.ofString "key"] rSortDInt := by
  intro pins s σ H vs zs us ws Q I r rz h
  obtain ⟨a, kvs, ks, rfl, rfl, hd, hks, few, q⟩ := h
  obtain rfl := Vals.ref1 r
  obtain ⟨w1, rfl, e1⟩ := vals1 rz
  obtain rfl : w1 = Value.type "int" := e1
  obtain ⟨z, lo, es, rel, dd⟩ := dk_rd I.hok hd
  obtain ⟨ep, atd⟩ := dd.dictAt
  have keys : es.map (·.1) = ks.map Sum.inl := rel.keys.symm.trans hks
  have ln : es.length = ks.length := by
    have e := congrArg List.length keys
    rwa [List.length_map, List.length_map] at e
  refine call_function_entry_kw kind_sorted plain_sorted entry_sorted (ksk_s1 _ _) ?_
  unfold Builtin.«sorted»
  refine wpAny_bind (m := checkCount "sorted" 1 1 _) (wpAny_pure (wpAny_bind (PySem.W.kdu_collect (A := X.A.in1) (PySem.W.kdl_dict (knd := mixKind X.prog X.w) (kvs := es) (ep := ep) lo) (I.ok.hd calm) atd (by rw [ln]; exact Nat.le_trans (Nat.le_of_lt few) (by decide)) fun h1 tk acc hk hacc => ?_)))
  have la : acc.toList.length = ks.length := by rw [Array.length_toList, hacc.1, ln]
  have allI : IntsAre acc.toList ks := ints_each la fun j v e => by
    obtain ⟨k, x, e1, e2⟩ := hacc.2 j v (by rw [← Array.getElem?_toList]; exact e)
    have e3 : (es.map (·.1))[j]? = some k := by
      rw [List.getElem?_map, e1]
      rfl
    rw [keys, List.getElem?_map] at e3
    cases e4 : ks[j]? with
    | none =>
      rw [e4] at e3
      cases e3
    | some y =>
      rw [e4] at e3
      obtain rfl : Sum.inl y = k := Option.some.inj e3
      rcases keyIs_shape (show keyIs (Sum.inl y) v = true from e2) with ⟨i, t, ek, ev⟩ | ⟨z, t, ek, ev⟩
      · cases ek
        exact ⟨y, t, rfl, ev⟩
      · cases ek
  have I1 : Inv X pins σ H { s with heap := h1, toks := tk } := I.kept hk
  exact wpAny_mono (sorted_tail I1 allI (by rw [la]; exact few) q) (fun f s' ⟨v, e, z⟩ => by rw [e]; exact ⟨v, rfl, z⟩) fun _ _ e => e
end
end Ax

namespace Ax
open PySem L2
section
variable {P : Program} {w : World} {K : PySem.W.Frag} {mg : Str → Option Value} {base : Heap} {A : Adr}
theorem two64 : (2 : Int) ^ 64 < BIG := pow_lt' (b := 2) (by decide) (by decide)
theorem lt_big {i : Int} {n : Nat} (h : i < 2 ^ n) (hn : n ≤ 8000) : i < BIG := Int.lt_of_lt_of_le h (pow_le' (b := 2) (by decide) hn)
/-! ### rungs_of -/
/-- a dict's entry for a mantissa: its size, and the tuple of it and its power -/
def EntAt (H : Hp) (b : Int) (top : Nat) (m : Int) (e : Key × V) : Prop := ∃ t : Addr, e = (.inl (keyOf b top m), .ref t) ∧ H t = some (.tup [.int m, .int (-(lg b m : Int))])
theorem EntAt.same {H H' : Hp} {b : Int} {top : Nat} {m : Int} {e : Key × V} (s : Same H H') (h : EntAt H b top m e) : EntAt H' b top m e := by
  obtain ⟨t, h1, h2⟩ := h
  exact ⟨t, h1, s _ _ h2⟩
abbrev Ents (H : Hp) (b : Int) (top : Nat) : List Int → List (Key × V) → Prop := Paired (EntAt H b top)
theorem Ents.same {H H' : Hp} {b : Int} {top : Nat} (s : Same H H') : ∀ {ms : List Int} {kvs : List (Key × V)}, Ents H b top ms kvs → Ents H' b top ms kvs
  | _, _, .nil => .nil
  | _, _, .cons h t => .cons (h.same s) (Ents.same s t)
theorem Ents.but {H H' : Hp} {b : Int} {top : Nat} (s : ∀ c xs, H c = some (.tup xs) → H' c = some (.tup xs)) : ∀ {ms : List Int} {kvs : List (Key × V)}, Ents H b top ms kvs → Ents H' b top ms kvs
  | _, _, .nil => .nil
  | _, _, .cons ⟨t, h1, h2⟩ r => .cons ⟨t, h1, s _ _ h2⟩ (Ents.but s r)
theorem Ents.snoc {H : Hp} {b : Int} {top : Nat} {m : Int} {e : Key × V} : ∀ {ms : List Int} {kvs : List (Key × V)}, Ents H b top ms kvs → EntAt H b top m e → Ents H b top (ms ++ [m]) (kvs ++ [e])
  | _, _, .nil, h => .cons h .nil
  | _, _, .cons h t, q => .cons h (Ents.snoc t q)
theorem Ents.len {H : Hp} {b : Int} {top : Nat} {ms : List Int} {kvs : List (Key × V)} (h : Ents H b top ms kvs) : ms.length = kvs.length := Paired.length h
theorem Ents.keys {H : Hp} {b : Int} {top : Nat} : ∀ {ms : List Int} {kvs : List (Key × V)}, Ents H b top ms kvs → kvs.map (·.1) = (ms.map (keyOf b top)).map Sum.inl
  | _, _, .nil => rfl
  | _, _, .cons h t => by
    obtain ⟨q, h1, _⟩ := h
    rw [List.map_cons, List.map_cons, List.map_cons, Ents.keys t, h1]
theorem Ents.val {H : Hp} {b : Int} {top : Nat} {m : Int} : ∀ {ms : List Int} {kvs : List (Key × V)}, Ents H b top ms kvs → m ∈ ms → (∀ n ∈ ms, keyOf b top n = keyOf b top m → n = m) → ∃ t, valV kvs (.inl (keyOf b top m)) = some (.ref t) ∧ H t = some (.tup [.int m, .int (-(lg b m : Int))])
  | _, _, .nil, h, _ => nomatch h
  | n :: ms, _, .cons h t, hm, hi => by
    obtain ⟨t0, h1, h2⟩ := h
    by_cases c : keyOf b top n = keyOf b top m
    · have e2 := hi n (List.mem_cons_self ..) c
      subst e2
      exact ⟨t0, by rw [h1]; exact valV_pos rfl, h2⟩
    · have hm2 : m ∈ ms := (List.mem_cons.mp hm).resolve_left fun z => c (by rw [z])
      obtain ⟨t1, k1, k2⟩ := Ents.val t hm2 fun n' hn => hi n' (List.mem_cons_of_mem _ hn)
      refine ⟨t1, ?_, k2⟩
      rw [valV_neg (by rw [h1]; exact fun z => c (Sum.inl.inj z))]
      exact k1
theorem Ents.no {H : Hp} {b : Int} {top : Nat} {k : Int} : ∀ {ms : List Int} {kvs : List (Key × V)}, Ents H b top ms kvs → (∀ n ∈ ms, keyOf b top n ≠ k) → valV kvs (.inl k) = none
  | _, _, .nil, _ => rfl
  | n :: ms, _, .cons h t, hi => by
    obtain ⟨t0, h1, h2⟩ := h
    rw [valV_neg (by rw [h1]; exact fun z => hi n (List.mem_cons_self ..) (Sum.inl.inj z))]
    exact Ents.no t fun n' hn => hi n' (List.mem_cons_of_mem _ hn)
/-- the rungs: mantissas in the order of their least steps of at least 1, each at its tuple -/
abbrev TupsAt (H : Hp) (b : Int) : List Int → List Addr → Prop := Paired fun m t => H t = some (.tup [.int m, .int (-(lg b m : Int))])
theorem TupsAt.same {H H' : Hp} {b : Int} (s : ∀ c xs, H c = some (.tup xs) → H' c = some (.tup xs)) : ∀ {rs : List Int} {ts : List Addr}, TupsAt H b rs ts → TupsAt H' b rs ts
  | _, _, .nil => .nil
  | _, _, .cons h r => .cons (s _ _ h) (TupsAt.same s r)
theorem TupsAt.snoc {H : Hp} {b m : Int} {t : Addr} : ∀ {rs : List Int} {ts : List Addr}, TupsAt H b rs ts → H t = some (.tup [.int m, .int (-(lg b m : Int))]) → TupsAt H b (rs ++ [m]) (ts ++ [t])
  | _, _, .nil, h => .cons h .nil
  | _, _, .cons h r, q => .cons h (TupsAt.snoc r q)
theorem TupsAt.len {H : Hp} {b : Int} {rs : List Int} {ts : List Addr} (h : TupsAt H b rs ts) : rs.length = ts.length := Paired.length h
theorem TupsAt.get {H : Hp} {b : Int} : ∀ {rs : List Int} {ts : List Addr} {i : Nat} {m : Int}, TupsAt H b rs ts → rs[i]? = some m → ∃ t, ts[i]? = some t ∧ H t = some (.tup [.int m, .int (-(lg b m : Int))])
  | _, _, _, _, .nil, h => nomatch h
  | _, _, 0, _, .cons h _, e => by
    obtain rfl := Option.some.inj e
    exact ⟨_, rfl, h⟩
  | _, _, i + 1, _, .cons _ r, e => TupsAt.get (i := i) r e
theorem TupsAt.get2 {H : Hp} {b : Int} : ∀ {rs : List Int} {ts : List Addr} {i : Nat} {t : Addr}, TupsAt H b rs ts → ts[i]? = some t → ∃ m, rs[i]? = some m ∧ H t = some (.tup [.int m, .int (-(lg b m : Int))])
  | _, _, _, _, .nil, h => nomatch h
  | _, _, 0, _, .cons h _, e => by
    obtain rfl := Option.some.inj e
    exact ⟨_, rfl, h⟩
  | _, _, i + 1, _, .cons _ r, e => TupsAt.get2 (i := i) r e
theorem crMin (K : PySem.W.Frag) {X : Cx} (hc : X.calm = true := by rfl) (h : X.K = K := by rfl) : CallR X (.builtin "min") (rMin K) := h ▸ cr_min hc
theorem crMax (K : PySem.W.Frag) {X : Cx} (hc : X.calm = true := by rfl) (h : X.K = K := by rfl) : CallR X (.builtin "max") (rMax K) := h ▸ cr_max hc
def spRungs : Sp := fun vs H Q _ => ∃ (k : Kd) (b most : Int) (ms : List Int) (a : Addr), vs = [.int b, .ref a] ∧ H a = some (.lst (ms.map V.int)) ∧ RArgs b k ms most ∧
  ∀ (H' : Hp) (lr : Addr) (rs : List Int) (ts : List Addr) (M : Int), Same H H' → H lr = none → M ∈ ms → (∀ m ∈ ms, m ≤ M) → H' lr = some (.lst (ts.map V.ref)) → TupsAt H' b rs ts → rs.Perm ms → rs.Pairwise (fun m n => keyOf b (lg b M) m < keyOf b (lg b M) n) → Q (.ref lr) H'
abbrev nm_rungs_of : List Str := ["base", "mantissas", "top", "mantissa", "rungs", "power", "size"]
theorem sc_rungs_of : FnScope ["base", "mantissas", "top", "mantissa", "rungs", "power", "size"] ["base", "mantissas"] (defScope s_rungs_of) := ⟨rfl, rfl, rfl, by decide +kernel, rfl, by decide +kernel, by decide +kernel⟩
theorem ok_rungs (T : Txt K mg A w) : FnOk P w K mg base CX0 2 A.a_rungs_of A.d_rungs_of ["base", "mantissas"] spRungs := by
  have G_log_of : FnOk P w K mg base CX0 1 A.a_log_of A.d_log_of ["base", "number"] spLog := ok_log_of T
  have G_power_of : FnOk P w K mg base CX0 1 A.a_power_of A.d_power_of ["base", "exponent"] spPow := ok_power_of T
  refine T.F_rungs_of.ok sc_rungs_of (fun vs H Q E h => ?_) (fun cdv A0 outer s H vs Q E hr h => ?_)
  · obtain ⟨k, b, most, ms, a, rfl, _⟩ := h
    rfl
  · obtain ⟨k, b, most, ms, a, rfl, hL, R, q⟩ := h
    have hlen : (ms.map V.int).length = ms.length := List.length_map _
    have hpos : 0 < ms.length := List.length_pos_iff.mpr R.ne
    refine ⟨_, (pss_cons (ps_set (i := 2) sc_rungs_of.nd rfl (Or.inl rfl) (pe_call G_log_of (hr.mono (by decide)) (by rfl) T.m_log_of T.F_log_of.kp T.B_log_of .nil pass0 (pa_cons (pv 0) (pa_cons (pe_callB (crMax K) (by rfl) T.n_max (by decide +kernel) (pa_cons (pe_lc (own := [("mantissa", 3)]) (g := gName 3) (tt := tYes) rfl sc_rungs_of.nd (pi_list (pv 1)) (blkOk_by (own := [("mantissa", 3)]) (N := nm_rungs_of) (sc := defScope s_rungs_of) (by decide +kernel)) (fun _ _ _ _ _ => (pg_name (i := 3) sc_rungs_of.nd rfl (Or.inl rfl))) (fun _ _ _ _ _ => pts_nil) (fun _ _ _ _ _ => (pe_callTy call_int1 (by rfl) T.n_int (by decide +kernel) (pa_cons (pv 3) pa_nil)))) pa_nil)) pa_nil))))
  (pss_cons (ps_set (i := 4) sc_rungs_of.nd rfl (Or.inr rfl) pe_dnewK)
  (pss_cons (ps_for PassesOwn.never rfl (pi_list (pv 1)) (pg_name (i := 3) sc_rungs_of.nd rfl (Or.inl rfl))
  (pss_cons (ps_set (i := 5) sc_rungs_of.nd rfl (Or.inl rfl) (pe_un un_neg (pe_call G_log_of (hr.mono (by decide)) (by rfl) T.m_log_of T.F_log_of.kp T.B_log_of .nil pass0 (pa_cons (pv 0) (pa_cons (pv 3) pa_nil)))))
  (pss_one (ps_dput (hu_of hr) (pv 4) (pe_op op_mulW (pv 3) (pe_call G_power_of (hr.mono (by decide)) (by rfl) T.m_power_of T.F_power_of.kp T.B_power_of .nil pass0 (pa_cons (pv 0) (pa_cons (pe_op op_add (pv 2) (pv 5)) pa_nil)))) (pe_tup (pa_cons (pv 3) (pa_cons (pv 5) pa_nil))) rfl))))
  (pss_one (ps_ret (pe_lc (own := [("size", 6)]) (g := gName 6) (tt := tYes) rfl sc_rungs_of.nd (pi_list (pe_callBK (cr_sortDInt rfl) (by rfl) T.n_sorted (by decide +kernel) (pa_cons (pv 4) pa_nil) (pk_cons (pe_bltn (v := .ty "int") (by rfl) T.n_int (by decide +kernel) rfl) pk_nil))) (blkOk_by (own := [("size", 6)]) (N := nm_rungs_of) (sc := defScope s_rungs_of) (by decide +kernel)) (fun _ _ _ _ _ => (pg_name (i := 6) sc_rungs_of.nd rfl (Or.inl rfl))) (fun _ _ _ _ _ => pts_nil) (fun _ _ _ _ _ => (pe_dget (hu_of hr) (pv 4) (pv 6) (fun _ _ => rfl))))))))), ?_⟩
    -- top = log_of(base, max([..]))
    refine ⟨_, rfl, _, rfl, a, rfl, ⟨_, SqL.of hL⟩, fun D0 hD0 => lc_list (K := K) (a := a) (xs := ms.map V.int) (fun i H' => H' = upd H D0 (.lst ((ms.take i).map V.int))) rfl ?_ ?_ ?_⟩
    · rintro i H' _ rfl
      exact SqL.of (by rw [upd_ne (ne_of_none hL hD0)]; exact hL)
    · rintro i x H' hi rfl
      obtain ⟨n, hn, rfl⟩ := map_get hi
      have hi3 : i < ms.length := (List.getElem?_eq_some_iff.mp hn).1
      refine ⟨rfl, yes_of ?_⟩
      refine ⟨_, rfl, .inl ⟨n, rfl, ?_⟩⟩
      refine ⟨_, upd_same, ?_, ?_⟩
      · rw [List.length_map, List.length_take]
        exact small1000 (by have := R.le; omega)
      · rw [upd_upd, List.take_add_one, hn, List.map_append]
        rfl
    rintro H0 rfl
    rw [hlen, List.take_length]
    have s0 : Same H (upd H D0 (.lst (ms.map V.int))) := same_new hD0
    refine ⟨D0, ms, rfl, SqL.of upd_same, hpos, fun M hM hmax => ?_⟩
    obtain ⟨M1, M2, M3⟩ := R.all M hM
    refine ⟨b, M, rfl, R.b2, lt_big R.bB (by decide), M1, lt_big M2 (by decide), fun E1 H1 s1 g1 g2 => ?_⟩
    obtain rfl := lg_eq R.b2 M1 g1 g2
    replace s1 := s0.trans s1
    refine fun d hd => ?_
    have hd0 : H d = none := s1.free hd
    refine ⟨_, rfl, a, rfl, ⟨_, SqL.of (by rw [upd_ne (ne_of_none (s1 _ _ hL) hd)]; exact s1 _ _ hL)⟩, for_list (K := K) (a := a) (xs := ms.map V.int) (fun i σ H' => ∃ (kvs : List (Key × V)) (v1 v2 : Option V), σ = [some (.int b), some (.ref a), some (.int (lg b M : Nat)), v1, some (.ref d), v2, none] ∧ Same H H' ∧ H' d = some (.dK kvs) ∧ Ents H' b (lg b M) (ms.take i) kvs)
      ⟨[], none, none, rfl, s1.trans (same_new hd), upd_same, .nil⟩ (fun i σ H' _ ⟨kvs, v1, v2, _, s2, _⟩ => SqL.of (s2 _ _ hL)) ?_ ?_⟩
    · rintro i y σ H' hi ⟨kvs, v1, v2, rfl, s2, hD, hE⟩
      obtain ⟨m, hm, rfl⟩ := map_get hi
      have hmem : m ∈ ms := List.mem_of_getElem? hm
      obtain ⟨m1, m2, m3⟩ := R.all m hmem
      have lgm := lg_mono R.b2 m1 (hmax m hmem)
      have hi3 : i < ms.length := (List.getElem?_eq_some_iff.mp hm).1
      refine ⟨_, rfl, _, rfl, b, m, rfl, R.b2, lt_big R.bB (by decide), m1, lt_big m2 (by decide), fun E2 H2 s3 g3 g4 => ?_⟩
      obtain rfl := lg_eq R.b2 m1 g3 g4
      refine ⟨_, rfl, ?_⟩
      -- rungs[..] = (mantissa, power)
      refine ⟨_, rfl, _, rfl, (by show 2 ≤ sizeLine; decide), fun t ht => ?_⟩
      have ht2 : H' t = none := s3.free ht
      have eT : ((lg b M : Nat) + -(lg b m : Nat) : Int).toNat = lg b M - lg b m := by omega
      have pB : b ^ (lg b M - lg b m) < BIG := by
        have h1 := pow_le' (b := b) (by have := R.b2; omega) (Nat.sub_le (lg b M) (lg b m))
        have h2 := (lg_spec R.b2 M1).1
        have h3 := lt_big (n := 64) M2 (by decide)
        omega
      have p1 := pow_pos' (b := b) (by have := R.b2; omega) (lg b M - lg b m)
      refine ⟨_, rfl, _, rfl, _, rfl, _, rfl, _, rfl, _, _, rfl, rfl, b, _, rfl, by have := R.b2; omega, ?_, ?_, lt_big R.bB (by decide), ?_⟩
      · show (0 : Int) ≤ (lg b M : Nat) + -(lg b m : Nat)
        omega
      · rw [eT]
        exact pB
      · rw [eT]
        refine ⟨_, _, rfl, rfl, mulBig (by omega) (big_le (lt_big m2 (by decide))) (by omega) (big_le pB), ?_⟩
        have kn : valV kvs (.inl (keyOf b (lg b M) m)) = none := hE.no fun n hn => fun z => by
          obtain ⟨j, hj, ej⟩ := List.getElem_of_mem hn
          rw [List.length_take] at hj
          rw [List.getElem_take] at ej
          have nm : n ∈ ms := by rw [← ej]; exact List.getElem_mem _
          obtain ⟨n1, n2, n3⟩ := R.all n nm
          have e := key_inj R.b2 n3 m3 (lg_mono R.b2 n1 (hmax n nm)) lgm z
          have hj2 : ms[j]'(by omega) = ms[i]'hi3 := by
            rw [ej, e]
            exact ((List.getElem?_eq_some_iff.mp hm).2).symm
          have := (List.getElem_inj R.nd).mp hj2
          omega
        have hd3 : upd H2 t (.tup [.int m, .int (-(lg b m : Int))]) d = some (.dK kvs) := by
          rw [upd_ne (ne_of_none (s3 _ _ hD) ht)]
          exact s3 _ _ hD
        have hlk : kvs.length = i := by
          rw [← hE.len, List.length_take]
          omega
        refine ⟨d, _, rfl, DPut.k (k := .inl (keyOf b (lg b M) m)) hd3 (small1000 (by have := R.le; omega)), ?_⟩
        rw [putK_new _ kn]
        have ntd : t ≠ d := fun z => by
          rw [z, s3 _ _ hD] at ht
          cases ht
        refine ⟨kvs ++ [(.inl (keyOf b (lg b M) m), .ref t)], _, _, rfl, fun c o e => ?_, upd_same, ?_⟩
        · rw [upd_ne (ne_of_none e hd0), upd_ne (ne_of_none (s3 _ _ (s2 _ _ e)) ht)]
          exact s3 _ _ (s2 _ _ e)
        · have et : ms.take (i + 1) = ms.take i ++ [m] := by
            rw [List.take_add_one, hm]
            rfl
          rw [et]
          refine Ents.snoc ?_ ⟨t, rfl, by rw [upd_ne ntd, upd_same]⟩
          exact hE.but fun c xs e => by
            have ncd : c ≠ d := fun z => by
              rw [z, hD] at e
              cases e
            rw [upd_ne ncd, upd_ne (ne_of_none (s3 _ _ e) ht)]
            exact s3 _ _ e
    · rintro σ H' ⟨kvs, v1, v2, rfl, s2, hD, hE⟩
      rw [hlen, List.take_length] at hE
      have few : (ms.map (keyOf b (lg b M))).length < 64 := by rw [List.length_map]; have := R.le; omega
      refine ⟨_, rfl, d, kvs, ms.map (keyOf b (lg b M)), rfl, rfl, .inl hD, hE.keys, few, fun zs p hp1 hp2 hp => ?_⟩
      obtain ⟨rs, pr, rfl⟩ := perm_lift hp1
      have lgle : ∀ m ∈ ms, lg b m ≤ lg b M := fun m hm => lg_mono R.b2 (R.all m hm).1 (hmax m hm)
      have lz : ((rs.map (keyOf b (lg b M))).map V.int).length = rs.length := by rw [List.length_map, List.length_map]
      have s3 : Same H' (upd H' p (.lst ((rs.map (keyOf b (lg b M))).map V.int))) := same_new hp
      have hD3 := s3 _ _ hD
      have hE3 := hE.same s3
      have s03 := s2.trans s3
      refine ⟨p, rfl, ⟨_, SqL.of upd_same⟩, fun D hDn => lc_list (K := K) (a := p) (xs := (rs.map (keyOf b (lg b M))).map V.int) (fun i H'' => ∃ ts : List Addr, H'' = upd (upd H' p (.lst ((rs.map (keyOf b (lg b M))).map V.int))) D (.lst (ts.map V.ref)) ∧ ts.length = i ∧ TupsAt (upd H' p (.lst ((rs.map (keyOf b (lg b M))).map V.int))) b (rs.take i) ts)
        ⟨[], rfl, rfl, .nil⟩ ?_ ?_ ?_⟩
      · rintro i H'' _ ⟨ts, rfl, _⟩
        have npD : p ≠ D := fun z => by rw [← z, upd_same] at hDn; cases hDn
        exact SqL.of (by rw [upd_ne npD, upd_same])
      · rintro i x H'' hi ⟨ts, rfl, ht1, ht2⟩
        obtain ⟨z, hz, rfl⟩ := map_get hi
        rw [List.getElem?_map] at hz
        obtain ⟨m, hm, rfl⟩ : ∃ m, rs[i]? = some m ∧ z = keyOf b (lg b M) m := by
          cases e : rs[i]? with
          | none =>
            rw [e] at hz
            cases hz
          | some m =>
            rw [e] at hz
            exact ⟨m, rfl, (Option.some.inj hz).symm⟩
        have hm2 : m ∈ ms := pr.mem_iff.mp (List.mem_of_getElem? hm)
        obtain ⟨t, hv, htup⟩ := hE3.val hm2 fun n hn e => key_inj R.b2 (R.all n hn).2.2 (R.all m hm2).2.2 (lgle n hn) (lgle m hm2) e
        refine ⟨rfl, yes_of ?_⟩
        have dn := ne_of_none hD3 hDn
        refine ⟨_, rfl, _, rfl, d, .ref t, rfl, ?_, ?_⟩
        · rw [← hv]
          exact DGet.k (k := .inl (keyOf b (lg b M) m)) (by rw [upd_ne dn]; exact hD3)
        · refine ⟨_, upd_same, ?_, ts ++ [t], ?_, ?_, ?_⟩
          · rw [List.length_map, ht1]
            have := (List.getElem?_eq_some_iff.mp hm).1
            rw [pr.length_eq] at this
            exact small1000 (by have := R.le; omega)
          · rw [upd_upd, List.map_append]
            rfl
          · rw [List.length_append, ht1]
            rfl
          · rw [List.take_add_one, hm]
            exact TupsAt.snoc ht2 htup
      · rintro H'' ⟨ts, rfl, ht1, ht2⟩
        rw [lz, List.take_length] at ht2
        have s6 := same_new (o := .lst (ts.map V.ref)) hDn
        refine q _ D rs ts M (s03.trans s6) (s03.free hDn) hM hmax upd_same (ht2.same fun c xs e => s6 _ _ e) pr ?_
        have nd : (rs.map (keyOf b (lg b M))).Nodup := nodup_map (pr.nodup_iff.mpr R.nd) fun x hx y hy e => key_inj R.b2 (R.all x (pr.mem_iff.mp hx)).2.2 (R.all y (pr.mem_iff.mp hy)).2.2 (lgle x (pr.mem_iff.mp hx)) (lgle y (pr.mem_iff.mp hy)) e
        have := strict hp2 nd
        rwa [List.pairwise_map] at this
end
end Ax

namespace Ax
open PySem L2
/-- whether each size divides the next one, the first one times the base behind the last -/
def dvZ (b : Int) (zs : List Int) : Bool := ((zs.zip (zs.drop 1 ++ [b * zs.headD 0])).map fun p => decide (p.2 % p.1 = 0)).all id
theorem cut_one (z : Int) (zs : List Int) : cutV ((z :: zs).map V.int) (some 1) none = zs.map V.int := by
  have e : cutV ((z :: zs).map V.int) (some 1) none = (zs.map V.int).take zs.length := by
    unfold cutV HT.sIx
    simp
  rw [e]
  exact List.take_of_length_le (by rw [List.length_map]; exact Nat.le_refl _)
theorem ref_get {as : List Addr} {i : Nat} {x : V} (h : (as.map V.ref)[i]? = some x) : ∃ a, as[i]? = some a ∧ x = .ref a := by
  rw [List.getElem?_map] at h
  cases e : as[i]? with
  | none =>
    rw [e] at h
    cases h
  | some a =>
    rw [e] at h
    exact ⟨a, rfl, (Option.some.inj h).symm⟩
theorem mul_lt2 {a c x y : Int} (h1 : a < x) (h2 : c < y) (hc : 0 < c) (hx : 0 ≤ x := by decide) : a * c < x * y := by
  have a1 := Int.mul_lt_mul_of_pos_right h1 hc
  have a2 := Int.mul_le_mul_of_nonneg_left (Int.le_of_lt h2) hx
  omega
section
variable {P : Program} {w : World} {K : PySem.W.Frag} {mg : Str → Option Value} {base : Heap} {A : Adr}
/-! ### _is_dividing -/
def spDiv : Sp := fun vs H Q _ => ∃ (b M : Int) (rs : List Int) (ts : List Addr) (lr : Addr), vs = [.int b, .ref lr] ∧ H lr = some (.lst (ts.map V.ref)) ∧ TupsAt H b rs ts ∧ 2 ≤ b ∧ b < 2 ^ 64 ∧ M ∈ rs ∧ rs.length < 60 ∧ (∀ m ∈ rs, 1 ≤ m ∧ m < 2 ^ 64 ∧ m ≤ M) ∧ ∀ H', Same H H' → Q (.bl (dvZ b (rs.map (keyOf b (lg b M))))) H'
abbrev nm_is_dividing : List Str := ["base", "rungs", "lowest", "_", "power", "sizes", "mantissa", "greater", "size", "above"]
theorem sc_is_dividing : FnScope ["base", "rungs", "lowest", "_", "power", "sizes", "mantissa", "greater", "size", "above"] ["base", "rungs"] (defScope s_is_dividing) := ⟨rfl, rfl, rfl, by decide +kernel, rfl, by decide +kernel, by decide +kernel⟩
theorem ok_div (T : Txt K mg A w) : FnOk P w K mg base CX0 2 A.a_is_dividing A.d_is_dividing ["base", "rungs"] spDiv := by
  have G_power_of : FnOk P w K mg base CX0 1 A.a_power_of A.d_power_of ["base", "exponent"] spPow := ok_power_of T
  refine T.F_is_dividing.ok sc_is_dividing (fun vs H Q E h => ?_) (fun cdv A0 outer s H0 vs Q E hr h => ?_)
  · obtain ⟨b, M, rs, ts, lr, rfl, _⟩ := h
    rfl
  · obtain ⟨b, M, rs, ts, lr, rfl, hLr, hT, hb, hbB, hM, hlen0, hrs, q0⟩ := h
    have hlt : ts.length = rs.length := hT.len.symm
    have hpos : 0 < rs.length := List.length_pos_of_mem hM
    refine ⟨_, (pss_cons (ps_set (i := 2) sc_is_dividing.nd rfl (Or.inr rfl) (pe_callB (crMin K) (by rfl) T.n_min (by decide +kernel) (pa_cons (pe_lc (own := [("_", 3), ("power", 4)]) (g := gTup K 2 (gCons (gName 3) (gCons (gName 4) gNil))) (tt := tYes) rfl sc_is_dividing.nd (pi_list (pv 1)) (blkOk_by (own := [("_", 3), ("power", 4)]) (N := nm_is_dividing) (sc := defScope s_is_dividing) (by decide +kernel)) (fun _ _ _ _ _ => (pg_tup (by rfl) (pgs_cons (pg_name (i := 3) sc_is_dividing.nd rfl (Or.inl rfl)) (pgs_cons (pg_name (i := 4) sc_is_dividing.nd rfl (Or.inl rfl)) pgs_nil)))) (fun _ _ _ _ _ => pts_nil) (fun _ _ _ _ _ => (pe_callTy call_int1 (by rfl) T.n_int (by decide +kernel) (pa_cons (pv 4) pa_nil)))) pa_nil)))
  (pss_cons (ps_setLc (i := 5) (own := [("mantissa", 6), ("power", 4)]) (g := gTup K 2 (gCons (gName 6) (gCons (gName 4) gNil))) (tt := tYes) rfl sc_is_dividing.nd rfl rfl (sw_true rfl rfl rfl (by decide +kernel)) (pi_list (pv 1)) (blkOk_by (own := [("mantissa", 6), ("power", 4)]) (N := nm_is_dividing) (sc := defScope s_is_dividing) (by decide +kernel)) (fun _ _ _ _ _ => (pg_tup (by rfl) (pgs_cons (pg_name (i := 6) sc_is_dividing.nd rfl (Or.inl rfl)) (pgs_cons (pg_name (i := 4) sc_is_dividing.nd rfl (Or.inl rfl)) pgs_nil)))) (fun _ _ _ _ _ => pts_nil) (fun _ _ _ _ _ => (pe_op op_mulW (pv 6) (pe_call G_power_of (hr.mono (by decide)) (by rfl) T.m_power_of T.F_power_of.kp T.B_power_of .nil pass0 (pa_cons (pv 0) (pa_cons (pe_op op_sub (pv 4) (pv 2)) pa_nil))))))
  (pss_cons (ps_set (i := 7) sc_is_dividing.nd rfl (Or.inl rfl) (pe_op op_cat (pe_slice sl_list (pv 5) (po_some pe_int) po_none) (pe_lst (pa_cons (pe_op op_mulW (pv 0) (pe_ix ix_list (pv 5) pe_int (fun _ _ => rfl))) pa_nil))))
  (pss_one (ps_ret (pe_callB (cr_all rfl) (by rfl) T.n_all (by decide +kernel) (pa_cons (pe_lc (own := [("size", 8), ("above", 9)]) (g := gTup K 2 (gCons (gName 8) (gCons (gName 9) gNil))) (tt := tYes) rfl sc_is_dividing.nd (pi_zip (by rfl) T.n_zip (pa_cons (pv 5) (pa_cons (pv 7) pa_nil))) (blkOk_by (own := [("size", 8), ("above", 9)]) (N := nm_is_dividing) (sc := defScope s_is_dividing) (by decide +kernel)) (fun _ _ _ _ _ => (pg_tup (by rfl) (pgs_cons (pg_name (i := 8) sc_is_dividing.nd rfl (Or.inl rfl)) (pgs_cons (pg_name (i := 9) sc_is_dividing.nd rfl (Or.inl rfl)) pgs_nil)))) (fun _ _ _ _ _ => pts_nil) (fun _ _ _ _ _ => (pe_cmpR op_eq (pe_op op_mod (pv 9) (pv 8)) pe_int (nomark _)))) pa_nil))))))), ?_⟩
    have lgle : ∀ m ∈ rs, lg b m ≤ lg b M := fun m hm => lg_mono hb (hrs m hm).1 (hrs m hm).2.2
    have lT : (ts.map V.ref).length = rs.length := by rw [List.length_map, hlt]
    -- lowest = min([..])
    refine ⟨_, rfl, lr, rfl, ⟨_, SqL.of hLr⟩, fun D0 hD0 => lc_list (K := K) (a := lr) (xs := ts.map V.ref) (fun i H' => H' = upd H0 D0 (.lst (((rs.take i).map fun m => -(lg b m : Int)).map V.int))) rfl ?_ ?_ ?_⟩
    · rintro i H' _ rfl
      exact SqL.of (by rw [upd_ne (ne_of_none hLr hD0)]; exact hLr)
    · rintro i x H' hi rfl
      obtain ⟨t, ht, rfl⟩ := ref_get hi
      obtain ⟨m, hm, htup⟩ := hT.get2 ht
      have hi3 : i < rs.length := (List.getElem?_eq_some_iff.mp hm).1
      refine ⟨t, _, rfl, SqT.of (by rw [upd_ne (ne_of_none htup hD0)]; exact htup), rfl, _, _, rfl, _, _, rfl, rfl, rfl, yes_of ?_⟩
      refine ⟨_, rfl, .inl ⟨_, rfl, ?_⟩⟩
      refine ⟨_, upd_same, ?_, ?_⟩
      · rw [List.length_map, List.length_map, List.length_take]
        exact small1000 (by omega)
      · rw [upd_upd, List.take_add_one, hm, List.map_append, List.map_append]
        rfl
    rintro H1 rfl
    rw [lT, List.take_length]
    have s1 : Same H0 (upd H0 D0 (.lst ((rs.map fun m => -(lg b m : Int)).map V.int))) := same_new hD0
    refine ⟨D0, rs.map fun m => -(lg b m : Int), rfl, SqL.of upd_same, (by rw [List.length_map]; exact hpos), fun lo hlo hmin => ?_⟩
    obtain rfl : lo = -(lg b M : Int) := by
      obtain ⟨m0, hm0, rfl⟩ := List.mem_map.mp hlo
      have h1 := hmin _ (List.mem_map_of_mem (f := fun m => -(lg b m : Int)) hM)
      have h2 := lgle m0 hm0
      omega
    have hLr1 := s1 _ _ hLr
    have hT1 := hT.same fun c xs e => s1 _ _ e
    clear hLr hT
    generalize upd H0 D0 (.lst ((rs.map fun m => -(lg b m : Int)).map V.int)) = H1 at *
    -- sizes = [..]
    refine ⟨_, rfl, lr, rfl, ⟨_, SqL.of hLr1⟩, fun a hDa => lc_list (K := K) (a := lr) (xs := ts.map V.ref) (fun i H' => H' = upd H1 a (.lst (((rs.take i).map (keyOf b (lg b M))).map V.int))) rfl ?_ ?_ ?_⟩
    · rintro i H' _ rfl
      exact SqL.of (by rw [upd_ne (ne_of_none hLr1 hDa)]; exact hLr1)
    · rintro i x H' hi rfl
      obtain ⟨t, ht, rfl⟩ := ref_get hi
      obtain ⟨m, hm, htup⟩ := hT1.get2 ht
      have hi3 : i < rs.length := (List.getElem?_eq_some_iff.mp hm).1
      have hmm := List.mem_of_getElem? hm
      obtain ⟨m1, m2, m3⟩ := hrs m hmm
      have lgm := lgle m hmm
      have M1 := (hrs M hM).1
      have M2 := (hrs M hM).2.1
      have eT : (-(lg b m : Nat) - -(lg b M : Nat) : Int).toNat = lg b M - lg b m := by omega
      have pB : b ^ (lg b M - lg b m) < BIG := by
        have h1 := pow_le' (b := b) (by omega) (Nat.sub_le (lg b M) (lg b m))
        have h2 := (lg_spec hb M1).1
        have h3 := lt_big (n := 64) M2 (by decide)
        omega
      have p1 := pow_pos' (b := b) (by omega) (lg b M - lg b m)
      refine ⟨t, _, rfl, SqT.of (by rw [upd_ne (ne_of_none htup hDa)]; exact htup), rfl, _, _, rfl, _, _, rfl, rfl, rfl, yes_of ?_⟩
      refine ⟨_, rfl, _, rfl, _, rfl, _, rfl, _, _, rfl, rfl, b, _, rfl, by omega, ?_, ?_, lt_big hbB (by decide), ?_⟩
      · show (0 : Int) ≤ -(lg b m : Nat) - -(lg b M : Nat)
        omega
      · rw [eT]
        exact pB
      · rw [eT]
        refine ⟨_, _, rfl, rfl, mulBig (by omega) (big_le (lt_big m2 (by decide))) (by omega) (big_le pB), ?_⟩
        refine ⟨_, upd_same, ?_, ?_⟩
        · rw [List.length_map, List.length_map, List.length_take]
          exact small1000 (by omega)
        · rw [upd_upd, List.take_add_one, hm, List.map_append, List.map_append]
          rfl
    rintro H2 rfl
    rw [lT, List.take_length]
    have s2 : Same H1 (upd H1 a (.lst ((rs.map (keyOf b (lg b M))).map V.int))) := same_new hDa
    have hL : (upd H1 a (.lst ((rs.map (keyOf b (lg b M))).map V.int))) a = some (.lst ((rs.map (keyOf b (lg b M))).map V.int)) := upd_same
    have q : ∀ H', Same (upd H1 a (.lst ((rs.map (keyOf b (lg b M))).map V.int))) H' → Q (.bl (dvZ b (rs.map (keyOf b (lg b M))))) H' := fun H' s3 => q0 _ ((s1.trans s2).trans s3)
    have hz : ∀ z ∈ rs.map (keyOf b (lg b M)), 1 ≤ z ∧ z < 2 ^ 200 := fun z hz => by
      obtain ⟨m, hm, rfl⟩ := List.mem_map.mp hz
      have k1 := key_pos (top := lg b M) hb (hrs m hm).1
      have k2 := (key_lt (top := lg b M) hb (hrs m hm).1 (lgle m hm)).2
      have k3 := (lg_spec hb (hrs M hM).1).1
      have k5 := (hrs M hM).2.1
      rw [Int.pow_succ] at k2
      have k4 := mul_lt2 (show b ^ lg b M < 2 ^ 64 by omega) hbB (by omega)
      refine ⟨k1, Int.lt_trans k2 (Int.lt_trans k4 ?_)⟩
      rw [← pow_add']
      exact pow_lt' (b := 2) (by decide) (by decide)
    have hne : rs.map (keyOf b (lg b M)) ≠ [] := fun z => by
      have e1 := congrArg List.length z
      rw [List.length_map, List.length_nil] at e1
      omega
    have hlen : (rs.map (keyOf b (lg b M))).length < 60 := by rw [List.length_map]; exact hlen0
    generalize upd H1 a (.lst ((rs.map (keyOf b (lg b M))).map V.int)) = H at *
    generalize rs.map (keyOf b (lg b M)) = zs at *
    clear hLr1 hT1 s1 s2 q0 hlo hmin
    obtain ⟨z0, zr, rfl⟩ : ∃ z0 zr, zs = z0 :: zr := by
      cases zs with
      | nil => exact absurd rfl hne
      | cons z r => exact ⟨z, r, rfl⟩
    obtain ⟨z1, z2⟩ := hz z0 (List.mem_cons_self ..)
    refine ⟨_, rfl, _, rfl, a, _, rfl, SqL.of hL, fun p hp => ?_⟩
    rw [cut_one]
    have nap : a ≠ p := ne_of_none hL hp
    refine ⟨_, rfl, _, rfl, a, _, _, _, rfl, rfl, SqL.of (by rw [upd_ne nap]; exact hL), atI_nat (j := 0) rfl, _, _, rfl, rfl, mulBig (by omega) (big_le (lt_big hbB (by decide))) (by omega) (big_le (lt_big z2 (by decide))), (by show 1 ≤ sizeLine; decide), fun p2 hp2 => ?_⟩
    have np : p ≠ p2 := fun z => by
      rw [← z, upd_same] at hp2
      cases hp2
    refine ⟨p, p2, _, _, rfl, rfl, by rw [upd_ne np, upd_same], upd_same, ?_, fun p3 hp3 => ?_⟩
    · rw [List.length_map]
      simp only [List.length_cons] at hlen
      exact Nat.le_of_lt (small1000 (by show zr.length + 1 ≤ 1000; omega))
    · have s1 : Same H (upd (upd H p (.lst (zr.map V.int))) p2 (.lst [.int (b * z0)])) := (same_new hp).trans (same_new hp2)
      have s3 : Same H _ := s1.trans (same_new (o := .lst (zr.map V.int ++ [V.int (b * z0)])) hp3)
      have eg : zr.map V.int ++ [V.int (b * z0)] = (zr ++ [b * z0]).map V.int := by rw [List.map_append]; rfl
      have lenE : ((z0 :: zr).map V.int).length = ((zr ++ [b * z0]).map V.int).length := by simp
      have minE : ((z0 :: zr).map V.int).length = min ((z0 :: zr).map V.int).length ((zr ++ [b * z0]).map V.int).length := by rw [← lenE]; simp
      have lz : ((z0 :: zr).map V.int).length = (z0 :: zr).length := List.length_map _
      refine ⟨_, rfl, _, rfl, a, p3, _, _, rfl, SqL.of (s3 _ _ hL), SqL.of upd_same, fun D hD => ?_⟩
      refine lc_it (walk_zip (K := K) (a := a) (b := p3) minE) (fun i H' => Same _ H' ∧ H' D = some (.lst ((((z0 :: zr).zip (zr ++ [b * z0])).take i).map fun p => V.bl (decide (p.2 % p.1 = 0))))) ⟨same_new hD, upd_same⟩ (fun i H' _ ⟨s5, _⟩ => ⟨SqL.of (s5 _ _ (s3 _ _ hL)), SqL.of (xs := (zr ++ [b * z0]).map V.int) (s5 _ _ (by rw [← eg]; exact upd_same))⟩) ?_ ?_
      · rintro i x H' H2 hi ⟨s5, hD2⟩ ⟨Tt, x1, y1, rfl, hT, rfl, hx, hy⟩
        obtain ⟨zi, hzi, rfl⟩ := map_get hx
        obtain ⟨gi, hgi, rfl⟩ := map_get hy
        obtain ⟨c1, c2⟩ := hz zi (List.mem_of_getElem? hzi)
        refine ⟨Tt, _, rfl, SqT.of upd_same, rfl, _, _, rfl, _, _, rfl, rfl, rfl, yes_of ?_⟩
        refine ⟨_, rfl, _, rfl, _, _, rfl, rfl, (by show 0 < zi; omega), rfl, ?_⟩
        have nDT : D ≠ Tt := ne_of_none hD2 hT
        have hpair : ((z0 :: zr).zip (zr ++ [b * z0]))[i]? = some (zi, gi) := by
          rw [List.getElem?_zip_eq_some]
          exact ⟨hzi, hgi⟩
        refine ⟨_, by rw [upd_ne nDT]; exact hD2, ?_, fun c o e => ?_, ?_⟩
        · rw [List.length_map, List.length_take]
          rw [lz] at hi
          exact small1000 (by omega)
        · have ncD : c ≠ D := ne_of_none e hD
          rw [upd_ne ncD, upd_ne (ne_of_none (s5 _ _ e) hT)]
          exact s5 _ _ e
        · rw [upd_same, List.take_add_one, hpair, List.map_append]
          have ed : decide (V.int (gi % zi) = V.int 0) = decide (gi % zi = 0) := by
            by_cases c : gi % zi = 0
            · rw [c]
              simp
            · rw [decide_eq_false c, decide_eq_false (fun z => c (V.int.inj z))]
          show some (HO.lst (_ ++ [V.bl (decide (V.int (gi % zi) = V.int 0))])) = _
          rw [ed]
          rfl
      · rintro H' ⟨s5, hD2⟩
        have lp : ((z0 :: zr).zip (zr ++ [b * z0])).length = ((z0 :: zr).map V.int).length := by simp
        rw [← lp, List.take_length] at hD2
        refine ⟨D, ((z0 :: zr).zip (zr ++ [b * z0])).map fun p => decide (p.2 % p.1 = 0), rfl, SqL.of (by rw [hD2, List.map_map]; rfl), ?_⟩
        exact q _ (s3.trans s5)
end
end Ax

namespace Ax
open PySem L2
/-! ### a rule's object -/
def rf1 (b : Int) : List (Str × V) := putF "_base" (.int b) []
def rf2 (b : Int) (k : Kd) : List (Str × V) := putF "_kind" (.str k.s) (rf1 b)
def rf3 (b : Int) (k : Kd) (lm : Addr) : List (Str × V) := putF "_mantissas" (.ref lm) (rf2 b k)
def rf4 (b : Int) (k : Kd) (lm : Addr) (most : Int) : List (Str × V) := putF "_most" (.int most) (rf3 b k lm)
def rf5 (b : Int) (k : Kd) (lm : Addr) (most : Int) (dv : Bool) : List (Str × V) := putF "_dividing" (.bl dv) (rf4 b k lm most)
def rf (b : Int) (k : Kd) (lm : Addr) (most : Int) (dv : Bool) (lr : Addr) : List (Str × V) := putF "_rungs" (.ref lr) (rf5 b k lm most dv)
section
variable (b : Int) (k : Kd) (lm lr : Addr) (most : Int) (dv : Bool)
theorem rf_lookup (f : Str) : (rf b k lm most dv lr).lookup f = if f = "_rungs" then some (.ref lr) else if f = "_dividing" then some (.bl dv) else if f = "_most" then some (.int most) else if f = "_mantissas" then some (.ref lm) else if f = "_kind" then some (.str k.s) else if f = "_base" then some (.int b) else none := by
  unfold rf rf5 rf4 rf3 rf2 rf1
  simp only [lookup_putF, List.lookup_nil]
theorem rf_rungs : (rf b k lm most dv lr).lookup ("_rungs" : Str) = some (.ref lr) := by rw [rf_lookup, if_pos rfl]
theorem rf_dividing : (rf b k lm most dv lr).lookup ("_dividing" : Str) = some (.bl dv) := by rw [rf_lookup, if_neg (by decide +kernel), if_pos rfl]
theorem rf_most : (rf b k lm most dv lr).lookup ("_most" : Str) = some (.int most) := by rw [rf_lookup, if_neg (by decide +kernel), if_neg (by decide +kernel), if_pos rfl]
theorem rf_mantissas : (rf b k lm most dv lr).lookup ("_mantissas" : Str) = some (.ref lm) := by rw [rf_lookup, if_neg (by decide +kernel), if_neg (by decide +kernel), if_neg (by decide +kernel), if_pos rfl]
theorem rf_kind : (rf b k lm most dv lr).lookup ("_kind" : Str) = some (.str k.s) := by rw [rf_lookup, if_neg (by decide +kernel), if_neg (by decide +kernel), if_neg (by decide +kernel), if_neg (by decide +kernel), if_pos rfl]
theorem rf_base : (rf b k lm most dv lr).lookup ("_base" : Str) = some (.int b) := by rw [rf_lookup, if_neg (by decide +kernel), if_neg (by decide +kernel), if_neg (by decide +kernel), if_neg (by decide +kernel), if_neg (by decide +kernel), if_pos rfl]
end
/-- a rule's own parts: its dict, its lists, what they hold -/
structure RD where
  dx : Addr
  lm : Addr
  lr : Addr
  ms' : List Int
  rs : List Int
  ts : List Addr
  top : Nat
  dv : Bool
structure RX (C : Addr) (H : Hp) (r : Addr) (b : Int) (k : Kd) (ms : List Int) (most : Int) (D : RD) : Prop where
  at_ : H r = some (.ins C D.dx (rf b k D.lm most D.dv D.lr))
  lm_ : H D.lm = some (.lst (D.ms'.map V.int))
  pm : D.ms'.Perm ms
  ps : D.ms'.Pairwise (· ≤ ·)
  lr_ : H D.lr = some (.lst (D.ts.map V.ref))
  tup : TupsAt H b D.rs D.ts
  pr : D.rs.Perm ms
  top_ : ∀ m ∈ ms, lg b m ≤ D.top
  st : D.rs.Pairwise (fun m n => keyOf b D.top m < keyOf b D.top n)
  dv_ : D.dv = dvZ b (D.rs.map (keyOf b D.top))
theorem RX.same {C : Addr} {H H' : Hp} {r : Addr} {b : Int} {k : Kd} {ms : List Int} {most : Int} {D : RD} (x : RX C H r b k ms most D) (s : Same H H') : RX C H' r b k ms most D :=
  ⟨s _ _ x.at_, s _ _ x.lm_, x.pm, x.ps, s _ _ x.lr_, x.tup.same fun c xs e => s _ _ e, x.pr, x.top_, x.st, x.dv_⟩
/-- a list apart may change -/
theorem RX.but {C : Addr} {H H' : Hp} {r p : Addr} {b : Int} {k : Kd} {ms : List Int} {most : Int} {D : RD} {xs : List V} (x : RX C H r b k ms most D) (hp : H p = some (.lst xs)) (n1 : D.lm ≠ p) (n2 : D.lr ≠ p) (s : ∀ c o, c ≠ p → H c = some o → H' c = some o) : RX C H' r b k ms most D :=
  ⟨s _ _ (ne_of x.at_ hp (by intro z; cases z)) x.at_, s _ _ n1 x.lm_, x.pm, x.ps, s _ _ n2 x.lr_, x.tup.same fun c xs e => s _ _ (ne_of e hp (by intro z; cases z)) e, x.pr, x.top_, x.st, x.dv_⟩
section
variable {P : Program} {w : World} {K : PySem.W.Frag} {mg : Str → Option Value} {base : Heap} {A : Adr}
/-- between the stores of __init__ -/
structure Mid (C : Addr) (H Hc : Hp) (r dx a lr : Addr) (b : Int) (ms rs : List Int) (ts : List Addr) (fs : List (Str × V)) : Prop where
  at_ : Hc r = some (.ins C dx fs)
  kp : ∀ c o, c ≠ r → H c = some o → Hc c = some o
  la : Hc a = some (.lst (ms.map V.int))
  ll : Hc lr = some (.lst (ts.map V.ref))
  tp : TupsAt Hc b rs ts
theorem Mid.same {C : Addr} {H Hc Hn : Hp} {r dx a lr : Addr} {b : Int} {ms rs : List Int} {ts : List Addr} {fs : List (Str × V)} (m : Mid C H Hc r dx a lr b ms rs ts fs) (s : Same Hc Hn) : Mid C H Hn r dx a lr b ms rs ts fs :=
  ⟨s _ _ m.at_, fun c o h e => s _ _ (m.kp c o h e), s _ _ m.la, s _ _ m.ll, m.tp.same fun c xs e => s _ _ e⟩
theorem Mid.fld {C : Addr} {H Hc : Hp} {r dx a lr : Addr} {b : Int} {ms rs : List Int} {ts : List Addr} {fs : List (Str × V)} (m : Mid C H Hc r dx a lr b ms rs ts fs) (gs : List (Str × V)) : Mid C H (upd Hc r (.ins C dx gs)) r dx a lr b ms rs ts gs := by
  have n1 : a ≠ r := ne_of m.la m.at_ (by intro z; cases z)
  have n2 : lr ≠ r := ne_of m.ll m.at_ (by intro z; cases z)
  refine ⟨upd_same, fun c o h e => by rw [upd_ne h]; exact m.kp c o h e, by rw [upd_ne n1]; exact m.la, by rw [upd_ne n2]; exact m.ll, m.tp.same fun c xs e => ?_⟩
  rw [upd_ne (ne_of e m.at_ (by intro z; cases z))]
  exact e
theorem Mid.fresh {C : Addr} {H Hc : Hp} {r dx a lr : Addr} {b : Int} {ms rs : List Int} {ts : List Addr} {fs : List (Str × V)} (m : Mid C H Hc r dx a lr b ms rs ts fs) {l : Addr} (h : Hc l = none) : H l = none := by
  have n := (ne_of_none m.at_ h).symm
  cases e : H l with
  | none => rfl
  | some o =>
    rw [m.kp l o n e] at h
    cases h
theorem fewF {fs : List (Str × V)} (h : fs.length ≤ 6) : fs.length < 1000 := by omega
theorem l1 (b : Int) : (rf1 b).length ≤ 1 := length_putF _ _ _
theorem l2 (b : Int) (k : Kd) : (rf2 b k).length ≤ 2 := Nat.le_trans (length_putF _ _ _) (Nat.succ_le_succ (l1 b))
theorem l3 (b : Int) (k : Kd) (lm : Addr) : (rf3 b k lm).length ≤ 3 := Nat.le_trans (length_putF _ _ _) (Nat.succ_le_succ (l2 b k))
theorem l4 (b : Int) (k : Kd) (lm : Addr) (most : Int) : (rf4 b k lm most).length ≤ 4 := Nat.le_trans (length_putF _ _ _) (Nat.succ_le_succ (l3 b k lm))
theorem l5 (b : Int) (k : Kd) (lm : Addr) (most : Int) (dv : Bool) : (rf5 b k lm most dv).length ≤ 5 := Nat.le_trans (length_putF _ _ _) (Nat.succ_le_succ (l4 b k lm most))
def spInit (A : Adr) : Sp := fun vs H Q _ => ∃ (r dx a : Addr) (b : Int) (k : Kd) (ms : List Int) (most : Int), vs = [.ref r, .int b, .str k.s, .ref a, .int most] ∧ H r = some (.ins A.c_Rule dx []) ∧ H a = some (.lst (ms.map V.int)) ∧ RArgs b k ms most ∧
  ∀ (H' : Hp) (D : RD), (∀ c o, c ≠ r → H c = some o → H' c = some o) → RX A.c_Rule H' r b k ms most D → H D.lm = none → H D.lr = none → Q .non H'
abbrev nm_Rule_init : List Str := ["self", "base", "kind", "mantissas", "most", "rungs"]
theorem sc_Rule_init : FnScope ["self", "base", "kind", "mantissas", "most", "rungs"] ["self", "base", "kind", "mantissas", "most"] (defScope s_Rule_init) := ⟨rfl, rfl, rfl, by decide +kernel, rfl, by decide +kernel, by decide +kernel⟩
theorem ok_init (T : Txt K mg A w) : FnOk P w K mg base CX0 4 A.a_Rule_init A.d_Rule_init ["self", "base", "kind", "mantissas", "most"] (spInit A) := by
  have G_arguments_fit : FnOk P w K mg base CX0 3 A.a_arguments_fit A.d_arguments_fit ["base", "kind", "mantissas", "most"] (spAF K) := ok_af T
  have G_rungs_of : FnOk P w K mg base CX0 2 A.a_rungs_of A.d_rungs_of ["base", "mantissas"] spRungs := ok_rungs T
  have G_is_dividing : FnOk P w K mg base CX0 2 A.a_is_dividing A.d_is_dividing ["base", "rungs"] spDiv := ok_div T
  refine T.F_Rule_init.ok sc_Rule_init (fun vs H Q E h => ?_) (fun cdv A0 outer s H vs Q E hr h => ?_)
  · obtain ⟨r, dx, a, b, k, ms, most, rfl, _⟩ := h
    rfl
  · obtain ⟨r, dx, a, b, k, ms, most, rfl, hR, hL, R, q⟩ := h
    refine ⟨_, (pss_cons (ps_if (pt_not (pt_val (pe_call G_arguments_fit (hr.mono (by decide)) (by rfl) T.m_arguments_fit T.F_arguments_fit.kp T.B_arguments_fit .nil pass0 (pa_cons (pv 1) (pa_cons (pv 2) (pa_cons (pv 3) (pa_cons (pv 4) pa_nil))))))) (pss_one ps_never) pss_nil)
  (pss_cons (ps_set (i := 5) sc_Rule_init.nd rfl (Or.inl rfl) (pe_call G_rungs_of (hr.mono (by decide)) (by rfl) T.m_rungs_of T.F_rungs_of.kp T.B_rungs_of .nil pass0 (pa_cons (pv 1) (pa_cons (pv 3) pa_nil))))
  (pss_cons (ps_fld (pv 0) (pv 1) rfl)
  (pss_cons (ps_fld (pv 0) (pv 2) rfl)
  (pss_cons (ps_fld (pv 0) (pe_callBK cr_sortInt (by rfl) T.n_sorted (by decide +kernel) (pa_cons (pv 3) pa_nil) (pk_cons (pe_bltn (v := .ty "int") (by rfl) T.n_int (by decide +kernel) rfl) pk_nil)) rfl)
  (pss_cons (ps_fld (pv 0) (pv 4) rfl)
  (pss_cons (ps_fld (pv 0) (pe_call G_is_dividing (hr.mono (by decide)) (by rfl) T.m_is_dividing T.F_is_dividing.kp T.B_is_dividing .nil pass0 (pa_cons (pv 1) (pa_cons (pv 5) pa_nil))) rfl)
  (pss_one (ps_fld (pv 0) (pv 5) rfl))))))))), ?_⟩
    refine ⟨_, rfl, _, rfl, _, rfl, _, rfl, b, k, ms, a, most, rfl, hL, R, fun H1 s1 => ?_⟩
    refine ⟨_, rfl, iteF ?_⟩
    refine ⟨_, rfl, _, rfl, k, b, most, ms, a, rfl, s1 _ _ hL, R, fun G0 lr rs ts M s2 hlr hM hmax hD hE pr st => ?_⟩
    have m0 : Mid A.c_Rule H G0 r dx a lr b ms rs ts [] :=
      ⟨s2 _ _ (s1 _ _ hR), fun c o _ e => s2 _ _ (s1 _ _ e), s2 _ _ (s1 _ _ hL), hD, hE⟩
    -- self._base = base; self._kind = kind
    refine ⟨_, rfl, _, rfl, r, A.c_Rule, dx, [], rfl, m0.at_, T.cl, T.na_base, (by decide), ?_⟩
    have m1 := m0.fld (rf1 b)
    refine ⟨_, rfl, _, rfl, r, A.c_Rule, dx, rf1 b, rfl, m1.at_, T.cl, T.na_kind, fewF (Nat.le_trans (l1 b) (by decide)), ?_⟩
    have m2 := m1.fld (rf2 b k)
    -- self._mantissas = sorted(mantissas, key=int)
    refine ⟨_, rfl, a, ms, rfl, rfl, SqL.of m2.la, (by have := R.le; omega), fun ms' lm hp3 hp4 hlm => ?_⟩
    have m2' := m2.same (same_new (o := .lst (ms'.map V.int)) hlm)
    have lm2 := upd_same (H := upd (upd G0 r (.ins A.c_Rule dx (rf1 b))) r (.ins A.c_Rule dx (rf2 b k))) (a := lm) (o := .lst (ms'.map V.int))
    refine ⟨_, rfl, r, A.c_Rule, dx, rf2 b k, rfl, m2'.at_, T.cl, T.na_mantissas, fewF (Nat.le_trans (l2 b k) (by decide)), ?_⟩
    have m3 := m2'.fld (rf3 b k lm)
    have nlr : lm ≠ r := ne_of lm2 m2'.at_ (by intro z; cases z)
    have lm3 := (upd_ne (o := .ins A.c_Rule dx (rf3 b k lm)) nlr).trans lm2
    -- self._most = most
    refine ⟨_, rfl, _, rfl, r, A.c_Rule, dx, rf3 b k lm, rfl, m3.at_, T.cl, T.na_most, fewF (Nat.le_trans (l3 b k lm) (by decide)), ?_⟩
    have m4 := m3.fld (rf4 b k lm most)
    have lm4 := (upd_ne (o := .ins A.c_Rule dx (rf4 b k lm most)) nlr).trans lm3
    -- self._dividing = _is_dividing(base, rungs)
    have lgle : ∀ m ∈ ms, lg b m ≤ lg b M := fun m hm => lg_mono R.b2 (R.all m hm).1 (hmax m hm)
    have rlen : rs.length < 60 := by rw [pr.length_eq]; exact R.le
    refine ⟨_, rfl, _, rfl, b, M, rs, ts, lr, rfl, m4.ll, m4.tp, R.b2, R.bB, pr.mem_iff.mpr hM, rlen, fun m hm => ⟨(R.all m (pr.mem_iff.mp hm)).1, (R.all m (pr.mem_iff.mp hm)).2.1, hmax m (pr.mem_iff.mp hm)⟩, fun H5 s5 => ?_⟩
    have m4' := m4.same s5
    have lm4' := s5 _ _ lm4
    generalize hdv : dvZ b (rs.map (keyOf b (lg b M))) = dv
    refine ⟨_, rfl, r, A.c_Rule, dx, rf4 b k lm most, rfl, m4'.at_, T.cl, T.na_dividing, fewF (Nat.le_trans (l4 b k lm most) (by decide)), ?_⟩
    have m5 := m4'.fld (rf5 b k lm most dv)
    have lm5 := (upd_ne (o := .ins A.c_Rule dx (rf5 b k lm most dv)) nlr).trans lm4'
    -- self._rungs = rungs
    refine ⟨_, rfl, _, rfl, r, A.c_Rule, dx, rf5 b k lm most dv, rfl, m5.at_, T.cl, T.na_rungs, fewF (Nat.le_trans (l5 b k lm most dv) (by decide)), ?_⟩
    have m6 := m5.fld (rf b k lm most dv lr)
    refine q _ ⟨dx, lm, lr, ms', rs, ts, lg b M, dv⟩ m6.kp ⟨m6.at_, ?_, hp3, hp4, m6.ll, m6.tp, pr, lgle, st, hdv.symm⟩ (m2.fresh hlm) (s1.free hlr)
    rw [upd_ne nlr]
    exact lm5
end
end Ax

namespace Ax
open PySem L2
section
variable {P : Program} {w : World} {K : PySem.W.Frag} {mg : Str → Option Value} {base : Heap} {A : Adr}
theorem RX.rungs {C : Addr} {H : Hp} {r : Addr} {b : Int} {k : Kd} {ms : List Int} {most : Int} {D : RD} (x : RX C H r b k ms most D) (R : RArgs b k ms most) : Rungs b D.rs D.top :=
  ⟨R.b2, by rw [x.pr.length_eq]; exact List.length_pos_iff.mpr R.ne, fun m hm => (R.all m (x.pr.mem_iff.mp hm)).1, fun m hm => x.top_ m (x.pr.mem_iff.mp hm), x.st⟩
theorem RX.len {C : Addr} {H : Hp} {r : Addr} {b : Int} {k : Kd} {ms : List Int} {most : Int} {D : RD} (x : RX C H r b k ms most D) : (D.ts.map V.ref).length = D.rs.length := by
  rw [List.length_map, x.tup.len]
/-! ### step_at -/
def spAt (A : Adr) : Sp := fun vs H Q _ => ∃ (r : Addr) (i : Int) (b : Int) (k : Kd) (ms : List Int) (most : Int) (D : RD), vs = [.ref D.lr, .int i] ∧ RX A.c_Rule H r b k ms most D ∧ RArgs b k ms most ∧
  ∀ (H' : Hp) (q : Addr), Same H H' → H q = none → H' q = some (.tup [.int (sAt b D.rs i).1, .int (sAt b D.rs i).2]) → Q (.ref q) H'
abbrev nm_step_at : List Str := ["rungs", "number", "power", "place", "mantissa", "shift"]
theorem sc_step_at : FnScope ["rungs", "number", "power", "place", "mantissa", "shift"] ["rungs", "number"] (defScope s_step_at) := ⟨rfl, rfl, rfl, by decide +kernel, rfl, by decide +kernel, by decide +kernel⟩
theorem ok_step_at (T : Txt K mg A w) : FnOk P w K mg base CX0 1 A.a_step_at A.d_step_at ["rungs", "number"] (spAt A) := by
  refine T.F_step_at.ok sc_step_at (fun vs H Q E h => ?_) (fun cdv A0 outer s H vs Q E hr h => ?_)
  · obtain ⟨r, i, b, k, ms, most, D, rfl, _⟩ := h
    rfl
  · obtain ⟨r, i, b, k, ms, most, D, rfl, x, R, q⟩ := h
    have X := x.rungs R
    have hn : 0 < (D.rs.length : Int) := by have := X.ne; omega
    have hl : ((D.ts.map V.ref).length : Int) = D.rs.length := by rw [x.len]
    have lrs : D.rs.length < 60 := by rw [x.pr.length_eq]; exact R.le
    refine ⟨_, (pss_cons (ps_asg (pe_callB call_divmodW (by rfl) T.n_divmod (by decide +kernel) (pa_cons (pv 1) (pa_cons (pe_callB call_len_seq (by rfl) T.n_len (by decide +kernel) (pa_cons (pv 0) pa_nil)) pa_nil))) (pg_tup (by rfl) (pgs_cons (pg_name (i := 2) sc_step_at.nd rfl (Or.inl rfl)) (pgs_cons (pg_name (i := 3) sc_step_at.nd rfl (Or.inl rfl)) pgs_nil))))
  (pss_cons (ps_asg (pe_ix ix_list (pv 0) (pv 3) (fun _ _ => rfl)) (pg_tup (by rfl) (pgs_cons (pg_name (i := 4) sc_step_at.nd rfl (Or.inl rfl)) (pgs_cons (pg_name (i := 5) sc_step_at.nd rfl (Or.inl rfl)) pgs_nil))))
  (pss_one (ps_ret (pe_tup (pa_cons (pv 4) (pa_cons (pe_op op_add (pv 2) (pv 5)) pa_nil))))))), ?_⟩
    refine ⟨_, rfl, _, rfl, D.lr, _, rfl, .inl (SqL.of x.lr_), i, _, rfl, ⟨by omega, PyProof.noPylong_of_log2 ?_⟩, fun q1 hq1 => ?_⟩
    · rw [hl, Int.natAbs_natCast]
      exact Nat.lt_of_le_of_lt (Nat.log2_le_self _) (by omega)
    refine ⟨q1, _, rfl, SqT.of upd_same, rfl, _, _, rfl, _, _, rfl, rfl, ?_⟩
    have s1 : Same H (upd H q1 (.tup [.int (i / ((D.ts.map V.ref).length : Nat)), .int (i % ((D.ts.map V.ref).length : Nat))])) := same_new hq1
    have x1 := x.same s1
    have f1 := Int.emod_nonneg i (show (D.rs.length : Int) ≠ 0 by omega)
    have f2 := Int.emod_lt_of_pos i hn
    have lt : (i % D.rs.length).toNat < D.rs.length := by omega
    have eg : D.rs[(i % D.rs.length).toNat]? = some (sAt b D.rs i).1 := by
      show _ = some (D.rs.getD (i % D.rs.length).toNat 1)
      rw [List.getD_eq_getElem?_getD, List.getElem?_eq_getElem lt]
      rfl
    obtain ⟨t, ht, htup⟩ := x1.tup.get eg
    have hat : atI (D.ts.map V.ref) (i % ((D.ts.map V.ref).length : Nat)) = some (.ref t) := by
      refine at_of (j := (i % D.rs.length).toNat) (by rw [hl]; omega) ?_
      rw [List.getElem?_map, ht]
      rfl
    refine ⟨_, rfl, _, rfl, D.lr, _, _, _, rfl, rfl, SqL.of x1.lr_, hat, ?_⟩
    refine ⟨t, _, rfl, SqT.of htup, rfl, _, _, rfl, _, _, rfl, rfl, ?_⟩
    refine ⟨_, rfl, _, rfl, _, rfl, _, _, rfl, rfl, (by show 2 ≤ sizeLine; decide), fun q2 hq2 => ?_⟩
    refine q _ q2 (s1.trans (same_new hq2)) (s1.free hq2) ?_
    rw [upd_same, hl]
    rfl
/-! ### low_rung -/
def spLow (A : Adr) : Sp := fun vs H Q _ => ∃ (r : Addr) (l h d : Int) (b : Int) (k : Kd) (ms : List Int) (most : Int) (D : RD), vs = [.int b, .ref D.lr, .int most, .int (h - l), .int d] ∧ RX A.c_Rule H r b k ms most D ∧ RArgs b k ms most ∧ l < h ∧ h - l < 2 ^ 1000 ∧ 0 ≤ d ∧ d < 2 ^ 20 ∧
  ∀ H' : Hp, Same H H' → Q (.int (lowQ b most l h d * D.rs.length)) H'
abbrev nm_low_rung : List Str := ["base", "rungs", "most", "length", "digits", "spare"]
theorem sc_low_rung : FnScope ["base", "rungs", "most", "length", "digits", "spare"] ["base", "rungs", "most", "length", "digits"] (defScope s_low_rung) := ⟨rfl, rfl, rfl, by decide +kernel, rfl, by decide +kernel, by decide +kernel⟩
theorem ok_low (T : Txt K mg A w) : FnOk P w K mg base CX0 2 A.a_low_rung A.d_low_rung ["base", "rungs", "most", "length", "digits"] (spLow A) := by
  have G_log_of : FnOk P w K mg base CX0 1 A.a_log_of A.d_log_of ["base", "number"] spLog := ok_log_of T
  refine T.F_low_rung.ok sc_low_rung (fun vs H Q E h => ?_) (fun cdv A0 outer s H vs Q E hr h => ?_)
  · obtain ⟨r, l, h, d, b, k, ms, most, D, rfl, _⟩ := h
    rfl
  · obtain ⟨r, l, h, d, b, k, ms, most, D, rfl, x, R, hlt, hB, hd, hdB, q⟩ := h
    have X := x.rungs R
    have lrs : D.rs.length < 60 := by rw [x.pr.length_eq]; exact R.le
    refine ⟨_, (pss_cons (ps_set (i := 5) sc_low_rung.nd rfl (Or.inl rfl) (pe_op op_add (pe_call G_log_of (hr.mono (by decide)) (by rfl) T.m_log_of T.F_log_of.kp T.B_log_of .nil pass0 (pa_cons (pv 0) (pa_cons (pe_op op_add (pv 2) pe_int) pa_nil))) pe_int))
  (pss_one (ps_ret (pe_op op_mulW (pe_op op_sub (pe_op op_sub (pe_call G_log_of (hr.mono (by decide)) (by rfl) T.m_log_of T.F_log_of.kp T.B_log_of .nil pass0 (pa_cons (pv 0) (pa_cons (pv 3) pa_nil))) (pv 4)) (pv 5)) (pe_callB call_len_seq (by rfl) T.n_len (by decide +kernel) (pa_cons (pv 1) pa_nil)))))), ?_⟩
    have mB := R.mB
    have m1 := R.m1
    have m61 : most + 1 < 2 ^ 61 := by
      have : (2 : Int) ^ 60 + 1 ≤ 2 ^ 61 := by decide
      omega
    refine ⟨_, rfl, _, rfl, _, _, rfl, rfl,
      b, most + 1, rfl, R.b2, lt_big R.bB (by decide), by omega, lt_big (n := 61) m61 (by decide), fun E1 H1 s1 g1 g2 => ?_⟩
    obtain rfl := lg_eq R.b2 (by omega) g1 g2
    refine ⟨_, _, rfl, rfl, ?_⟩
    have x1 := x.same s1
    refine ⟨_, rfl, _, rfl, b, h - l, rfl, R.b2, lt_big R.bB (by decide), by omega, lt_big (n := 1000) hB (by decide), fun E2 H2 s2 g3 g4 => ?_⟩
    obtain rfl := lg_eq R.b2 (by omega) g3 g4
    have x2 := x1.same s2
    refine ⟨_, rfl, _, _, rfl, rfl, _, rfl, _, _, rfl, rfl, ?_⟩
    refine ⟨_, rfl, D.lr, _, rfl, .inl (SqL.of x2.lr_), _, _, rfl, rfl, ?_, ?_⟩
    · have e1 := exp_lt R.b2 (Int.lt_of_le_of_lt g3 hB)
      have e2 := exp_lt (n := 61) R.b2 (Int.lt_of_le_of_lt g1 m61)
      refine wide_mul (a := 30) (b := 30) ?_ ?_ (by decide) (by decide) (by decide)
      · have : (2 : Nat) ^ 30 = 1073741824 := by decide
        have : (2 : Int) ^ 20 = 1048576 := by decide
        omega
      · rw [x.len, Int.natAbs_natCast]
        have : (2 : Nat) ^ 30 = 1073741824 := by decide
        omega
    · have e := q H2 (s1.trans s2)
      rw [x.len]
      exact e
end
end Ax

namespace Ax
open PySem L2
section
variable {P : Program} {w : World} {K : PySem.W.Frag} {mg : Str → Option Value} {base : Heap} {A : Adr}
/-! ### _fits -/
def spFits (A : Adr) : Sp := fun vs H Q _ => ∃ (r t sp : Addr) (m p l h d : Int) (b : Int) (k : Kd) (ms : List Int) (most : Int) (D : RD), vs = [.ref r, .ref t, .ref sp] ∧ RX A.c_Rule H r b k ms most D ∧ RArgs b k ms most ∧
  H t = some (.tup [.int m, .int p]) ∧ H sp = some (.tup [.int l, .int h, .int d]) ∧ 1 ≤ m ∧ m < 2 ^ 64 ∧ b ^ (p + d).natAbs < 2 ^ 2000 ∧ l.natAbs < 2 ^ 1500 ∧ h.natAbs < 2 ^ 1500 ∧
  ∀ H' : Hp, Same H H' → Q (.bl (decide (FitE b k most l h m (p + d)))) H'
abbrev nm_Rule__fits : List Str := ["self", "step", "span", "low", "high", "digits", "factor", "size"]
theorem sc_Rule__fits : FnScope ["self", "step", "span", "low", "high", "digits", "factor", "size"] ["self", "step", "span"] (defScope s_Rule__fits) := ⟨rfl, rfl, rfl, by decide +kernel, rfl, by decide +kernel, by decide +kernel⟩
theorem ok_fits (T : Txt K mg A w) : FnOk P w K mg base CX0 3 A.a_Rule__fits A.d_Rule__fits ["self", "step", "span"] (spFits A) := by
  have G_measure : FnOk P w K mg base CX0 2 A.a_measure A.d_measure ["base", "step", "digits"] (spMeasure K) := ok_measure T
  have G_reach : FnOk P w K mg base CX0 1 A.a_reach A.d_reach ["kind", "most", "low", "size"] spReach := ok_reach T
  refine T.F_Rule__fits.ok sc_Rule__fits (fun vs H Q E h => ?_) (fun cdv A0 outer s H vs Q E hr h => ?_)
  · obtain ⟨r, t, sp, m, p, l, h, d, b, k, ms, most, D, rfl, _⟩ := h
    rfl
  · obtain ⟨r, t, sp, m, p, l, h, d, b, k, ms, most, D, rfl, x, R, ht, hsp, m1, mB, eB, lB, hB, q⟩ := h
    have b1 : 1 ≤ b := by have := R.b2; omega
    obtain ⟨f1, f2⟩ := fac_bound b1 eB
    obtain ⟨z1, z2⟩ := siz_bound b1 m1 mB eB
    have fN : (facZ b (p + d)).natAbs < 2 ^ 2000 := abs_lt_pow (by omega) f2
    have lf : (l * facZ b (p + d)).natAbs < 2 ^ 3500 := wide_lt lB fN
    have lf2 : (((l * facZ b (p + d)).natAbs : Nat) : Int) < 2 ^ 3500 := by
      have := Int.ofNat_lt.mpr lf
      rwa [Int.natCast_pow] at this
    have lf3 : (2 : Int) ^ 3500 < BIG := pow_lt' (b := 2) (by decide) (by decide)
    refine ⟨_, (pss_cons (ps_asg (pv 2) (pg_tup (by rfl) (pgs_cons (pg_name (i := 3) sc_Rule__fits.nd rfl (Or.inl rfl)) (pgs_cons (pg_name (i := 4) sc_Rule__fits.nd rfl (Or.inl rfl)) (pgs_cons (pg_name (i := 5) sc_Rule__fits.nd rfl (Or.inl rfl)) pgs_nil)))))
  (pss_cons (ps_asg (pe_call G_measure (hr.mono (by decide)) (by rfl) T.m_measure T.F_measure.kp T.B_measure .nil pass0 (pa_cons (pe_fld (pv 0) rfl) (pa_cons (pv 1) (pa_cons (pv 5) pa_nil)))) (pg_tup (by rfl) (pgs_cons (pg_name (i := 6) sc_Rule__fits.nd rfl (Or.inl rfl)) (pgs_cons (pg_name (i := 7) sc_Rule__fits.nd rfl (Or.inl rfl)) pgs_nil))))
  (pss_one (ps_ret (pe_cmpR op_le (pe_op op_mulW (pv 4) (pv 6)) (pe_call G_reach (hr.mono (by decide)) (by rfl) T.m_reach T.F_reach.kp T.B_reach .nil pass0 (pa_cons (pe_fld (pv 0) rfl) (pa_cons (pe_fld (pv 0) rfl) (pa_cons (pe_op op_mulW (pv 3) (pv 6)) (pa_cons (pv 7) pa_nil))))) (nomark _)))))), ?_⟩
    refine ⟨_, rfl, sp, _, rfl, SqT.of hsp, rfl, _, _, rfl, _, _, rfl, _, _, rfl, rfl, ?_⟩
    refine ⟨_, rfl, r, A.c_Rule, D.dx, _, _, rfl, x.at_, T.cl, T.na_base, rf_base _ _ _ _ _ _, _, rfl, _, rfl, b, m, p, d, t, rfl, SqT.of ht, b1, lt_big R.bB (by decide), lt_big (n := 2000) eB (by decide), by omega, lt_big mB (by decide), ?_⟩
    rintro H1 q1 s1 hq1 rfl
    refine ⟨q1, _, rfl, SqT.of upd_same, rfl, _, _, rfl, _, _, rfl, rfl, ?_⟩
    have x1 := x.same s1
    refine ⟨_, rfl, _, rfl, _, _, rfl, rfl, wide_mul hB fN (by decide) (by decide) (by decide), ?_⟩
    refine ⟨_, rfl, r, A.c_Rule, D.dx, _, _, rfl, x1.at_, T.cl, T.na_kind, rf_kind _ _ _ _ _ _, _, rfl, r, A.c_Rule, D.dx, _, _, rfl, x1.at_, T.cl, T.na_most, rf_most _ _ _ _ _ _, _, rfl, _, rfl, _, _, rfl, rfl, wide_mul lB fN (by decide) (by decide) (by decide), _, rfl, ?_⟩
    refine ⟨k, most, l * facZ b (p + d), sizZ b m (p + d), rfl, z1, lt_big (n := 2064) z2 (by decide), by omega, by omega, by have := R.m1; omega, lt_big R.mB (by decide), ?_⟩
    exact ⟨_, _, rfl, rfl, q _ s1⟩
/-! ### step -/
/-- the ranges that are asked -/
structure Rng (l h d : Int) : Prop where
  lt : l < h
  len : h - l < 2 ^ 1000
  lo : l.natAbs < 2 ^ 1500
  hi : h.natAbs < 2 ^ 1500
  d0 : 0 ≤ d
  dB : d < 2 ^ 20
def spStep (A : Adr) : Sp := fun vs H Q _ => ∃ (r sp : Addr) (l h d : Int) (b : Int) (k : Kd) (ms : List Int) (most : Int) (D : RD), vs = [.ref r, .ref sp] ∧ RX A.c_Rule H r b k ms most D ∧ RArgs b k ms most ∧
  H sp = some (.tup [.int l, .int h, .int d]) ∧ Rng l h d ∧
  ∀ (H' : Hp) (q : Addr) (m p : Int), Same H H' → H q = none → H' q = some (.tup [.int m, .int p]) → LeastFit b ms k most l h d m p → b ^ (p + d).natAbs < 2 ^ 2000 → (lg b (h - l) : Int) - (lg b (most + 1) + 1) ≤ p + d + lg b m → Q (.ref q) H'
abbrev nm_Rule_step : List Str := ["self", "span", "low", "high", "digits", "number"]
theorem sc_Rule_step : FnScope ["self", "span", "low", "high", "digits", "number"] ["self", "span"] (defScope s_Rule_step) := ⟨rfl, rfl, rfl, by decide +kernel, rfl, by decide +kernel, by decide +kernel⟩
theorem ok_step (T : Txt K mg A w) : FnOk P w K mg base CX0 4 A.a_Rule_step A.d_Rule_step ["self", "span"] (spStep A) := by
  have G_is_span : FnOk P w K mg base CX0 2 A.a_is_span A.d_is_span ["value"] spSpan := ok_is_span T
  have G_low_rung : FnOk P w K mg base CX0 2 A.a_low_rung A.d_low_rung ["base", "rungs", "most", "length", "digits"] (spLow A) := ok_low T
  have G_step_at : FnOk P w K mg base CX0 1 A.a_step_at A.d_step_at ["rungs", "number"] (spAt A) := ok_step_at T
  have G_Rule__fits : FnOk P w K mg base CX0 3 A.a_Rule__fits A.d_Rule__fits ["self", "step", "span"] (spFits A) := ok_fits T
  refine T.F_Rule_step.ok sc_Rule_step (fun vs H Q E h => ?_) (fun cdv A0 outer s H vs Q E hr h => ?_)
  · obtain ⟨r, sp, l, h, d, b, k, ms, most, D, rfl, _⟩ := h
    rfl
  · obtain ⟨r, sp, l, h, d, b, k, ms, most, D, rfl, x, R, hsp, G, q⟩ := h
    have X := x.rungs R
    have rB : ∀ m ∈ D.rs, m < 2 ^ 64 := fun m hm => (R.all m (x.pr.mem_iff.mp hm)).2.1
    have noF : (rf b k D.lm most D.dv D.lr).lookup ("_fits" : Str) = none := by
      rw [rf_lookup, if_neg (by decide +kernel), if_neg (by decide +kernel), if_neg (by decide +kernel), if_neg (by decide +kernel), if_neg (by decide +kernel), if_neg (by decide +kernel)]
    refine ⟨_, (pss_cons (ps_if (pt_not (pt_val (pe_call G_is_span (hr.mono (by decide)) (by rfl) T.m_is_span T.F_is_span.kp T.B_is_span .nil pass0 (pa_cons (pv 1) pa_nil)))) (pss_one ps_never) pss_nil)
  (pss_cons (ps_asg (pv 1) (pg_tup (by rfl) (pgs_cons (pg_name (i := 2) sc_Rule_step.nd rfl (Or.inl rfl)) (pgs_cons (pg_name (i := 3) sc_Rule_step.nd rfl (Or.inl rfl)) (pgs_cons (pg_name (i := 4) sc_Rule_step.nd rfl (Or.inl rfl)) pgs_nil)))))
  (pss_cons (ps_set (i := 5) sc_Rule_step.nd rfl (Or.inl rfl) (pe_call G_low_rung (hr.mono (by decide)) (by rfl) T.m_low_rung T.F_low_rung.kp T.B_low_rung .nil pass0 (pa_cons (pe_fld (pv 0) rfl) (pa_cons (pe_fld (pv 0) rfl) (pa_cons (pe_fld (pv 0) rfl) (pa_cons (pe_op op_sub (pv 3) (pv 2)) (pa_cons (pv 4) pa_nil)))))))
  (pss_cons (ps_while PassesOwn.never (pt_not (pt_val (pe_meth (pv 0) T.cl T.t_Rule__fits G_Rule__fits (hr.mono (by decide)) T.B_Rule__fits .nil pass0 (pa_cons (pe_call G_step_at (hr.mono (by decide)) (by rfl) T.m_step_at T.F_step_at.kp T.B_step_at .nil pass0 (pa_cons (pe_fld (pv 0) rfl) (pa_cons (pv 5) pa_nil))) (pa_cons (pv 1) pa_nil)))))
  (pss_one (ps_set (i := 5) sc_Rule_step.nd rfl (Or.inl rfl) (pe_op op_add (pv 5) pe_int))))
  (pss_one (ps_ret (pe_call G_step_at (hr.mono (by decide)) (by rfl) T.m_step_at T.F_step_at.kp T.B_step_at .nil pass0 (pa_cons (pe_fld (pv 0) rfl) (pa_cons (pv 5) pa_nil))))))))), ?_⟩
    refine ⟨_, rfl, sp, l, h, d, rfl, hsp, G.lt, G.d0, fun H1 s1 => ⟨_, rfl, ?_⟩⟩
    refine iteF ?_
    have x1 := x.same s1
    refine ⟨_, rfl, sp, _, rfl, SqT.of (s1 _ _ hsp), rfl, _, _, rfl, _, _, rfl, _, _, rfl, rfl, ?_⟩
    refine ⟨_, rfl, r, A.c_Rule, D.dx, _, _, rfl, x1.at_, T.cl, T.na_base, rf_base _ _ _ _ _ _, _, rfl, r, A.c_Rule, D.dx, _, _, rfl, x1.at_, T.cl, T.na_rungs, rf_rungs _ _ _ _ _ _, _, rfl, r, A.c_Rule, D.dx, _, _, rfl, x1.at_, T.cl, T.na_most, rf_most _ _ _ _ _ _, _, rfl, _, rfl, _, _, rfl, rfl, _, rfl, r, l, h, d, b, k, ms, most, D, rfl, x1, R, G.lt, G.len, G.d0, G.dB, fun H2 s2 => ?_⟩
    have x2 := x1.same s2
    have s02 : Same H H2 := s1.trans s2
    have hR := fit_high (k := k) X G.lt R.m1 R.mC (Int.le_refl ((lg b (h - l) - d + 1) * D.rs.length)) (d := d)
    have hn : 0 < (D.rs.length : Int) := by have := X.ne; omega
    refine ⟨fun m σ H' => ∃ (i : Int), σ = [some (.ref r), some (.ref sp), some (.int l), some (.int h), some (.int d), some (.int i)] ∧ Same H H' ∧
        lowQ b most l h d * D.rs.length ≤ i ∧ i ≤ (lg b (h - l) - d + 1) * D.rs.length ∧ (∀ j, lowQ b most l h d * D.rs.length ≤ j → j < i → ¬ FitI b D.rs k most l h d j) ∧ m = ((lg b (h - l) - d + 1) * D.rs.length - i).toNat,
      ⟨_, lowQ b most l h d * D.rs.length, rfl, s02, Int.le_refl _, Int.mul_le_mul_of_nonneg_right (by unfold lowQ; omega) (by omega), fun j h1 h2 => by omega, rfl⟩, ?_⟩
    rintro m σ H' ⟨i, rfl, s4, i1, i2, i3, rfl⟩
    have x4 := x.same s4
    have eB := exp_bound X R.bB G.lt G.len R.m1 R.mB rB i1 i2
    -- self._fits(step_at(self._rungs, number), span)
    refine ⟨_, rfl, r, D.dx, _, rfl, x4.at_, noF, _, rfl, r, A.c_Rule, D.dx, _, _, rfl, x4.at_, T.cl, T.na_rungs, rf_rungs _ _ _ _ _ _, _, rfl, r, i, b, k, ms, most, D, rfl, x4, R, fun H3 t s3 ht0 ht => ?_⟩
    have x5 := x4.same s3
    have s43 := s4.trans s3
    refine ⟨_, rfl, r, t, sp, _, _, l, h, d, b, k, ms, most, D, rfl, x5, R, ht, s43 _ _ hsp, X.pos _ (X.mem i), rB _ (X.mem i), eB, G.lo, G.hi, fun H5 s5 => ⟨_, rfl, ?_⟩⟩
    have s05 := s43.trans s5
    have x6 := x.same s05
    by_cases c : FitE b k most l h (sAt b D.rs i).1 ((sAt b D.rs i).2 + d)
    · rw [decide_eq_true c]
      refine iteF ⟨_, rfl, r, A.c_Rule, D.dx, _, _, rfl, x6.at_, T.cl, T.na_rungs, rf_rungs _ _ _ _ _ _, _, rfl, r, i, b, k, ms, most, D, rfl, x6, R, fun H7 t7 s7 ht7 e7 => ?_⟩
      refine q H7 t7 _ _ (s05.trans s7) (s05.free ht7) e7 (least_of X G.lt R.m1 x.pr c i3) eB ?_
      have q1 : lowQ b most l h d ≤ i / D.rs.length := (Int.le_ediv_iff_mul_le hn).mpr i1
      unfold lowQ at q1
      show (lg b (h - l) : Int) - (lg b (most + 1) + 1) ≤ (i / D.rs.length - lg b (sAt b D.rs i).1) + d + lg b (sAt b D.rs i).1
      omega
    · rw [decide_eq_false c]
      have ilt : i < (lg b (h - l) - d + 1) * D.rs.length := by
        rcases Int.lt_or_eq_of_le i2 with z | z
        · exact z
        · rw [z] at c
          exact absurd hR c
      refine iteT ⟨fun σ' H6 => σ' = [some (.ref r), some (.ref sp), some (.int l), some (.int h), some (.int d), some (.int (i + 1))] ∧ Same H H6, ?_, ?_⟩
      · rintro σ' H6 ⟨rfl, s6⟩
        refine ⟨((lg b (h - l) - d + 1) * D.rs.length - (i + 1)).toNat, by omega, i + 1, rfl, s6, by omega, by omega, fun j h1 h2 => ?_, rfl⟩
        by_cases e : j = i
        · rw [e]
          exact c
        · exact i3 j h1 (by omega)
      · exact ⟨_, rfl, _, _, rfl, rfl, rfl, s05⟩
end
end Ax

namespace L2
open PySem PySem.Spec PyProof.Rows
/-- a power that is not too great -/
def CPowX (i j : Int) : Prop := 0 ≤ j ∧ (Builtin.Int.intBits i : Int) * j ≤ 2 ^ 27
theorem op_powX {X : Cx} : OpR X (binaryOp .Pow) (rI CPowX fun i j => .int (i ^ j.toNat)) := opI fun _ _ _ _ _ _ _ hc q => pow_int hc.1 hc.2 q
end L2
namespace Ax
open PySem L2
section
variable {P : Program} {w : World} {K : PySem.W.Frag} {mg : Str → Option Value} {base : Heap} {A : Adr}
/-! ### the purse of draws -/
abbrev PM : Int := (10 ^ (40 : Int).toNat) ^ (10 : Int).toNat
/-- a purse that at most t draws have been taken from -/
def Purse (H : Hp) (p : Addr) (t : Nat) : Prop := ∃ a c u : Int, H p = some (.lst [.int a, .int c, .int u]) ∧ 0 ≤ a ∧ a < PM ∧ 0 ≤ c ∧ c < 2 ^ 31 ∧ 0 ≤ u ∧ u ≤ t
/-- all but the purse is kept -/
def Kp (p : Addr) (H H' : Hp) : Prop := ∀ c o, c ≠ p → H c = some o → H' c = some o
theorem Kp.refl (p : Addr) (H : Hp) : Kp p H H := fun _ _ _ e => e
theorem Kp.trans {p : Addr} {H H1 H2 : Hp} (a : Kp p H H1) (b : Kp p H1 H2) : Kp p H H2 := fun c o h e => b c o h (a c o h e)
theorem Same.kp {H H' : Hp} (s : Same H H') (p : Addr) : Kp p H H' := fun c o _ e => s c o e
theorem Purse.same {H H' : Hp} {p : Addr} {t : Nat} (x : Purse H p t) (s : Same H H') : Purse H' p t := by
  obtain ⟨a, c, u, h, r⟩ := x
  exact ⟨a, c, u, s _ _ h, r⟩
theorem Purse.le {H : Hp} {p : Addr} {t t' : Nat} (x : Purse H p t) (h : t ≤ t') : Purse H p t' := by
  obtain ⟨a, c, u, h1, h2, h3, h4, h5, h6, h7⟩ := x
  exact ⟨a, c, u, h1, h2, h3, h4, h5, h6, by omega⟩
theorem Purse.some {H : Hp} {p : Addr} {t : Nat} (x : Purse H p t) : ∃ xs, H p = some (.lst xs) := by
  obtain ⟨a, c, u, h, _⟩ := x
  exact ⟨_, h⟩
theorem Purse.ne {H : Hp} {p l : Addr} {t : Nat} (x : Purse H p t) (h : H l = none) : l ≠ p := by
  obtain ⟨xs, e⟩ := x.some
  exact (ne_of_none e h).symm
/-- what was free before is free, behind an all-but-the-purse step -/
theorem Kp.free {p : Addr} {H H' : Hp} {l : Addr} {t' : Nat} (k : Kp p H H') (y : Purse H' p t') (h : H' l = none) : H l = none := by
  have n := y.ne h
  cases e : H l with
  | none => rfl
  | some o =>
    rw [k l o n e] at h
    cases h
theorem PM_lt : PM < 2 ^ 1400 := by
  show ((10 : Int) ^ 40) ^ 10 < 2 ^ 1400
  decide +kernel
def spPurse (K : PySem.W.Frag) : Sp := fun vs H Q _ => ∃ (s : Addr) (ns : List Int) (i : Nat), vs = [.ref s, .int i] ∧ SqL K H s (ns.map V.int) ∧ ns.length ≤ 63 ∧ ∀ (H' : Hp) (p : Addr), Same H H' → H p = none → Purse H' p 0 → Q (.ref p) H'
abbrev nm_law_purse : List Str := ["_law_script", "_law_at", "_law_cell"]
theorem sc_law_purse : FnScope ["_law_script", "_law_at", "_law_cell"] ["_law_script", "_law_at"] (defScope s_law_purse) := ⟨rfl, rfl, rfl, by decide +kernel, rfl, by decide +kernel, by decide +kernel⟩
theorem ok_purse (T : Txt K mg A w) : FnOk P w K mg base CX0 1 A.a_law_purse A.d_law_purse ["_law_script", "_law_at"] (spPurse K) := by
  refine T.F_law_purse.ok sc_law_purse (fun vs H Q E h => ?_) (fun cdv A0 outer s H vs Q E hr h => ?_)
  · obtain ⟨r, ns, i, rfl, _⟩ := h
    rfl
  · obtain ⟨r, ns, i, rfl, hS, hl, q⟩ := h
    refine ⟨_, (pss_cons (ps_set (i := 2) sc_law_purse.nd rfl (Or.inl rfl) pe_int)
  (pss_cons (ps_if (pt_cmpR op_lt (pv 1) (pe_callB call_len_seq (by rfl) T.n_len (by decide +kernel) (pa_cons (pv 0) pa_nil)) (nomark _)) (pss_one (ps_set (i := 2) sc_law_purse.nd rfl (Or.inl rfl) (pe_ix ix_list (pv 0) (pv 1) (fun _ _ => rfl)))) pss_nil)
  (pss_one (ps_ret (pe_lst (pa_cons (pe_op op_mod (pe_callTy call_int1 (by rfl) T.n_int (by decide +kernel) (pa_cons (pe_callB (call_max2 rfl) (by rfl) T.n_max (by decide +kernel) (pa_cons (pe_op op_sub (pv 2) (pe_op op_pow pe_int pe_int)) (pa_cons pe_int pa_nil))) pa_nil)) (pe_op op_powX (pe_op op_pow pe_int pe_int) pe_int)) (pa_cons (pe_op op_mod (pe_callTy call_int1 (by rfl) T.n_int (by decide +kernel) (pa_cons (pv 2) pa_nil)) pe_int) (pa_cons pe_int pa_nil)))))))), ?_⟩
    have lm : (ns.map V.int).length = ns.length := List.length_map _
    -- behind the cell
    have rest : ∀ c : Int, ∀ p, H p = none → Q (.ref p) (upd H p (.lst [.int ((if 0 > c - 10 ^ (18 : Int).toNat then 0 else c - 10 ^ (18 : Int).toNat) % PM), .int (c % 2147483629), .int 0])) := fun c p hp => by
      refine q _ p (same_new hp) hp ⟨_, _, _, upd_same, Int.emod_nonneg _ ?_, Int.emod_lt_of_pos _ ?_, Int.emod_nonneg _ (by decide), ?_, by decide, by decide⟩
      · show ((10 : Int) ^ 40) ^ 10 ≠ 0
        decide +kernel
      · show 0 < ((10 : Int) ^ 40) ^ 10
        decide +kernel
      · have := Int.emod_lt_of_pos c (show (0 : Int) < 2147483629 by decide)
        have : (2 : Int) ^ 31 = 2147483648 := by decide
        omega
    refine ⟨_, rfl, _, rfl, r, _, rfl, .inl hS, _, _, rfl, rfl, _, rfl, ?_⟩
    refine ite2 (fun hc => ?_) (fun hc => ?_)
    · have hc : (i : Int) < ((ns.map V.int).length : Nat) := of_decide_eq_true hc
      have hi : i < ns.length := by omega
      refine ⟨_, rfl, _, rfl, r, _, _, _, rfl, rfl, hS, atI_nat (by rw [List.getElem?_map, List.getElem?_eq_getElem hi]; rfl), ?_⟩
      refine ⟨_, rfl, _, _, rfl, rfl, ⟨by decide, by decide, by decide⟩, _, _, rfl, rfl, _, _, rfl, .inl ⟨_, rfl, _, _, rfl, rfl, ⟨by decide, by decide, by decide⟩, _, _, rfl, rfl, ⟨by decide, by decide +kernel⟩, _, _, rfl, rfl, ?_, _, rfl, .inl ⟨_, rfl, _, _, rfl, rfl, (by show (0 : Int) < 2147483629; decide), ?_⟩⟩⟩
      · show 0 < ((10 : Int) ^ 40) ^ 10
        decide +kernel
      · exact ⟨(by show 3 ≤ sizeLine; decide), fun p hp => rest _ p hp⟩
    · refine ⟨_, rfl, _, _, rfl, rfl, ⟨by decide, by decide, by decide⟩, _, _, rfl, rfl, _, _, rfl, .inl ⟨_, rfl, _, _, rfl, rfl, ⟨by decide, by decide, by decide⟩, _, _, rfl, rfl, ⟨by decide, by decide +kernel⟩, _, _, rfl, rfl, ?_, _, rfl, .inl ⟨_, rfl, _, _, rfl, rfl, (by show (0 : Int) < 2147483629; decide), ?_⟩⟩⟩
      · show 0 < ((10 : Int) ^ 40) ^ 10
        decide +kernel
      · exact ⟨(by show 3 ≤ sizeLine; decide), fun p hp => rest _ p hp⟩
/-! ### a draw -/
theorem mulS {i j : Int} (h0 : 0 ≤ i) (h1 : i < 18446744073709551616) (h2 : 0 ≤ j) (h3 : j < 18446744073709551616) : CMulW i j :=
  wide_mul (a := 64) (b := 64) (abs_lt_pow h0 h1) (abs_lt_pow h2 h3) (by decide) (by decide) (by decide)
theorem ofNat_le {t : Nat} {u : Int} (h : u ≤ t) (ht : t ≤ 2 ^ 20) : u < 2 ^ 21 := by
  have : (2 : Nat) ^ 20 = 1048576 := by decide
  have : (2 : Int) ^ 21 = 2097152 := by decide
  omega
theorem nab {i : Int} {n : Nat} (h0 : 0 ≤ i) (h : i < 2 ^ n) : i.natAbs < 2 ^ n := abs_lt_pow h0 h
theorem atL {xs : List V} {j : Nat} {v : V} (h : xs[j]? = some v) : atI xs (j : Int) = some v := atI_nat h
def spDraw : Sp := fun vs H Q _ => ∃ (p : Addr) (many : Int) (t : Nat), vs = [.ref p, .int many] ∧ Purse H p t ∧ t ≤ 2 ^ 20 ∧ 0 < many ∧ many < 2 ^ 2000 ∧ ∀ (H' : Hp) (n : Int), Kp p H H' → Purse H' p (t + 1) → 0 ≤ n → n < many → Q (.int n) H'
abbrev nm_law_draw : List Str := ["_law_purse_here", "_law_many", "_law_drawn", "_law_turn", "_law_number"]
theorem sc_law_draw : FnScope ["_law_purse_here", "_law_many", "_law_drawn", "_law_turn", "_law_number"] ["_law_purse_here", "_law_many"] (defScope s_law_draw) := ⟨rfl, rfl, rfl, by decide +kernel, rfl, by decide +kernel, by decide +kernel⟩
theorem ok_draw (T : Txt K mg A w) : FnOk P w K mg base CX0 1 A.a_law_draw A.d_law_draw ["_law_purse_here", "_law_many"] spDraw := by
  refine T.F_law_draw.ok sc_law_draw (fun vs H Q E h => ?_) (fun cdv A0 outer s H vs Q E hr h => ?_)
  · obtain ⟨p, many, t, rfl, _⟩ := h
    rfl
  · obtain ⟨p, many, t, rfl, ⟨a, c, u, hp, a0, aB, c0, cB, u0, uB⟩, ht, m0, mB, q⟩ := h
    refine ⟨_, (pss_cons (ps_if (pt_cmpR op_gt (pe_ix ix_list (pv 0) pe_int (fun _ _ => rfl)) pe_int (nomark _)) (pss_cons (ps_set (i := 2) sc_law_draw.nd rfl (Or.inl rfl) (pe_op op_mod (pe_callTy call_int1 (by rfl) T.n_int (by decide +kernel) (pa_cons (pe_ix ix_list (pv 0) pe_int (fun _ _ => rfl)) pa_nil)) (pv 1)))
  (pss_cons (ps_asg (pe_op op_fdivW (pe_ix ix_list (pv 0) pe_int (fun _ _ => rfl)) (pv 1)) (pg_sub (pv 0) pe_int set_list))
  (pss_one (ps_ret (pv 2))))) pss_nil)
  (pss_cons (ps_set (i := 3) sc_law_draw.nd rfl (Or.inl rfl) (pe_op op_add (pe_ix ix_list (pv 0) pe_int (fun _ _ => rfl)) pe_int))
  (pss_cons (ps_asg (pv 3) (pg_sub (pv 0) pe_int set_list))
  (pss_cons (ps_set (i := 4) sc_law_draw.nd rfl (Or.inl rfl) (pe_op op_mod (pe_callTy call_int1 (by rfl) T.n_int (by decide +kernel) (pa_cons (pe_op op_mulW (pe_op op_add (pe_ix ix_list (pv 0) pe_int (fun _ _ => rfl)) (pe_op op_mulW pe_int (pv 3))) (pe_op op_add (pe_op op_mulW (pv 3) (pv 3)) pe_int)) pa_nil)) pe_int))
  (pss_cons (ps_set (i := 4) sc_law_draw.nd rfl (Or.inl rfl) (pe_op op_mod (pe_callTy call_int1 (by rfl) T.n_int (by decide +kernel) (pa_cons (pe_op op_add (pe_op op_mulW (pv 4) (pv 4)) (pv 3)) pa_nil)) pe_int))
  (pss_one (ps_ret (pe_op op_mod (pe_op op_fdivW (pe_op op_mod (pe_callTy call_int1 (by rfl) T.n_int (by decide +kernel) (pa_cons (pe_op op_mulW (pv 4) pe_int) pa_nil)) pe_int) pe_int) (pv 1))))))))), ?_⟩
    refine ⟨_, rfl, p, _, _, _, rfl, rfl, SqL.of hp, atL (j := 0) rfl, _, _, rfl, rfl, _, rfl, ?_⟩
    have kp : ∀ xs, Kp p H (upd H p (.lst xs)) := fun xs b o n e => by
      rw [upd_ne n]
      exact e
    refine ite2 (fun hc => ?_) (fun hc => ?_)
    · have hc : 0 < a := of_decide_eq_true hc
      refine ⟨_, rfl, p, _, _, _, rfl, rfl, SqL.of hp, atL (j := 0) rfl, .inl ⟨_, rfl, _, rfl, _, _, rfl, rfl, m0, ?_⟩⟩
      refine ⟨_, rfl, p, _, _, _, rfl, rfl, SqL.of hp, atL (j := 0) rfl, _, rfl, _, _, rfl, rfl, size_div (by omega) (lt_big mB (by decide)) _, ?_⟩
      refine ⟨_, rfl, p, _, _, 0, rfl, rfl, hp, rfl, ?_⟩
      refine ⟨_, rfl, q _ _ (kp _) ⟨_, _, _, upd_same, Int.ediv_nonneg a0 (by omega), Int.lt_of_le_of_lt (Int.ediv_le_self _ a0) aB, c0, cB, u0, by omega⟩ (Int.emod_nonneg _ (by omega)) (Int.emod_lt_of_pos _ m0)⟩
    · refine ⟨_, rfl, p, _, _, _, rfl, rfl, SqL.of hp, atL (j := 2) rfl, _, _, rfl, rfl, ?_⟩
      have u1 := ofNat_le uB ht
      have e21 : (2 : Int) ^ 21 = 2097152 := by decide
      have e31 : (2 : Int) ^ 31 = 2147483648 := by decide
      refine ⟨_, rfl, _, rfl, p, _, _, 2, rfl, rfl, hp, rfl, ?_⟩
      have v1 : (u + 1) * (u + 1) ≤ 2097152 * 2097152 := Int.mul_le_mul (by omega) (by omega) (by omega) (by decide)
      have v0 : 0 ≤ (u + 1) * (u + 1) := Int.mul_nonneg (by omega) (by omega)
      refine ⟨_, rfl, p, _, _, _, rfl, rfl, SqL.of upd_same, atL (j := 1) rfl, _, rfl, _, _, rfl, rfl, mulS (by decide) (by decide) (by omega) (by omega), _, _, rfl, rfl, ?_⟩
      refine ⟨_, rfl, _, rfl, _, _, rfl, rfl, mulS (by omega) (by omega) (by omega) (by omega), _, _, rfl, rfl, _, _, rfl, rfl, mulS (by omega) (by omega) (by omega) (by omega), .inl ⟨_, rfl, _, _, rfl, rfl, (by show (0 : Int) < 2147483629; decide), ?_⟩⟩
      have g10 : 0 ≤ (((c + 104729 * (u + 1)) * ((u + 1) * (u + 1) + 7919)) % 2147483629) := Int.emod_nonneg _ (by decide)
      have g11 : (((c + 104729 * (u + 1)) * ((u + 1) * (u + 1) + 7919)) % 2147483629) < 2147483629 := Int.emod_lt_of_pos _ (by decide)
      refine ⟨_, rfl, _, rfl, _, _, rfl, rfl, mulS g10 (Int.lt_trans g11 (by decide)) g10 (Int.lt_trans g11 (by decide)), _, rfl, _, _, rfl, rfl, .inl ⟨_, rfl, _, _, rfl, rfl, (by show (0 : Int) < 2147483587; decide), ?_⟩⟩
      have g20 : 0 ≤ (((((c + 104729 * (u + 1)) * ((u + 1) * (u + 1) + 7919)) % 2147483629) * (((c + 104729 * (u + 1)) * ((u + 1) * (u + 1) + 7919)) % 2147483629) + (u + 1)) % 2147483587) := Int.emod_nonneg _ (by decide)
      have g21 : (((((c + 104729 * (u + 1)) * ((u + 1) * (u + 1) + 7919)) % 2147483629) * (((c + 104729 * (u + 1)) * ((u + 1) * (u + 1) + 7919)) % 2147483629) + (u + 1)) % 2147483587) < 2147483587 := Int.emod_lt_of_pos _ (by decide)
      refine ⟨_, rfl, _, _, rfl, rfl, mulS g20 (Int.lt_trans g21 (by decide)) (by decide) (by decide), .inl ⟨_, rfl, _, _, rfl, rfl, (by show (0 : Int) < 2147483647; decide), _, _, rfl, rfl, ⟨by decide, by decide⟩, _, rfl, _, _, rfl, rfl, m0, ?_⟩⟩
      exact q _ _ (kp _) ⟨a, c, u + 1, upd_same, a0, aB, c0, cB, by omega, by omega⟩ (Int.emod_nonneg _ (by omega)) (Int.emod_lt_of_pos _ m0)
end
end Ax

namespace Ax
open PySem L2
section
variable {P : Program} {w : World} {K : PySem.W.Frag} {mg : Str → Option Value} {base : Heap} {A : Adr}
theorem two20 {t : Nat} {n : Nat} (h : t ≤ 2 ^ 20) (hn : n < 2 ^ 1000) : (n : Int) < 2 ^ 2000 := by
  have h1 : ((n : Nat) : Int) < ((2 ^ 1000 : Nat) : Int) := Int.ofNat_lt.mpr hn
  rw [Int.natCast_pow] at h1
  exact Int.lt_trans h1 (pow_lt' (b := 2) (by decide) (by decide))
theorem small2000 {n : Int} (h : n < 18446744073709551616) : n < 2 ^ 2000 := Int.lt_of_lt_of_le (show n < 2 ^ 64 from h) (pow_le' (b := 2) (by decide) (by decide))
/-! ### _law_pick -/
def spPick : Sp := fun vs H Q _ => ∃ (p l : Addr) (xs : List V) (t : Nat), vs = [.ref p, .ref l] ∧ Purse H p t ∧ t ≤ 2 ^ 20 ∧ H l = some (.lst xs) ∧ l ≠ p ∧ 0 < xs.length ∧ xs.length ≤ 1000 ∧ ∀ (H' : Hp) (i : Nat) (x : V), Kp p H H' → Purse H' p (t + 1) → xs[i]? = some x → Q x H'
abbrev nm_law_pick : List Str := ["_law_purse_here", "_law_items"]
theorem sc_law_pick : FnScope ["_law_purse_here", "_law_items"] ["_law_purse_here", "_law_items"] (defScope s_law_pick) := ⟨rfl, rfl, rfl, by decide +kernel, rfl, by decide +kernel, by decide +kernel⟩
theorem ok_pick (T : Txt K mg A w) : FnOk P w K mg base CX0 2 A.a_law_pick A.d_law_pick ["_law_purse_here", "_law_items"] spPick := by
  have G_law_draw : FnOk P w K mg base CX0 1 A.a_law_draw A.d_law_draw ["_law_purse_here", "_law_many"] spDraw := ok_draw T
  refine T.F_law_pick.ok sc_law_pick (fun vs H Q E h => ?_) (fun cdv A0 outer s H vs Q E hr h => ?_)
  · obtain ⟨p, l, xs, t, rfl, _⟩ := h
    rfl
  · obtain ⟨p, l, xs, t, rfl, hP, ht, hl, nlp, h0, h1, q⟩ := h
    refine ⟨_, (pss_one (ps_ret (pe_ix ix_list (pv 1) (pe_call G_law_draw (hr.mono (by decide)) (by rfl) T.m_law_draw T.F_law_draw.kp T.B_law_draw .nil pass0 (pa_cons (pv 0) (pa_cons (pe_callB call_len_seq (by rfl) T.n_len (by decide +kernel) (pa_cons (pv 1) pa_nil)) pa_nil))) (fun _ _ => rfl)))), ?_⟩
    refine ⟨_, rfl, _, rfl, _, rfl, l, _, rfl, .inl (SqL.of hl), p, _, t, rfl, hP, ht, by omega, small2000 (by omega), fun H' n k P' n0 n1 => ?_⟩
    have hn : n.toNat < xs.length := by omega
    refine ⟨l, _, n, xs[n.toNat], rfl, rfl, SqL.of (k _ _ nlp hl), at_of (j := n.toNat) (by omega) (List.getElem?_eq_getElem hn), q H' n.toNat _ k P' (List.getElem?_eq_getElem hn)⟩
/-- what a pick out of a written list of whole numbers gives -/
theorem pick_int {ms : List Int} {i : Nat} {x : V} {P : Int → Prop} (h : (ms.map V.int)[i]? = some x) (hp : ∀ m ∈ ms, P m) : ∃ m, x = .int m ∧ P m := by
  obtain ⟨m, hm, rfl⟩ := map_get h
  exact ⟨m, rfl, hp m (List.mem_of_getElem? hm)⟩
/-! ### _law_times -/
def spTimes : Sp := fun vs H Q _ => ∃ (b n : Int), vs = [.int b, .int n] ∧ 1 ≤ b ∧ b < BIG ∧ -(2 ^ 62) ≤ n ∧ n < 2 ^ 62 ∧ b ^ n.toNat < BIG ∧ Q (.int (b ^ n.toNat)) H
abbrev nm_law_times : List Str := ["_law_base", "_law_many", "_law_found", "_law_turn"]
theorem sc_law_times : FnScope ["_law_base", "_law_many", "_law_found", "_law_turn"] ["_law_base", "_law_many"] (defScope s_law_times) := ⟨rfl, rfl, rfl, by decide +kernel, rfl, by decide +kernel, by decide +kernel⟩
theorem ok_times (T : Txt K mg A w) : FnOk P w K mg base CX0 1 A.a_law_times A.d_law_times ["_law_base", "_law_many"] spTimes := by
  refine T.F_law_times.ok sc_law_times (fun vs H Q E h => ?_) (fun cdv A0 outer s H vs Q E hr h => ?_)
  · obtain ⟨b, n, rfl, _⟩ := h
    rfl
  · obtain ⟨b, n, rfl, hb, hbB, n1, n2, hB, q⟩ := h
    refine ⟨_, (pss_cons (ps_set (i := 2) sc_law_times.nd rfl (Or.inl rfl) pe_int)
  (pss_cons (ps_for PassesOwn.never rfl (pi_range1 rfl T.n_range (pa_cons (pv 1) pa_nil)) (pg_name (i := 3) sc_law_times.nd rfl (Or.inl rfl))
  (pss_one (ps_set (i := 2) sc_law_times.nd rfl (Or.inl rfl) (pe_op op_mulW (pv 2) (pv 0)))))
  (pss_one (ps_ret (pv 2))))), ?_⟩
    refine ⟨_, rfl, n, rfl, n1, n2, for_range (lo := 0) (n := n.toNat) (fun i σ H' => ∃ v : Option V, σ = [some (.int b), some (.int n), some (.int (b ^ i)), v] ∧ H' = H) ⟨none, by rw [Int.pow_zero]; rfl, rfl⟩ ?_ ?_⟩
    · rintro i σ H' hi ⟨v, rfl, rfl⟩
      have h1 := pow_le' hb (show i ≤ n.toNat by omega)
      have h2 := pow_pos' hb i
      refine ⟨_, rfl, _, rfl, _, _, rfl, rfl, mulBig (by omega) (big_le (by omega)) (by omega) (big_le hbB), ?_⟩
      exact ⟨_, by rw [Int.pow_succ]; rfl, rfl⟩
    · rintro σ H' ⟨v, rfl, rfl⟩
      exact ⟨_, rfl, q⟩
theorem kpNew {p l : Addr} {H : Hp} {o : HO} (h : H l = none) : Kp p H (upd H l o) := fun c u _ e => by
  rw [upd_ne (ne_of_none e h)]
  exact e
end
end Ax

namespace Ax
open PySem L2
/-- a drawn rule: a base, a kind, heads, a greatest number -/
structure Drawn (b : Int) (k : Kd) (hs : List Int) (most : Int) : Prop where
  b2 : 2 ≤ b
  b10 : b ≤ 10
  m1 : 1 ≤ most
  m6 : most ≤ 6
  mC : k = .cov → 2 ≤ most
  ne : hs ≠ []
  le : hs.length ≤ 4
  nd : hs.Nodup
  all : ∀ m ∈ hs, 1 ≤ m ∧ m ≤ 25 ∧ m % b ≠ 0
theorem Drawn.args {b : Int} {k : Kd} {hs : List Int} {most : Int} (d : Drawn b k hs most) : RArgs b k hs most := by
  have e60 : (2 : Int) ^ 60 = 1152921504606846976 := by decide
  have e64 : (2 : Int) ^ 64 = 18446744073709551616 := by decide
  obtain ⟨h1, h2, h3, h4, h5, h6, h7, h8, h9⟩ := d
  exact ⟨h1, by omega, h3, by omega, h5, h6, by omega, h8, fun m hm => by
    obtain ⟨a, c, e⟩ := h9 m hm
    exact ⟨a, by omega, e⟩⟩
/-- the tuple of a drawn rule, at ru; its heads at lh -/
def RuleT (H : Hp) (ru lh : Addr) (b : Int) (k : Kd) (hs : List Int) (most : Int) : Prop := H ru = some (.tup [.int b, .str k.s, .ref lh, .int most]) ∧ H lh = some (.lst (hs.map V.int))
section
variable {P : Program} {w : World} {K : PySem.W.Frag} {mg : Str → Option Value} {base : Heap} {A : Adr}
theorem RuleT.same {H H' : Hp} {ru lh : Addr} {b : Int} {k : Kd} {hs : List Int} {most : Int} (x : RuleT H ru lh b k hs most) (s : Same H H') : RuleT H' ru lh b k hs most := ⟨s _ _ x.1, s _ _ x.2⟩
theorem RuleT.kp {H H' : Hp} {p ru lh : Addr} {b : Int} {k : Kd} {hs : List Int} {most : Int} {t : Nat} (x : RuleT H ru lh b k hs most) (y : Purse H p t) (n : lh ≠ p) (s : Kp p H H') : RuleT H' ru lh b k hs most := by
  obtain ⟨xs, e⟩ := y.some
  exact ⟨s _ _ (ne_of x.1 e (by intro z; cases z)) x.1, s _ _ n x.2⟩
end
end Ax

namespace Ax
open PySem L2
/-! ### written lists of lists -/
abbrev LsAt (H : Hp) : List (List Int) → List Addr → Prop := Paired fun is a => H a = some (.lst (is.map V.int))
theorem LsAt.same {H H' : Hp} (s : Same H H') : ∀ {ls : List (List Int)} {as : List Addr}, LsAt H ls as → LsAt H' ls as
  | _, _, .nil => .nil
  | _, _, .cons h t => .cons (s _ _ h) (LsAt.same s t)
theorem LsAt.app {H : Hp} : ∀ {ls ks : List (List Int)} {as bs : List Addr}, LsAt H ls as → LsAt H ks bs → LsAt H (ls ++ ks) (as ++ bs)
  | _, _, _, _, .nil, q => q
  | _, _, _, _, .cons h t, q => .cons h (LsAt.app t q)
theorem LsAt.get {H : Hp} : ∀ {ls : List (List Int)} {as : List Addr} {i : Nat} {a : Addr}, LsAt H ls as → as[i]? = some a → ∃ is, ls[i]? = some is ∧ H a = some (.lst (is.map V.int))
  | _, _, _, _, .nil, h => nomatch h
  | _, _, 0, _, .cons h _, e => by
    obtain rfl := Option.some.inj e
    exact ⟨_, rfl, h⟩
  | _, _, i + 1, _, .cons _ r, e => LsAt.get (i := i) r e
theorem LsAt.snoc {H : Hp} : ∀ {ls : List (List Int)} {as : List Addr} {is : List Int} {l : Addr}, LsAt H ls as → H l = some (.lst (is.map V.int)) → LsAt H (ls ++ [is]) (as ++ [l])
  | _, _, _, _, .nil, q => .cons q .nil
  | _, _, _, _, .cons h t, q => .cons h (LsAt.snoc t q)
theorem LsAt.new {H : Hp} {ls : List (List Int)} {as : List Addr} (is : List Int) {l : Addr} (a : LsAt H ls as) (h : H l = none) : LsAt (upd H l (.lst (is.map V.int))) (ls ++ [is]) (as ++ [l]) := (a.same (same_new h)).snoc upd_same
/-! ### the families -/
def BASES : List Int := [10, 2, 10, 3, 10, 4, 6, 5, 7, 10]
def FAM1 : List (List Int) := [[1, 2, 5], [1, 2, 3, 6], [1, 3, 5, 15], [2, 3, 5], [1, 3], [2, 3, 4], [1, 25], [1, 4, 12], [1, 2, 4]]
def FAM2 : List (List Int) := [[1, 7], [1, 11], [2, 13]]
def kept (b : Int) (is : List Int) : List Int := is.filter fun m => decide (0 < m % b)
def famOf (b : Int) (is : List Int) : List Int := if kept b is = [] then [1] else kept b is
/-- what is drawn as a base and a family -/
def Fam (b : Int) (ms : List Int) : Prop := b ∈ BASES ∧ ∃ is ∈ FAM1 ++ FAM2, ms = famOf b is
def FamOk (b : Int) (ms : List Int) : Prop := (2 ≤ b ∧ b ≤ 10) ∧ ms ≠ [] ∧ ms.length ≤ 4 ∧ ms.Nodup ∧ ∀ m ∈ ms, 1 ≤ m ∧ m ≤ 25 ∧ m % b ≠ 0
instance {b : Int} {ms : List Int} : Decidable (FamOk b ms) := inferInstanceAs (Decidable (_ ∧ _))
theorem fam_table : ∀ b ∈ BASES, ∀ is ∈ FAM1 ++ FAM2, FamOk b (famOf b is) := by decide +kernel
theorem Fam.ok {b : Int} {ms : List Int} (h : Fam b ms) : FamOk b ms := by
  obtain ⟨h1, is, h2, rfl⟩ := h
  exact fam_table b h1 is h2
section
variable {P : Program} {w : World} {K : PySem.W.Frag} {mg : Str → Option Value} {base : Heap} {A : Adr}
theorem eqv_nil_cons {d : PyData} {ds : List PyData} : PyData.eqv (.list (d :: ds)) (.list []) = false := by simp [PyData.eqv, PyData.eqvAll]
theorem eqv_nil_nil : PyData.eqv (.list []) (.list []) = true := by simp [PyData.eqv, PyData.eqvAll]
theorem dp_ints {H : Hp} : ∀ ms : List Int, DpAll K H (ms.map V.int) (ms.map PyData.int)
  | [] => .nil
  | m :: r => .cons (.int m) (dp_ints r)
theorem shaped_ints (ms : List Int) : SeqAt.shaped (.list (ms.map PyData.int)) = true := by
  exact PySem.W.shaped_ints ms
def spFamily : Sp := fun vs H Q _ => ∃ (p : Addr) (t : Nat), vs = [.ref p] ∧ Purse H p t ∧ t ≤ 2 ^ 18 ∧ ∀ (H' : Hp) (q lf : Addr) (b : Int) (ms : List Int), Kp p H H' → Purse H' p (t + 2) → H' q = some (.tup [.int b, .ref lf]) → H' lf = some (.lst (ms.map V.int)) → H lf = none → Fam b ms → Q (.ref q) H'
abbrev nm_law_family : List Str := ["_law_purse_here", "_law_base", "_law_some", "_law_family_here", "_law_one"]
theorem sc_law_family : FnScope ["_law_purse_here", "_law_base", "_law_some", "_law_family_here", "_law_one"] ["_law_purse_here"] (defScope s_law_family) := ⟨rfl, rfl, rfl, by decide +kernel, rfl, by decide +kernel, by decide +kernel⟩
theorem ok_family (T : Txt K mg A w) : FnOk P w K mg base CX0 3 A.a_law_family A.d_law_family ["_law_purse_here"] spFamily := by
  have G_law_pick : FnOk P w K mg base CX0 2 A.a_law_pick A.d_law_pick ["_law_purse_here", "_law_items"] spPick := ok_pick T
  refine T.F_law_family.ok sc_law_family (fun vs H Q E h => ?_) (fun cdv A0 outer s H vs Q E hr h => ?_)
  · obtain ⟨p, t, rfl, _⟩ := h
    rfl
  · obtain ⟨p, t, rfl, hP, ht, q⟩ := h
    have e18 : (2 : Nat) ^ 18 = 262144 := by decide
    have e20 : (2 : Nat) ^ 20 = 1048576 := by decide
    refine ⟨_, (pss_cons (ps_set (i := 1) sc_law_family.nd rfl (Or.inr rfl) (pe_call G_law_pick (hr.mono (by decide)) (by rfl) T.m_law_pick T.F_law_pick.kp T.B_law_pick .nil pass0 (pa_cons (pv 0) (pa_cons (pe_lst (pa_cons pe_int (pa_cons pe_int (pa_cons pe_int (pa_cons pe_int (pa_cons pe_int (pa_cons pe_int (pa_cons pe_int (pa_cons pe_int (pa_cons pe_int (pa_cons pe_int pa_nil))))))))))) pa_nil))))
  (pss_cons (ps_set (i := 2) sc_law_family.nd rfl (Or.inl rfl) (pe_lst (pa_cons (pe_lst (pa_cons pe_int (pa_cons pe_int (pa_cons pe_int pa_nil)))) (pa_cons (pe_lst (pa_cons pe_int (pa_cons pe_int (pa_cons pe_int (pa_cons pe_int pa_nil))))) (pa_cons (pe_lst (pa_cons pe_int (pa_cons pe_int (pa_cons pe_int (pa_cons pe_int pa_nil))))) (pa_cons (pe_lst (pa_cons pe_int (pa_cons pe_int (pa_cons pe_int pa_nil)))) (pa_cons (pe_lst (pa_cons pe_int (pa_cons pe_int pa_nil))) (pa_cons (pe_lst (pa_cons pe_int (pa_cons pe_int (pa_cons pe_int pa_nil)))) (pa_cons (pe_lst (pa_cons pe_int (pa_cons pe_int pa_nil))) (pa_cons (pe_lst (pa_cons pe_int (pa_cons pe_int (pa_cons pe_int pa_nil)))) (pa_cons (pe_lst (pa_cons pe_int (pa_cons pe_int (pa_cons pe_int pa_nil)))) pa_nil)))))))))))
  (pss_cons (ps_set (i := 2) sc_law_family.nd rfl (Or.inl rfl) (pe_op op_cat (pv 2) (pe_lst (pa_cons (pe_lst (pa_cons pe_int (pa_cons pe_int pa_nil))) (pa_cons (pe_lst (pa_cons pe_int (pa_cons pe_int pa_nil))) (pa_cons (pe_lst (pa_cons pe_int (pa_cons pe_int pa_nil))) pa_nil))))))
  (pss_cons (ps_setLc (i := 3) (own := [("_law_one", 4)]) (g := gName 4) rfl sc_law_family.nd rfl rfl (sw_true rfl rfl rfl (by decide +kernel)) (pi_list (pe_call G_law_pick (hr.mono (by decide)) (by rfl) T.m_law_pick T.F_law_pick.kp T.B_law_pick .nil pass0 (pa_cons (pv 0) (pa_cons (pv 2) pa_nil)))) (blkOk_by (own := [("_law_one", 4)]) (N := nm_law_family) (sc := defScope s_law_family) (by decide +kernel)) (fun _ _ _ _ _ => (pg_name (i := 4) sc_law_family.nd rfl (Or.inl rfl))) (fun _ _ _ _ _ => (pts_one (pt_cmpR op_gt (pe_op op_mod (pe_callTy call_int1 (by rfl) T.n_int (by decide +kernel) (pa_cons (pv 4) pa_nil)) (pv 1)) pe_int (nomark _)))) (fun _ _ _ _ _ => (pv 4)))
  (Evl.pss_cut (ps_if (pt_cmpR (op_eqD (hr.units)) (pv 3) (pe_lst pa_nil) (nomark _)) (pss_one (ps_set (i := 3) sc_law_family.nd rfl (Or.inl rfl) (pe_lst (pa_cons pe_int pa_nil)))) pss_nil)
  (pss_one (ps_ret (pe_tup (pa_cons (pv 1) (pa_cons (pv 3) pa_nil)))))))))), ?_⟩
    refine ⟨_, rfl, (by show 10 ≤ sizeLine; decide), fun l hl => ?_⟩
    have P0 := hP.same (same_new (o := .lst (BASES.map V.int)) hl)
    refine ⟨p, l, BASES.map V.int, t, rfl, P0, by omega, upd_same, hP.ne hl, (by decide), (by decide), fun H1 i1 x1 k1 P1 g1 => ?_⟩
    obtain ⟨b, rfl, hb⟩ := pick_int (ms := BASES) (P := fun m => m ∈ BASES) g1 (fun m hm => hm)
    have k01 : Kp p H H1 := (kpNew hl).trans k1
    -- the families
    refine ⟨(by show 3 ≤ sizeLine; decide), fun a0 ha0 => ⟨(by show 4 ≤ sizeLine; decide), fun a1 ha1 => ⟨(by show 4 ≤ sizeLine; decide), fun a2 ha2 => ⟨(by show 3 ≤ sizeLine; decide), fun a3 ha3 => ⟨(by show 2 ≤ sizeLine; decide), fun a4 ha4 => ⟨(by show 3 ≤ sizeLine; decide), fun a5 ha5 => ⟨(by show 2 ≤ sizeLine; decide), fun a6 ha6 => ⟨(by show 3 ≤ sizeLine; decide), fun a7 ha7 => ⟨(by show 3 ≤ sizeLine; decide), fun a8 ha8 => ⟨(by show 9 ≤ sizeLine; decide), fun L2 hL2 => ?_⟩⟩⟩⟩⟩⟩⟩⟩⟩⟩
    have sA : Same H1 _ := (Same.trans (Same.trans (Same.trans (Same.trans (Same.trans (Same.trans (Same.trans (Same.trans (Same.trans (Same.refl _) (same_new (o := .lst ([1, 2, 5].map V.int)) ha0)) (same_new (o := .lst ([1, 2, 3, 6].map V.int)) ha1)) (same_new (o := .lst ([1, 3, 5, 15].map V.int)) ha2)) (same_new (o := .lst ([2, 3, 5].map V.int)) ha3)) (same_new (o := .lst ([1, 3].map V.int)) ha4)) (same_new (o := .lst ([2, 3, 4].map V.int)) ha5)) (same_new (o := .lst ([1, 25].map V.int)) ha6)) (same_new (o := .lst ([1, 4, 12].map V.int)) ha7)) (same_new (o := .lst ([1, 2, 4].map V.int)) ha8))
    have A1 : LsAt _ FAM1 [a0, a1, a2, a3, a4, a5, a6, a7, a8] := (LsAt.new [1, 2, 4] (LsAt.new [1, 4, 12] (LsAt.new [1, 25] (LsAt.new [2, 3, 4] (LsAt.new [1, 3] (LsAt.new [2, 3, 5] (LsAt.new [1, 3, 5, 15] (LsAt.new [1, 2, 3, 6] (LsAt.new [1, 2, 5] (Paired.nil : LsAt _ [] []) ha0) ha1) ha2) ha3) ha4) ha5) ha6) ha7) ha8)
    have s2 := sA.trans (same_new (o := .lst [V.ref a0, V.ref a1, V.ref a2, V.ref a3, V.ref a4, V.ref a5, V.ref a6, V.ref a7, V.ref a8]) hL2)
    refine ⟨_, rfl, ⟨(by show 2 ≤ sizeLine; decide), fun b0 hb0 => ⟨(by show 2 ≤ sizeLine; decide), fun b1 hb1 => ⟨(by show 2 ≤ sizeLine; decide), fun b2 hb2 => ⟨(by show 3 ≤ sizeLine; decide), fun L3 hL3 => ?_⟩⟩⟩⟩⟩
    have sB : Same _ _ := (Same.trans (Same.trans (Same.trans (Same.refl _) (same_new (o := .lst ([1, 7].map V.int)) hb0)) (same_new (o := .lst ([1, 11].map V.int)) hb1)) (same_new (o := .lst ([2, 13].map V.int)) hb2))
    have B1 : LsAt _ FAM2 [b0, b1, b2] := (LsAt.new [2, 13] (LsAt.new [1, 11] (LsAt.new [1, 7] (Paired.nil : LsAt _ [] []) hb0) hb1) hb2)
    have s3 := sB.trans (same_new (o := .lst [V.ref b0, V.ref b1, V.ref b2]) hL3)
    refine ⟨L2, L3, _, _, rfl, rfl, s3 _ _ upd_same, upd_same, (by show 9 + 3 ≤ sizeLine; decide), fun L4 hL4 => ?_⟩
    have sAll := (s2.trans s3).trans (same_new (o := .lst [V.ref a0, V.ref a1, V.ref a2, V.ref a3, V.ref a4, V.ref a5, V.ref a6, V.ref a7, V.ref a8, V.ref b0, V.ref b1, V.ref b2]) hL4)
    have AB : LsAt _ (FAM1 ++ FAM2) ([a0, a1, a2, a3, a4, a5, a6, a7, a8] ++ [b0, b1, b2]) := LsAt.app ((A1.same (same_new (o := .lst [V.ref a0, V.ref a1, V.ref a2, V.ref a3, V.ref a4, V.ref a5, V.ref a6, V.ref a7, V.ref a8]) hL2)).same (s3.trans (same_new (o := .lst [V.ref a0, V.ref a1, V.ref a2, V.ref a3, V.ref a4, V.ref a5, V.ref a6, V.ref a7, V.ref a8, V.ref b0, V.ref b1, V.ref b2]) hL4))) (B1.same ((same_new (o := .lst [V.ref b0, V.ref b1, V.ref b2]) hL3).trans (same_new (o := .lst [V.ref a0, V.ref a1, V.ref a2, V.ref a3, V.ref a4, V.ref a5, V.ref a6, V.ref a7, V.ref a8, V.ref b0, V.ref b1, V.ref b2]) hL4)))
    have P4 := P1.same sAll
    have n4p : L4 ≠ p := (P1.same (s2.trans s3)).ne hL4
    have na0 : a0 ≠ p := (P1.same (Same.refl _)).ne ha0
    have na1 : a1 ≠ p := (P1.same (Same.trans (Same.refl _) (same_new (o := .lst ([1, 2, 5].map V.int)) ha0))).ne ha1
    have na2 : a2 ≠ p := (P1.same (Same.trans (Same.trans (Same.refl _) (same_new (o := .lst ([1, 2, 5].map V.int)) ha0)) (same_new (o := .lst ([1, 2, 3, 6].map V.int)) ha1))).ne ha2
    have na3 : a3 ≠ p := (P1.same (Same.trans (Same.trans (Same.trans (Same.refl _) (same_new (o := .lst ([1, 2, 5].map V.int)) ha0)) (same_new (o := .lst ([1, 2, 3, 6].map V.int)) ha1)) (same_new (o := .lst ([1, 3, 5, 15].map V.int)) ha2))).ne ha3
    have na4 : a4 ≠ p := (P1.same (Same.trans (Same.trans (Same.trans (Same.trans (Same.refl _) (same_new (o := .lst ([1, 2, 5].map V.int)) ha0)) (same_new (o := .lst ([1, 2, 3, 6].map V.int)) ha1)) (same_new (o := .lst ([1, 3, 5, 15].map V.int)) ha2)) (same_new (o := .lst ([2, 3, 5].map V.int)) ha3))).ne ha4
    have na5 : a5 ≠ p := (P1.same (Same.trans (Same.trans (Same.trans (Same.trans (Same.trans (Same.refl _) (same_new (o := .lst ([1, 2, 5].map V.int)) ha0)) (same_new (o := .lst ([1, 2, 3, 6].map V.int)) ha1)) (same_new (o := .lst ([1, 3, 5, 15].map V.int)) ha2)) (same_new (o := .lst ([2, 3, 5].map V.int)) ha3)) (same_new (o := .lst ([1, 3].map V.int)) ha4))).ne ha5
    have na6 : a6 ≠ p := (P1.same (Same.trans (Same.trans (Same.trans (Same.trans (Same.trans (Same.trans (Same.refl _) (same_new (o := .lst ([1, 2, 5].map V.int)) ha0)) (same_new (o := .lst ([1, 2, 3, 6].map V.int)) ha1)) (same_new (o := .lst ([1, 3, 5, 15].map V.int)) ha2)) (same_new (o := .lst ([2, 3, 5].map V.int)) ha3)) (same_new (o := .lst ([1, 3].map V.int)) ha4)) (same_new (o := .lst ([2, 3, 4].map V.int)) ha5))).ne ha6
    have na7 : a7 ≠ p := (P1.same (Same.trans (Same.trans (Same.trans (Same.trans (Same.trans (Same.trans (Same.trans (Same.refl _) (same_new (o := .lst ([1, 2, 5].map V.int)) ha0)) (same_new (o := .lst ([1, 2, 3, 6].map V.int)) ha1)) (same_new (o := .lst ([1, 3, 5, 15].map V.int)) ha2)) (same_new (o := .lst ([2, 3, 5].map V.int)) ha3)) (same_new (o := .lst ([1, 3].map V.int)) ha4)) (same_new (o := .lst ([2, 3, 4].map V.int)) ha5)) (same_new (o := .lst ([1, 25].map V.int)) ha6))).ne ha7
    have na8 : a8 ≠ p := (P1.same (Same.trans (Same.trans (Same.trans (Same.trans (Same.trans (Same.trans (Same.trans (Same.trans (Same.refl _) (same_new (o := .lst ([1, 2, 5].map V.int)) ha0)) (same_new (o := .lst ([1, 2, 3, 6].map V.int)) ha1)) (same_new (o := .lst ([1, 3, 5, 15].map V.int)) ha2)) (same_new (o := .lst ([2, 3, 5].map V.int)) ha3)) (same_new (o := .lst ([1, 3].map V.int)) ha4)) (same_new (o := .lst ([2, 3, 4].map V.int)) ha5)) (same_new (o := .lst ([1, 25].map V.int)) ha6)) (same_new (o := .lst ([1, 4, 12].map V.int)) ha7))).ne ha8
    have nb0 : b0 ≠ p := ((P1.same s2).same (Same.refl _)).ne hb0
    have nb1 : b1 ≠ p := ((P1.same s2).same (Same.trans (Same.refl _) (same_new (o := .lst ([1, 7].map V.int)) hb0))).ne hb1
    have nb2 : b2 ≠ p := ((P1.same s2).same (Same.trans (Same.trans (Same.refl _) (same_new (o := .lst ([1, 7].map V.int)) hb0)) (same_new (o := .lst ([1, 11].map V.int)) hb1))).ne hb2
    have nes : ∀ a ∈ ([a0, a1, a2, a3, a4, a5, a6, a7, a8] ++ [b0, b1, b2]), a ≠ p := by
      intro a h
      simp only [List.cons_append, List.nil_append, List.mem_cons, List.not_mem_nil, or_false] at h
      rcases h with rfl | rfl | rfl | rfl | rfl | rfl | rfl | rfl | rfl | rfl | rfl | rfl
      · exact na0
      · exact na1
      · exact na2
      · exact na3
      · exact na4
      · exact na5
      · exact na6
      · exact na7
      · exact na8
      · exact nb0
      · exact nb1
      · exact nb2
    -- the family that is drawn
    refine ⟨_, rfl, _, rfl, p, L4, _, t + 1, rfl, P4, by omega, upd_same, n4p, (by show 0 < 12; decide), (by show 12 ≤ 1000; decide), fun H5 i5 x5 k5 P5 g5 => ?_⟩
    obtain ⟨a, is, rfl, his, ha, nap⟩ : ∃ a is, x5 = V.ref a ∧ (FAM1 ++ FAM2)[i5]? = some is ∧ H5 a = some (HO.lst (is.map V.int)) ∧ a ≠ p := by
      have g5' : (([a0, a1, a2, a3, a4, a5, a6, a7, a8] ++ [b0, b1, b2]).map V.ref)[i5]? = some x5 := g5
      rw [List.getElem?_map] at g5'
      cases e : ([a0, a1, a2, a3, a4, a5, a6, a7, a8] ++ [b0, b1, b2])[i5]? with
      | none =>
        rw [e] at g5'
        cases g5'
      | some a =>
        rw [e] at g5'
        obtain ⟨is, h1, h2⟩ := AB.get e
        have np := nes a (List.mem_of_getElem? e)
        exact ⟨a, is, (Option.some.inj g5').symm, h1, k5 _ _ np h2, np⟩
    have k05 : Kp p H H5 := k01.trans ((Ax.Same.kp sAll p).trans k5)
    have his2 : is ∈ FAM1 ++ FAM2 := List.mem_of_getElem? his
    have lenIs : is.length ≤ 4 := (by decide : ∀ is ∈ FAM1 ++ FAM2, is.length ≤ 4) is his2
    have bpos : 0 < b := (by decide : ∀ b ∈ BASES, 0 < b) b hb
    refine ⟨a, rfl, ⟨_, SqL.of ha⟩, fun D hD => lc_list (K := K) (a := a) (xs := is.map V.int) (fun i H' => H' = upd H5 D (.lst ((kept b (is.take i)).map V.int))) rfl ?_ ?_ ?_⟩
    · rintro i H' _ rfl
      exact SqL.of (by rw [upd_ne (ne_of_none ha hD)]; exact ha)
    · rintro i x H' hi rfl
      obtain ⟨m, hm, rfl⟩ := map_get hi
      have et : is.take (i + 1) = is.take i ++ [m] := by
        rw [List.take_add_one, hm]
        rfl
      refine ⟨rfl, _, rfl, .inl ⟨_, rfl, _, rfl, _, _, rfl, rfl, bpos, _, _, rfl, rfl, _, rfl, ?_⟩⟩
      refine ite2 (fun hc => ?_) (fun hc => ?_)
      · have hc : 0 < m % b := of_decide_eq_true hc
        refine ⟨_, rfl, _, upd_same, ?_, ?_⟩
        · rw [List.length_map]
          have h1 : (kept b (is.take i)).length ≤ (is.take i).length := List.length_filter_le _ _
          rw [List.length_take] at h1
          exact small1000 (by omega)
        · rw [upd_upd, et]
          have e2 : kept b (is.take i ++ [m]) = kept b (is.take i) ++ [m] := by
            unfold kept
            rw [List.filter_append, List.filter_cons, if_pos (decide_eq_true hc), List.filter_nil]
          rw [e2, List.map_append]
          rfl
      · have hc : ¬ 0 < m % b := fun z => hc (decide_eq_true z)
        rw [et]
        have e2 : kept b (is.take i ++ [m]) = kept b (is.take i) := by
          unfold kept
          rw [List.filter_append, List.filter_cons, if_neg (by rw [decide_eq_false hc]; decide), List.filter_nil, List.append_nil]
        rw [e2]
    · rintro H' rfl
      rw [List.length_map, List.take_length]
      have s6 := same_new (o := .lst ((kept b is).map V.int)) hD
      have P6 := P5.same s6
      have k06 : Kp p H (upd H5 D (.lst ((kept b is).map V.int))) := k05.trans (Ax.Same.kp s6 p)
      have fresh0 : ∀ l, upd H5 D (.lst ((kept b is).map V.int)) l = none → H l = none := fun l e => k06.free P6 e
      have D0 : H D = none := k05.free P5 hD
      refine ⟨fun σ H7 => ∃ lf : Addr, σ = [some (.ref p), some (.int b), some (.ref L4), some (.ref lf), none] ∧ Kp p H H7 ∧ Purse H7 p (t + 2) ∧ H7 lf = some (.lst ((famOf b is).map V.int)) ∧ H lf = none, ?_, ?_⟩
      · refine ⟨_, rfl, Nat.zero_le _, fun l8 hl8 => ?_⟩
        have nD8 : D ≠ l8 := ne_of_none upd_same hl8
        refine ⟨.list ((kept b is).map PyData.int), .list [], .lst (SqL.of (by rw [upd_ne nD8, upd_same])) (dp_ints _), .lst (SqL.of upd_same) .nil, ?_, by decide, _, rfl, ?_⟩
        · exact shaped_ints _
        · have k8 := k06.trans (kpNew (p := p) (o := .lst []) hl8)
          have P8 := P6.same (same_new (o := .lst []) hl8)
          by_cases c : kept b is = []
          · have e : famOf b is = [1] := if_pos c
            rw [c] at k8 P8 ⊢
            show if PyData.eqv (.list []) (.list []) = true then _ else _
            rw [eqv_nil_nil]
            refine iteT ⟨(by show 1 ≤ sizeLine; decide), fun l9 hl9 => ?_⟩
            exact ⟨l9, rfl, k8.trans (kpNew hl9), P8.same (same_new hl9), by rw [e]; exact upd_same, k8.free P8 hl9⟩
          · have e : famOf b is = kept b is := if_neg c
            obtain ⟨m0, mr, em⟩ : ∃ m0 mr, kept b is = m0 :: mr := by
              cases q : kept b is with
              | nil => exact absurd q c
              | cons x r => exact ⟨x, r, rfl⟩
            rw [em] at k8 P8 ⊢
            show if PyData.eqv (.list (PyData.int m0 :: mr.map PyData.int)) (.list []) = true then _ else _
            rw [eqv_nil_cons]
            refine iteF ?_
            exact ⟨D, rfl, k8, P8, by rw [e, em, upd_ne nD8, upd_same], D0⟩
      · rintro σ H7 ⟨lf, rfl, k7, P7, h7, f7⟩
        refine ⟨_, rfl, _, rfl, (by show 2 ≤ sizeLine; decide), fun q1 hq1 => ?_⟩
        have nl := ne_of_none h7 hq1
        exact q _ q1 lf b _ (k7.trans (kpNew hq1)) (P7.same (same_new hq1)) upd_same (by rw [upd_ne nl]; exact h7) f7 ⟨hb, is, his2, rfl⟩
end
end Ax

namespace Ax
open PySem L2
section
variable {P : Program} {w : World} {K : PySem.W.Frag} {mg : Str → Option Value} {base : Heap} {A : Adr}
theorem drawn_of {b most : Int} {k : Kd} {ms hs : List Int} (F : FamOk b ms) (ne : hs ≠ []) (sub : hs.Sublist ms) (m1 : 1 ≤ most) (m5 : most ≤ 5) : Drawn b k hs (most + (if decide (k = .cov) = true then 1 else 0)) := by
  obtain ⟨⟨h1, h2⟩, h3, h4, h5, h6⟩ := F
  refine ⟨h1, h2, ?_, ?_, fun z => ?_, ne, Nat.le_trans sub.length_le h4, sub.nodup h5, fun m hm => h6 m (sub.mem hm)⟩
  · split <;> omega
  · split <;> omega
  · rw [if_pos (decide_eq_true z)]
    omega
theorem kd_cov (k : Kd) : decide (V.str k.s = V.str "cover") = decide (k = .cov) := kd_is k .cov
theorem pick_kd {i : Nat} {x : V} (h : ([V.str "inside", V.str "cover", V.str "length", V.str "inside", V.str "cover"] : List V)[i]? = some x) : ∃ k : Kd, x = .str k.s := by
  have h' : (([Kd.ins, .cov, .len, .ins, .cov] : List Kd).map fun k => V.str k.s)[i]? = some x := h
  rw [List.getElem?_map] at h'
  cases e : ([Kd.ins, .cov, .len, .ins, .cov] : List Kd)[i]? with
  | none =>
    rw [e] at h'
    cases h'
  | some k =>
    rw [e] at h'
    exact ⟨k, (Option.some.inj h').symm⟩
theorem take_sub {ms : List Int} {i : Nat} {m : Int} (hm : ms[i]? = some m) : ms.take (i + 1) = ms.take i ++ [m] := by
  rw [List.take_add_one, hm]
  rfl
def spRule : Sp := fun vs H Q _ => ∃ (p f lf : Addr) (t : Nat) (b : Int) (ms : List Int), vs = [.ref p, .ref f] ∧ Purse H p t ∧ t ≤ 2 ^ 18 ∧ H f = some (.tup [.int b, .ref lf]) ∧ H lf = some (.lst (ms.map V.int)) ∧ lf ≠ p ∧ Fam b ms ∧
  ∀ (H' : Hp) (q lh : Addr) (k : Kd) (hs : List Int) (most : Int), Kp p H H' → Purse H' p (t + 8) → RuleT H' q lh b k hs most → H lh = none → Drawn b k hs most → (∀ m ∈ hs, m ∈ ms) → Q (.ref q) H'
abbrev nm_law_rule : List Str := ["_law_purse_here", "_law_family_here", "_law_base", "_law_some", "_law_kind", "_law_heads", "_law_one"]
theorem sc_law_rule : FnScope ["_law_purse_here", "_law_family_here", "_law_base", "_law_some", "_law_kind", "_law_heads", "_law_one"] ["_law_purse_here", "_law_family_here"] (defScope s_law_rule) := ⟨rfl, rfl, rfl, by decide +kernel, rfl, by decide +kernel, by decide +kernel⟩
theorem ok_rule (T : Txt K mg A w) : FnOk P w K mg base CX0 3 A.a_law_rule A.d_law_rule ["_law_purse_here", "_law_family_here"] spRule := by
  have G_law_draw : FnOk P w K mg base CX0 1 A.a_law_draw A.d_law_draw ["_law_purse_here", "_law_many"] spDraw := ok_draw T
  have G_law_pick : FnOk P w K mg base CX0 2 A.a_law_pick A.d_law_pick ["_law_purse_here", "_law_items"] spPick := ok_pick T
  refine T.F_law_rule.ok sc_law_rule (fun vs H Q E h => ?_) (fun cdv A0 outer s H vs Q E hr h => ?_)
  · obtain ⟨p, f, lf, t, b, ms, rfl, _⟩ := h
    rfl
  · obtain ⟨p, f, lf, t, b, ms, rfl, hP, ht, hf, hl, nlp, F, q⟩ := h
    have Fo := F.ok
    have e18 : (2 : Nat) ^ 18 = 262144 := by decide
    have e20 : (2 : Nat) ^ 20 = 1048576 := by decide
    have lm4 : ms.length ≤ 4 := Fo.2.2.1
    have lpos : 0 < ms.length := List.length_pos_iff.mpr Fo.2.1
    refine ⟨_, (pss_cons (ps_asg (pv 1) (pg_tup (by rfl) (pgs_cons (pg_name (i := 2) sc_law_rule.nd rfl (Or.inl rfl)) (pgs_cons (pg_name (i := 3) sc_law_rule.nd rfl (Or.inl rfl)) pgs_nil))))
  (pss_cons (ps_set (i := 4) sc_law_rule.nd rfl (Or.inl rfl) (pe_call G_law_pick (hr.mono (by decide)) (by rfl) T.m_law_pick T.F_law_pick.kp T.B_law_pick .nil pass0 (pa_cons (pv 0) (pa_cons (pe_lst (pa_cons pe_str (pa_cons pe_str (pa_cons pe_str (pa_cons pe_str (pa_cons pe_str pa_nil)))))) pa_nil))))
  (pss_cons (ps_setLc (i := 5) (own := [("_law_one", 6)]) (g := gName 6) rfl sc_law_rule.nd rfl rfl (sw_true rfl rfl rfl (by decide +kernel)) (pi_list (pv 3)) (blkOk_by (own := [("_law_one", 6)]) (N := nm_law_rule) (sc := defScope s_law_rule) (by decide +kernel)) (fun _ _ _ _ _ => (pg_name (i := 6) sc_law_rule.nd rfl (Or.inl rfl))) (fun _ _ _ _ _ => (pts_one (pt_cmpR op_gt (pe_call G_law_draw (hr.mono (by decide)) (by rfl) T.m_law_draw T.F_law_draw.kp T.B_law_draw .nil pass0 (pa_cons (pv 0) (pa_cons pe_int pa_nil))) pe_int (nomark _)))) (fun _ _ _ _ _ => (pv 6)))
  (Evl.pss_cut (ps_if (pt_cmpR (op_eqD (hr.units)) (pv 5) (pe_lst pa_nil) (nomark _)) (pss_one (ps_set (i := 5) sc_law_rule.nd rfl (Or.inl rfl) (pe_lst (pa_cons (pe_call G_law_pick (hr.mono (by decide)) (by rfl) T.m_law_pick T.F_law_pick.kp T.B_law_pick .nil pass0 (pa_cons (pv 0) (pa_cons (pv 3) pa_nil))) pa_nil)))) pss_nil)
  (pss_one (ps_ret (pe_tup (pa_cons (pv 2) (pa_cons (pv 4) (pa_cons (pv 5) (pa_cons (pe_op op_add (pe_call G_law_pick (hr.mono (by decide)) (by rfl) T.m_law_pick T.F_law_pick.kp T.B_law_pick .nil pass0 (pa_cons (pv 0) (pa_cons (pe_lst (pa_cons pe_int (pa_cons pe_int (pa_cons pe_int (pa_cons pe_int (pa_cons pe_int (pa_cons pe_int (pa_cons pe_int pa_nil)))))))) pa_nil))) (pe_callTy call_int1 (by rfl) T.n_int (by decide +kernel) (pa_cons (pe_cmpR op_eq (pv 4) pe_str (nomark _)) pa_nil))) pa_nil))))))))))), ?_⟩
    refine ⟨_, rfl, f, _, rfl, SqT.of hf, rfl, _, _, rfl, _, _, rfl, rfl, ?_⟩
    refine ⟨_, rfl, (by show 5 ≤ sizeLine; decide), fun l hl0 => ?_⟩
    have P0 := hP.same (same_new (o := .lst [.str "inside", .str "cover", .str "length", .str "inside", .str "cover"]) hl0)
    refine ⟨p, l, _, t, rfl, P0, by omega, upd_same, hP.ne hl0, (by show 0 < 5; decide), (by show 5 ≤ 1000; decide), fun H1 i1 x1 k1 P1 g1 => ?_⟩
    obtain ⟨k, rfl⟩ := pick_kd g1
    have k01 : Kp p H H1 := (kpNew hl0).trans k1
    have hl1 := k01 _ _ nlp hl
    -- the heads
    refine ⟨_, rfl, lf, rfl, ⟨_, SqL.of hl1⟩, fun D hD => ?_⟩
    have nDp : D ≠ p := P1.ne hD
    have nlD : lf ≠ D := ne_of_none hl1 hD
    refine lc_list (K := K) (a := lf) (xs := ms.map V.int) (fun i H' => Kp p H1 H' ∧ Purse H' p (t + 1 + i) ∧ ∃ hx : List Int, H' D = some (.lst (hx.map V.int)) ∧ hx.Sublist (ms.take i)) ⟨kpNew hD, P1.same (same_new hD), [], upd_same, .slnil⟩ ?_ ?_ ?_
    · rintro i H' _ ⟨k2, _⟩
      exact SqL.of (k2 _ _ nlp hl1)
    · rintro i x H' hi ⟨k2, P2, hx, hD2, sub⟩
      obtain ⟨m, hm, rfl⟩ := map_get hi
      have hi3 : i < ms.length := (List.getElem?_eq_some_iff.mp hm).1
      refine ⟨rfl, _, rfl, p, 3, t + 1 + i, rfl, P2, by omega, by decide, small2000 (by decide), fun H3 z k3 P3 z0 z1 => ⟨_, _, rfl, rfl, _, rfl, ?_⟩⟩
      have hD3 := k3 _ _ nDp hD2
      have sub2 : hx.Sublist (ms.take (i + 1)) := by
        rw [take_sub hm]
        exact sub.trans (List.sublist_append_left _ _)
      refine ite2 (fun hc => ?_) (fun hc => ?_)
      · refine ⟨_, rfl, _, hD3, ?_, fun c o n e => ?_, ?_, hx ++ [m], ?_, ?_⟩
        · rw [List.length_map]
          have := sub.length_le
          rw [List.length_take] at this
          exact small1000 (by omega)
        · have ncD : c ≠ D := ne_of_none e hD
          rw [upd_ne ncD]
          exact k3 c o n (k2 c o n e)
        · obtain ⟨a, c, u, h1, r⟩ := P3
          exact Purse.le ⟨a, c, u, by rw [upd_ne nDp.symm]; exact h1, r⟩ (by omega)
        · rw [upd_same, List.map_append]
          rfl
        · rw [take_sub hm]
          exact List.Sublist.append sub (List.Sublist.refl _)
      · exact ⟨k2.trans k3, P3.le (by omega), hx, hD3, sub2⟩
    · rintro H' ⟨k2, P2, hx, hD2, sub⟩
      rw [List.length_map, List.take_length] at sub
      rw [List.length_map] at P2
      have k02 : Kp p H H' := k01.trans k2
      have D0 : H D = none := k01.free P1 hD
      refine ⟨fun σ H7 => ∃ (lh : Addr) (hs : List Int) (v : Option V), σ = [some (.ref p), some (.ref f), some (.int b), some (.ref lf), some (.str k.s), some (.ref lh), v] ∧ Kp p H H7 ∧ Purse H7 p (t + 6) ∧ H7 lh = some (.lst (hs.map V.int)) ∧ lh ≠ p ∧ H lh = none ∧ hs ≠ [] ∧ hs.Sublist ms, ?_, ?_⟩
      · refine ⟨_, rfl, Nat.zero_le _, fun l8 hl8 => ?_⟩
        have nD8 : D ≠ l8 := ne_of_none hD2 hl8
        refine ⟨.list (hx.map PyData.int), .list [], .lst (SqL.of (by rw [upd_ne nD8]; exact hD2)) (dp_ints _), .lst (SqL.of upd_same) .nil, shaped_ints _, by decide, _, rfl, ?_⟩
        have k8 := k02.trans (kpNew (p := p) (o := .lst []) hl8)
        have P8 := P2.same (same_new (o := .lst []) hl8)
        cases hx with
        | nil =>
          show if PyData.eqv (.list []) (.list []) = true then _ else _
          rw [eqv_nil_nil]
          have hlf8 := k8 _ _ nlp hl
          refine iteT ⟨_, rfl, _, rfl, p, lf, _, t + 1 + ms.length, rfl, P8, by omega, hlf8, nlp, by rw [List.length_map]; exact lpos, by rw [List.length_map]; omega, fun H9 i9 x9 k9 P9 g9 => ?_⟩
          obtain ⟨m, hm, rfl⟩ := map_get g9
          refine ⟨(by show 1 ≤ sizeLine; decide), fun l10 hl10 => ?_⟩
          have k9' := k8.trans k9
          exact ⟨l10, [m], none, rfl, k9'.trans (kpNew hl10), (P9.same (same_new hl10)).le (by omega), upd_same, P9.ne hl10, k9'.free P9 hl10, by simp, List.singleton_sublist.mpr (List.mem_of_getElem? hm)⟩
        | cons m0 mr =>
          show if PyData.eqv (.list (PyData.int m0 :: mr.map PyData.int)) (.list []) = true then _ else _
          rw [eqv_nil_cons]
          refine iteF ?_
          exact ⟨D, m0 :: mr, none, rfl, k8, P8.le (by omega), by rw [upd_ne nD8]; exact hD2, nDp, D0, by simp, sub⟩
      · rintro σ H7 ⟨lh, hs, v, rfl, k7, P7, h7, n7, f7, ne7, sub7⟩
        refine ⟨_, rfl, _, rfl, _, rfl, _, rfl, (by show 7 ≤ sizeLine; decide), fun l11 hl11 => ?_⟩
        have P11 := P7.same (same_new (o := .lst [.int 1, .int 2, .int 3, .int 4, .int 5, .int 2, .int 3]) hl11)
        refine ⟨p, l11, _, t + 6, rfl, P11, by omega, upd_same, P7.ne hl11, (by show 0 < 7; decide), (by show 7 ≤ 1000; decide), fun H12 i12 x12 k12 P12 g12 => ?_⟩
        obtain ⟨mo, rfl, mo1, mo5⟩ := pick_int (ms := [1, 2, 3, 4, 5, 2, 3]) (P := fun m => 1 ≤ m ∧ m ≤ 5) g12 (by decide)
        refine ⟨_, rfl, rfl, .inr ⟨_, rfl, _, _, rfl, rfl, (by show 4 ≤ sizeLine; decide), fun q1 hq1 => ?_⟩⟩
        have k13 : Kp p H7 _ := (kpNew (o := .lst [.int 1, .int 2, .int 3, .int 4, .int 5, .int 2, .int 3]) hl11).trans k12
        have h12 := k13 _ _ n7 h7
        have nq : lh ≠ q1 := ne_of_none h12 hq1
        refine q _ q1 lh k hs (mo + (if decide (k = .cov) = true then 1 else 0)) ((k7.trans k13).trans (kpNew hq1)) ((P12.same (same_new hq1)).le (by omega)) ⟨?_, by rw [upd_ne nq]; exact h12⟩ f7 (drawn_of Fo ne7 sub7 mo1 mo5) (fun m hm => sub7.mem hm)
        rw [upd_same, ← kd_cov]
end
end Ax

namespace Ax
theorem siz_pos {b m e : Int} (hb : 1 ≤ b) (hm : 1 ≤ m) : 1 ≤ sizZ b m e := by
  unfold sizZ
  split
  · have h1 := pow_pos' hb e.toNat
    have := Int.mul_le_mul hm h1 (by omega) (by omega)
    omega
  · exact hm
theorem least_le {b : Int} {ms : List Int} {k1 k2 : Kd} {n1 n2 l h d m1 p1 m2 p2 : Int} (L1 : LeastFit b ms k1 n1 l h d m1 p1) (L2 : LeastFit b ms k2 n2 l h d m2 p2) (imp : ∀ m ∈ ms, ∀ e, FitE b k2 n2 l h m e → FitE b k1 n1 l h m e) {N : Int} (q1 : 0 ≤ N + p1) (q2 : 0 ≤ N + p2) :
    szN b N m1 p1 ≤ szN b N m2 p2 := by
  apply Int.not_lt.mp
  intro c
  exact L1.least m2 L2.mem p2 ⟨N, q2, q1, c⟩ (imp m2 L2.mem _ L2.fit)
section
variable {l h s n : Int}
theorem div_facts (l : Int) (hs : 0 < s) : s * (l / s) ≤ l ∧ l < s * (l / s) + s := by
  have e1 := Int.emod_add_mul_ediv l s
  have e2 := Int.emod_nonneg l (show s ≠ 0 by omega)
  have e3 := Int.emod_lt_of_pos l hs
  omega
theorem len_ins (hs : 0 < s) (q : h ≤ reachZ .len n l s) : h ≤ reachZ .ins (n + 1) l s := by
  obtain ⟨f1, f2⟩ := div_facts (-l) hs
  have q : h ≤ l + n * s := q
  show h ≤ (-(-l / s) + (n + 1)) * s - 1
  rw [Int.add_mul, Int.neg_mul, Int.mul_comm (-l / s), Int.add_mul]
  omega
theorem cov_len (hs : 0 < s) (q : h ≤ reachZ .cov n l s) : h ≤ reachZ .len n l s := by
  obtain ⟨f1, f2⟩ := div_facts l hs
  have q : h ≤ (l / s + n) * s := q
  rw [Int.add_mul, Int.mul_comm (l / s)] at q
  show h ≤ l + n * s
  omega
theorem len_cov (hs : 0 < s) (q : h ≤ reachZ .len n l s) : h ≤ reachZ .cov (n + 1) l s := by
  obtain ⟨f1, f2⟩ := div_facts l hs
  have q : h ≤ l + n * s := q
  show h ≤ (l / s + (n + 1)) * s
  rw [Int.add_mul, Int.mul_comm (l / s), Int.add_mul]
  omega
theorem ins_cov (hs : 0 < s) (q : h ≤ reachZ .ins n l s) : h ≤ reachZ .cov (n + 1) l s := by
  obtain ⟨f1, f2⟩ := div_facts l hs
  obtain ⟨g1, g2⟩ := div_facts (-l) hs
  have q : h ≤ (-(-l / s) + n) * s - 1 := q
  rw [Int.add_mul, Int.neg_mul, Int.mul_comm (-l / s)] at q
  show h ≤ (l / s + (n + 1)) * s
  rw [Int.add_mul, Int.mul_comm (l / s), Int.add_mul]
  -- the least multiple at or above l is at most one step above the greatest at or below it
  have c : -(s * (-l / s)) ≤ s * (l / s) + s := by
    apply Int.not_lt.mp
    intro z
    have z2 : s * (l / s + 1) < s * (-(-l / s)) := by
      rw [Int.mul_add, Int.mul_one, Int.mul_neg]
      exact z
    have z3 : l / s + 1 < -(-l / s) := Int.lt_of_mul_lt_mul_left z2 (by omega)
    have z4 := Int.mul_le_mul_of_nonneg_left (show l / s + 1 + 1 ≤ -(-l / s) by omega) (show 0 ≤ s by omega)
    rw [Int.mul_add, Int.mul_add, Int.mul_one, Int.mul_neg] at z4
    omega
  omega
end
end Ax

namespace Ax
/-- the first and the last mark, in whole numbers -/
def fstZ (k : Kd) (l s : Int) : Int := if k = .cov then l / s else -(-l / s)
def lstZ (k : Kd) (h s : Int) : Int := if k = .cov then -(-h / s) else h / s
end Ax
namespace Ax
/-! ### of two least steps that fit there is one -/
theorem least_one {b : Int} {ms : List Int} {k : Kd} {n l h d m1 p1 m2 p2 : Int} (hb : 2 ≤ b) (hm : ∀ m ∈ ms, 1 ≤ m ∧ m % b ≠ 0) (L1 : LeastFit b ms k n l h d m1 p1) (L2 : LeastFit b ms k n l h d m2 p2) : m1 = m2 ∧ p1 = p2 := by
  obtain ⟨N, hN⟩ : ∃ N : Int, N = p1.natAbs + p2.natAbs := ⟨_, rfl⟩
  have a := least_le L1 L2 (fun m _ e q => q) (N := N) (by omega) (by omega)
  have c := least_le L2 L1 (fun m _ e q => q) (N := N) (by omega) (by omega)
  have e : szN b N m1 p1 = szN b N m2 p2 := by omega
  unfold szN at e
  rcases Int.le_total p1 p2 with q | q
  · have x : (N + p2).toNat = (p2 - p1).toNat + (N + p1).toNat := by omega
    rw [x, pow_add', ← Int.mul_assoc] at e
    have y := mul_cancel (pow_pos' (by omega) _) e
    cases z : (p2 - p1).toNat with
    | zero =>
      rw [z, Int.pow_zero, Int.mul_one] at y
      exact ⟨y, by omega⟩
    | succ j =>
      rw [z] at y
      exact absurd (dvd_of_mul y.symm) (hm m1 L1.mem).2
  · have x : (N + p1).toNat = (p1 - p2).toNat + (N + p2).toNat := by omega
    rw [x, pow_add', ← Int.mul_assoc] at e
    have y := mul_cancel (pow_pos' (by omega) _) e
    cases z : (p1 - p2).toNat with
    | zero =>
      rw [z, Int.pow_zero, Int.mul_one] at y
      exact ⟨y, by omega⟩
    | succ j =>
      rw [z] at y
      exact absurd (dvd_of_mul y) (hm m2 L2.mem).2
/-! ### how many marks -/
section
variable {k : Kd} {l h s n : Int}
theorem lt_div_iff {x y s : Int} (hs : 0 < s) : y / s < x ↔ y < x * s := Int.ediv_lt_iff_lt_mul hs
theorem le_div_iff {x y s : Int} (hs : 0 < s) : x ≤ y / s ↔ x * s ≤ y := Int.le_ediv_iff_mul_le hs
theorem ceil_facts (l : Int) (hs : 0 < s) : l ≤ s * (-(-l / s)) ∧ s * (-(-l / s)) < l + s := by
  obtain ⟨f1, f2⟩ := div_facts (-l) hs
  rw [Int.mul_neg]
  omega
theorem floor_ceil (l : Int) (hs : 0 < s) : l / s ≤ -(-l / s) ∧ -(-l / s) ≤ l / s + 1 := by
  obtain ⟨f1, f2⟩ := div_facts l hs
  obtain ⟨g1, g2⟩ := ceil_facts l hs
  constructor
  · apply Int.not_lt.mp
    intro z
    have := Int.mul_le_mul_of_nonneg_left (show -(-l / s) + 1 ≤ l / s by omega) (show 0 ≤ s by omega)
    rw [Int.mul_add, Int.mul_one] at this
    omega
  · apply Int.not_lt.mp
    intro z
    have := Int.mul_le_mul_of_nonneg_left (show l / s + 1 + 1 ≤ -(-l / s) by omega) (show 0 ≤ s by omega)
    rw [Int.mul_add, Int.mul_add, Int.mul_one] at this
    omega
theorem marks_most (hs : 0 < s) (q : h ≤ reachZ k n l s) : lstZ k h s - fstZ k l s + 1 ≤ n + (if k = .ins then 0 else 1) := by
  obtain ⟨c1, c2⟩ := floor_ceil l hs
  unfold fstZ lstZ
  cases k with
  | ins =>
    rw [if_neg (by decide), if_neg (by decide), if_pos rfl]
    have q : h ≤ (-(-l / s) + n) * s - 1 := q
    have := (lt_div_iff hs (y := h) (x := -(-l / s) + n)).mpr (by omega)
    omega
  | cov =>
    rw [if_pos rfl, if_pos rfl, if_neg (by decide)]
    have q : h ≤ (l / s + n) * s := q
    have := (le_div_iff hs (y := -h) (x := -(l / s + n))).mpr (by rw [Int.neg_mul]; omega)
    omega
  | len =>
    rw [if_neg (by decide), if_neg (by decide), if_neg (by decide)]
    have q : h ≤ l + n * s := q
    obtain ⟨f1, f2⟩ := div_facts l hs
    have := (lt_div_iff hs (y := h) (x := l / s + n + 1)).mpr (by rw [Int.add_mul, Int.add_mul, Int.one_mul, Int.mul_comm (l / s)]; omega)
    omega
theorem marks_least (hs : 0 < s) (lt : l < h) : (if k = .cov then 2 else 0) ≤ lstZ k h s - fstZ k l s + 1 := by
  obtain ⟨c1, c2⟩ := floor_ceil l hs
  obtain ⟨f1, f2⟩ := div_facts l hs
  obtain ⟨g1, g2⟩ := ceil_facts h hs
  have mono : l / s ≤ h / s := Int.ediv_le_ediv hs (by omega)
  unfold fstZ lstZ
  by_cases c : k = .cov
  · rw [if_pos c, if_pos c, if_pos c]
    have : l / s < -(-h / s) := by
      apply Int.not_le.mp
      intro z
      have := Int.mul_le_mul_of_nonneg_left z (show 0 ≤ s by omega)
      omega
    omega
  · rw [if_neg c, if_neg c, if_neg c]
    omega
/-- the law's own words of what fits -/
def fitL (k : Kd) (n l h s : Int) : Bool := match k with
  | .ins => decide (h / s - (0 - (0 - l) / s) + 1 ≤ n)
  | .cov => decide (0 - (0 - h) / s - l / s ≤ n)
  | .len => decide (h - l ≤ n * s)
theorem fitL_eq (hs : 0 < s) : fitL k n l h s = decide (h ≤ reachZ k n l s) := by
  have e : ∀ x : Int, 0 - x = -x := fun x => by omega
  cases k with
  | ins =>
    show decide (h / s - (0 - (0 - l) / s) + 1 ≤ n) = decide (h ≤ (-(-l / s) + n) * s - 1)
    rw [e, e]
    have := lt_div_iff hs (y := h) (x := -(-l / s) + n)
    apply decide_eq_decide.mpr
    omega
  | cov =>
    show decide (0 - (0 - h) / s - l / s ≤ n) = decide (h ≤ (l / s + n) * s)
    rw [e, e]
    have := le_div_iff hs (y := -h) (x := -(l / s + n))
    rw [Int.neg_mul] at this
    apply decide_eq_decide.mpr
    omega
  | len =>
    show decide (h - l ≤ n * s) = decide (h ≤ l + n * s)
    apply decide_eq_decide.mpr
    omega
end
end Ax

namespace Ax
open PySem L2
section
variable {P : Program} {w : World} {K : PySem.W.Frag} {mg : Str → Option Value} {base : Heap} {A : Adr}
theorem rf_no {b : Int} {k : Kd} {lm : Addr} {most : Int} {dv : Bool} {lr : Addr} {f : Str} (h1 : ¬ f = "_rungs") (h2 : ¬ f = "_dividing") (h3 : ¬ f = "_most") (h4 : ¬ f = "_mantissas") (h5 : ¬ f = "_kind") (h6 : ¬ f = "_base") : (rf b k lm most dv lr).lookup f = none := by
  rw [rf_lookup, if_neg h1, if_neg h2, if_neg h3, if_neg h4, if_neg h5, if_neg h6]
/-! ### marks -/
def spMarks (A : Adr) : Sp := fun vs H Q _ => ∃ (r sp : Addr) (l h d : Int) (b : Int) (k : Kd) (ms : List Int) (most : Int) (D : RD), vs = [.ref r, .ref sp] ∧ RX A.c_Rule H r b k ms most D ∧ RArgs b k ms most ∧
  H sp = some (.tup [.int l, .int h, .int d]) ∧ Rng l h d ∧
  ∀ (H' : Hp) (q : Addr) (m p : Int), Same H H' → H q = none → LeastFit b ms k most l h d m p → b ^ (p + d).natAbs < 2 ^ 2000 → (lg b (h - l) : Int) - (lg b (most + 1) + 1) ≤ p + d + lg b m →
    H' q = some (.tup [.int (fstZ k (l * facZ b (p + d)) (sizZ b m (p + d))), .int (lstZ k (h * facZ b (p + d)) (sizZ b m (p + d)))]) → Q (.ref q) H'
abbrev nm_Rule_marks : List Str := ["self", "span", "factor", "size", "low", "high"]
theorem sc_Rule_marks : FnScope ["self", "span", "factor", "size", "low", "high"] ["self", "span"] (defScope s_Rule_marks) := ⟨rfl, rfl, rfl, by decide +kernel, rfl, by decide +kernel, by decide +kernel⟩
theorem ok_marks (T : Txt K mg A w) : FnOk P w K mg base CX0 5 A.a_Rule_marks A.d_Rule_marks ["self", "span"] (spMarks A) := by
  have G_measure : FnOk P w K mg base CX0 2 A.a_measure A.d_measure ["base", "step", "digits"] (spMeasure K) := ok_measure T
  have G_Rule_step : FnOk P w K mg base CX0 4 A.a_Rule_step A.d_Rule_step ["self", "span"] (spStep A) := ok_step T
  refine T.F_Rule_marks.ok sc_Rule_marks (fun vs H Q E h => ?_) (fun cdv A0 outer s H vs Q E hr h => ?_)
  · obtain ⟨r, sp, l, h, d, b, k, ms, most, D, rfl, _⟩ := h
    rfl
  · obtain ⟨r, sp, l, h, d, b, k, ms, most, D, rfl, x, R, hsp, G, q⟩ := h
    have noS : (rf b k D.lm most D.dv D.lr).lookup ("step" : Str) = none := rf_no (by decide +kernel) (by decide +kernel) (by decide +kernel) (by decide +kernel) (by decide +kernel) (by decide +kernel)
    have b1 : 1 ≤ b := by have := R.b2; omega
    refine ⟨_, (pss_cons (ps_asg (pe_call G_measure (hr.mono (by decide)) (by rfl) T.m_measure T.F_measure.kp T.B_measure .nil pass0 (pa_cons (pe_fld (pv 0) rfl) (pa_cons (pe_meth (pv 0) T.cl T.t_Rule_step G_Rule_step (hr.mono (by decide)) T.B_Rule_step .nil pass0 (pa_cons (pv 1) pa_nil)) (pa_cons (pe_ix ix_tup (pv 1) pe_int (fun _ _ => rfl)) pa_nil)))) (pg_tup (by rfl) (pgs_cons (pg_name (i := 2) sc_Rule_marks.nd rfl (Or.inl rfl)) (pgs_cons (pg_name (i := 3) sc_Rule_marks.nd rfl (Or.inl rfl)) pgs_nil))))
  (pss_cons (ps_set (i := 4) sc_Rule_marks.nd rfl (Or.inl rfl) (pe_op op_mulW (pe_ix ix_tup (pv 1) pe_int (fun _ _ => rfl)) (pv 2)))
  (pss_cons (ps_set (i := 5) sc_Rule_marks.nd rfl (Or.inl rfl) (pe_op op_mulW (pe_ix ix_tup (pv 1) pe_int (fun _ _ => rfl)) (pv 2)))
  (pss_cons (ps_if (pt_cmpR op_eq (pe_fld (pv 0) rfl) pe_str (nomark _)) (pss_one (ps_ret (pe_tup (pa_cons (pe_op op_fdivW (pv 4) (pv 3)) (pa_cons (pe_un un_neg (pe_op op_fdivW (pe_un un_neg (pv 5)) (pv 3))) pa_nil))))) pss_nil)
  (pss_one (ps_ret (pe_tup (pa_cons (pe_un un_neg (pe_op op_fdivW (pe_un un_neg (pv 4)) (pv 3))) (pa_cons (pe_op op_fdivW (pv 5) (pv 3)) pa_nil))))))))), ?_⟩
    refine ⟨_, rfl, r, A.c_Rule, D.dx, _, _, rfl, x.at_, T.cl, T.na_base, rf_base _ _ _ _ _ _, _, rfl, r, D.dx, _, rfl, x.at_, noS, _, rfl, r, sp, l, h, d, b, k, ms, most, D, rfl, x, R, hsp, G, fun H1 q1 m p s1 hq1 ht1 L eB low => ?_⟩
    obtain ⟨m1, mB, m3⟩ := R.all m L.mem
    have hsp1 := s1 _ _ hsp
    refine ⟨_, rfl, sp, _, _, _, rfl, rfl, SqT.of hsp1, atL (j := 2) rfl, b, m, p, d, q1, rfl, SqT.of ht1, b1, lt_big R.bB (by decide), lt_big (n := 2000) eB (by decide), by omega, lt_big mB (by decide), ?_⟩
    rintro H2 q2 s2 hq2 rfl
    refine ⟨q2, _, rfl, SqT.of upd_same, rfl, _, _, rfl, _, _, rfl, rfl, ?_⟩
    have s02 := s1.trans s2
    have x2 := x.same s02
    have hsp2 := s02 _ _ hsp
    obtain ⟨f1, f2⟩ := fac_bound b1 eB
    obtain ⟨z1, z2⟩ := siz_bound b1 m1 mB eB
    have fN : (facZ b (p + d)).natAbs < 2 ^ 2000 := abs_lt_pow (by omega) f2
    have zB : sizZ b m (p + d) < BIG := lt_big (n := 2064) z2 (by decide)
    refine ⟨_, rfl, sp, _, _, _, rfl, rfl, SqT.of hsp2, atL (j := 0) rfl, _, rfl, _, _, rfl, rfl, wide_mul G.lo fN (by decide) (by decide) (by decide), ?_⟩
    refine ⟨_, rfl, sp, _, _, _, rfl, rfl, SqT.of hsp2, atL (j := 1) rfl, _, rfl, _, _, rfl, rfl, wide_mul G.hi fN (by decide) (by decide) (by decide), ?_⟩
    refine ⟨_, rfl, r, A.c_Rule, D.dx, _, _, rfl, x2.at_, T.cl, T.na_kind, rf_kind _ _ _ _ _ _, rfl, _, rfl, ?_⟩
    show if (decide (V.str k.s = V.str "cover")) = true then _ else _
    rw [kd_cov]
    by_cases c : k = .cov
    · rw [decide_eq_true c]
      refine iteT ⟨_, rfl, _, rfl, _, _, rfl, rfl, size_div z1 zB _, _, rfl, _, rfl, _, rfl, _, _, rfl, rfl, size_div z1 zB _, _, rfl, (by show 2 ≤ sizeLine; decide), fun q3 hq3 => ?_⟩
      refine q _ q3 m p (s02.trans (same_new hq3)) (s02.free hq3) L eB low ?_
      rw [upd_same]
      unfold fstZ lstZ
      rw [if_pos c, if_pos c]
    · rw [decide_eq_false c]
      refine iteF ⟨_, rfl, _, rfl, _, rfl, _, _, rfl, rfl, size_div z1 zB _, _, rfl, _, rfl, _, rfl, _, _, rfl, rfl, size_div z1 zB _, (by show 2 ≤ sizeLine; decide), fun q3 hq3 => ?_⟩
      refine q _ q3 m p (s02.trans (same_new hq3)) (s02.free hq3) L eB low ?_
      rw [upd_same]
      unfold fstZ lstZ
      rw [if_neg c, if_neg c]
end
end Ax

namespace Ax
open PySem L2
section
variable {P : Program} {w : World} {K : PySem.W.Frag} {mg : Str → Option Value} {base : Heap} {A : Adr}
/-! ### _law_made -/
def spMade (A : Adr) : Sp := fun vs H Q _ => ∃ (ru lh : Addr) (b : Int) (k : Kd) (hs : List Int) (most : Int), vs = [.ref ru] ∧ RuleT H ru lh b k hs most ∧ RArgs b k hs most ∧
  ∀ (H' : Hp) (r : Addr) (D : RD), Same H H' → H r = none → RX A.c_Rule H' r b k hs most D → H D.lm = none → H D.lr = none → Q (.ref r) H'
abbrev nm_law_made : List Str := ["_law_rule_here"]
theorem sc_law_made : FnScope ["_law_rule_here"] ["_law_rule_here"] (defScope s_law_made) := ⟨rfl, rfl, rfl, by decide +kernel, rfl, by decide +kernel, by decide +kernel⟩
theorem ok_made (T : Txt K mg A w) : FnOk P w K mg base CX0 6 A.a_law_made A.d_law_made ["_law_rule_here"] (spMade A) := by
  have G_Rule_init : FnOk P w K mg base CX0 4 A.a_Rule_init A.d_Rule_init ["self", "base", "kind", "mantissas", "most"] (spInit A) := ok_init T
  refine T.F_law_made.ok sc_law_made (fun vs H Q E h => ?_) (fun cdv A0 outer s H vs Q E hr h => ?_)
  · obtain ⟨ru, lh, b, k, hs, most, rfl, _⟩ := h
    rfl
  · obtain ⟨ru, lh, b, k, hs, most, rfl, RT, R, q⟩ := h
    refine ⟨_, (pss_one (ps_ret (pe_make T.mk_Rule G_Rule_init (hr.mono (by decide)) (by rfl) T.c_Rule T.B_Rule_init .nil pass0 (pa_cons (pe_ix ix_tup (pv 0) pe_int (fun _ _ => rfl)) (pa_cons (pe_ix ix_tup (pv 0) pe_int (fun _ _ => rfl)) (pa_cons (pe_callTy call_list_of (by rfl) T.n_list (by decide +kernel) (pa_cons (pe_ix ix_tup (pv 0) pe_int (fun _ _ => rfl)) pa_nil)) (pa_cons (pe_ix ix_tup (pv 0) pe_int (fun _ _ => rfl)) pa_nil))))))), ?_⟩
    refine ⟨_, rfl, ru, _, _, _, rfl, rfl, SqT.of RT.1, atL (j := 0) rfl, _, rfl, ru, _, _, _, rfl, rfl, SqT.of RT.1, atL (j := 1) rfl, _, rfl, ru, _, _, _, rfl, rfl, SqT.of RT.1, atL (j := 2) rfl, lh, _, rfl, .inl (SqL.of RT.2), fun l9 hl9 => ?_⟩
    have s8 : Same H (upd H l9 (.lst (hs.map V.int))) := same_new hl9
    refine ⟨_, rfl, ru, _, _, _, rfl, rfl, SqT.of (s8 _ _ RT.1), atL (j := 3) rfl, fun x dx nx ndx nex => ?_⟩
    generalize hH8 : upd H l9 (.lst (hs.map V.int)) = H8 at s8 nx ndx ⊢
    have l98 : H8 l9 = some (.lst (hs.map V.int)) := by rw [← hH8]; exact upd_same
    have s9 : Same H8 (upd (upd H8 dx (.own x)) x (.ins A.c_Rule dx [])) := (same_new ndx).trans (same_new (by rw [upd_ne nex.symm]; exact nx))
    refine ⟨x, dx, l9, b, k, hs, most, rfl, upd_same, s9 _ _ l98, R, fun H10 D kept X10 n1 n2 => ⟨rfl, ?_⟩⟩
    have s10 : Same H H10 := fun c o e => kept c o (ne_of_none (s8 _ _ e) nx) (s9 _ _ (s8 _ _ e))
    exact q H10 x D s10 (s8.free nx) X10 ((s8.trans s9).free n1) ((s8.trans s9).free n2)
end
end Ax

/-! # Promises of defs that are called where no guard stands below: they may tell texts of data (repr). -/
namespace Ax
open PySem PySem.Spec PyProof.Rows L2
structure FnG (P : Program) (w : World) (K : PySem.W.Frag) (mg : Str → Option Value) (base : Heap) (k : Nat) (f : Addr) (fd : FuncData) (ps : List Str) (sp : Sp) : Prop where
  many : ∀ vs H Q E, sp vs H Q E → vs.length = ps.length
  go : ∀ {A : Around} {callers : List Env} {st : Shared} {H : Hp} {ar : Args} {us : List Value} {vs : List V} {Q : VK} {E : XK}, A.guards = some [] → Room k A →
    Env0 P w K mg base A callers st H → BindsTo st fd ar (ps.zip us) → Vals vs us → sp vs H Q E →
    codeAny (model P w) A (.call (.ref f) ar) (CR CX0 callers P w H st Q E) st
section
variable {P : Program} {w : World} {K : PySem.W.Frag} {mg : Str → Option Value} {base : Heap} {k : Nat} {f : Addr} {fd : FuncData} {ps N : List Str} {sp : Sp}
/-- by its body -/
theorem fnG {x qual : Str} {d : Stmt} (F : Fun K x qual d f fd) (S : FnScope N ps (defScope d)) (many : ∀ vs H Q E, sp vs H Q E → vs.length = ps.length)
    (body : ∀ (cd : Value) (A : Around) (callers : List Env) (st : Shared) (H : Hp) (vs : List V) (Q : VK) (E : XK), A.guards = some [] → Room k (A.deeper (envOfC qual (defScope d) st.heap.objs.size f cd)) → sp vs H Q E →
      ∃ t, PSs (cxOf CX0 P w K mg base N qual (defScope d) f cd A callers st H E).nox (defBody d) t ∧ t ⟨fun _ H' => Q .non H', Q, fun _ _ => False, fun _ _ => False⟩ (L2.start N vs) H) :
    FnG P w K mg base (k + 1) f fd ps sp := by
  obtain ⟨_, _, _, _, _, _, cd, _, _, rfl, look, isCode⟩ := F.ex
  constructor
  · exact many
  · intro A callers st H ar us vs Q E hg room en bi rel hsp
    have old : ∀ b o, base.get? b = some o → st.heap.get? b = some o := fun b o e => (en.bs b o e).1
    have inK := en.mod.kin.keeps old
    have free := en.mod.nolimit.keeps old
    have kinds : ∀ y ∈ ps.zip us, (defScope d).names.lookup y.1 = some .local ∨ (defScope d).names.lookup y.1 = some .cell ∧ ((cellsFrom (st.heap.objs.size + 1) (defScope d).names []).lookup y.1).isSome = true := by
      rintro ⟨n, u⟩ hy
      exact (S.par n (List.of_mem_zip hy).1).imp id fun z => ⟨z, PySem.W.cellsFrom_some _ _ _ (.inl z)⟩
    refine codeAny_call_function room.depth (inK _ _ look) rfl S.co S.gen rfl (PySem.W.codeRec_of inK isCode) (bi _ _ _ _ (wpAny_newFunctionEnv_cells S.kind kinds ?_))
    rintro _ rfl s1 fresh
    refine ⟨free.keeps fresh.toInCall.keep, codeAny_func ?_⟩
    obtain ⟨t, read, now⟩ := body cd A callers st H vs Q E hg (room.deeper _) hsp
    have start := inv_start (CX := CX0) (E := E) S room.hd en (many _ _ _ _ hsp) rel fresh
    refine wpAny_mono (read.nox.run [] s1 (L2.start N vs) H _ start now) ?_ fun _ _ z => z
    intro fl s2 hs
    have out : ∀ {σ' : L2.St} {H' : Hp} {v : V} {u : Value}, Inv (cxOf CX0 P w K mg base N qual (defScope d) f cd A callers st H E) [] σ' H' s2 → RelV v u → Q v H' → CE callers P w H st Q u s2 :=
      fun J r q => ⟨_, _, J.os, J.bare, J.base, J.hok, r, q⟩
    match fl, hs with
    | .ret u, ⟨v, σ', H', J, r, q⟩ => exact out J r q
    | .next, ⟨σ', H', J, q⟩ => exact out (v := .non) (u := .none) J rfl q
    | .brk, ⟨_, _, _, q⟩ => exact q.elim
    | .cont, ⟨_, _, _, q⟩ => exact q.elim
end
/-! ### its call -/
section
variable {X : Cx} {k : Nat} {f : Addr} {fd : FuncData} {ps : List Str} {sp : Sp} {E : XK} {x : Str} {p pos : Pos} {e : Expr} {es : List Expr} {t : TA}
theorem pe_callG (F : FnG X.prog X.w X.K X.mg X.base k f fd ps sp) (gu : X.A.guards = some []) (room : Room k X.A) (gl : Gl X x) (hm : X.mg x = some (.ref f)) (kp : PySem.W.keepIn X.K (.ref f) = true) (bi : Binds X.K fd ps []) (ps0 : Passes CX0 X E)
    (args : PA X (e :: es) t) (nd : (x == ("__debug__" : Str)) = false := by decide) (st1 : starEach (e :: es) X.env = (false, eval e X.env) :: starEach es X.env := by rfl)
    (st2 : (backTo pos (starEach es X.env)).any (·.1) = false := by rfl) : PE X (.Call (.Name x p) (e :: es) [] pos) (tCall sp [] E t) := by
  constructor
  intro pins s σ H Q I h
  refine wpAny_Call_Name_kw (ld_glob I gl hm (PySem.W.callWith_K (h₀ := X.base) I.ok.mod.kin kp (thn (args.run pos pins s σ H _ I h) ?_) st1 st2) nd)
  rintro us s1 ⟨vs, H1, I1, rel, now⟩
  refine ⟨I1.kIn, ?_⟩
  have rel' : Vals (vs ++ []) (us ++ []) := rel.append .nil
  have len : (us ++ []).length = ps.length := rel'.length.symm.trans (F.many _ _ _ _ now)
  refine wpAny_call (codeAny_mono (F.go gu room I1.env0 (bi s1 us I1.kIn len) rel' now) ?_)
  rintro (er | fl) s2 z
  · exact ps0 pins σ H1 s1 er s2 I1 z
  · match fl, z with
    | .ret u, z => exact I1.after z
    | .next, z => exact z.elim
    | .brk, z => exact z.elim
    | .cont, z => exact z.elim
end
/-! ### the law's call -/
theorem lawG {P : Program} {w : World} {K : PySem.W.Frag} {mg mb : Str → Option Value} {k : Nat} {fa a : Addr} {fd : FuncData} {x : Str} {sp : Sp} {st : Shared} {vs : List Value} {ns : List Int}
    (inK : K.In st.heap) (gl : st.heap.Ns mainGlobals mg) (bl : st.heap.Ns builtinsNs mb) (bb : ∀ y : Str, y ≠ "__name__" → mb y = bootBuiltins y) (free : st.heap.NoLimit) (gens : st.gens = #[])
    (at_ : st.heap.get? a = some { cls := .type "list", data := .seq vs.toArray }) (isI : IntsAre vs ns) (few : ns.length ≤ sizeLine) (room : Room k callerA)
    (F : ∀ base : Heap, K.In base → base.Ns mainGlobals mg → FnG P w K mg base k fa fd [x] sp) (bi : ∀ (s : Shared) (u : Value), BindsTo s fd ⟨[u], []⟩ [(x, u)])
    (hsp : ∀ H : Hp, SqL K H a (ns.map V.int) → sp [.ref a] H (fun v _ => v = .bl true) fun _ _ _ => False) :
    codeAny (model P w) callerA (.call (.ref fa) ⟨[.ref a], []⟩) (fun r s' => r = .ok (.ret (.bool true)) ∧ OldK st.heap s'.heap ∧ s'.os = st.os ∧ AllBare s'.gens) st := by
  have rel := vals_ints isI
  obtain ⟨ob, eob⟩ : ∃ ob : Obj, ob = { cls := .type "list", data := .seq vs.toArray } := ⟨_, rfl⟩
  obtain ⟨H, eH⟩ : ∃ H : Hp, H = fun b => if b = a ∧ K.lookup a = none then some (.frz ob (.lst (ns.map V.int))) else none := ⟨_, rfl⟩
  have only : ∀ {b u}, H b = some u → b = a ∧ K.lookup a = none ∧ u = .frz ob (.lst (ns.map V.int)) := fun {b u} z => by
    rw [eH] at z
    by_cases c : b = a ∧ K.lookup a = none
    · exact ⟨c.1, c.2, (Option.some.inj ((if_pos c).symm.trans z)).symm⟩
    · cases (if_neg c).symm.trans z
  have sizes : vs.length = ns.length := isI.length
  have hS : SqL K H a (ns.map V.int) := by
    cases look : K.lookup a with
    | some o =>
      have same := inK a o look
      rw [at_] at same
      cases same
      exact .inr ⟨_, vs.toArray, _, look, rfl, rfl, rfl, by rw [List.size_toArray, sizes]; exact few, by simpa using rel⟩
    | none => exact .inl (.inr ⟨ob, by rw [eH]; exact if_pos ⟨rfl, look⟩⟩)
  have ok : HOk P w H st.heap := fun b u z => by
    obtain ⟨rfl, _, rfl⟩ := only z
    subst eob
    exact ⟨at_, by rw [List.length_map]; exact few, vs, _, rel, at_⟩
  have shown : ∀ {b o}, st.heap.get? b = some o → (b = a → K.lookup a ≠ none) → (hidT st.heap H).get? b = some o := fun {b o} e n => hidT_get e (by
    cases z : H b with
    | none => rfl
    | some u => exact absurd (only z).2.1 (n (only z).1))
  have names : ∀ {b m}, st.heap.Ns b m → (hidT st.heap H).Ns b m := by
    rintro b m ⟨o, es, ep, e, dd, r⟩
    refine ⟨o, es, ep, shown e (fun z => ?_), dd, r⟩
    rw [z, at_] at e
    cases e
    cases dd
  have inB : K.In (hidT st.heap H) := by
    intro b o e
    refine shown (inK b o e) (fun z n => ?_)
    rw [z, n] at e
    cases e
  have nolim : (hidT st.heap H).NoLimit := by
    obtain ⟨mc, h1, h2⟩ := free
    exact ⟨mc, names h1, h2⟩
  have en : Env0 P w K mg (hidT st.heap H) callerA [] st H :=
    { frames := rfl, mod := ⟨inB, names gl, ⟨mb, names bl, bb⟩, nolim⟩, bs := fun b o e => of_hidT e, bsz := Nat.le_of_eq (hidT_size _ _), funs := trivial,
      frf := fun b hb => (List.not_mem_nil hb).elim, hok := ok, bare := .of_eq gens }
  refine codeAny_mono ((F _ inB (names gl)).go rfl room en (us := [.ref a]) (vs := [V.ref a]) (bi st (.ref a)) (.cons rfl .nil) (hsp H hS)) ?_
  rintro (er | fl) s' z
  · exact (show False from z).elim
  · match fl, z with
    | .next, z => exact z.elim
    | .brk, z => exact z.elim
    | .cont, z => exact z.elim
    | .ret u, ⟨v, H', os, bare, un, ok', r, q⟩ =>
      cases (show v = .bl true from q)
      cases (show u = Value.bool true from r)
      refine ⟨rfl, OldK.of_keep fun b o e => ?_, os, bare⟩
      cases z : H b with
      | none => exact un.keep b o e z (fun y => (List.not_mem_nil y).elim) (fun y => (List.not_mem_nil y).elim)
      | some u =>
        obtain ⟨rfl, _, rfl⟩ := only z
        have e1 := (ok _ _ z).1
        have e2 := (ok' _ _ (un.frzs _ _ _ z)).1
        rw [e] at e1
        cases e1
        exact e2
theorem walkG {l : PySem.W.OpenLaw} {q : Program} {loose : List Str} {XP : (Str → Option Value) → Heap → Prop} {YP : World → Heap → Prop} {d : DefRec} {K : Params → PySem.W.Frag} {k : Nat} {x : Str} {sp : World → Sp}
    (most : l.most = some 63) (nodef : d.params.defaults = []) (room : Room k callerA) (inK : ∀ (w : World) (h : Heap), YP w h → (K w.params).In h)
    (F : ∀ (w : World) (mg : Str → Option Value) (fa : Addr) (h : Heap), (K w.params).In h → h.Ns mainGlobals mg → mg d.name = some (.ref fa) →
      ∃ fd : FuncData, (∀ (s : Shared) (u : Value), BindsTo s fd ⟨[u], []⟩ [(x, u)]) ∧ ∀ base : Heap, (K w.params).In base → base.Ns mainGlobals mg → FnG l.prog w (K w.params) mg base k fa fd [x] (sp w))
    (hsp : ∀ (w : World) (H : Hp) (a : Addr) (ns : List Int), ns.length ≤ 63 → SqL (K w.params) H a (ns.map V.int) → sp w [.ref a] H (fun v _ => v = .bl true) fun _ _ _ => False) :
    PySem.W.WalkO q loose XP YP l.row.toRowW d [] (fun f vs => PySem.call f vs) := by
  refine Att.attach_call most nodef ?_
  intro w s0 st mg mb fa o pm cd doc a vs ns G Y _ _ _ hm at_ isI few gens
  obtain ⟨fd, bi, hF⟩ := F w mg fa _ (inK w _ Y) G.T.g hm
  exact lawG (inK w _ Y) G.T.g G.T.b G.T.builtins G.T.nolimit gens at_ isI (Nat.le_trans few (by decide)) room hF bi fun H hS => hsp w H a ns few hS
/-! ### texts of data -/
/-- repr of data that holds no dict, where no guard stands below -/
def rRepr (K : PySem.W.Frag) (A : Around) : List V → Hp → VK → Prop := fun xs H Q => ∃ (a : Addr) (d : PyData), xs = [.ref a] ∧ Dp K H (.ref a) d ∧ d.showable = true ∧ d.hasDict = false ∧ d.shown.length ≤ sizeLine ∧ A.units + (d.depth + 1) < cLine ∧ Q (.str d.shown) H
theorem call_reprD {X : Cx} (gu : X.A.guards = some []) : CallR X (.builtin "repr") (rRepr X.K X.A) := by
  intro pins s σ H xs us Q I rel h
  obtain ⟨a, d, rfl, dp, s1, s2, s3, s4, q⟩ := h
  obtain ⟨u, rfl, ru⟩ : ∃ u, us = [u] ∧ RelV (.ref a) u := by
    cases rel with
    | cons h t =>
      cases t
      exact ⟨_, rfl, h⟩
  cases ru
  obtain ⟨as, rd⟩ := Dp.reads I d _ _ dp rfl
  refine repr_of_reads' rd s1 (PyData.noDict_hsm s2) gu s4 (fun _ _ e => e) (fun h' u tk kept => ?_) s3
  exact ⟨.str d.shown, H, I.kept kept, ⟨u, rfl⟩, q⟩
theorem shown2 {a b : Int} (h1 : a.natAbs.log2 < 1920) (h2 : b.natAbs.log2 < 1920) : (PyData.tuple [.int a, .int b]).showable = true ∧ (PyData.tuple [.int a, .int b]).hasDict = false ∧ (PyData.tuple [.int a, .int b]).shown.length ≤ sizeLine ∧ (PyData.tuple [.int a, .int b]).depth ≤ 8 := by
  refine ⟨?_, ?_, ?_, ?_⟩
  · simp [PyData.showable, PyData.showableAll, h1, h2]
  · simp [PyData.hasDict, PyData.hasDictAll]
  · have l1 := PyProof.Rows.int_text_len_1921 h1
    have l2 := PyProof.Rows.int_text_len_1921 h2
    simp only [PyData.shown, PyData.shownAll]
    unfold tupleText
    rw [strLen_append, strLen_append]
    have j := join_length_add [Str.ofString (toString a), Str.ofString (toString b)] (by simp)
    simp only [piled] at j
    simp only [List.map_cons, List.map_nil, List.sum_cons, List.sum_nil] at j
    have e1 : (Str.ofString "(").length = 1 := rfl
    have e2 : (Str.ofString (if ([Str.ofString (toString a), Str.ofString (toString b)].length == 1) = true then ",)" else ")")).length ≤ 2 := by
      rw [if_neg (by simp)]
      decide
    rw [sizeLine_eq]
    omega
  · simp [PyData.depth, PyData.depthAll]
end Ax

namespace L2
open PySem PySem.Spec PyProof.Rows
/-! ### len(set(xs)), also of what stands twice -/
abbrev fmet (ns : List Int) (i : Nat) : List Int := PyProof.Rows.firstMet (fun i => ns.getD i 0) i
def tLenSetG (K : PySem.W.Frag) (ta : TE) : TE := fun σ H Q => ta σ H fun x H1 => ∃ (l : Addr) (ns : List Int), x = .ref l ∧ SqL K H1 l (ns.map V.int) ∧ ns.length ≤ 4000 ∧ Q (.int ((fmet ns ns.length).length : Nat)) H1
theorem fmet_succ (ns : List Int) (i : Nat) : fmet ns (i + 1) = if (fmet ns i).any (· == ns.getD i 0) then fmet ns i else fmet ns i ++ [ns.getD i 0] := by
  show PyProof.Rows.firstMet (fun i => ns.getD i 0) (i + 1) = _
  rw [PyProof.Rows.firstMet_succ]
  rfl
theorem fmet_le (ns : List Int) : ∀ i, (fmet ns i).length ≤ i
  | 0 => by
    show (PyProof.Rows.firstMet (fun i => ns.getD i 0) 0).length ≤ 0
    simp [PyProof.Rows.firstMet]
  | i + 1 => by
    have ih := fmet_le ns i
    rw [fmet_succ]
    split
    · exact Nat.le_succ_of_le ih
    · rw [List.length_append]
      exact Nat.succ_le_succ ih
theorem fmet_mem (ns : List Int) : ∀ i, ∀ x ∈ fmet ns i, ∃ j, j < i ∧ ns.getD j 0 = x
  | 0, x, h => by
    have h : x ∈ PyProof.Rows.firstMet (fun i => ns.getD i 0) 0 := h
    simp [PyProof.Rows.firstMet] at h
  | i + 1, x, h => by
    rw [fmet_succ] at h
    split at h
    · obtain ⟨j, hj, e⟩ := fmet_mem ns i x h
      exact ⟨j, Nat.lt_succ_of_lt hj, e⟩
    · rcases List.mem_append.mp h with y | y
      · obtain ⟨j, hj, e⟩ := fmet_mem ns i x y
        exact ⟨j, Nat.lt_succ_of_lt hj, e⟩
      · exact ⟨i, Nat.lt_succ_self i, (List.mem_singleton.mp y).symm⟩
/-- all are kept only if none stands twice -/
theorem fmet_full (ns : List Int) : ∀ i, (fmet ns i).length = i → ∀ j k, j < k → k < i → ns.getD j 0 ≠ ns.getD k 0
  | 0, _, _, k, _, hk => absurd hk (Nat.not_lt_zero k)
  | i + 1, h, j, k, hj, hk => by
    rw [fmet_succ] at h
    have ih := fmet_le ns i
    split at h
    · omega
    · rename_i hn
      rw [List.length_append] at h
      have hi : (fmet ns i).length = i := by
        have h : (fmet ns i).length + 1 = i + 1 := h
        omega
      by_cases hki : k < i
      · exact fmet_full ns i hi j k hj hki
      · have e : k = i := by omega
        subst e
        intro z
        refine hn (List.any_eq_true.mpr ⟨ns.getD j 0, ?_, beq_iff_eq.mpr z⟩)
        exact fmet_all ns k hi j hj
where
  fmet_all (ns : List Int) : ∀ i, (fmet ns i).length = i → ∀ j, j < i → ns.getD j 0 ∈ fmet ns i
    | 0, _, j, hj => absurd hj (Nat.not_lt_zero j)
    | i + 1, h, j, hj => by
      rw [fmet_succ] at h ⊢
      have ih := fmet_le ns i
      split at h
      · omega
      · rename_i hn
        rw [if_neg hn]
        rw [List.length_append] at h
        have hi : (fmet ns i).length = i := by
          have h : (fmet ns i).length + 1 = i + 1 := h
          omega
        by_cases hji : j < i
        · exact List.mem_append_left _ (fmet_all ns i hi j hji)
        · have e : j = i := by omega
          rw [e]
          exact List.mem_append_right _ (List.mem_singleton.mpr rfl)
theorem fmet_nodup {ns : List Int} (h : (fmet ns ns.length).length = ns.length) : ns.Nodup := by
  refine List.pairwise_iff_getElem.mpr fun j k hj hk hjk => ?_
  have z := fmet_full ns ns.length h j k hjk hk
  have e1 : ns.getD j 0 = ns[j] := by
    rw [List.getD_eq_getElem?_getD, List.getElem?_eq_getElem hj] <;> rfl
  have e2 : ns.getD k 0 = ns[k] := by
    rw [List.getD_eq_getElem?_getD, List.getElem?_eq_getElem hk] <;> rfl
  rw [e1, e2] at z
  exact z
theorem pe_lenSetG {X : Cx} {a : Expr} {ta : TE} {p p2 q pos : Pos} (hg : Gl X "len") (hm : X.mg "len" = none) (hg2 : Gl X "set") (hm2 : X.mg "set" = none) (ha : PE X a ta) (hc : X.calm = true := by rfl)
    (na : starEach [a] X.env = (false, eval a X.env) :: starEach [] X.env := by rfl) : PE X (.Call (.Name "len" p) [.Call (.Name "set" p2) [a] [] q] [] pos) (tLenSetG X.K ta) := by
  refine ⟨fun pins s σ H Q I h => ?_⟩
  refine Call_ (ld_blt I hg hm boot_len ?_)
  refine PyProof.Rows.callWith_builtin1 (PyProof.Rows.args_cons ?_ rfl) rfl rfl
  refine Call_ (ld_blt I hg2 hm2 boot_set ?_)
  refine PyProof.Rows.callWith_type1 (PyProof.Rows.args_cons (thn (ha.run pins s σ H _ I h) fun v s1 ⟨x, H1, I1, r1, q1⟩ => PyProof.Rows.args_nil ?_) na) na rfl
  obtain ⟨l, ns, rfl, hq, hl, q1⟩ := q1
  cases r1
  obtain ⟨its, r, pl, hz⟩ := I1.list hq
  have hlen : its.toArray.size = ns.length := by rw [List.size_toArray, ← r.length, List.length_map]
  refine call_set_list (I1.ok.hd hc) pl.isList (by simpa using RZ.intsAre_vals r) (by rw [hlen]; unfold scanBound; omega) fun h' tk hS hk => ?_
  refine PyProof.Rows.args_nil ?_
  rw [hlen] at hS
  obtain ⟨o, es, ep, t, ho, hex, hd, _, _, _, hf, hn⟩ := hS
  have I2 : Inv X pins σ H1 { s1 with heap := h', toks := tk } := I1.kept fun b o e => hk b o (Heap.lt_size e) e
  have le := fmet_le ns ns.length
  have le : (PyProof.Rows.firstMet (fun i => ns.getD i 0) ns.length).length ≤ ns.length := le
  exact call_len_set ho hex hd hf (by rw [hn] <;> omega) ⟨.int ((fmet ns ns.length).length : Nat), H1, I2.tok _, ⟨_, by rw [hn]⟩, q1⟩
end L2
namespace Ax
open PySem L2
/-- values of the kinds that the law hands in, by their type -/
inductive Vt (H : Hp) : V → String → Prop
  | non : Vt H .non "NoneType"
  | bl (b : Bool) : Vt H (.bl b) "bool"
  | int (n : Int) : Vt H (.int n) "int"
  | str (x : Str) : Vt H (.str x) "str"
  | lst {a : Addr} {xs : List V} (e : H a = some (.lst xs)) : Vt H (.ref a) "list"
  | tup {a : Addr} {xs : List V} (e : H a = some (.tup xs)) : Vt H (.ref a) "tuple"
  | emp {a : Addr} (e : H a = some (.dK [])) : Vt H (.ref a) "dict"
theorem Vt.same {H H' : Hp} (s : Same H H') {v : V} {T : String} (h : Vt H v T) : Vt H' v T := by
  cases h with
  | non => exact .non
  | bl b => exact .bl b
  | int n => exact .int n
  | str x => exact .str x
  | lst e => exact .lst (s _ _ e)
  | tup e => exact .tup (s _ _ e)
  | emp e => exact .emp (s _ _ e)
theorem Vt.ty {K : PySem.W.Frag} {H : Hp} {v : V} {T : String} (h : Vt H v T) : TyX K H v (.type T) := by
  cases h with
  | non => exact .base .non
  | bl b => exact .base (.bl b)
  | int n => exact .base (.int n)
  | str x => exact .base (.str x)
  | lst e => exact .base (.lst e)
  | tup e => exact .base (.tup e)
  | emp e => exact .base (.dK e)
theorem Vt.is {K : PySem.W.Frag} {H : Hp} {v : V} {T : String} (h : Vt H v T) : PySem.W.kitOne K (.type T) (.type "int") = some (T == "int" || T == "bool") ∧ PySem.W.kitOne K (.type T) (.type "bool") = some (T == "bool") ∧ PySem.W.kitOne K (.type T) (.type "str") = some (T == "str") ∧ PySem.W.kitOne K (.type T) (.type "list") = some (T == "list") ∧ PySem.W.kitOne K (.type T) (.type "tuple") = some (T == "tuple") := by
  cases h <;> exact ⟨kit_ty (by decide +kernel), kit_ty (by decide +kernel), kit_ty (by decide +kernel), kit_ty (by decide +kernel), kit_ty (by decide +kernel)⟩
/-- is_whole -/
def isWh : V → Bool
  | .int _ => true
  | _ => false
theorem Vt.whole {H : Hp} {v : V} {T : String} (h : Vt H v T) : ((T == "int" || T == "bool") && !(T == "bool")) = isWh v := by
  cases h <;> simp [isWh]
theorem Vt.isInt {H : Hp} {v : V} {T : String} (h : Vt H v T) (w : isWh v = true) : ∃ n, v = .int n := by
  cases h <;> first | exact ⟨_, rfl⟩ | (cases w)
section
variable {P : Program} {w : World} {K : PySem.W.Frag} {mg : Str → Option Value} {base : Heap} {A : Adr}
theorem sp_whole_vt {H : Hp} {v : V} {T : String} {Q : VK} {E : XK} (h : Vt H v T) (q : Q (.bl (isWh v)) H) : spWhole K [v] H Q E :=
  ⟨v, .type T, _, _, rfl, h.ty, h.is.1, fun _ => h.is.2.1, by rw [h.whole]; exact q⟩
/-! ### is_base -/
def baseOk : V → Bool
  | .int n => decide (2 ≤ n)
  | _ => false
def spBase2 : Sp := fun vs H Q _ => ∃ (v : V) (T : String), vs = [v] ∧ Vt H v T ∧ Q (.bl (baseOk v)) H
theorem ok_is_base2 (T : Txt K mg A w) : FnOk P w K mg base CX0 2 A.a_is_base A.d_is_base ["value"] spBase2 := by
  have G_is_whole : FnOk P w K mg base CX0 1 A.a_is_whole A.d_is_whole ["value"] (spWhole K) := ok_is_whole T
  refine T.F_is_base.ok sc_is_base (fun vs H Q E h => ?_) (fun cdv A0 outer s H vs Q E hr h => ?_)
  · obtain ⟨v, Tv, rfl, _⟩ := h
    rfl
  · obtain ⟨v, Tv, rfl, hv, q⟩ := h
    refine ⟨_, (pss_one (ps_ret (pe_and (pe_call G_is_whole (hr.mono (by decide)) (by rfl) T.m_is_whole T.F_is_whole.kp T.B_is_whole .nil pass0 (pa_cons (pv 0) pa_nil)) (pe_one (pe_cmpR op_ge (pv 0) pe_int (nomark _)))))), ?_⟩
    refine ⟨v, rfl, v, .type Tv, _, _, rfl, hv.ty, hv.is.1, fun _ => hv.is.2.1, isWh v, congrArg V.bl hv.whole, ?_⟩
    cases e : isWh v with
    | true =>
      obtain ⟨n, rfl⟩ := hv.isInt e
      exact iteT ⟨_, rfl, _, _, rfl, rfl, q⟩
    | false =>
      refine iteF ?_
      rw [show baseOk v = false by cases v <;> first | rfl | (cases e)] at q
      exact q
/-! ### _kind_and_most_fit -/
def mostOk (l : Int) : V → Bool
  | .int m => decide (l ≤ m)
  | _ => false
def spKM2 (K : PySem.W.Frag) (A : Adr) : Sp := fun vs H Q _ => ∃ (vk vm : V) (Tk Tm : String), vs = [vk, vm] ∧ Vt H vk Tk ∧ Vt H vm Tm ∧
  ((∃ k : Kd, vk = .str k.s ∧ Q (.bl (mostOk k.least vm)) H) ∨ (∃ x, vk = .str x ∧ PySem.W.nsIn K A.a_LEAST x = some none ∧ Q (.bl false) H) ∨ ((Tk == "str") = false ∧ Q (.bl false) H))
theorem ok_kind2 (T : Txt K mg A w) : FnOk P w K mg base CX0 2 A.a_kind_and_most_fit A.d_kind_and_most_fit ["kind", "most"] (spKM2 K A) := by
  have G_is_whole : FnOk P w K mg base CX0 1 A.a_is_whole A.d_is_whole ["value"] (spWhole K) := ok_is_whole T
  refine T.F_kind_and_most_fit.ok sc_kind_and_most_fit (fun vs H Q E h => ?_) (fun cdv A0 outer s H vs Q E hr h => ?_)
  · obtain ⟨vk, vm, Tk, Tm, rfl, _⟩ := h
    rfl
  · obtain ⟨vk, vm, Tk, Tm, rfl, hk, hm, q⟩ := h
    obtain ⟨es, n, D⟩ := T.kd
    refine ⟨_, (pss_cons (ps_if (PW.pt (pw_or (pt_not (pt_val (pe_callB call_isi (by rfl) T.n_isinstance (by decide +kernel) (pa_cons (pv 0) (pa_cons (pe_bltn (v := .ty "str") (by rfl) T.n_str (by decide +kernel) rfl) pa_nil))))) (pw_or1 (pt_cmpR (op_notIn_kd D) (pv 0) (pe_glob (v := .ref A.a_LEAST) rfl T.m_LEAST_MOST rfl) (by rfl))))) (pss_one (ps_ret pe_bl)) pss_nil)
  (pss_one (ps_ret (pe_and (pe_call G_is_whole (hr.mono (by decide)) (by rfl) T.m_is_whole T.F_is_whole.kp T.B_is_whole .nil pass0 (pa_cons (pv 1) pa_nil)) (pe_one (pe_cmpR op_ge (pv 1) (pe_ix ix_kdict (pe_glob (v := .ref A.a_LEAST) rfl T.m_LEAST_MOST rfl) (pv 0) (fun _ _ => rfl)) (nomark _))))))), ?_⟩
    refine ⟨_, rfl, vk, .ty "str", .type Tk, .type "str", Tk == "str", rfl, .ty _, hk.ty, hk.is.2.2.1, _, rfl, ?_⟩
    rcases q with ⟨k, rfl, q⟩ | ⟨x, rfl, nx, q⟩ | ⟨ns, q⟩
    · have e : Tk = "str" := by cases hk; rfl
      subst e
      refine iteF ?_
      obtain ⟨tk, hkn⟩ := kd_in T k
      refine ⟨_, rfl, k.s, _, rfl, rfl, hkn, _, rfl, ?_⟩
      refine iteF ?_
      refine ⟨_, rfl, vm, .type Tm, _, _, rfl, hm.ty, hm.is.1, fun _ => hm.is.2.1, isWh vm, congrArg V.bl hm.whole, ?_⟩
      cases e : isWh vm with
      | true =>
        obtain ⟨m, rfl⟩ := hm.isInt e
        refine iteT ⟨_, rfl, _, rfl, _, k.s, .int k.least, rfl, rfl, ⟨es, n, _, D.at_, D.lit, hkn, tk, rfl⟩, _, _, rfl, rfl, q⟩
      | false =>
        refine iteF ?_
        rw [show mostOk k.least vm = false by cases vm <;> first | rfl | (cases e)] at q
        exact q
    · have e : Tk = "str" := by cases hk; rfl
      subst e
      refine iteF ?_
      refine ⟨_, rfl, x, _, rfl, rfl, nx, _, rfl, ?_⟩
      exact iteT q
    · rw [ns]
      exact iteT q
end
end Ax

namespace Ax
open PySem L2
section
variable {P : Program} {w : World} {K : PySem.W.Frag} {mg : Str → Option Value} {base : Heap} {A : Adr}
/-! ### _mantissas_fit -/
/-- a list that is none of mantissas -/
def BadL (b : Int) (xs : List V) : Prop := xs = [] ∨ (∃ x ∈ xs, isWh x = false) ∨ ∃ ms : List Int, xs = ms.map V.int ∧ (¬ ms.Nodup ∨ ∃ m ∈ ms, m < 1 ∨ m % b = 0)
def spMF2 (K : PySem.W.Frag) : Sp := fun vs H Q _ => ∃ (b : Int) (vm : V) (Tm : String), vs = [.int b, vm] ∧ 2 ≤ b ∧ Vt H vm Tm ∧ (∀ H', Same H H' → Q (.bl false) H') ∧
  ((Tm == "list") = false ∨ ∃ a xs, vm = .ref a ∧ H a = some (.lst xs) ∧ (∀ x ∈ xs, ∃ T, Vt H x T) ∧ xs.length ≤ 60 ∧ BadL b xs)
theorem all_false {bs : List Bool} {i : Nat} (h : bs[i]? = some false) : bs.all id = false := by
  rw [List.all_eq_false]
  exact ⟨false, List.mem_of_getElem? h, by decide⟩
theorem allMap {xs : List V} (f : V → Bool) : (xs.map f).all id = xs.all f := by
  rw [List.all_map]
  rfl
theorem ok_mf2 (T : Txt K mg A w) : FnOk P w K mg base CX0 2 A.a_mantissas_fit A.d_mantissas_fit ["base", "mantissas"] (spMF2 K) := by
  have G_is_whole : FnOk P w K mg base CX0 1 A.a_is_whole A.d_is_whole ["value"] (spWhole K) := ok_is_whole T
  refine T.F_mantissas_fit.ok sc_mantissas_fit (fun vs H Q E h => ?_) (fun cdv A0 outer s H vs Q E hr h => ?_)
  · obtain ⟨b, vm, Tm, rfl, _⟩ := h
    rfl
  · obtain ⟨b, vm, Tm, rfl, hb, hv, q, bad⟩ := h
    refine ⟨_, (pss_cons (ps_if (PW.pt (pw_or (pt_not (pt_val (pe_callB call_isi (by rfl) T.n_isinstance (by decide +kernel) (pa_cons (pv 1) (pa_cons (pe_bltn (v := .ty "list") (by rfl) T.n_list (by decide +kernel) rfl) pa_nil))))) (pw_or1 (pt_cmpR op_eq (pe_callB call_len_seq (by rfl) T.n_len (by decide +kernel) (pa_cons (pv 1) pa_nil)) pe_int (nomark _))))) (pss_one (ps_ret pe_bl)) pss_nil)
  (pss_cons (ps_if (pt_not (pt_val (pe_callB (cr_all rfl) (by rfl) T.n_all (by decide +kernel) (pa_cons (pe_lc (own := [("mantissa", 2)]) (g := gName 2) (tt := tYes) rfl sc_mantissas_fit.nd (pi_list (pv 1)) (blkOk_by (own := [("mantissa", 2)]) (N := nm_mantissas_fit) (sc := defScope s_mantissas_fit) (by decide +kernel)) (fun _ _ _ _ _ => (pg_name (i := 2) sc_mantissas_fit.nd rfl (Or.inl rfl))) (fun _ _ _ _ _ => pts_nil) (fun _ _ _ _ _ => (pe_call G_is_whole (hr.mono (by decide)) (by rfl) T.m_is_whole T.F_is_whole.kp T.B_is_whole .nil pass0 (pa_cons (pv 2) pa_nil)))) pa_nil)))) (pss_one (ps_ret pe_bl)) pss_nil)
  (pss_cons (ps_if (pt_cmpR op_ne (pe_lenSetG rfl T.n_len rfl T.n_set (pv 1)) (pe_callB call_len_seq (by rfl) T.n_len (by decide +kernel) (pa_cons (pv 1) pa_nil)) (nomark _)) (pss_one (ps_ret pe_bl)) pss_nil)
  (pss_one (ps_ret (pe_callB (cr_all rfl) (by rfl) T.n_all (by decide +kernel) (pa_cons (pe_lc (own := [("mantissa", 2)]) (g := gName 2) (tt := tYes) rfl sc_mantissas_fit.nd (pi_list (pv 1)) (blkOk_by (own := [("mantissa", 2)]) (N := nm_mantissas_fit) (sc := defScope s_mantissas_fit) (by decide +kernel)) (fun _ _ _ _ _ => (pg_name (i := 2) sc_mantissas_fit.nd rfl (Or.inl rfl))) (fun _ _ _ _ _ => pts_nil) (fun _ _ _ _ _ => (pe_and (pe_cmpR op_ge (pv 2) pe_int (nomark _)) (pe_one (pe_cmpR op_ne (pe_op op_mod (pv 2) (pv 0)) pe_int (nomark _)))))) pa_nil))))))), ?_⟩
    refine ⟨_, rfl, vm, .ty "list", .type Tm, .type "list", Tm == "list", rfl, .ty _, hv.ty, hv.is.2.2.2.1, _, rfl, ?_⟩
    rcases bad with nl | ⟨a, xs, rfl, hL, hx, hlen, bad⟩
    · rw [nl]
      exact iteT (q _ (Same.refl _))
    · have e : Tm = "list" := by
        cases hv with
        | lst e => rfl
        | tup e => rw [hL] at e; cases e
        | emp e => rw [hL] at e; cases e
      subst e
      refine iteF ?_
      refine ⟨_, rfl, a, _, rfl, .inl (SqL.of hL), rfl, _, rfl, ?_⟩
      show if (decide (V.int (xs.length : Nat) = V.int 0)) = true then _ else _
      refine ite2 (fun _ => q _ (Same.refl _)) (fun hn => ?_)
      have ne : xs ≠ [] := fun z => hn (by rw [z]; rfl)
      -- the first comprehension
      refine ⟨_, rfl, a, rfl, ⟨_, SqL.of hL⟩, fun D hD => lc_list (K := K) (a := a) (xs := xs) (fun i H' => H' = upd H D (.lst (((xs.take i).map isWh).map V.bl))) rfl ?_ ?_ ?_⟩
      · rintro i H' _ rfl
        exact SqL.of (by rw [upd_ne (ne_of_none hL hD)]; exact hL)
      · rintro i x H' hi rfl
        obtain ⟨Tx, hvx⟩ := hx x (List.mem_of_getElem? hi)
        have hi3 : i < xs.length := (List.getElem?_eq_some_iff.mp hi).1
        have hvx' := hvx.same (same_new (o := .lst (((xs.take i).map isWh).map V.bl)) hD)
        refine ⟨rfl, yes_of ?_⟩
        refine ⟨_, rfl, x, .type Tx, _, _, rfl, hvx'.ty, hvx'.is.1, fun _ => hvx'.is.2.1, ?_⟩
        refine ⟨_, upd_same, ?_, ?_⟩
        · rw [List.length_map, List.length_map, List.length_take]
          exact small1000 (by omega)
        · rw [upd_upd, List.take_add_one, hi, List.map_append, List.map_append, hvx'.whole]
          rfl
      · rintro H' rfl
        rw [List.take_length]
        have s1 : Same H (upd H D (.lst ((xs.map isWh).map V.bl))) := same_new hD
        refine ⟨D, xs.map isWh, rfl, SqL.of upd_same, _, rfl, ?_⟩
        rw [allMap]
        cases hall : xs.all isWh with
        | false => exact iteT (q _ s1)
        | true =>
          refine iteF ?_
          have hall := List.all_eq_true.mp hall
          rcases bad with z | ⟨x, hxm, hw⟩ | ⟨ms, rfl, bad⟩
          · exact absurd z ne
          · rw [hall x hxm] at hw
            cases hw
          · have hm : (ms.map V.int).length = ms.length := List.length_map _
            refine ⟨_, rfl, a, ms, rfl, SqL.of (s1 _ _ hL), (by omega), ?_⟩
            refine ⟨_, rfl, a, _, rfl, .inl (SqL.of (s1 _ _ hL)), rfl, _, rfl, ?_⟩
            rw [hm]
            refine ite2 (fun _ => q _ s1) (fun hc => ?_)
            have nd : ms.Nodup := fmet_nodup (by
              have z : decide (V.int ((fmet ms ms.length).length : Nat) = V.int (ms.length : Nat)) = true := by
                cases y : decide (V.int ((fmet ms ms.length).length : Nat) = V.int (ms.length : Nat)) with
                | true => rfl
                | false => exact absurd (by rw [y]; rfl) hc
              have z := V.int.inj (of_decide_eq_true z)
              omega)
            have badm : ∃ m ∈ ms, m < 1 ∨ m % b = 0 := by
              rcases bad with z | z
              · exact absurd nd z
              · exact z
            -- the second one
            refine ⟨_, rfl, a, rfl, ⟨_, SqL.of (s1 _ _ hL)⟩, fun D2 hD2 => lc_list (K := K) (a := a) (xs := ms.map V.int) (fun i H' => H' = upd (upd H D (.lst (((ms.map V.int).map isWh).map V.bl))) D2 (.lst (((ms.take i).map fun m => decide (1 ≤ m) && !decide (m % b = 0)).map V.bl))) rfl ?_ ?_ ?_⟩
            · rintro i H' _ rfl
              exact SqL.of (by rw [upd_ne (ne_of_none (s1 _ _ hL) hD2)]; exact s1 _ _ hL)
            · rintro i x H' hi rfl
              obtain ⟨m, hmi, rfl⟩ := map_get hi
              have hi3 : i < ms.length := (List.getElem?_eq_some_iff.mp hmi).1
              have fin : ∀ bb : Bool, (decide (1 ≤ m) && !decide (m % b = 0)) = bb → ∃ acc, (upd (upd H D (.lst (((ms.map V.int).map isWh).map V.bl))) D2 (.lst (((ms.take i).map fun m => decide (1 ≤ m) && !decide (m % b = 0)).map V.bl))) D2 = some (.lst acc) ∧ acc.length < sizeLine ∧ upd (upd (upd H D (.lst (((ms.map V.int).map isWh).map V.bl))) D2 (.lst (((ms.take i).map fun m => decide (1 ≤ m) && !decide (m % b = 0)).map V.bl))) D2 (.lst (acc ++ [V.bl bb])) = upd (upd H D (.lst (((ms.map V.int).map isWh).map V.bl))) D2 (.lst (((ms.take (i + 1)).map fun m => decide (1 ≤ m) && !decide (m % b = 0)).map V.bl)) := fun bb hbb => by
                refine ⟨_, upd_same, ?_, ?_⟩
                · rw [List.length_map, List.length_map, List.length_take]
                  exact small1000 (by omega)
                · rw [upd_upd, List.take_add_one, hmi, List.map_append, List.map_append, ← hbb]
                  rfl
              refine ⟨rfl, yes_of ?_⟩
              refine ⟨_, rfl, _, _, rfl, rfl, _, rfl, ?_⟩
              refine ite2 (fun hc => ?_) (fun hc => ?_)
              · refine ⟨_, rfl, _, rfl, _, _, rfl, rfl, (by show 0 < b; omega), rfl, ?_⟩
                refine fin _ ?_
                rw [hc, Bool.true_and]
                show (!decide (m % b = 0)) = !decide (V.int (m % b) = V.int 0)
                congr 1
                exact decide_eq_decide.mpr ⟨fun z => by rw [z], fun z => V.int.inj z⟩
              · refine fin _ ?_
                have z : decide (1 ≤ m) = false := by
                  cases y : decide (1 ≤ m) with
                  | true => exact absurd y hc
                  | false => rfl
                rw [z, Bool.false_and]
            · rintro H' rfl
              rw [hm, List.take_length]
              refine ⟨D2, ms.map fun m => decide (1 ≤ m) && !decide (m % b = 0), rfl, SqL.of upd_same, ?_⟩
              have af : (ms.map fun m => decide (1 ≤ m) && !decide (m % b = 0)).all id = false := by
                obtain ⟨m, hmm, z⟩ := badm
                rw [List.all_eq_false]
                refine ⟨_, List.mem_map.mpr ⟨m, hmm, rfl⟩, ?_⟩
                rcases z with z | z
                · rw [show decide (1 ≤ m) = false from decide_eq_false (by omega)]
                  simp
                · rw [show decide (m % b = 0) = true from decide_eq_true z]
                  simp
              rw [af]
              exact q _ (s1.trans (same_new hD2))
end
end Ax

namespace Ax
open PySem L2
/-- self.value = value -/
def spXi (K : PySem.W.Frag) (C : Addr) : Sp := fun vs H Q _ => ∃ (a : Addr) (v : V), vs = [.ref a, v] ∧ H a = some (exo a C none) ∧ OexC K C ∧ PySem.W.findIn K (.ref C) "value" = some none ∧
  ∀ d, H d = none → d ≠ a → Q .non (upd (upd H d (exd d [("value", v)])) a (exo a C (some d)))
section
variable {P : Program} {w : World} {K : PySem.W.Frag} {mg : Str → Option Value} {base : Heap} {A : Adr}
abbrev nm_InvalidRule_init : List Str := ["self", "value"]
theorem sc_InvalidRule_init : FnScope ["self", "value"] ["self", "value"] (defScope s_InvalidRule_init) := ⟨rfl, rfl, rfl, by decide +kernel, rfl, by decide +kernel, by decide +kernel⟩
theorem ok_InvalidRule (T : Txt K mg A w) : FnOk P w K mg base CX0 1 A.i_InvalidRule A.j_InvalidRule ["self", "value"] (spXi K A.e_InvalidRule) := by
  refine T.x_InvalidRule.F.ok sc_InvalidRule_init (fun vs H Q E h => ?_) (fun cdv A0 outer s H vs Q E hr h => ?_)
  · obtain ⟨a, v, rfl, _⟩ := h
    rfl
  · obtain ⟨a, v, rfl, ha, T1, no, q⟩ := h
    refine ⟨_, (pss_one (ps_ost (pv 0) (pv 1))), ?_⟩
    exact ⟨_, rfl, _, rfl, a, A.e_InvalidRule, rfl, T1, no, .inl ⟨ha, fun d hd nd => q d hd nd⟩⟩
theorem b2_InvalidRule (T : Txt K mg A w) : Binds K A.j_InvalidRule ["self", "value"] [] := by
  obtain ⟨ds, hd, hb⟩ := T.x_InvalidRule.F.binds1 (ps := ["self", "value"]) 2 1 (by simp) rfl (fun _ _ _ _ _ _ _ us its hu hi => match us, its, hu, hi with | [_, _], [_], _, _ => ⟨_, rfl, rfl⟩)
  cases hd
  exact hb
/-! ### _arguments_fit -/
/-- arguments that make no rule -/
def BadA (K : PySem.W.Frag) (A : Adr) (H : Hp) (vb vk vm vo : V) : Prop := ∃ Tb Tk Tm To, Vt H vb Tb ∧ Vt H vk Tk ∧ Vt H vm Tm ∧ Vt H vo To ∧
  (baseOk vb = false ∨ (∃ b, vb = .int b ∧ 2 ≤ b ∧ ((∃ k : Kd, vk = .str k.s ∧ mostOk k.least vo = false) ∨ (∃ x, vk = .str x ∧ PySem.W.nsIn K A.a_LEAST x = some none) ∨ (Tk == "str") = false)) ∨
    ∃ (b : Int) (k : Kd), vb = .int b ∧ 2 ≤ b ∧ vk = .str k.s ∧ mostOk k.least vo = true ∧ ((Tm == "list") = false ∨ ∃ a xs, vm = .ref a ∧ H a = some (.lst xs) ∧ (∀ x ∈ xs, ∃ T, Vt H x T) ∧ xs.length ≤ 60 ∧ BadL b xs))
theorem BadA.same {H H' : Hp} (s : Same H H') {vb vk vm vo : V} (h : BadA K A H vb vk vm vo) : BadA K A H' vb vk vm vo := by
  obtain ⟨Tb, Tk, Tm, To, h1, h2, h3, h4, h⟩ := h
  refine ⟨Tb, Tk, Tm, To, h1.same s, h2.same s, h3.same s, h4.same s, ?_⟩
  rcases h with h | h | ⟨b, k, e1, e2, e3, e4, h⟩
  · exact .inl h
  · exact .inr (.inl h)
  · refine .inr (.inr ⟨b, k, e1, e2, e3, e4, ?_⟩)
    rcases h with h | ⟨a, xs, e5, e6, e7, e8⟩
    · exact .inl h
    · exact .inr ⟨a, xs, e5, s _ _ e6, fun x hx => by
        obtain ⟨T, z⟩ := e7 x hx
        exact ⟨T, z.same s⟩, e8⟩
def spAF2 (K : PySem.W.Frag) (A : Adr) : Sp := fun vs H Q _ => ∃ vb vk vm vo, vs = [vb, vk, vm, vo] ∧ BadA K A H vb vk vm vo ∧ ∀ H', Same H H' → Q (.bl false) H'
theorem ok_af2 (T : Txt K mg A w) : FnOk P w K mg base CX0 3 A.a_arguments_fit A.d_arguments_fit ["base", "kind", "mantissas", "most"] (spAF2 K A) := by
  have G_is_base : FnOk P w K mg base CX0 2 A.a_is_base A.d_is_base ["value"] spBase2 := ok_is_base2 T
  have G_kind_and_most_fit : FnOk P w K mg base CX0 2 A.a_kind_and_most_fit A.d_kind_and_most_fit ["kind", "most"] (spKM2 K A) := ok_kind2 T
  have G_mantissas_fit : FnOk P w K mg base CX0 2 A.a_mantissas_fit A.d_mantissas_fit ["base", "mantissas"] (spMF2 K) := ok_mf2 T
  refine T.F_arguments_fit.ok sc_arguments_fit (fun vs H Q E h => ?_) (fun cdv A0 outer s H vs Q E hr h => ?_)
  · obtain ⟨vb, vk, vm, vo, rfl, _⟩ := h
    rfl
  · obtain ⟨vb, vk, vm, vo, rfl, ⟨Tb, Tk, Tm, To, h1, h2, h3, h4, h⟩, q⟩ := h
    refine ⟨_, (pss_one (ps_ret (pe_and (pe_call G_is_base (hr.mono (by decide)) (by rfl) T.m_is_base T.F_is_base.kp T.B_is_base .nil pass0 (pa_cons (pv 0) pa_nil)) (pe_and (pe_call G_kind_and_most_fit (hr.mono (by decide)) (by rfl) T.m_kind_and_most_fit T.F_kind_and_most_fit.kp T.B_kind_and_most_fit .nil pass0 (pa_cons (pv 1) (pa_cons (pv 3) pa_nil))) (pe_one (pe_call G_mantissas_fit (hr.mono (by decide)) (by rfl) T.m_mantissas_fit T.F_mantissas_fit.kp T.B_mantissas_fit .nil pass0 (pa_cons (pv 0) (pa_cons (pv 2) pa_nil)))))))), ?_⟩
    refine ⟨_, rfl, vb, Tb, rfl, h1, baseOk vb, rfl, ?_⟩
    rcases h with h | ⟨b, rfl, hb, h⟩ | ⟨b, k, rfl, hb, rfl, hm, h⟩
    · rw [h]
      exact iteF (q _ (Same.refl _))
    · rw [show baseOk (.int b) = true from decide_eq_true hb]
      refine iteT ⟨_, rfl, _, rfl, vk, vo, Tk, To, rfl, h2, h4, ?_⟩
      rcases h with ⟨k, rfl, h⟩ | ⟨x, rfl, h⟩ | h
      · exact .inl ⟨k, rfl, mostOk k.least vo, rfl, by rw [h]; exact iteF (q _ (Same.refl _))⟩
      · exact .inr (.inl ⟨x, rfl, h, false, rfl, iteF (q _ (Same.refl _))⟩)
      · exact .inr (.inr ⟨h, false, rfl, iteF (q _ (Same.refl _))⟩)
    · rw [show baseOk (.int b) = true from decide_eq_true hb]
      refine iteT ⟨_, rfl, _, rfl, _, vo, Tk, To, rfl, h2, h4, .inl ⟨k, rfl, mostOk k.least vo, rfl, ?_⟩⟩
      rw [hm]
      exact iteT ⟨_, rfl, _, rfl, b, vm, Tm, rfl, hb, h3, q, h⟩
/-! ### Rule.__init__, raising -/
def spInitX (K : PySem.W.Frag) (A : Adr) : Sp := fun vs H _ E => ∃ (r : Addr) (vb vk vm vo : V), vs = [.ref r, vb, vk, vm, vo] ∧ BadA K A H vb vk vm vo ∧
  ∀ (H' : Hp) (t d : Addr), Same H H' → H t = none → H' t = some (.tup [vb, vk, vm, vo]) → H' d = some (.xd [("value", .ref t)]) → E (.ref A.e_InvalidRule) (some d) H'
theorem ok_initX (T : Txt K mg A w) : FnOk P w K mg base (L2.CX P w) 4 A.a_Rule_init A.d_Rule_init ["self", "base", "kind", "mantissas", "most"] (spInitX K A) := by
  have G_arguments_fit : FnOk P w K mg base CX0 3 A.a_arguments_fit A.d_arguments_fit ["base", "kind", "mantissas", "most"] (spAF2 K A) := ok_af2 T
  have G_rungs_of : FnOk P w K mg base CX0 2 A.a_rungs_of A.d_rungs_of ["base", "mantissas"] spRungs := ok_rungs T
  have G_is_dividing : FnOk P w K mg base CX0 2 A.a_is_dividing A.d_is_dividing ["base", "rungs"] spDiv := ok_div T
  have G_InvalidRule_init : FnOk P w K mg base CX0 1 A.i_InvalidRule A.j_InvalidRule ["self", "value"] (spXi K A.e_InvalidRule) := ok_InvalidRule T
  have B_InvalidRule_init := b2_InvalidRule T
  refine T.F_Rule_init.okX sc_Rule_init (fun vs H Q E h => ?_) (fun cdv A0 outer s H vs Q E hr h => ?_)
  · obtain ⟨r, vb, vk, vm, vo, rfl, _⟩ := h
    rfl
  · obtain ⟨r, vb, vk, vm, vo, rfl, bad, q⟩ := h
    refine ⟨_, (pss_cons (ps_if (pt_not (pt_val (pe_call G_arguments_fit (hr.mono (by decide)) (by rfl) T.m_arguments_fit T.F_arguments_fit.kp T.B_arguments_fit .nil pass0 (pa_cons (pv 1) (pa_cons (pv 2) (pa_cons (pv 3) (pa_cons (pv 4) pa_nil))))))) (pss_one (ps_raise rfl (takes_of rfl rfl rfl rfl) (by exact (pmk_oex T.x_InvalidRule.oex T.x_InvalidRule.ini T.x_InvalidRule.fty G_InvalidRule_init (hr.mono (by decide)) B_InvalidRule_init .nil pass0 (by rfl) T.x_InvalidRule.mgC (by exact (pa_cons (pe_tup (pa_cons (pv 1) (pa_cons (pv 2) (pa_cons (pv 3) (pa_cons (pv 4) pa_nil))))) pa_nil)))))) pss_nil)
  (pss_cons (ps_set (i := 5) sc_Rule_init.nd rfl (Or.inl rfl) (pe_call G_rungs_of (hr.mono (by decide)) (by rfl) T.m_rungs_of T.F_rungs_of.kp T.B_rungs_of .nil pass0 (pa_cons (pv 1) (pa_cons (pv 3) pa_nil))))
  (pss_cons (ps_fld (pv 0) (pv 1) rfl)
  (pss_cons (ps_fld (pv 0) (pv 2) rfl)
  (pss_cons (ps_fld (pv 0) (pe_callBK cr_sortInt (by rfl) T.n_sorted (by decide +kernel) (pa_cons (pv 3) pa_nil) (pk_cons (pe_bltn (v := .ty "int") (by rfl) T.n_int (by decide +kernel) rfl) pk_nil)) rfl)
  (pss_cons (ps_fld (pv 0) (pv 4) rfl)
  (pss_cons (ps_fld (pv 0) (pe_call G_is_dividing (hr.mono (by decide)) (by rfl) T.m_is_dividing T.F_is_dividing.kp T.B_is_dividing .nil pass0 (pa_cons (pv 1) (pa_cons (pv 5) pa_nil))) rfl)
  (pss_one (ps_fld (pv 0) (pv 5) rfl))))))))), ?_⟩
    refine ⟨_, rfl, _, rfl, _, rfl, _, rfl, vb, vk, vm, vo, rfl, bad, fun H1 s1 => ?_⟩
    refine ⟨_, rfl, iteT ?_⟩
    refine ⟨_, rfl, _, rfl, _, rfl, _, rfl, (by show 4 ≤ sizeLine; decide), fun t ht => ?_⟩
    have s2 := s1.trans (same_new (o := .tup [vb, vk, vm, vo]) ht)
    refine ⟨(by show 1 ≤ 1000; decide), fun a ha => ?_⟩
    refine ⟨a, .ref t, rfl, upd_same, T.x_InvalidRule.oex, T.x_InvalidRule.no, fun d hd nd => ?_⟩
    have hd1 : upd H1 t (.tup [vb, vk, vm, vo]) d = none := by rwa [upd_ne nd] at hd
    have k : ∀ c o, upd H1 t (.tup [vb, vk, vm, vo]) c = some o → (upd (L2.del (upd (upd (upd (upd H1 t (.tup [vb, vk, vm, vo])) a (exo a A.e_InvalidRule none)) d (exd d [("value", .ref t)])) a (exo a A.e_InvalidRule (some d))) a) d (.xd [("value", .ref t)])) c = some o := fun c o e => by
      have na : c ≠ a := ne_of_none e ha
      have nc : c ≠ d := ne_of_none e hd1
      rw [upd_ne nc, del_ne na, upd_ne na, upd_ne nc, upd_ne na]
      exact e
    refine ⟨rfl, d, _, upd_same, by rw [upd_ne nd, upd_same], hd1, ?_⟩
    exact q _ t d (s2.trans k) (s1.free ht) (k _ _ upd_same) upd_same
end
end Ax

namespace Ax
open PySem PySem.Spec PyProof.Rows L2
/-! ### texts of tuples of data, an empty dict among them -/
inductive Dx (K : PySem.W.Frag) (H : Hp) : V → PyData → Prop
  | dp {v : V} {d : PyData} : Dp K H v d → d.hasDict = false → Dx K H v d
  | emp {a : Addr} : H a = some (.dK []) → Dx K H (.ref a) (.dict [])
inductive DxA (K : PySem.W.Frag) (H : Hp) : List V → List PyData → Prop
  | nil : DxA K H [] []
  | cons {v : V} {d : PyData} {vs : List V} {ds : List PyData} : Dx K H v d → DxA K H vs ds → DxA K H (v :: vs) (d :: ds)
theorem SqT.same' {K : PySem.W.Frag} {H H' : Hp} {a : Addr} {xs : List V} (e : Same H H') (h : SqT K H a xs) : SqT K H' a xs := by
  rcases h with h | h
  · rcases h with h | ⟨o, h⟩
    · exact .inl (.inl (e _ _ h))
    · exact .inl (.inr ⟨o, e _ _ h⟩)
  · exact .inr h
mutual
theorem Dp.mono {K : PySem.W.Frag} {H H' : Hp} (s : Same H H') : ∀ {v : V} {d : PyData}, Dp K H v d → Dp K H' v d
  | _, _, .non => .non
  | _, _, .bl b => .bl b
  | _, _, .int i => .int i
  | _, _, .str x => .str x
  | _, _, .lst h r => .lst (s.seq h) (DpAll.mono s r)
  | _, _, .tup h r => .tup (SqT.same' s h) (DpAll.mono s r)
theorem DpAll.mono {K : PySem.W.Frag} {H H' : Hp} (s : Same H H') : ∀ {vs : List V} {ds : List PyData}, DpAll K H vs ds → DpAll K H' vs ds
  | _, _, .nil => .nil
  | _, _, .cons h r => .cons (Dp.mono s h) (DpAll.mono s r)
end
theorem Dx.same {K : PySem.W.Frag} {H H' : Hp} (s : Same H H') {v : V} {d : PyData} (h : Dx K H v d) : Dx K H' v d := by
  cases h with
  | dp h nd => exact .dp (Dp.mono s h) nd
  | emp h => exact .emp (s _ _ h)
theorem DxA.same {K : PySem.W.Frag} {H H' : Hp} (s : Same H H') : ∀ {vs : List V} {ds : List PyData}, DxA K H vs ds → DxA K H' vs ds
  | _, _, .nil => .nil
  | _, _, .cons h r => .cons (h.same s) (DxA.same s r)
section
variable {X : Cx} {pins : List (Addr × Obj)} {σ : L2.St} {H : Hp} {s : Shared}
theorem Dx.reprs (I : Inv X pins σ H s) {v : V} {d : PyData} {u : Value} (h : Dx X.K H v d) (r : RelV v u) (sh : d.showable = true) (len : d.shown.length ≤ sizeLine) :
    ∃ as bs, Reads s.heap u d as ∧ ReadAtMost s.heap d.depth bs ∧ ReprK X.prog X.w bs s.heap d.depth u d.shown := by
  cases h with
  | dp h nd =>
    obtain ⟨as, rd⟩ := Dp.reads I d v u h r
    obtain ⟨bs, h1, h2⟩ := ReprK.of_reads (prog := X.prog) (w := X.w) rd sh (fun z => by rw [nd] at z; cases z) len
    exact ⟨as, bs, rd, h1, h2⟩
  | @emp a ha =>
    cases r
    obtain ⟨_, sm, vs, kv, o, es, ep, ho, ex, hd, ko, prs, _⟩ := dk_of I.hok ha
    cases kv
    have e0 : es.toList = [] := by
      cases h : es.toList with
      | nil => rfl
      | cons x r =>
        rw [h] at prs
        cases prs
    have one : Reads s.heap (.ref a) (.dict []) (a :: [] ++ []) := Reads.dict ho ex.1 hd (by rw [e0]; exact .nil) (by rw [e0]; exact .nil)
    obtain ⟨bs, h1, h2⟩ := ReprK.of_reads (prog := X.prog) (w := X.w) one sh (fun _ z => by
      have z : sysModules ∈ [a] := z
      rw [← List.mem_singleton.mp z] at sm
      exact absurd sm (by decide)) len
    exact ⟨_, bs, one, h1, h2⟩
theorem DxA.reprs (I : Inv X pins σ H s) : ∀ {vs : List V} {ds : List PyData} {us : List Value}, DxA X.K H vs ds → Vals vs us → PyData.showableAll ds = true → (∀ t ∈ PyData.shownAll ds, t.length ≤ sizeLine) →
    ∃ as bs, ReadsAll s.heap us ds as ∧ ReadAtMost s.heap (PyData.depthAll ds) bs ∧ ReprAllK X.prog X.w bs s.heap (PyData.depthAll ds) us (PyData.shownAll ds)
  | _, _, _, .nil, .nil, _, _ => ⟨[], [], .nil, (fun _ h => nomatch h), by simp only [PyData.shownAll]; exact .nil⟩
  | _, _, _, .cons (d := d) (ds := ds) h hr, .cons r rr, hs, hz => by
    have hs' : d.showable = true ∧ PyData.showableAll ds = true := by simpa [PyData.showableAll] using hs
    obtain ⟨a1, b1, r1, hb1, k1⟩ := h.reprs I r hs'.1 (hz _ (by simp only [PyData.shownAll]; exact List.mem_cons_self ..))
    obtain ⟨a2, b2, r2, hb2, k2⟩ := DxA.reprs I hr rr hs'.2 (fun t ht => hz t (by simp only [PyData.shownAll]; exact List.mem_cons_of_mem _ ht))
    refine ⟨a1 ++ a2, b1 ++ b2, .cons r1 r2, ?_, ?_⟩
    · intro b hm
      simp only [PyData.depthAll]
      rcases List.mem_append.mp hm with hm | hm
      · obtain ⟨d', as', r', hd'⟩ := hb1 b hm
        exact ⟨d', as', r', Nat.le_trans hd' (Nat.le_max_left _ _)⟩
      · obtain ⟨d', as', r', hd'⟩ := hb2 b hm
        exact ⟨d', as', r', Nat.le_trans hd' (Nat.le_max_right _ _)⟩
    · simp only [PyData.depthAll, PyData.shownAll]
      exact .cons ((k1.more fun b hb => List.mem_append_left _ hb).level_le (Nat.le_max_left _ _)) (k2.more_le (fun b hb => List.mem_append_right _ hb) (Nat.le_max_right _ _))
/-- repr of such a tuple -/
def rReprT (K : PySem.W.Frag) (A : Around) : List V → Hp → VK → Prop := fun xs H Q => ∃ (a : Addr) (vs : List V) (ds : List PyData), xs = [.ref a] ∧ SqT K H a vs ∧ DxA K H vs ds ∧ PyData.showableAll ds = true ∧ (tupleText (PyData.shownAll ds)).length ≤ sizeLine ∧
  A.units + (PyData.depthAll ds + 2) < cLine ∧ Q (.str (tupleText (PyData.shownAll ds))) H
theorem call_reprT {X : Cx} (gu : X.A.guards = some []) : CallR X (.builtin "repr") (rReprT X.K X.A) := by
  intro pins s σ H xs us Q I rel h
  obtain ⟨a, vs, ds, rfl, ha, dx, sh, len, un, q⟩ := h
  obtain ⟨u, rfl, ru⟩ : ∃ u, us = [u] ∧ RelV (.ref a) u := by
    cases rel with
    | cons h t =>
      cases t
      exact ⟨_, rfl, h⟩
  cases ru
  obtain ⟨its, rv, ⟨o, ho, hc, m, hd⟩, _⟩ := I.tuple ha
  obtain ⟨as, bs, ra, hb, hk⟩ := DxA.reprs I dx rv sh fun t ht => Nat.le_trans (tupleText_mem_le ht) len
  have rd : Reads s.heap (.ref a) (.tuple ds) as := Reads.tuple ho hc hd (by simpa using ra)
  have na : a ∉ bs := not_mem_of_deeper rd (by simp only [PyData.depth]; omega) hb
  refine call_repr_slot (by omega) (T := "tuple") ⟨o, ho, hc⟩ F.slot_tuple_repr ?_
  exact call_tuple_reprK ho hc hd na (by simpa using hk) gu (fun b _ => Clear.nil b) (by show X.A.units + 1 + (_ + 1) < cLine; omega) (fun _ _ e => e) (fun h' u tk kept => ⟨_, _, rfl, ⟨.str _, H, I.kept kept, ⟨u, rfl⟩, q⟩⟩) len
end
/-- what is told of a value's text -/
structure ShowOk (d : PyData) : Prop where
  show_ : d.showable = true
  len : d.shown.length ≤ 4000
  dep : d.depth ≤ 6
theorem show4 {d1 d2 d3 d4 : PyData} (h1 : ShowOk d1) (h2 : ShowOk d2) (h3 : ShowOk d3) (h4 : ShowOk d4) : PyData.showableAll [d1, d2, d3, d4] = true ∧ (tupleText (PyData.shownAll [d1, d2, d3, d4])).length ≤ sizeLine ∧ PyData.depthAll [d1, d2, d3, d4] ≤ 6 := by
  refine ⟨by simp [PyData.showableAll, h1.show_, h2.show_, h3.show_, h4.show_], ?_, ?_⟩
  · have l1 := h1.len
    have l2 := h2.len
    have l3 := h3.len
    have l4 := h4.len
    simp only [PyData.shownAll]
    unfold tupleText
    rw [strLen_append, strLen_append]
    have j := join_length_add [d1.shown, d2.shown, d3.shown, d4.shown] (by simp)
    simp only [piled] at j
    simp only [List.map_cons, List.map_nil, List.sum_cons, List.sum_nil] at j
    have e1 : (Str.ofString "(").length = 1 := rfl
    have e2 : (Str.ofString (if ([d1.shown, d2.shown, d3.shown, d4.shown].length == 1) = true then ",)" else ")")).length ≤ 2 := by
      rw [if_neg (by simp)]
      decide
    rw [sizeLine_eq]
    omega
  · have := h1.dep
    have := h2.dep
    have := h3.dep
    have := h4.dep
    simp only [PyData.depthAll]
    omega
end Ax

namespace Ax
open PySem L2
theorem norm2 {F : L2.St → Hp → Prop} {σ σ' : L2.St} {H : Hp} (e : σ = σ') (h : F σ' H) : F σ H := by
  subst e
  exact h
theorem gN {i : Nat} {v : V} {σ σ' : L2.St} {H : Hp} {Q : L2.St → Hp → Prop} (e : σ.set i (some v) = σ') (h : Q σ' H) : gName i v σ H Q := by
  subst e
  exact h
theorem norm3 {F : L2.St → Hp → Prop} {σ σ' : L2.St} {H H' : Hp} (e : σ = σ') (e2 : H = H') (h : F σ' H') : F σ H := by
  subst e
  subst e2
  exact h
theorem gNk {i j : Nat} {v : V} {σ σ' : L2.St} {H H' : Hp} {D : L2.St → Hp → Prop} {a : Addr} {o : HO} (e : (σ.set i (some v)).set j none = σ') (e2 : upd H a o = H') (h : D σ' H') : gName i v σ H (fun σ' H' => D (σ'.set j none) (upd H' a o)) := by
  subst e
  subst e2
  exact h
section
variable {P : Program} {w : World} {K : PySem.W.Frag} {mg : Str → Option Value} {base : Heap} {A : Adr}
/-! ### _law_refused -/
/-- all but the list at v is kept -/
def KpV (v : V) (H H' : Hp) : Prop := ∀ c o, (v ≠ .ref c ∨ ∀ xs, o ≠ .lst xs) → H c = some o → H' c = some o
theorem Same.kpv {H H' : Hp} (s : Same H H') (v : V) : KpV v H H' := fun c o _ e => s c o e
def spRef (K : PySem.W.Frag) (A : Adr) : Sp := fun vs H Q _ => ∃ (vb vk vm vo : V) (d1 d2 d3 d4 : PyData), vs = [vb, vk, vm, vo] ∧ BadA K A H vb vk vm vo ∧ DxA K H [vb, vk, vm, vo] [d1, d2, d3, d4] ∧ ShowOk d1 ∧ ShowOk d2 ∧ ShowOk d3 ∧ ShowOk d4 ∧
  (∀ l xs, vm = .ref l → H l = some (.lst xs) → xs.length ≤ 60 ∧ ∃ d3', ShowOk d3' ∧ ∀ H' : Hp, (∀ c o, c ≠ l → H c = some o → H' c = some o) → H' l = some (.lst (xs ++ [.str "more"])) → DxA K H' [vb, vk, vm, vo] [d1, d2, d3', d4]) ∧
  ∀ H', KpV vm H H' → Q (.bl true) H'
abbrev nm_law_refused : List Str := ["_law_base", "_law_kind", "_law_mantissas", "_law_most", "_law_due", "_law_caught", "error"]
theorem sc_law_refused : FnScope ["_law_base", "_law_kind", "_law_mantissas", "_law_most", "_law_due", "_law_caught", "error"] ["_law_base", "_law_kind", "_law_mantissas", "_law_most"] (defScope s_law_refused) := ⟨rfl, rfl, rfl, by decide +kernel, rfl, by decide +kernel, by decide +kernel⟩
theorem ok_ref (T : Txt K mg A w) : FnG P w K mg base 6 A.a_law_refused A.d_law_refused ["_law_base", "_law_kind", "_law_mantissas", "_law_most"] (spRef K A) := by
  have G_Rule_initX : FnOk P w K mg base (L2.CX P w) 4 A.a_Rule_init A.d_Rule_init ["self", "base", "kind", "mantissas", "most"] (spInitX K A) := ok_initX T
  refine fnG (T.F_law_refused) sc_law_refused (fun vs H Q E h => ?_) (fun cdv A0 outer s H vs Q E hg hr h => ?_)
  · obtain ⟨vb, vk, vm, vo, d1, d2, d3, d4, rfl, _⟩ := h
    rfl
  · obtain ⟨vb, vk, vm, vo, d1, d2, d3, d4, rfl, bad, dx, o1, o2, o3, o4, ap, q⟩ := h
    refine ⟨_, (pss_cons (ps_par (i := 4) (j := 5) (by rfl) sc_law_refused.nd rfl rfl (by decide) rfl rfl (pa_cons (pe_callB (call_reprT hg) (by rfl) T.n_repr (by decide +kernel) (pa_cons (pe_tup (pa_cons (pv 0) (pa_cons (pv 1) (pa_cons (pv 2) (pa_cons (pv 3) pa_nil))))) pa_nil)) (pa_cons pe_non pa_nil)) (by rfl))
  (pss_cons (ps_try_asK (i := 6) rfl rfl rfl sc_law_refused.nd rfl rfl ⟨rfl, by decide, Or.inl T.x_InvalidRule.mgC⟩ takes0
    (fun W pn xe tk _ => (pss_one (ps_expr (by exact (pe_makeS T.mk_Rule G_Rule_initX (hr.mono (by decide)) (by rfl) T.c_Rule T.B_Rule_init (fun σ => passAt tk σ) (by exact (pa_cons (pv 0) (pa_cons (pv 1) (pa_cons (pv 2) (pa_cons (pv 3) pa_nil))))))))))
    (fun a oe cls d pn hz hf => (pss_one (ps_set (i := 5) sc_law_refused.nd rfl (Or.inl rfl) (pv 6)))))
  (pss_cons (ps_if (PW.pt (pw_or (pt_cmpR op_isN (pv 5) pe_non (nomark _)) (pw_or (pt_not (pt_val (pe_callB call_isi (by rfl) T.n_isinstance (by decide +kernel) (pa_cons (pe_xkf (pv 5)) (pa_cons (pe_bltn (v := .ty "tuple") (by rfl) T.n_tuple (by decide +kernel) rfl) pa_nil))))) (pw_or1 (pt_cmpR op_ne (pe_callB (call_reprT hg) (by rfl) T.n_repr (by decide +kernel) (pa_cons (pe_xkf (pv 5)) pa_nil)) (pv 4) (nomark _)))))) (pss_one (ps_ret pe_bl)) pss_nil)
  (pss_cons (ps_if (pt_val (pe_callB call_isi (by rfl) T.n_isinstance (by decide +kernel) (pa_cons (pv 2) (pa_cons (pe_bltn (v := .ty "list") (by rfl) T.n_list (by decide +kernel) rfl) pa_nil)))) (pss_one (ps_expr (pe_bm PySem.F.plainAttrs_list PySem.F.slot_list_append PySem.F.type_list_append mt_append (pv 2) (pa_cons pe_str pa_nil)))) pss_nil)
  (pss_one (ps_ret (pe_cmpR op_eq (pe_callB (call_reprT hg) (by rfl) T.n_repr (by decide +kernel) (pa_cons (pe_xkf (pv 5)) pa_nil)) (pe_callB (call_reprT hg) (by rfl) T.n_repr (by decide +kernel) (pa_cons (pe_tup (pa_cons (pv 0) (pa_cons (pv 1) (pa_cons (pv 2) (pa_cons (pv 3) pa_nil))))) pa_nil)) (nomark _)))))))), ?_⟩
    have un : ∀ n ≤ 8, (A0.deeper (PyProof.Rows.envOfC "_law_refused" (defScope s_law_refused) s.heap.objs.size A.a_law_refused cdv)).units + (n + 1) < cLine := fun n hn => Nat.lt_of_le_of_lt (Nat.add_le_add_left (by omega) _) hr.units
    obtain ⟨t1, t2, t3⟩ := show4 o1 o2 o3 o4
    refine ⟨_, rfl, _, rfl, _, rfl, _, rfl, (by show 4 ≤ sizeLine; decide), fun t0 ht0 => ?_⟩
    have s0 := same_new (o := .tup [vb, vk, vm, vo]) ht0
    refine ⟨t0, _, _, rfl, SqT.of upd_same, dx.same s0, t1, t2, un _ (by omega), ?_⟩
    refine ⟨_, _, rfl, ?_⟩
    refine norm2 (σ' := [some vb, some vk, some vm, some vo, some (.str (tupleText (PyData.shownAll [d1, d2, d3, d4]))), some .non, none]) rfl ?_
    refine ⟨_, rfl, _, rfl, _, rfl, _, rfl, fun x dx1 hx hdx nd => ?_⟩
    have sm : Same (upd H t0 (.tup [vb, vk, vm, vo])) (upd (upd (upd H t0 (.tup [vb, vk, vm, vo])) dx1 (.own x)) x (.ins A.c_Rule dx1 [])) := fun c o e => by
      rw [upd_ne (ne_of_none e hx), upd_ne (ne_of_none e hdx)]
      exact e
    refine ⟨x, vb, vk, vm, vo, rfl, bad.same (s0.trans sm), fun H2 t d s2 ht hT hd => ⟨true, T.x_InvalidRule.self, fun _ a ha => ?_, fun z => by cases z⟩⟩
    refine ⟨_, rfl, ?_⟩
    refine gN (σ' := [some vb, some vk, some vm, some vo, some (.str (tupleText (PyData.shownAll [d1, d2, d3, d4]))), some (.ref a), some (.ref a)]) rfl ?_
    dsimp only
    refine norm3 (σ' := [some vb, some vk, some vm, some vo, some (.str (tupleText (PyData.shownAll [d1, d2, d3, d4]))), some (.ref a), none]) (H' := upd H2 a (exr a (.ref A.e_InvalidRule) (some d))) rfl rfl ?_
    have s03 : Same H (upd H2 a (exr a (.ref A.e_InvalidRule) (some d))) := (s0.trans (sm.trans s2)).trans (same_new ha)
    have hT3 : (upd H2 a (exr a (.ref A.e_InvalidRule) (some d))) t = some (.tup [vb, vk, vm, vo]) := same_new ha _ _ hT
    have xk : Xkp (upd H2 a (exr a (.ref A.e_InvalidRule) (some d))) a A.e_InvalidRule [("value", .ref t)] := ⟨d, upd_same, same_new ha _ _ hd⟩
    generalize (upd H2 a (exr a (.ref A.e_InvalidRule) (some d))) = H3 at s03 hT3 xk ⊢
    refine ⟨_, rfl, rfl, _, rfl, ?_⟩
    rw [decide_eq_false (by intro z; cases z)]
    refine iteF ?_
    refine ⟨_, rfl, a, A.e_InvalidRule, _, .ref t, rfl, T.x_InvalidRule.ask, T.x_InvalidRule.no, xk, rfl, _, .ty "tuple", .type "tuple", .type "tuple", true, rfl, .ty _, .base (.tup hT3), kit_ty (by decide +kernel), true, rfl, iteF ?_⟩
    have dx3 := dx.same s03
    refine ⟨_, rfl, a, A.e_InvalidRule, _, .ref t, rfl, T.x_InvalidRule.ask, T.x_InvalidRule.no, xk, rfl, t, _, _, rfl, SqT.of hT3, dx3, t1, t2, un _ (by omega), _, rfl, rfl, _, rfl, ?_⟩
    rw [decide_eq_true rfl]
    refine iteF ?_
    obtain ⟨Tb, Tk, Tm, To, _, _, hv, _, _⟩ := id bad
    have hv3 := hv.same s03
    refine ⟨_, rfl, vm, .ty "list", .type Tm, .type "list", Tm == "list", rfl, .ty _, hv3.ty, hv3.is.2.2.2.1, _, rfl, ?_⟩
    -- what is told behind it
    have fin : ∀ (H4 : Hp) (e1 e2 e3 e4 : PyData), KpV vm H H4 → H4 t = some (.tup [vb, vk, vm, vo]) → Xkp H4 a A.e_InvalidRule [("value", .ref t)] → DxA K H4 [vb, vk, vm, vo] [e1, e2, e3, e4] → ShowOk e1 → ShowOk e2 → ShowOk e3 → ShowOk e4 → _ := fun H4 e1 e2 e3 e4 kp4 hT4 xk4 dx4 p1 p2 p3 p4 => by
      obtain ⟨u1, u2, u3⟩ := show4 p1 p2 p3 p4
      exact (⟨kp4, hT4, xk4, dx4, u1, u2, u3⟩ : KpV vm H H4 ∧ H4 t = some (.tup [vb, vk, vm, vo]) ∧ Xkp H4 a A.e_InvalidRule [("value", .ref t)] ∧ DxA K H4 [vb, vk, vm, vo] [e1, e2, e3, e4] ∧ PyData.showableAll [e1, e2, e3, e4] = true ∧ (tupleText (PyData.shownAll [e1, e2, e3, e4])).length ≤ sizeLine ∧ PyData.depthAll [e1, e2, e3, e4] ≤ 6)
    cases hl : Tm == "list" with
    | false =>
      refine iteF ?_
      obtain ⟨kp4, hT4, xk4, dx4, u1, u2, u3⟩ := fin H3 d1 d2 d3 d4 (Same.kpv s03 _) hT3 xk dx3 o1 o2 o3 o4
      refine ⟨_, rfl, a, A.e_InvalidRule, _, .ref t, rfl, T.x_InvalidRule.ask, T.x_InvalidRule.no, xk4, rfl, t, _, _, rfl, SqT.of hT4, dx4, u1, u2, un _ (by omega), ?_⟩
      refine ⟨_, rfl, _, rfl, _, rfl, _, rfl, (by show 4 ≤ sizeLine; decide), fun t5 ht5 => ?_⟩
      have s5 := same_new (o := .tup [vb, vk, vm, vo]) ht5
      refine ⟨t5, _, _, rfl, SqT.of upd_same, dx4.same s5, u1, u2, un _ (by omega), rfl, ?_⟩
      rw [decide_eq_true rfl]
      exact q _ fun c o n e => s5 _ _ (kp4 c o n e)
    | true =>
      refine iteT ?_
      obtain ⟨l, xs, rfl, hL⟩ : ∃ l xs, vm = .ref l ∧ H l = some (.lst xs) := by
        cases hv with
        | lst e => exact ⟨_, _, rfl, e⟩
        | _ => cases hl
      obtain ⟨n60, d3', o3', ap⟩ := ap l xs rfl hL
      have hL3 := s03 _ _ hL
      refine ⟨_, rfl, .inl ⟨rfl, _, SqL.of hL3⟩, l, xs, _, rfl, rfl, hL3, by rw [sizeLine_eq]; omega, ?_⟩
      have kp : ∀ c o, c ≠ l → H c = some o → upd H3 l (.lst (xs ++ [.str "more"])) c = some o := fun c o n e => by
        rw [upd_ne n]
        exact s03 _ _ e
      have nt : t ≠ l := ne_of hT3 hL3 (by intro z; cases z)
      have xk' : Xkp (upd H3 l (.lst (xs ++ [.str "more"]))) a A.e_InvalidRule [("value", .ref t)] := by
        obtain ⟨d9, h1, h2⟩ := xk
        exact ⟨d9, by rw [upd_ne (ne_of h1 hL3 (by intro z; cases z))]; exact h1, by rw [upd_ne (ne_of h2 hL3 (by intro z; cases z))]; exact h2⟩
      obtain ⟨kp4, hT4, xk4, dx4, u1, u2, u3⟩ := fin (upd H3 l (.lst (xs ++ [.str "more"]))) d1 d2 d3' d4 (fun c o n e => kp c o (fun z => by
        rcases n with n | n
        · exact n (by rw [z])
        · rw [z, hL] at e
          exact n xs (Option.some.inj e).symm) e) (by rw [upd_ne nt]; exact hT3) xk' (ap _ kp upd_same) o1 o2 o3' o4
      refine ⟨_, rfl, a, A.e_InvalidRule, _, .ref t, rfl, T.x_InvalidRule.ask, T.x_InvalidRule.no, xk4, rfl, t, _, _, rfl, SqT.of hT4, dx4, u1, u2, un _ (by omega), ?_⟩
      refine ⟨_, rfl, _, rfl, _, rfl, _, rfl, (by show 4 ≤ sizeLine; decide), fun t5 ht5 => ?_⟩
      have s5 := same_new (o := .tup [vb, vk, .ref l, vo]) ht5
      refine ⟨t5, _, _, rfl, SqT.of upd_same, dx4.same s5, u1, u2, un _ (by omega), rfl, ?_⟩
      rw [decide_eq_true rfl]
      exact q _ fun c o n e => s5 _ _ (kp4 c o n e)
end
end Ax

namespace L2
open PySem PySem.Spec PyProof.Rows
theorem nsIn_some {K : PySem.W.Frag} {h : Heap} {N : Addr} {mg : Str → Option Value} {n : Str} {v : Value} (X : K.In h) (G : h.Ns N mg) (e : PySem.W.nsIn K N n = some (some v)) : mg n = some v := by
  obtain ⟨o, es, ep, ho, hd, _, hf⟩ := G
  unfold PySem.W.nsIn at e
  split at e
  · rename_i c d es' n' sl q
    have := X _ _ q
    rw [ho] at this
    cases this
    cases hd
    split at e
    · rename_i en he
      cases e
      rw [← hf]
      unfold nsFind findBy
      rw [← Array.find?_toList, he]
      rfl
    · split at e <;> cases e
  · cases e
/-! ### ==, != by an own __eq__ that tells either -/
section
variable {X : Cx} {CX : CXT} {n : Nat} {C f : Addr} {fd : FuncData} {ps : List Str} {sp : Sp} {E : XK}
/-- x == y, y of a type that is not below C -/
def rEqO (K : PySem.W.Frag) (C : Addr) (sp : Sp) (E : XK) : R2 := fun x y H Q => ∃ a dx fs t, x = .ref a ∧ H a = some (.ins C dx fs) ∧ TyX K H y t ∧ PySem.W.notFirst K C t = true ∧ sp [x, y] H (fun v H' => ∃ b, v = .bl b ∧ Q v H') E
theorem op_eqO (F : FnOk X.prog X.w X.K X.mg X.base CX n f fd ps sp) (hr : Room n X.A)
    (hs : PySem.W.findIn X.K (.ref C) "__eq__" = some (some (.ref f))) (hf : PySem.W.isFn X.K (.ref f) = true) (hb : Binds X.K fd ps []) (hx : Passes CX X E) : OpR X (compareOp .Eq) (rEqO X.K C sp E) := by
  intro pins s σ H x y v u Q I rx ry hq
  obtain ⟨a, dx, fs, t, rfl, ha, ty, nf, q⟩ := hq
  cases rx
  obtain ⟨mA, J, _⟩ := ins_get I.hok ha
  obtain ⟨od, J, _⟩ := J.look
  obtain ⟨m, hF⟩ := I.fr
  obtain ⟨P, kx, pp, _⟩ := kit_of I ry ty
  show wpAny (model X.prog X.w) X.A (richCompare .Eq (.ref a) u) (EP X pins σ Q) X.xe s
  refine PySem.W.cmp_K (op := .Eq) (tb := t) hr.units0 hF I.ok.mod.kin J (kx.ty _ _ I.kIn pp) nf hs hf ?_
  have hl := F.len _ _ _ _ q
  have r2 : Vals [V.ref a, y] [Value.ref a, u] := .cons rfl (.cons ry .nil)
  refine wpAny_call (codeAny_mono (F.run X.A X.stack s H ⟨[.ref a, u], []⟩ [.ref a, u] [.ref a, y] _ E hr I.env0 (by
    have := hb s [.ref a, u] I.kIn (by simpa using hl)
    simpa using this) r2 q) fun r s' hq => ?_)
  cases r with
  | error e => exact hx pins σ H s e s' I hq
  | ok fl =>
    cases fl with
    | ret w =>
      obtain ⟨z, H', I', rz, b, ez, qz⟩ := I.after hq
      subst ez
      cases rz
      exact ⟨.bl b, H', I', rfl, qz⟩
    | next => exact False.elim hq
    | brk => exact False.elim hq
    | cont => exact False.elim hq
/-- x != y of two instances -/
def rNeO (C : Addr) (sp : Sp) (E : XK) : R2 := fun x y H Q => ∃ a dx fs c dy gs, x = .ref a ∧ y = .ref c ∧ H a = some (.ins C dx fs) ∧ H c = some (.ins C dy gs) ∧ sp [x, y] H (fun v H' => ∃ b, v = .bl b ∧ Q (.bl (!b)) H') E
theorem op_neO (F : FnOk X.prog X.w X.K X.mg X.base CX n f fd ps sp) (hr : Room (n + 1) X.A)
    (hc : ∃ nm q N bs hd sn sub ab co dd k0 k1 k2 k3 k5, X.K.lookup C = some (excClassObj nm q C N bs [.type "object"] hd sn sub ab co dd k0 k1 k2 k3 k5 "object.__new__") ∧ PySem.W.nsOkIn X.K N = true ∧ PySem.W.nsIn X.K N "__eq__" = some (some (.ref f)) ∧ PySem.W.nsIn X.K N "__ne__" = some none)
    (hft : PySem.W.typeIn X.K (.ref f) = some (.type "function")) (hb : Binds X.K fd ps []) (hx : Passes CX X E) : OpR X (compareOp .NotEq) (rNeO C sp E) := by
  intro pins s σ H x y v u Q I rx ry hq
  obtain ⟨a, dx, fs, c, dy, gs, rfl, rfl, ha, hcc, q⟩ := hq
  cases rx
  cases ry
  obtain ⟨mA, J, _⟩ := ins_get I.hok ha
  obtain ⟨mB, J', _⟩ := ins_get I.hok hcc
  obtain ⟨od, J, _⟩ := J.look
  obtain ⟨od', J', _⟩ := J'.look
  obtain ⟨nm, qn, N, bs, hd, sn, sub, ab, co, dd, k0, k1, k2, k3, k5, hC, hN, he, hne⟩ := hc
  obtain ⟨of, hof, hofc⟩ := Option.map_eq_some_iff.mp (show (X.K.lookup f).map (·.cls) = some (.type "function") from hft)
  have ns : s.heap.Ns N (s.heap.nsMap N) := .of_isNs (PySem.W.isNs_of_in I.kIn hN)
  have O : s.heap.OwnEqNoNe a C f "object" [.type "object"] :=
    ⟨_, of, nm, qn, N, bs, hd, sn, sub, ab, co, dd, k0, k1, k2, k3, k5, "object.__new__", s.heap.nsMap N, _, J.at_, J.cls, I.kIn _ _ hC, ns, nsIn_some I.kIn ns he, I.kIn _ _ hof, hofc, PySem.F.cmp_object.mro, PySem.F.cmp_object.eq.lookup, PySem.W.nsMap_none_of_in I.kIn hN hne⟩
  have at2 := J'.at_
  have cl2 := J'.cls
  have hl := F.len _ _ _ _ q
  have r2 : Vals [V.ref a, V.ref c] [Value.ref a, Value.ref c] := .cons rfl (.cons rfl .nil)
  have e0 : Env0 X.prog X.w X.K X.mg X.base X.A.in1 X.stack s H := by
    have e := I.env0
    exact ⟨e.frames, e.mod, e.bs, e.bsz, e.funs, e.frf, e.hok, e.bare⟩
  have run := F.run X.A.in1 X.stack s H ⟨[.ref a, .ref c], []⟩ [.ref a, .ref c] [.ref a, .ref c] _ E hr.in1 e0 (by
    have := hb s [.ref a, .ref c] I.kIn (by simpa using hl)
    simpa using this) r2 q
  have I0 := I
  obtain ⟨hp, g, d, t, os⟩ := s
  refine compareOp_ne_ownEq PySem.F.cmp_object O at2 cl2 (Nat.lt_of_le_of_lt (Nat.add_le_add_left (by decide : 1 ≤ 64) _) hr.units) ?_
  refine wpAny_call (codeAny_mono run fun r s' hq => ?_)
  cases r with
  | error e => exact hx pins σ H _ e s' I0 hq
  | ok fl =>
    cases fl with
    | ret w =>
      obtain ⟨z, H', I', rz, b, ez, qz⟩ := I0.after hq
      subst ez
      cases rz
      exact ⟨b, rfl, .bl (!b), H', I', rfl, qz⟩
    | next => exact False.elim hq
    | brk => exact False.elim hq
    | cont => exact False.elim hq
end
end L2
namespace Ax
open PySem L2
section
variable {P : Program} {w : World} {K : PySem.W.Frag} {mg : Str → Option Value} {base : Heap} {A : Adr}
theorem kit_not (N : NeOk K A.c_Rule A.a_Rule___eq__) {T : String} {l : List Value} (e : fastBuiltinMro T = some l) (n : l.contains (.ref A.c_Rule) = false) : PySem.W.kitOne K (.type T) (.ref A.c_Rule) = some false ∧ PySem.W.notFirst K A.c_Rule (.type T) = true := by
  obtain ⟨nm, qn, N', bs, hd, sn, sub, ab, co, dd, k0, k1, k2, k3, k5, hC, _⟩ := N.cls
  have hcl : (PySem.W.clsIn K A.c_Rule).isSome = true := by unfold PySem.W.clsIn; rw [hC] <;> rfl
  have hs : PySem.W.subIn K (.type T) (.ref A.c_Rule) = some false := by
    show (fastBuiltinMro T).map (·.contains (.ref A.c_Rule)) = some false
    rw [e]
    show some (l.contains (.ref A.c_Rule)) = some false
    rw [n]
  refine ⟨?_, ?_⟩
  · unfold PySem.W.kitOne
    rw [if_neg (fun z => by have e := beq_iff_eq.mp z; cases e)]
    show (if ((PySem.W.clsIn K A.c_Rule).isSome && PySem.W.typeIn K (.ref A.c_Rule) == some (.type "type")) = true then PySem.W.subIn K (.type T) (.ref A.c_Rule) else none) = some false
    rw [hcl, N.tyC, hs]
    rfl
  · unfold PySem.W.notFirst
    rw [hs]
    simp
theorem kit_tup (T : Txt K mg A w) : PySem.W.kitOne K (.type "tuple") (.ref A.c_Rule) = some false ∧ PySem.W.notFirst K A.c_Rule (.type "tuple") = true :=
  kit_not T.ne_Rule (l := [.type "tuple", .type "object"]) (by decide +kernel) (by simp)
theorem kit_non (T : Txt K mg A w) : PySem.W.kitOne K (.type "NoneType") (.ref A.c_Rule) = some false ∧ PySem.W.notFirst K A.c_Rule (.type "NoneType") = true :=
  kit_not T.ne_Rule (l := [.type "NoneType", .type "object"]) (by decide +kernel) (by simp)
/-! ### the properties -/
def spPB (A : Adr) : Sp := fun vs H Q _ => ∃ (r : Addr) (b : Int) (k : Kd) (ms : List Int) (most : Int) (D : RD), vs = [.ref r] ∧ RX A.c_Rule H r b k ms most D ∧ Q (.int b) H
def spPK (A : Adr) : Sp := fun vs H Q _ => ∃ (r : Addr) (b : Int) (k : Kd) (ms : List Int) (most : Int) (D : RD), vs = [.ref r] ∧ RX A.c_Rule H r b k ms most D ∧ Q (.str k.s) H
def spPM (A : Adr) : Sp := fun vs H Q _ => ∃ (r : Addr) (b : Int) (k : Kd) (ms : List Int) (most : Int) (D : RD), vs = [.ref r] ∧ RX A.c_Rule H r b k ms most D ∧ Q (.int most) H
def spPD (A : Adr) : Sp := fun vs H Q _ => ∃ (r : Addr) (b : Int) (k : Kd) (ms : List Int) (most : Int) (D : RD), vs = [.ref r] ∧ RX A.c_Rule H r b k ms most D ∧ Q (.bl D.dv) H
def spPL (A : Adr) : Sp := fun vs H Q _ => ∃ (r : Addr) (b : Int) (k : Kd) (ms : List Int) (most : Int) (D : RD), vs = [.ref r] ∧ RX A.c_Rule H r b k ms most D ∧ ∀ l, H l = none → Q (.ref l) (upd H l (.lst (D.ms'.map V.int)))
abbrev nm_Rule_base : List Str := ["self"]
theorem sc_Rule_base : FnScope ["self"] ["self"] (defScope s_Rule_base) := ⟨rfl, rfl, rfl, by decide +kernel, rfl, by decide +kernel, by decide +kernel⟩
abbrev nm_Rule_kind : List Str := ["self"]
theorem sc_Rule_kind : FnScope ["self"] ["self"] (defScope s_Rule_kind) := ⟨rfl, rfl, rfl, by decide +kernel, rfl, by decide +kernel, by decide +kernel⟩
abbrev nm_Rule_most : List Str := ["self"]
theorem sc_Rule_most : FnScope ["self"] ["self"] (defScope s_Rule_most) := ⟨rfl, rfl, rfl, by decide +kernel, rfl, by decide +kernel, by decide +kernel⟩
abbrev nm_Rule_dividing : List Str := ["self"]
theorem sc_Rule_dividing : FnScope ["self"] ["self"] (defScope s_Rule_dividing) := ⟨rfl, rfl, rfl, by decide +kernel, rfl, by decide +kernel, by decide +kernel⟩
abbrev nm_Rule_mantissas : List Str := ["self"]
theorem sc_Rule_mantissas : FnScope ["self"] ["self"] (defScope s_Rule_mantissas) := ⟨rfl, rfl, rfl, by decide +kernel, rfl, by decide +kernel, by decide +kernel⟩
theorem ok_pb (T : Txt K mg A w) : FnOk P w K mg base CX0 1 A.a_Rule_base A.d_Rule_base ["self"] (spPB A) := by
  refine T.F_Rule_base.ok sc_Rule_base (fun vs H Q E h => ?_) (fun cdv A0 outer s H vs Q E hr h => ?_)
  · obtain ⟨r, b, k, ms, most, D, rfl, _⟩ := h
    rfl
  · obtain ⟨r, b, k, ms, most, D, rfl, x, q⟩ := h
    refine ⟨_, (pss_one (ps_ret (pe_fld (pv 0) rfl))), ?_⟩
    exact ⟨_, rfl, r, A.c_Rule, D.dx, _, _, rfl, x.at_, T.cl, T.na_base, rf_base _ _ _ _ _ _, q⟩
theorem ok_pk (T : Txt K mg A w) : FnOk P w K mg base CX0 1 A.a_Rule_kind A.d_Rule_kind ["self"] (spPK A) := by
  refine T.F_Rule_kind.ok sc_Rule_kind (fun vs H Q E h => ?_) (fun cdv A0 outer s H vs Q E hr h => ?_)
  · obtain ⟨r, b, k, ms, most, D, rfl, _⟩ := h
    rfl
  · obtain ⟨r, b, k, ms, most, D, rfl, x, q⟩ := h
    refine ⟨_, (pss_one (ps_ret (pe_fld (pv 0) rfl))), ?_⟩
    exact ⟨_, rfl, r, A.c_Rule, D.dx, _, _, rfl, x.at_, T.cl, T.na_kind, rf_kind _ _ _ _ _ _, q⟩
theorem ok_pm (T : Txt K mg A w) : FnOk P w K mg base CX0 1 A.a_Rule_most A.d_Rule_most ["self"] (spPM A) := by
  refine T.F_Rule_most.ok sc_Rule_most (fun vs H Q E h => ?_) (fun cdv A0 outer s H vs Q E hr h => ?_)
  · obtain ⟨r, b, k, ms, most, D, rfl, _⟩ := h
    rfl
  · obtain ⟨r, b, k, ms, most, D, rfl, x, q⟩ := h
    refine ⟨_, (pss_one (ps_ret (pe_fld (pv 0) rfl))), ?_⟩
    exact ⟨_, rfl, r, A.c_Rule, D.dx, _, _, rfl, x.at_, T.cl, T.na_most, rf_most _ _ _ _ _ _, q⟩
theorem ok_pd (T : Txt K mg A w) : FnOk P w K mg base CX0 1 A.a_Rule_dividing A.d_Rule_dividing ["self"] (spPD A) := by
  refine T.F_Rule_dividing.ok sc_Rule_dividing (fun vs H Q E h => ?_) (fun cdv A0 outer s H vs Q E hr h => ?_)
  · obtain ⟨r, b, k, ms, most, D, rfl, _⟩ := h
    rfl
  · obtain ⟨r, b, k, ms, most, D, rfl, x, q⟩ := h
    refine ⟨_, (pss_one (ps_ret (pe_fld (pv 0) rfl))), ?_⟩
    exact ⟨_, rfl, r, A.c_Rule, D.dx, _, _, rfl, x.at_, T.cl, T.na_dividing, rf_dividing _ _ _ _ _ _, q⟩
theorem ok_pl (T : Txt K mg A w) : FnOk P w K mg base CX0 1 A.a_Rule_mantissas A.d_Rule_mantissas ["self"] (spPL A) := by
  refine T.F_Rule_mantissas.ok sc_Rule_mantissas (fun vs H Q E h => ?_) (fun cdv A0 outer s H vs Q E hr h => ?_)
  · obtain ⟨r, b, k, ms, most, D, rfl, _⟩ := h
    rfl
  · obtain ⟨r, b, k, ms, most, D, rfl, x, q⟩ := h
    refine ⟨_, (pss_one (ps_ret (pe_callTy call_list_of (by rfl) T.n_list (by decide +kernel) (pa_cons (pe_fld (pv 0) rfl) pa_nil)))), ?_⟩
    exact ⟨_, rfl, r, A.c_Rule, D.dx, _, _, rfl, x.at_, T.cl, T.na_mantissas, rf_mantissas _ _ _ _ _ _, D.lm, _, rfl, .inl (SqL.of x.lm_), q⟩
/-! ### Rule.__eq__ -/
abbrev nm_Rule___eq__ : List Str := ["self", "other"]
theorem sc_Rule___eq__ : FnScope ["self", "other"] ["self", "other"] (defScope s_Rule___eq__) := ⟨rfl, rfl, rfl, by decide +kernel, rfl, by decide +kernel, by decide +kernel⟩
def spEq2 (A : Adr) : Sp := fun vs H Q _ => ∃ (a : Addr) (y : V) (b : Int) (k : Kd) (ms : List Int) (most : Int) (D : RD), vs = [.ref a, y] ∧ RX A.c_Rule H a b k ms most D ∧
  ((∃ (c : Addr) (b' : Int) (k' : Kd) (ms' : List Int) (most' : Int) (D' : RD), y = .ref c ∧ RX A.c_Rule H c b' k' ms' most' D' ∧ Q (.bl (decide (b = b' ∧ k = k' ∧ D.ms' = D'.ms' ∧ most = most'))) H) ∨ ((∃ xs c, y = .ref c ∧ H c = some (.tup xs)) ∧ Q (.bl false) H) ∨ (y = .non ∧ Q (.bl false) H))
theorem eqv_ints2 : ∀ (ms ns : List Int), PyData.eqv (.list (ms.map PyData.int)) (.list (ns.map PyData.int)) = decide (ms = ns)
  | [], [] => by simp [eqv_nil_nil]
  | [], n :: ns => by
    simp [PyData.eqv, PyData.eqvAll]
  | m :: ms, [] => by
    simp [PyData.eqv, PyData.eqvAll]
  | m :: ms, n :: ns => by
    have ih := eqv_ints2 ms ns
    simp only [PyData.eqv, List.map_cons, PyData.eqvAll] at ih ⊢
    by_cases h : m = n
    · subst h
      simpa using ih
    · simp [h]
theorem kd_dec (k k' : Kd) : decide (V.str k.s = V.str k'.s) = decide (k = k') := by
  cases k <;> cases k' <;> decide +kernel
theorem ok_req2 (T : Txt K mg A w) : FnOk P w K mg base CX0 1 A.a_Rule___eq__ A.d_Rule___eq__ ["self", "other"] (spEq2 A) := by
  refine T.F_Rule___eq__.ok sc_Rule___eq__ (fun vs H Q E h => ?_) (fun cdv A0 outer s H vs Q E hr h => ?_)
  · obtain ⟨a, y, b, k, ms, most, D, rfl, _⟩ := h
    rfl
  · obtain ⟨a, y, b, k, ms, most, D, rfl, x, h⟩ := h
    refine ⟨_, (pss_cons (ps_if (pt_not (pt_val (pe_callB call_isi (by rfl) T.n_isinstance (by decide +kernel) (pa_cons (pv 1) (pa_cons (pe_glob (v := .ref A.c_Rule) rfl T.c_Rule rfl) pa_nil))))) (pss_one (ps_ret pe_bl)) pss_nil)
  (pss_cons (ps_if (PW.pt (pw_or (pt_cmpR op_ne (pe_fld (pv 0) rfl) (pe_fld (pv 1) rfl) (nomark _)) (pw_or1 (pt_cmpR op_ne (pe_fld (pv 0) rfl) (pe_fld (pv 1) rfl) (nomark _))))) (pss_one (ps_ret pe_bl)) pss_nil)
  (pss_one (ps_ret (pe_and (pe_cmpR (op_eqD hr.units) (pe_fld (pv 0) rfl) (pe_fld (pv 1) rfl) (nomark _)) (pe_one (pe_cmpR op_eq (pe_fld (pv 0) rfl) (pe_fld (pv 1) rfl) (nomark _)))))))), ?_⟩
    rcases h with ⟨c, b', k', ms', most', D', rfl, y, q⟩ | ⟨⟨xs, c, rfl, hc⟩, q⟩ | ⟨rfl, q⟩
    · refine ⟨_, rfl, _, _, .ref A.c_Rule, .ref A.c_Rule, true, rfl, .own _, .base (.ins y.at_ T.cl T.ic.ha T.ic.hn T.ic.htk T.ic.hm), T.ic.me, true, rfl, ?_⟩
      refine iteF ?_
      refine ⟨_, rfl, a, A.c_Rule, D.dx, _, _, rfl, x.at_, T.cl, T.na_base, rf_base _ _ _ _ _ _, _, rfl, c, A.c_Rule, D'.dx, _, _, rfl, y.at_, T.cl, T.na_base, rf_base _ _ _ _ _ _, rfl, _, rfl, ?_⟩
      have qf : ¬ (b = b' ∧ k = k' ∧ D.ms' = D'.ms' ∧ most = most') → Q (.bl false) H := fun z => by
        rw [decide_eq_false z] at q
        exact q
      by_cases e1 : b = b'
      · rw [decide_eq_true (by rw [e1])]
        refine iteF ?_
        refine ⟨_, rfl, a, A.c_Rule, D.dx, _, _, rfl, x.at_, T.cl, T.na_kind, rf_kind _ _ _ _ _ _, _, rfl, c, A.c_Rule, D'.dx, _, _, rfl, y.at_, T.cl, T.na_kind, rf_kind _ _ _ _ _ _, rfl, _, rfl, ?_⟩
        rw [kd_dec]
        by_cases e2 : k = k'
        · rw [decide_eq_true e2]
          refine iteF ?_
          refine ⟨_, rfl, a, A.c_Rule, D.dx, _, _, rfl, x.at_, T.cl, T.na_mantissas, rf_mantissas _ _ _ _ _ _, _, rfl, c, A.c_Rule, D'.dx, _, _, rfl, y.at_, T.cl, T.na_mantissas, rf_mantissas _ _ _ _ _ _, ?_⟩
          refine ⟨.list (D.ms'.map PyData.int), .list (D'.ms'.map PyData.int), .lst (SqL.of x.lm_) (dp_ints _), .lst (SqL.of y.lm_) (dp_ints _), shaped_ints _, shaped_ints _, _, rfl, ?_⟩
          rw [eqv_ints2]
          by_cases e3 : D.ms' = D'.ms'
          · rw [decide_eq_true e3]
            refine iteT ?_
            refine ⟨_, rfl, a, A.c_Rule, D.dx, _, _, rfl, x.at_, T.cl, T.na_most, rf_most _ _ _ _ _ _, _, rfl, c, A.c_Rule, D'.dx, _, _, rfl, y.at_, T.cl, T.na_most, rf_most _ _ _ _ _ _, rfl, ?_⟩
            have z : decide (V.int most = V.int most') = decide (b = b' ∧ k = k' ∧ D.ms' = D'.ms' ∧ most = most') := decide_eq_decide.mpr ⟨fun z => ⟨e1, e2, e3, V.int.inj z⟩, fun z => by rw [z.2.2.2]⟩
            show Q (.bl (decide (V.int most = V.int most'))) H
            rw [z]
            exact q
          · rw [decide_eq_false e3]
            exact iteF (qf fun z => e3 z.2.2.1)
        · rw [decide_eq_false e2]
          exact iteT (qf fun z => e2 z.2.1)
      · rw [decide_eq_false (fun z => e1 (V.int.inj z))]
        exact iteT (qf fun z => e1 z.1)
    · exact ⟨_, rfl, _, _, .type "tuple", .ref A.c_Rule, false, rfl, .own _, .base (.tup hc), (kit_tup T).1, false, rfl, iteT q⟩
    · exact ⟨_, rfl, _, _, .type "NoneType", .ref A.c_Rule, false, rfl, .own _, .base .non, (kit_non T).1, false, rfl, iteT q⟩
end
end Ax

namespace Ax
/-! # rules of which each step divides the next greater one -/
theorem sorted_eq : ∀ {l₁ l₂ : List Int}, l₁.Perm l₂ → l₁.Pairwise (· ≤ ·) → l₂.Pairwise (· ≤ ·) → l₁ = l₂
  | [], _, p, _, _ => p.nil_eq
  | a :: r, [], p, _, _ => absurd p.length_eq (by simp)
  | a :: r, b :: s, p, s1, s2 => by
    have h1 := List.pairwise_cons.mp s1
    have h2 := List.pairwise_cons.mp s2
    have e : a = b := by
      rcases List.mem_cons.mp (p.mem_iff.mp (List.mem_cons_self ..)) with z | z
      · exact z
      · rcases List.mem_cons.mp (p.mem_iff.mpr (List.mem_cons_self ..)) with y | y
        · exact y.symm
        · have := h1.1 b y
          have := h2.1 a z
          omega
    subst e
    rw [sorted_eq (p.cons_inv) h1.2 h2.2]
def ins (a : Int) : List Int → List Int
  | [] => [a]
  | b :: r => if a ≤ b then a :: b :: r else b :: ins a r
def isort : List Int → List Int
  | [] => []
  | a :: r => ins a (isort r)
theorem ins_perm (a : Int) : ∀ l : List Int, (ins a l).Perm (a :: l)
  | [] => .refl _
  | b :: r => by
    unfold ins
    split
    · exact .refl _
    · exact ((ins_perm a r).cons b).trans (.swap a b r)
theorem isort_perm : ∀ l : List Int, (isort l).Perm l
  | [] => .refl _
  | a :: r => (ins_perm a (isort r)).trans ((isort_perm r).cons a)
theorem ins_sorted (a : Int) : ∀ {l : List Int}, l.Pairwise (· ≤ ·) → (ins a l).Pairwise (· ≤ ·)
  | [], _ => List.pairwise_singleton _ _
  | b :: r, h => by
    unfold ins
    have h2 := List.pairwise_cons.mp h
    split
    · rename_i c
      exact List.pairwise_cons.mpr ⟨fun x hx => by
        rcases List.mem_cons.mp hx with rfl | z
        · exact c
        · have := h2.1 x z
          omega, h⟩
    · rename_i c
      exact List.pairwise_cons.mpr ⟨fun x hx => by
        rcases List.mem_cons.mp ((ins_perm a r).mem_iff.mp hx) with rfl | z
        · omega
        · exact h2.1 x z, ins_sorted a h2.2⟩
theorem isort_sorted : ∀ l : List Int, (isort l).Pairwise (· ≤ ·)
  | [] => .nil
  | a :: r => ins_sorted a (isort_sorted r)
theorem eq_isort {l l' : List Int} (p : l'.Perm l) (s : l'.Pairwise (· ≤ ·)) : l' = isort l := sorted_eq (p.trans (isort_perm l).symm) s (isort_sorted l)
/-- of the steps of these mantissas one that is not greater divides, tried for a few powers -/
def DvT (b : Int) (ms : List Int) : Prop := ∀ m ∈ ms, ∀ n ∈ ms, ∀ j ∈ List.range 7, m * b ^ 3 ≤ n * b ^ j → n * b ^ j % (m * b ^ 3) = 0
instance {b : Int} {ms : List Int} : Decidable (DvT b ms) := inferInstanceAs (Decidable (∀ m ∈ ms, _))
theorem dvT_le {b : Int} {ms : List Int} (D : DvT b ms) (b2 : 2 ≤ b) (m7 : ∀ m ∈ ms, 1 ≤ m ∧ m ≤ 7) {m n : Int} (hm : m ∈ ms) (hn : n ∈ ms) {x y : Nat} (h : m * b ^ x ≤ n * b ^ y) : m * b ^ x ∣ n * b ^ y := by
  have pp : ∀ k : Nat, 1 ≤ b ^ k := fun k => pow_pos' (by omega) k
  have cube : (8 : Int) ≤ b ^ 3 := by
    have a1 : 2 * 2 ≤ b * b := Int.mul_le_mul b2 b2 (by decide) (by omega)
    have a2 : 2 * 2 * 2 ≤ b * b * b := Int.mul_le_mul a1 b2 (by decide) (by omega)
    have e : b ^ 3 = b * b * b := by rw [Int.pow_succ, Int.pow_succ, Int.pow_succ, Int.pow_zero, Int.one_mul]
    rw [e]
    exact a2
  obtain ⟨m1, m2⟩ := m7 m hm
  obtain ⟨n1, n2⟩ := m7 n hn
  have tab : ∀ j : Nat, j ≤ 6 → m * b ^ 3 ≤ n * b ^ j → m * b ^ 3 ∣ n * b ^ j := fun j hj hle => Int.dvd_of_emod_eq_zero (D m hm n hn j (List.mem_range.mpr (by omega)) hle)
  have p3 := pp 3
  rcases Nat.le_total x y with c | c
  · obtain ⟨k, rfl⟩ := Nat.exists_eq_add_of_le c
    have px := pp x
    have e1 : n * b ^ (x + k) = n * b ^ k * b ^ x := by rw [pow_add', Int.mul_comm (b ^ x), ← Int.mul_assoc]
    rw [e1] at h ⊢
    have hk : m ≤ n * b ^ k := Int.le_of_mul_le_mul_right h (by omega)
    have key : m ∣ n * b ^ k := by
      by_cases c3 : k ≤ 3
      · have e2 : n * b ^ (k + 3) = n * b ^ k * b ^ 3 := by rw [pow_add', ← Int.mul_assoc]
        have t := tab (k + 3) (by omega) (by rw [e2]; exact Int.mul_le_mul_of_nonneg_right hk (by omega))
        rw [e2] at t
        exact Int.dvd_of_mul_dvd_mul_right (by omega) t
      · have e2 : n * b ^ 6 = n * b ^ 3 * b ^ 3 := by rw [show (6 : Nat) = 3 + 3 by rfl, pow_add', ← Int.mul_assoc]
        have n3 : b ^ 3 ≤ n * b ^ 3 := by
          have := Int.mul_le_mul_of_nonneg_right n1 (show 0 ≤ b ^ 3 by omega)
          omega
        have t := tab 6 (by omega) (by rw [e2]; exact Int.mul_le_mul_of_nonneg_right (by omega) (by omega))
        rw [e2] at t
        have t2 := Int.dvd_of_mul_dvd_mul_right (by omega) t
        have e3 : n * b ^ k = n * b ^ 3 * b ^ (k - 3) := by
          rw [Int.mul_assoc, ← pow_add']
          congr 2
          omega
        rw [e3]
        exact Int.dvd_mul_of_dvd_left t2
    exact Int.mul_dvd_mul key (Int.dvd_refl _)
  · obtain ⟨k, rfl⟩ := Nat.exists_eq_add_of_le c
    have py := pp y
    have e1 : m * b ^ (y + k) = m * b ^ k * b ^ y := by rw [pow_add', Int.mul_comm (b ^ y), ← Int.mul_assoc]
    rw [e1] at h ⊢
    have hk : m * b ^ k ≤ n := Int.le_of_mul_le_mul_right h (by omega)
    have key : m * b ^ k ∣ n := by
      by_cases c3 : k ≤ 3
      · have e2 : m * b ^ 3 = m * b ^ k * b ^ (3 - k) := by
          rw [Int.mul_assoc, ← pow_add']
          congr 2
          omega
        have p4 := pp (3 - k)
        have t := tab (3 - k) (by omega) (by rw [e2]; exact Int.mul_le_mul_of_nonneg_right hk (by omega))
        rw [e2] at t
        exact Int.dvd_of_mul_dvd_mul_right (by omega) t
      · have e2 : b ^ k = b ^ 3 * b ^ (k - 3) := by
          rw [← pow_add']
          congr 1
          omega
        have p4 := pp (k - 3)
        have a1 : b ^ 3 * 1 ≤ b ^ 3 * b ^ (k - 3) := Int.mul_le_mul_of_nonneg_left p4 (by omega)
        have a2 : 1 * b ^ k ≤ m * b ^ k := Int.mul_le_mul_of_nonneg_right m1 (by have := pp k; omega)
        omega
    exact Int.mul_dvd_mul key (Int.dvd_refl _)
end Ax

namespace Ax
open PySem L2
/-! ### what dividing is, told by numbers -/
def lgC (b m : Int) : Nat := if m < b then 0 else if m < b ^ 2 then 1 else if m < b ^ 3 then 2 else if m < b ^ 4 then 3 else 4
def keyC (b m : Int) : Int := m * b ^ (4 - lgC b m)
theorem lgC_eq {b m : Int} (b2 : 2 ≤ b) (m1 : 1 ≤ m) (m25 : m ≤ 25) : lgC b m = lg b m := by
  have p5 : m < b ^ (4 + 1) := by
    have := pow_base_le (a := 2) (by decide) b2 5
    have e : (2 : Int) ^ 5 = 32 := by decide
    rw [e] at this
    show m < b ^ 5
    omega
  unfold lgC
  split
  · rename_i h
    exact lg_eq b2 m1 (by rw [Int.pow_zero]; exact m1) (by rw [Int.pow_succ, Int.pow_zero, Int.one_mul]; exact h)
  · rename_i h0
    split
    · rename_i h
      exact lg_eq b2 m1 (by rw [Int.pow_succ, Int.pow_zero, Int.one_mul]; omega) h
    · split
      · rename_i h1 h
        exact lg_eq b2 m1 (by omega) h
      · split
        · rename_i h2 h1 h
          exact lg_eq b2 m1 (by omega) h
        · exact lg_eq b2 m1 (by omega) p5
theorem lgC_le (b m : Int) : lgC b m ≤ 4 := by
  unfold lgC
  split
  · omega
  · split
    · omega
    · split
      · omega
      · split <;> omega
theorem dvZ_scale {b c : Int} (hc : 1 ≤ c) (zs : List Int) : dvZ b (zs.map (· * c)) = dvZ b zs := by
  unfold dvZ
  have e1 : (zs.map (· * c)).drop 1 ++ [b * (zs.map (· * c)).headD 0] = (zs.drop 1 ++ [b * zs.headD 0]).map (· * c) := by
    rw [List.map_append, List.map_drop]
    cases zs with
    | nil => simp
    | cons z r => simp [Int.mul_assoc]
  rw [e1, List.zip_map, List.map_map]
  congr 1
  refine List.map_congr_left fun p _ => ?_
  show decide (p.2 * c % (p.1 * c) = 0) = decide (p.2 % p.1 = 0)
  rw [Int.mul_comm p.2 c, Int.mul_comm p.1 c, Int.mul_emod_mul_of_pos _ _ (by omega)]
  exact decide_eq_decide.mpr ⟨fun z => by
    rcases Int.mul_eq_zero.mp z with h | h
    · omega
    · exact h, fun z => by rw [z, Int.mul_zero]⟩
theorem dv_tab {b : Int} {ms rs : List Int} {top : Nat} (b2 : 2 ≤ b) (m25 : ∀ m ∈ ms, 1 ≤ m ∧ m ≤ 25) (pr : rs.Perm ms) (ht : ∀ m ∈ ms, lg b m ≤ top) (st : rs.Pairwise fun m n => keyOf b top m < keyOf b top n) :
    dvZ b (rs.map (keyOf b top)) = dvZ b (isort (ms.map (keyC b))) := by
  have pp : ∀ k : Nat, 1 ≤ b ^ k := fun k => pow_pos' (by omega) k
  have hr : ∀ m ∈ rs, 1 ≤ m ∧ m ≤ 25 ∧ lg b m ≤ top := fun m hm => ⟨(m25 m (pr.mem_iff.mp hm)).1, (m25 m (pr.mem_iff.mp hm)).2, ht m (pr.mem_iff.mp hm)⟩
  have h4 : ∀ m ∈ rs, lg b m ≤ 4 := fun m hm => by
    rw [← lgC_eq b2 (hr m hm).1 (hr m hm).2.1]
    exact lgC_le b m
  have e4 : ∀ m ∈ rs, keyOf b 4 m = keyC b m := fun m hm => by
    unfold keyOf keyC
    rw [lgC_eq b2 (hr m hm).1 (hr m hm).2.1]
  have eT : ∀ m ∈ rs, keyOf b top m * b ^ (max top 4 - top) = keyC b m * b ^ (max top 4 - 4) := fun m hm => by
    rw [← keyOf_shift (hr m hm).2.2 (Nat.le_max_left _ _), ← e4 m hm, ← keyOf_shift (h4 m hm) (Nat.le_max_right _ _)]
  have r1 : (rs.map (keyOf b top)).map (· * b ^ (max top 4 - top)) = (rs.map (keyC b)).map (· * b ^ (max top 4 - 4)) := by
    rw [List.map_map, List.map_map]
    exact List.map_congr_left fun m hm => eT m hm
  rw [← dvZ_scale (pp (max top 4 - top)) (rs.map (keyOf b top)), r1, dvZ_scale (pp _)]
  congr 1
  refine eq_isort (pr.map _) (List.pairwise_map.mpr (List.Pairwise.imp_of_mem (fun {m n} hm hn h => ?_) st))
  have t1 := Int.mul_le_mul_of_nonneg_right (Int.le_of_lt h) (show 0 ≤ b ^ (max top 4 - top) by have := pp (max top 4 - top); omega)
  rw [eT m hm, eT n hn] at t1
  exact Int.le_of_mul_le_mul_right t1 (by have := pp (max top 4 - 4); omega)
/-! ### what the law reckons -/
def sizesZ (b : Int) (hs : List Int) : List Int := hs.flatMap fun h => (List.range 12).map fun i => h * b ^ i
def lawT (b : Int) (hs : List Int) : List Int := (isort ((sizesZ b hs).filter fun z => decide (100 ≤ z))).take (hs.length + 1)
def badAt (b : Int) (hs : List Int) : List Nat := (List.range hs.length).filter fun i => decide (0 < (lawT b hs).getD (i + 1) 0 % (lawT b hs).getD i 0)
def lawD (b : Int) (hs : List Int) : Bool := (badAt b hs).isEmpty
def subs : List Int → List (List Int)
  | [] => [[]]
  | a :: r => subs r ++ (subs r).map (a :: ·)
theorem mem_subs {l L : List Int} (h : l.Sublist L) : l ∈ subs L := by
  induction h with
  | slnil => exact List.mem_singleton.mpr rfl
  | cons a _ ih => exact List.mem_append_left _ ih
  | cons_cons a _ ih => exact List.mem_append_right _ (List.mem_map_of_mem ih)
def DivOk (b : Int) (hs : List Int) : Prop := hs = [] ∨ ((lawT b hs).length = hs.length + 1 ∧ (∀ z ∈ lawT b hs, 1 ≤ z) ∧ lawD b hs = dvZ b (isort (hs.map (keyC b))))
instance {b : Int} {hs : List Int} : Decidable (DivOk b hs) := inferInstanceAs (Decidable (_ ∨ _))
theorem div_table : ∀ b ∈ ([10, 2, 3, 4, 6, 5, 7] : List Int), ∀ is ∈ FAM1 ++ FAM2, ∀ hs ∈ subs (famOf b is), DivOk b hs := by decide +kernel
theorem Fam.div {b : Int} {ms hs : List Int} (h : Fam b ms) (sub : hs.Sublist ms) (ne : hs ≠ []) : (lawT b hs).length = hs.length + 1 ∧ (∀ z ∈ lawT b hs, 1 ≤ z) ∧ lawD b hs = dvZ b (isort (hs.map (keyC b))) := by
  obtain ⟨h1, is, h2, rfl⟩ := h
  have hb : b ∈ ([10, 2, 3, 4, 6, 5, 7] : List Int) := (by decide : ∀ b ∈ BASES, b ∈ ([10, 2, 3, 4, 6, 5, 7] : List Int)) b h1
  rcases div_table b hb is h2 hs (mem_subs sub) with z | z
  · exact absurd z ne
  · exact z
end Ax

namespace Ax
open PySem L2
section
variable {P : Program} {w : World} {K : PySem.W.Frag} {mg : Str → Option Value} {base : Heap} {A : Adr}
/-! ### _law_fields -/
def spFields (A : Adr) : Sp := fun vs H Q _ => ∃ (r : Addr) (b : Int) (k : Kd) (ms : List Int) (most : Int) (D : RD), vs = [.ref r] ∧ RX A.c_Rule H r b k ms most D ∧
  ∀ (H' : Hp) (t l : Addr), Same H H' → H t = none → H l = none → H' t = some (.tup [.int b, .str k.s, .ref l, .int most]) → H' l = some (.lst (D.ms'.map V.int)) → Q (.ref t) H'
abbrev nm_law_fields : List Str := ["_law_made_here"]
theorem sc_law_fields : FnScope ["_law_made_here"] ["_law_made_here"] (defScope s_law_fields) := ⟨rfl, rfl, rfl, by decide +kernel, rfl, by decide +kernel, by decide +kernel⟩
theorem ok_fields (T : Txt K mg A w) : FnOk P w K mg base CX0 3 A.a_law_fields A.d_law_fields ["_law_made_here"] (spFields A) := by
  have G_Rule_base : FnOk P w K mg base CX0 1 A.a_Rule_base A.d_Rule_base ["self"] (spPB A) := ok_pb T
  have G_Rule_kind : FnOk P w K mg base CX0 1 A.a_Rule_kind A.d_Rule_kind ["self"] (spPK A) := ok_pk T
  have G_Rule_mantissas : FnOk P w K mg base CX0 1 A.a_Rule_mantissas A.d_Rule_mantissas ["self"] (spPL A) := ok_pl T
  have G_Rule_most : FnOk P w K mg base CX0 1 A.a_Rule_most A.d_Rule_most ["self"] (spPM A) := ok_pm T
  refine T.F_law_fields.ok sc_law_fields (fun vs H Q E h => ?_) (fun cdv A0 outer s H vs Q E hr h => ?_)
  · obtain ⟨r, b, k, ms, most, D, rfl, _⟩ := h
    rfl
  · obtain ⟨r, b, k, ms, most, D, rfl, x, q⟩ := h
    refine ⟨_, (pss_one (ps_ret (pe_tup (pa_cons (pe_prop (pv 0) T.cl T.pr_Rule_base G_Rule_base (hr.mono (by decide)) T.B_Rule_base .nil pass0 rfl) (pa_cons (pe_prop (pv 0) T.cl T.pr_Rule_kind G_Rule_kind (hr.mono (by decide)) T.B_Rule_kind .nil pass0 rfl) (pa_cons (pe_prop (pv 0) T.cl T.pr_Rule_mantissas G_Rule_mantissas (hr.mono (by decide)) T.B_Rule_mantissas .nil pass0 rfl) (pa_cons (pe_prop (pv 0) T.cl T.pr_Rule_most G_Rule_most (hr.mono (by decide)) T.B_Rule_most .nil pass0 rfl) pa_nil))))))), ?_⟩
    refine ⟨_, rfl, r, D.dx, _, rfl, x.at_, r, b, k, ms, most, D, rfl, x, ?_⟩
    refine ⟨_, rfl, r, D.dx, _, rfl, x.at_, r, b, k, ms, most, D, rfl, x, ?_⟩
    refine ⟨_, rfl, r, D.dx, _, rfl, x.at_, r, b, k, ms, most, D, rfl, x, fun l hl => ?_⟩
    have s1 := same_new (o := .lst (D.ms'.map V.int)) hl
    have x' := x.same s1
    refine ⟨_, rfl, r, D.dx, _, rfl, x'.at_, r, b, k, ms, most, D, rfl, x', (by show 4 ≤ sizeLine; decide), fun t ht => ?_⟩
    have s2 := same_new (o := .tup [.int b, .str k.s, .ref l, .int most]) ht
    exact q _ t l (s1.trans s2) (s1.free ht) hl upd_same (s2 _ _ upd_same)
/-! ### _law_is_dividing -/
theorem ixL (K : PySem.W.Frag) {X : Cx} (h : X.K = K := by rfl) : IxR X (rIxL K) := h ▸ ix_list
theorem cut_to (xs : List V) (n : Nat) : cutV xs none (some (n : Int)) = xs.take n := by
  unfold cutV HT.sIx
  simp
  rw [if_neg (by omega)]
  omega
theorem sizes_succ {b : Int} {hs : List Int} {i : Nat} {m : Int} (h : hs[i]? = some m) : sizesZ b (hs.take (i + 1)) = sizesZ b (hs.take i) ++ (List.range 12).map fun j => m * b ^ j := by
  unfold sizesZ
  rw [List.take_add_one, h, List.flatMap_append]
  simp
theorem sizes_len {b : Int} (hs : List Int) : (sizesZ b hs).length = 12 * hs.length := by
  unfold sizesZ
  induction hs with
  | nil => rfl
  | cons h r ih =>
    rw [List.flatMap_cons, List.length_append, ih, List.length_map, List.length_range, List.length_cons]
    omega
theorem eqv_emp (ds : List PyData) : PyData.eqv (.list ds) (.list []) = ds.isEmpty := by
  cases ds with
  | nil => exact eqv_nil_nil
  | cons d r => exact eqv_nil_cons
def spLDiv : Sp := fun vs H Q _ => ∃ (b : Int) (hs : List Int) (lh : Addr), vs = [.int b, .ref lh] ∧ H lh = some (.lst (hs.map V.int)) ∧ 2 ≤ b ∧ b ≤ 10 ∧ hs.length ≤ 4 ∧ (∀ m ∈ hs, 1 ≤ m ∧ m ≤ 25) ∧ (lawT b hs).length = hs.length + 1 ∧ (∀ z ∈ lawT b hs, 1 ≤ z) ∧ ∀ H', Same H H' → Q (.bl (lawD b hs)) H'
abbrev nm_law_is_dividing : List Str := ["_law_base", "_law_heads", "_law_sizes", "_law_head", "_law_many", "_law_size", "_law_at"]
theorem sc_law_is_dividing : FnScope ["_law_base", "_law_heads", "_law_sizes", "_law_head", "_law_many", "_law_size", "_law_at"] ["_law_base", "_law_heads"] (defScope s_law_is_dividing) := ⟨rfl, rfl, rfl, by decide +kernel, rfl, by decide +kernel, by decide +kernel⟩
theorem ok_ldiv (T : Txt K mg A w) : FnOk P w K mg base CX0 2 A.a_law_is_dividing A.d_law_is_dividing ["_law_base", "_law_heads"] spLDiv := by
  have G_law_times : FnOk P w K mg base CX0 1 A.a_law_times A.d_law_times ["_law_base", "_law_many"] spTimes := ok_times T
  refine T.F_law_is_dividing.ok sc_law_is_dividing (fun vs H Q E h => ?_) (fun cdv A0 outer s H vs Q E hr h => ?_)
  · obtain ⟨b, hs, lh, rfl, _⟩ := h
    rfl
  · obtain ⟨b, hs, lh, rfl, hL, b2, b10, h4, h25, hT, hT1, q⟩ := h
    refine ⟨_, (pss_cons (ps_set (i := 2) sc_law_is_dividing.nd rfl (Or.inr rfl) (pe_lst pa_nil))
  (pss_cons (ps_for PassesOwn.never rfl (pi_list (pv 1)) (pg_name (i := 3) sc_law_is_dividing.nd rfl (Or.inr rfl))
  (pss_one (ps_set (i := 2) sc_law_is_dividing.nd rfl (Or.inr rfl) (pe_op op_cat (pv 2) (pe_lc (own := [("_law_many", 4)]) (g := gName 4) (tt := tYes) rfl sc_law_is_dividing.nd (pi_range1 rfl T.n_range (pa_cons pe_int pa_nil)) (blkOk_by (own := [("_law_many", 4)]) (N := nm_law_is_dividing) (sc := defScope s_law_is_dividing) (by decide +kernel)) (fun _ _ _ _ _ => (pg_name (i := 4) sc_law_is_dividing.nd rfl (Or.inl rfl))) (fun _ _ _ _ _ => pts_nil) (fun _ _ _ _ _ => (pe_op op_mulW (pv 3) (pe_call G_law_times (hr.mono (by decide)) (by rfl) T.m_law_times T.F_law_times.kp T.B_law_times .nil pass0 (pa_cons (pv 0) (pa_cons (pv 4) pa_nil))))))))))
  (pss_cons (ps_set (i := 2) sc_law_is_dividing.nd rfl (Or.inr rfl) (pe_slice sl_list (pe_callB cr_sorted (by rfl) T.n_sorted (by decide +kernel) (pa_cons (pe_lc (own := [("_law_size", 5)]) (g := gName 5) rfl sc_law_is_dividing.nd (pi_list (pv 2)) (blkOk_by (own := [("_law_size", 5)]) (N := nm_law_is_dividing) (sc := defScope s_law_is_dividing) (by decide +kernel)) (fun _ _ _ _ _ => (pg_name (i := 5) sc_law_is_dividing.nd rfl (Or.inl rfl))) (fun _ _ _ _ _ => (pts_one (pt_cmpR op_ge (pv 5) pe_int (nomark _)))) (fun _ _ _ _ _ => (pe_callTy call_int1 (by rfl) T.n_int (by decide +kernel) (pa_cons (pv 5) pa_nil)))) pa_nil)) po_none (po_some (pe_op op_add (pe_callB call_len_seq (by rfl) T.n_len (by decide +kernel) (pa_cons (pv 1) pa_nil)) pe_int))))
  (pss_one (ps_ret (pe_cmpR (op_eqD hr.units) (pe_lc (own := [("_law_at", 6)]) (g := gName 6) rfl sc_law_is_dividing.nd (pi_range1 rfl T.n_range (pa_cons (pe_callB call_len_seq (by rfl) T.n_len (by decide +kernel) (pa_cons (pv 1) pa_nil)) pa_nil)) (blkOk_by (own := [("_law_at", 6)]) (N := nm_law_is_dividing) (sc := defScope s_law_is_dividing) (by decide +kernel)) (fun _ _ _ _ _ => (pg_name (i := 6) sc_law_is_dividing.nd rfl (Or.inl rfl))) (fun _ _ _ _ _ => (pts_one (pt_cmpR op_gt (pe_op op_mod (pe_callTy call_int1 (by rfl) T.n_int (by decide +kernel) (pa_cons (pe_ix (ixL K) (pv 2) (pe_op op_add (pv 6) pe_int) (fun _ _ => rfl)) pa_nil)) (pe_ix (ixL K) (pv 2) (pv 6) (fun _ _ => rfl))) pe_int (nomark _)))) (fun _ _ _ _ _ => (pv 6))) (pe_lst pa_nil) (nomark _))))))), ?_⟩
    have pw : ∀ j : Nat, j ≤ 12 → 1 ≤ b ^ j ∧ b ^ j ≤ 1000000000000 := fun j hj => by
      have h1 := pow_pos' (b := b) (by omega) j
      have h2 := pow_base_le (a := b) (b := 10) (by omega) b10 j
      have h3 := pow_le' (b := 10) (by decide) hj
      have e : (10 : Int) ^ 12 = 1000000000000 := by decide
      rw [e] at h3
      exact ⟨h1, Int.le_trans h2 h3⟩
    have big : (1000000000000 : Int) < BIG := lt_big (n := 40) (by decide) (by decide)
    refine ⟨Nat.zero_le _, fun l0 hl0 => ?_⟩
    refine gN (σ' := [some (.int b), some (.ref lh), some (.ref l0), none, none, none, none]) rfl ?_
    have s0 : Same H (upd H l0 (.lst [])) := same_new hl0
    refine ⟨_, rfl, lh, rfl, ⟨_, SqL.of (s0 _ _ hL)⟩, for_list (K := K) (a := lh) (xs := hs.map V.int) (fun i σ H' => ∃ (lz : Addr) (v3 : Option V), σ = [some (.int b), some (.ref lh), some (.ref lz), v3, none, none, none] ∧ Same H H' ∧ H' lz = some (.lst ((sizesZ b (hs.take i)).map V.int))) ⟨l0, none, rfl, s0, upd_same⟩ ?_ ?_ ?_⟩
    · rintro i σ H' _ ⟨lz, v3, rfl, s1, _⟩
      exact SqL.of (s1 _ _ hL)
    · rintro i x σ H' hi ⟨lz, v3, rfl, s1, hz⟩
      obtain ⟨m, hm, rfl⟩ := map_get hi
      have hi3 : i < hs.length := (List.getElem?_eq_some_iff.mp hm).1
      obtain ⟨m1, m25⟩ := h25 m (List.mem_of_getElem? hm)
      refine gN (σ' := [some (.int b), some (.ref lh), some (.ref lz), some (.int m), none, none, none]) rfl ?_
      refine ⟨_, rfl, 12, rfl, by decide, by decide, fun D hD => lc_range (lo := 0) (n := 12) (fun j H'' => H'' = upd H' D (.lst (((List.range j).map fun j => m * b ^ j).map V.int))) rfl ?_ ?_⟩
      · rintro j H'' hj rfl
        obtain ⟨p1, p2⟩ := pw j (by omega)
        refine ⟨rfl, yes_of ?_⟩
        have ej : (0 + (j : Int)).toNat = j := by omega
        refine ⟨_, rfl, _, rfl, _, rfl, b, 0 + (j : Int), rfl, by omega, Int.lt_trans (show b < 1000000000000 by omega) big, by omega, by omega, by rw [ej]; exact Int.lt_of_le_of_lt p2 big, _, _, rfl, rfl, ?_, ?_⟩
        · rw [ej]
          exact wide_mul (a := 64) (b := 64) (abs_lt_pow (by omega) (show m < 2 ^ 64 by have : (2 : Int) ^ 64 = 18446744073709551616 := by decide
                                                                                        omega)) (abs_lt_pow (by omega) (show b ^ j < 2 ^ 64 by have : (2 : Int) ^ 64 = 18446744073709551616 := by decide
                                                                                                                                               omega)) (by decide) (by decide) (by decide)
        · refine ⟨_, upd_same, ?_, ?_⟩
          · rw [List.length_map, List.length_map, List.length_range]
            exact small1000 (by omega)
          · rw [upd_upd, List.range_succ, List.map_append, List.map_append, ej]
            rfl
      · rintro H'' rfl
        have s2 : Same H' (upd H' D (.lst (((List.range 12).map fun j => m * b ^ j).map V.int))) := same_new hD
        refine ⟨lz, D, _, _, rfl, rfl, s2 _ _ hz, upd_same, ?_, fun p hp => ?_⟩
        · rw [List.length_map, sizes_len, List.length_map, List.length_map, List.length_range, List.length_take, PySem.sizeLine_eq]
          omega
        · refine ⟨p, some (.int m), rfl, (s1.trans s2).trans (same_new hp), ?_⟩
          rw [upd_same, sizes_succ hm, List.map_append]
    · rintro σ H1 ⟨lz, v3, rfl, s1, hz⟩
      rw [List.length_map, List.take_length] at hz
      have lz48 : (sizesZ b hs).length ≤ 48 := by rw [sizes_len]; omega
      refine ⟨_, rfl, lz, rfl, ⟨_, SqL.of hz⟩, fun D hD => lc_list (K := K) (a := lz) (xs := (sizesZ b hs).map V.int) (fun i H' => H' = upd H1 D (.lst ((((sizesZ b hs).take i).filter fun z => decide (100 ≤ z)).map V.int))) rfl ?_ ?_ ?_⟩
      · rintro i H' _ rfl
        exact SqL.of (by rw [upd_ne (ne_of_none hz hD)]; exact hz)
      · rintro i x H' hi rfl
        obtain ⟨z, hzi, rfl⟩ := map_get hi
        refine ⟨rfl, _, rfl, _, _, rfl, rfl, _, rfl, ?_⟩
        rw [List.take_add_one, hzi, List.filter_append]
        show if decide (100 ≤ z) = true then _ else _
        refine ite2 (fun hc => ?_) (fun hc => ?_)
        · refine ⟨_, rfl, .inl ⟨_, rfl, _, upd_same, ?_, ?_⟩⟩
          · rw [List.length_map]
            refine small1000 (Nat.le_trans (List.length_filter_le _ _) ?_)
            rw [List.length_take]
            omega
          · rw [upd_upd, show (Option.toList (some z)).filter (fun z => decide (100 ≤ z)) = [z] by simp [hc], List.map_append]
            rfl
        · rw [show (Option.toList (some z)).filter (fun z => decide (100 ≤ z)) = [] by simp [hc], List.append_nil]
      · rintro H' rfl
        rw [List.length_map, List.take_length]
        refine ⟨D, (sizesZ b hs).filter (fun z => decide (100 ≤ z)), rfl, SqL.of upd_same, ?_, fun ns' p hp1 hp2 hp => ?_⟩
        · exact Nat.lt_of_le_of_lt (List.length_filter_le _ _) (by omega)
        · obtain rfl := eq_isort hp1 hp2
          have s2 : Same H1 (upd (upd H1 D (.lst (((sizesZ b hs).filter fun z => decide (100 ≤ z)).map V.int))) p (.lst ((isort ((sizesZ b hs).filter fun z => decide (100 ≤ z))).map V.int))) := (same_new hD).trans (same_new hp)
          have hp2 := upd_same (H := upd H1 D (.lst (((sizesZ b hs).filter fun z => decide (100 ≤ z)).map V.int))) (a := p) (o := .lst ((isort ((sizesZ b hs).filter fun z => decide (100 ≤ z))).map V.int))
          generalize (upd (upd H1 D (.lst (((sizesZ b hs).filter fun z => decide (100 ≤ z)).map V.int))) p (.lst ((isort ((sizesZ b hs).filter fun z => decide (100 ≤ z))).map V.int))) = H2 at s2 hp2 ⊢
          have hL2 := s2 _ _ (s1 _ _ hL)
          refine ⟨_, rfl, lh, _, rfl, .inl (SqL.of hL2), _, _, rfl, rfl, _, rfl, p, _, rfl, SqL.of hp2, fun l5 hl5 => ?_⟩
          have e5 : cutV ((isort ((sizesZ b hs).filter fun z => decide (100 ≤ z))).map V.int) none (some (((hs.map V.int).length : Nat) + 1)) = (lawT b hs).map V.int := by
            rw [List.length_map]
            show cutV _ none (some ((hs.length + 1 : Nat) : Int)) = _
            rw [cut_to]
            unfold lawT
            rw [List.map_take]
          refine gN (σ' := [some (.int b), some (.ref lh), some (.ref l5), v3, none, none, none]) rfl ?_
          rw [e5]
          have s5 : Same H2 (upd H2 l5 (.lst ((lawT b hs).map V.int))) := same_new hl5
          have h5 := upd_same (H := H2) (a := l5) (o := .lst ((lawT b hs).map V.int))
          generalize (upd H2 l5 (.lst ((lawT b hs).map V.int))) = H5 at s5 h5 ⊢
          have hL5 := s5 _ _ hL2
          have hlm : (hs.map V.int).length = hs.length := List.length_map _
          refine ⟨_, rfl, lh, _, rfl, .inl (SqL.of hL5), _, rfl, by rw [hlm]; omega, by rw [hlm]; omega, fun D6 hD6 => ?_⟩
          rw [show (((hs.map V.int).length : Nat) : Int).toNat = hs.length by rw [hlm]; omega]
          refine lc_range (lo := 0) (n := hs.length) (fun i H' => H' = upd H5 D6 (.lst (((List.range i).filter fun i => decide (0 < (lawT b hs).getD (i + 1) 0 % (lawT b hs).getD i 0)).map fun k : Nat => V.int k))) rfl ?_ ?_
          · rintro i H' hi rfl
            have l1 : i + 1 < (lawT b hs).length := by omega
            have l0' : i < (lawT b hs).length := by omega
            have g1 : (lawT b hs).getD (i + 1) 0 = (lawT b hs)[i + 1] := by
              rw [List.getD_eq_getElem?_getD, List.getElem?_eq_getElem l1] <;> rfl
            have g0 : (lawT b hs).getD i 0 = (lawT b hs)[i] := by
              rw [List.getD_eq_getElem?_getD, List.getElem?_eq_getElem l0'] <;> rfl
            have p0 : 1 ≤ (lawT b hs)[i] := hT1 _ (List.getElem_mem l0')
            have n5 : l5 ≠ D6 := ne_of_none h5 hD6
            have h5' : SqL K (upd H5 D6 (.lst (((List.range i).filter fun i => decide (0 < (lawT b hs).getD (i + 1) 0 % (lawT b hs).getD i 0)).map fun k : Nat => V.int k))) l5 ((lawT b hs).map V.int) := SqL.of (by rw [upd_ne n5]; exact h5)
            have a1 : atI ((lawT b hs).map V.int) (0 + (i : Int) + 1) = some (.int (lawT b hs)[i + 1]) := by
              rw [show 0 + (i : Int) + 1 = ((i + 1 : Nat) : Int) by omega]
              exact atI_nat (by rw [List.getElem?_map, List.getElem?_eq_getElem l1]; rfl)
            have a0 : atI ((lawT b hs).map V.int) (0 + (i : Int)) = some (.int (lawT b hs)[i]) := by
              rw [Int.zero_add]
              exact atI_nat (by rw [List.getElem?_map, List.getElem?_eq_getElem l0']; rfl)
            refine ⟨rfl, _, rfl, _, rfl, _, _, rfl, rfl, l5, _, _, _, rfl, rfl, h5', a1, .inl ⟨_, rfl, _, rfl, _, rfl, l5, _, _, _, rfl, rfl, h5', a0, _, _, rfl, rfl, (by show 0 < _; omega), _, _, rfl, rfl, _, rfl, ?_⟩⟩
            rw [show List.range (i + 1) = List.range i ++ [i] from List.range_succ, List.filter_append, List.filter_cons, List.filter_nil, g1, g0]
            refine ite2 (fun hc => ?_) (fun hc => ?_)
            · rw [if_pos hc]
              refine ⟨_, rfl, _, upd_same, ?_, ?_⟩
              · rw [List.length_map]
                refine small1000 (Nat.le_trans (List.length_filter_le _ _) ?_)
                rw [List.length_range]
                omega
              · rw [upd_upd, List.map_append, Int.zero_add]
                rfl
            · rw [if_neg hc, List.append_nil]
          · rintro H' rfl
            refine ⟨Nat.zero_le _, fun l9 hl9 => ?_⟩
            have n9 : D6 ≠ l9 := ne_of_none upd_same hl9
            have eb : (((List.range hs.length).filter fun i => decide (0 < (lawT b hs).getD (i + 1) 0 % (lawT b hs).getD i 0)).map fun k : Nat => V.int k) = ((badAt b hs).map fun k : Nat => (k : Int)).map V.int := by
              rw [List.map_map]
              rfl
            refine ⟨.list (((badAt b hs).map fun k : Nat => (k : Int)).map PyData.int), .list [], .lst (SqL.of (by rw [upd_ne n9, upd_same, eb])) (dp_ints _), .lst (SqL.of upd_same) .nil, shaped_ints _, by decide, ?_⟩
            rw [eqv_emp]
            have el : (((badAt b hs).map fun k : Nat => (k : Int)).map PyData.int).isEmpty = lawD b hs := by
              unfold lawD
              cases badAt b hs <;> rfl
            rw [el]
            exact q _ ((((s1.trans s2).trans s5).trans (same_new hD6)).trans (same_new hl9))
end
end Ax

namespace Ax
open PySem PyProof.Rows L2
/-! ### short texts -/
structure Tiny (d : PyData) : Prop where
  s : d.showable = true
  l : d.shown.length ≤ 10
  z : d.depth = 0
  n : d.hasDict = false
theorem tiny_int {n : Int} (h1 : -10 ≤ n) (h2 : n ≤ 100) : Tiny (.int n) := by
  have t := (by decide +kernel : ∀ k < 111, (PyData.int ((k : Nat) - 10 : Int)).showable = true ∧ (PyData.int ((k : Nat) - 10 : Int)).shown.length ≤ 10) (n + 10).toNat (by omega)
  have e : (((n + 10).toNat : Nat) : Int) - 10 = n := by omega
  rw [e] at t
  exact ⟨t.1, t.2, by simp only [PyData.depth], by simp only [PyData.hasDict]⟩
theorem listText_le (ts : List Str) : (listText ts).length ≤ piled ts + 2 := by
  cases ts with
  | nil => decide +kernel
  | cons t r =>
    have h := textFrom_length_pos r 1 (("[" : Str) ++ (if (0 : Nat) > 0 then ", " else "" : String) ++ t) (Nat.succ_pos 0)
    have hX : (listText (t :: r)).length = (textFrom 1 (("[" : Str) ++ (if (0 : Nat) > 0 then ", " else "" : String) ++ t) r).length + 1 := by
      show (textFrom 0 "[" (t :: r) ++ "]").length = _
      rw [strLen_append]
      rfl
    rw [hX, h, strLen_append, strLen_append]
    have e1 : ("[" : Str).length = 1 := rfl
    have e2 : (Str.ofString (if (0 : Nat) > 0 then ", " else "")).length = 0 := rfl
    simp only [piled, List.map_cons, List.sum_cons]
    rw [e1, e2]
    omega
theorem tinies : ∀ {ds : List PyData}, (∀ d ∈ ds, Tiny d) → PyData.showableAll ds = true ∧ piled (PyData.shownAll ds) ≤ 12 * ds.length ∧ PyData.depthAll ds = 0 ∧ PyData.hasDictAll ds = false
  | [], _ => by simp [PyData.showableAll, PyData.shownAll, PyData.depthAll, PyData.hasDictAll, piled]
  | d :: r, h => by
    obtain ⟨h1, h2, h3, h4⟩ := tinies (ds := r) fun x hx => h x (List.mem_cons_of_mem _ hx)
    obtain ⟨a, b, c, e⟩ := h d (List.mem_cons_self ..)
    refine ⟨by simp [PyData.showableAll, a, h1], ?_, by simp [PyData.depthAll, c, h3], by simp [PyData.hasDictAll, e, h4]⟩
    simp only [PyData.shownAll]
    simp only [piled, List.map_cons, List.sum_cons, List.length_cons] at h2 ⊢
    omega
theorem show_tinies {ds : List PyData} (h : ∀ d ∈ ds, Tiny d) (n : ds.length ≤ 8) : ShowOk (.list ds) ∧ (PyData.list ds).hasDict = false := by
  obtain ⟨h1, h2, h3, h4⟩ := tinies h
  have := listText_le (PyData.shownAll ds)
  refine ⟨⟨by simp [PyData.showable, h1], ?_, by simp only [PyData.depth]; omega⟩, by simp [PyData.hasDict, h4]⟩
  simp only [PyData.shown]
  omega
theorem Tiny.show_ {d : PyData} (h : Tiny d) : ShowOk d := ⟨h.s, by have := h.l; omega, by rw [h.z]; decide⟩
/-! ### what is refused -/
/-- a component: of a kind, with its text, whatever stands at l -/
structure Comp (K : PySem.W.Frag) (l : Addr) (H : Hp) (v : V) (d : PyData) : Prop where
  ty : ∃ T, Vt H v T
  dx : ∀ H' : Hp, (∀ c o, c ≠ l → H c = some o → H' c = some o) → Dx K H' v d
  so : ShowOk d
def PreR (K : PySem.W.Frag) (A : Adr) (H : Hp) (vb vk vm vo : V) : Prop := BadA K A H vb vk vm vo ∧ ∃ d1 d2 d3 d4, DxA K H [vb, vk, vm, vo] [d1, d2, d3, d4] ∧ ShowOk d1 ∧ ShowOk d2 ∧ ShowOk d3 ∧ ShowOk d4 ∧
  ∀ l xs, vm = .ref l → H l = some (.lst xs) → xs.length ≤ 60 ∧ ∃ d3', ShowOk d3' ∧ ∀ H' : Hp, (∀ c o, c ≠ l → H c = some o → H' c = some o) → H' l = some (.lst (xs ++ [.str "more"])) → DxA K H' [vb, vk, vm, vo] [d1, d2, d3', d4]
section
variable {K : PySem.W.Frag} {A : Adr} {H : Hp} {l : Addr}
theorem comp_tiny {v : V} {d : PyData} {T : String} (ty : Vt H v T) (dp : ∀ H', Dp K H' v d) (t : Tiny d) : Comp K l H v d := ⟨⟨T, ty⟩, fun H' _ => .dp (dp H') t.n, t.show_⟩
theorem comp_int {n : Int} (h1 : -10 ≤ n) (h2 : n ≤ 100) : Comp K l H (.int n) (.int n) := comp_tiny (.int n) (fun _ => .int n) (tiny_int h1 h2)
theorem tiny_bl (b : Bool) : Tiny (.bool b) := by
  cases b <;> exact ⟨by decide +kernel, by decide +kernel, by simp only [PyData.depth], by simp only [PyData.hasDict]⟩
theorem tiny_non : Tiny .none := ⟨by decide +kernel, by decide +kernel, by simp only [PyData.depth], by simp only [PyData.hasDict]⟩
theorem tiny_str {x : Str} (h : (PyData.str x).shown.length ≤ 10) : Tiny (.str x) := ⟨by simp only [PyData.showable], h, by simp only [PyData.depth], by simp only [PyData.hasDict]⟩
theorem comp_bl (b : Bool) : Comp K l H (.bl b) (.bool b) := comp_tiny (.bl b) (fun _ => .bl b) (tiny_bl b)
theorem comp_non : Comp K l H .non .none := comp_tiny .non (fun _ => .non) tiny_non
theorem comp_str {x : Str} (h : (PyData.str x).shown.length ≤ 10) : Comp K l H (.str x) (.str x) := comp_tiny (.str x) (fun _ => .str x) (tiny_str h)
theorem comp_kd (k : Kd) : Comp K l H (.str k.s) (.str k.s) := comp_str (by cases k <;> decide +kernel)
theorem comp_lst {a : Addr} {xs : List V} {ds : List PyData} (h : H a = some (.lst xs)) (n : a ≠ l) (dp : ∀ H', DpAll K H' xs ds) (t : ∀ d ∈ ds, Tiny d) (s : ds.length ≤ 8) : Comp K l H (.ref a) (.list ds) :=
  ⟨⟨_, .lst h⟩, fun H' k => .dp (.lst (SqL.of (k _ _ n h)) (dp H')) (show_tinies t s).2, (show_tinies t s).1⟩
theorem comp_tup1 {a : Addr} {x : V} {d : PyData} (h : H a = some (.tup [x])) (n : a ≠ l) (dp : ∀ H', Dp K H' x d) (t : Tiny d) : Comp K l H (.ref a) (.tuple [d]) := by
  refine ⟨⟨_, .tup h⟩, fun H' k => .dp (.tup (SqT.of (k _ _ n h)) (.cons (dp H') .nil)) (by simp [PyData.hasDict, PyData.hasDictAll, t.n]), ⟨by simp [PyData.showable, PyData.showableAll, t.s], ?_, by simp only [PyData.depth, PyData.depthAll, t.z]; omega⟩⟩
  have := t.l
  simp only [PyData.shown, PyData.shownAll]
  unfold tupleText
  rw [strLen_append, strLen_append]
  have j := join_length_add [d.shown] (by simp)
  simp only [piled] at j
  simp only [List.map_cons, List.map_nil, List.sum_cons, List.sum_nil] at j
  have e1 : (Str.ofString "(").length = 1 := rfl
  have e2 : (Str.ofString (if ([d.shown].length == 1) = true then ",)" else ")")).length = 2 := rfl
  omega
theorem comp_emp {a : Addr} (h : H a = some (.dK [])) (n : a ≠ l) : Comp K l H (.ref a) (.dict []) :=
  ⟨⟨_, .emp h⟩, fun H' k => .emp (k _ _ n h), ⟨by decide +kernel, by decide +kernel, by decide +kernel⟩⟩
theorem Comp.now {v : V} {d : PyData} (c : Comp K l H v d) : Dx K H v d := c.dx H fun _ _ _ e => e
/-- its list of mantissas stands at l -/
theorem pre_own {vb vk vo : V} {d1 d2 d4 : PyData} {xs : List V} {ds : List PyData} (bad : BadA K A H vb vk (.ref l) vo) (c1 : Comp K l H vb d1) (c2 : Comp K l H vk d2) (c4 : Comp K l H vo d4) (hl : H l = some (.lst xs)) (n : xs.length ≤ 60)
    (dp : ∀ H', DpAll K H' xs ds) (t : ∀ d ∈ ds, Tiny d) (s : ds.length ≤ 7) : PreR K A H vb vk (.ref l) vo := by
  have so := show_tinies t (by omega)
  have tm : ∀ d ∈ ds ++ [PyData.str "more"], Tiny d := fun d hd => by
    rcases List.mem_append.mp hd with h | h
    · exact t d h
    · rw [List.mem_singleton.mp h]
      exact tiny_str (by decide +kernel)
  have sm := show_tinies tm (by rw [List.length_append, List.length_singleton]; omega)
  have dpa : ∀ (H' : Hp) {ys : List V} {es : List PyData}, DpAll K H' ys es → DpAll K H' (ys ++ [.str "more"]) (es ++ [.str "more"]) := fun H' {ys es} h => by
    induction ys generalizing es with
    | nil => cases h; exact .cons (.str _) .nil
    | cons y r ih => cases h with | cons a b => exact .cons a (ih b)
  refine ⟨bad, d1, d2, .list ds, d4, .cons c1.now (.cons c2.now (.cons (.dp (.lst (SqL.of hl) (dp H)) so.2) (.cons c4.now .nil))), c1.so, c2.so, so.1, c4.so, fun l' ys e h => ?_⟩
  cases e
  rw [hl] at h
  cases h
  exact ⟨n, .list (ds ++ [.str "more"]), sm.1, fun H' k h' => .cons (c1.dx H' k) (.cons (c2.dx H' k) (.cons (.dp (.lst (SqL.of h') (dpa H' (dp H'))) sm.2) (.cons (c4.dx H' k) .nil)))⟩
/-- no list of mantissas -/
theorem pre_not {vb vk vm vo : V} {d1 d2 d3 d4 : PyData} (bad : BadA K A H vb vk vm vo) (c1 : Comp K l H vb d1) (c2 : Comp K l H vk d2) (c3 : Comp K l H vm d3) (c4 : Comp K l H vo d4) (no : ∀ a xs, vm = .ref a → H a ≠ some (.lst xs)) : PreR K A H vb vk vm vo :=
  ⟨bad, d1, d2, d3, d4, .cons c1.now (.cons c2.now (.cons c3.now (.cons c4.now .nil))), c1.so, c2.so, c3.so, c4.so, fun a xs e h => absurd h (no a xs e)⟩
end
/-! ### entries -/
structure Ent where
  t : Addr
  vb : V
  vk : V
  vm : V
  vo : V
abbrev Need := List (Addr × HO)
def Holds (nd : Need) (H : Hp) : Prop := ∀ n ∈ nd, H n.1 = some n.2
theorem Holds.same {nd : Need} {H H' : Hp} (h : Holds nd H) (s : Same H H') : Holds nd H' := fun n hn => s _ _ (h n hn)
structure EntOk (K : PySem.W.Frag) (A : Adr) (bl : List Addr) (e : Ent) (nd : Need) : Prop where
  pre : ∀ H : Hp, Holds nd H → H e.t = some (.tup [e.vb, e.vk, e.vm, e.vo]) ∧ PreR K A H e.vb e.vk e.vm e.vo
  lists : ∀ n ∈ nd, (∀ xs, n.2 ≠ .lst xs) ∨ e.vm = .ref n.1 ∨ n.1 ∈ bl
def refOf : V → Option Addr
  | .ref c => some c
  | _ => none
def vms (es : List Ent) : List Addr := es.filterMap fun e => refOf e.vm
theorem vms_app (es fs : List Ent) : vms (es ++ fs) = vms es ++ vms fs := List.filterMap_append
theorem mem_vms {es : List Ent} {e : Ent} {c : Addr} (h : e ∈ es) (r : e.vm = .ref c) : c ∈ vms es := List.mem_filterMap.mpr ⟨e, h, by rw [r]; rfl⟩
/-- addresses apart from each other, all of them taken -/
def Track (H : Hp) (L : List Addr) : Prop := L.Nodup ∧ ∀ c ∈ L, H c ≠ none
theorem Track.mono {H H' : Hp} {L : List Addr} (t : Track H L) (s : Same H H') : Track H' L := ⟨t.1, fun c hc z => by
  cases e : H c with
  | none => exact t.2 c hc e
  | some o => rw [s _ _ e] at z; cases z⟩
theorem Track.block {H H' : Hp} {L M : List Addr} (t : Track H L) (s : Same H H') (nd : M.Nodup) (fr : ∀ c ∈ M, H c = none) (ex : ∀ c ∈ M, H' c ≠ none) : Track H' (M ++ L) :=
  ⟨List.nodup_append.mpr ⟨nd, t.1, fun a ha b hb z => t.2 b hb (by rw [← z]; exact fr a ha)⟩, fun c hc => by
    rcases List.mem_append.mp hc with h | h
    · exact ex c h
    · exact (t.mono s).2 c h⟩
theorem Track.new {H : Hp} {L : List Addr} {c : Addr} {o : HO} (t : Track H L) (h : H c = none) : Track (upd H c o) (c :: L) :=
  t.block (M := [c]) (same_new h) (List.pairwise_singleton _ _) (fun a ha => by rw [List.mem_singleton.mp ha]; exact h) (fun a ha => by rw [List.mem_singleton.mp ha, upd_same]; exact fun z => by cases z)
/-- all but the lists of the first entries' mantissas is kept -/
def Frame (es : List Ent) (i : Nat) (H H' : Hp) : Prop := ∀ c o, H c = some o → ((∀ e ∈ es.take i, e.vm ≠ .ref c) ∨ ∀ xs, o ≠ .lst xs) → H' c = some o
theorem pair_vms {es : List Ent} (nd : (vms es).Nodup) {i : Nat} {e f : Ent} {c : Addr} (hi : es[i]? = some e) (he : e.vm = .ref c) (hf : f ∈ es.take i) : f.vm ≠ .ref c := by
  intro z
  obtain ⟨hlt, ei⟩ := List.getElem?_eq_some_iff.mp hi
  have sp : es = es.take i ++ (e :: es.drop (i + 1)) := by
    rw [← ei, ← List.drop_eq_getElem_cons hlt, List.take_append_drop]
  rw [sp, vms_app] at nd
  have c1 : c ∈ vms (es.take i) := mem_vms hf z
  have c2 : c ∈ vms (e :: es.drop (i + 1)) := mem_vms (List.mem_cons_self ..) he
  exact (List.nodup_append.mp nd).2.2 c c1 c c2 rfl
/-- each entry is ready as long as the first ones' lists alone have changed -/
theorem ready {K : PySem.W.Frag} {A : Adr} {bl : List Addr} {H : Hp} {es : List Ent} (ok : ∀ e ∈ es, ∃ nd, EntOk K A bl e nd ∧ Holds nd H) (nd : (vms es ++ bl).Nodup) {i : Nat} {e : Ent} (hi : es[i]? = some e) {H' : Hp} (fr : Frame es i H H') :
    H' e.t = some (.tup [e.vb, e.vk, e.vm, e.vo]) ∧ PreR K A H' e.vb e.vk e.vm e.vo := by
  obtain ⟨nds, o, hh⟩ := ok e (List.mem_of_getElem? hi)
  obtain ⟨n1, n2, n3⟩ := List.nodup_append.mp nd
  refine o.pre H' fun n hn => fr _ _ (hh n hn) ?_
  rcases o.lists n hn with h | h | h
  · exact .inr h
  · exact .inl fun f hf => pair_vms n1 hi h hf
  · refine .inl fun f hf z => n3 _ (mem_vms (List.mem_of_mem_take hf) z) _ h rfl
end Ax

namespace Ax
open PySem PyProof.Rows L2
theorem EntOk.mono {K : PySem.W.Frag} {A : Adr} {bl bl' : List Addr} {e : Ent} {nd : Need} (o : EntOk K A bl e nd) (h : ∀ c ∈ bl, c ∈ bl') : EntOk K A bl' e nd :=
  ⟨o.pre, fun n hn => by
    rcases o.lists n hn with z | z | z
    · exact .inl z
    · exact .inr (.inl z)
    · exact .inr (.inr (h _ z))⟩
theorem tup_ne {H : Hp} {a l : Addr} {xs ys : List V} (h1 : H a = some (.tup xs)) (h2 : H l = some (.lst ys)) : a ≠ l := ne_of h1 h2 (by intro z; cases z)
theorem emp_ne {H : Hp} {a l : Addr} {ys : List V} (h1 : H a = some (.dK [])) (h2 : H l = some (.lst ys)) : a ≠ l := ne_of h1 h2 (by intro z; cases z)
section
variable {K : PySem.W.Frag} {A : Adr} {H : Hp} {b most : Int} {k : Kd} {hs : List Int} {l : Addr}
/-- what the drawn rule is like -/
structure Drw (b : Int) (k : Kd) (hs : List Int) (most : Int) : Prop where
  b2 : 2 ≤ b
  b10 : b ≤ 10
  h4 : hs.length ≤ 4
  ne : hs ≠ []
  nd : hs.Nodup
  h25 : ∀ m ∈ hs, 1 ≤ m ∧ m ≤ 25
  m1 : k.least ≤ most
  m10 : most ≤ 10
theorem kl (k : Kd) : 1 ≤ k.least ∧ k.least ≤ 2 := by cases k <;> decide
theorem Drw.tinies (D : Drw b k hs most) : ∀ d ∈ hs.map PyData.int, Tiny d := fun d hd => by
  obtain ⟨m, hm, rfl⟩ := List.mem_map.mp hd
  have := D.h25 m hm
  exact tiny_int (by omega) (by omega)
theorem Drw.cb (D : Drw b k hs most) : Comp K l H (.int b) (.int b) := comp_int (by have := D.b2; omega) (by have := D.b10; omega)
theorem Drw.co (D : Drw b k hs most) : Comp K l H (.int most) (.int most) := comp_int (by have := D.m1; have := (kl k).1; omega) (by have := D.m10; omega)
theorem Drw.ints (D : Drw b k hs most) : ((hs.map V.int).length ≤ 60) ∧ (hs.map PyData.int).length ≤ 7 := by
  rw [List.length_map, List.length_map]
  have := D.h4
  omega
/-- another base -/
theorem pre_base (D : Drw b k hs most) (hl : H l = some (.lst (hs.map V.int))) {x : V} {d : PyData} (c : Comp K l H x d) (bx : baseOk x = false) : PreR K A H x (.str k.s) (.ref l) (.int most) := by
  obtain ⟨T, ty⟩ := c.ty
  exact pre_own ⟨T, "str", "list", "int", ty, .str _, .lst hl, .int _, .inl bx⟩ c (comp_kd k) D.co hl D.ints.1 (fun H' => dp_ints _) D.tinies D.ints.2
def src1 (a10 t10 : Addr) : List V := [.int 1, .int 0, .int (0 - 10), .bl true, .non, .str "10", .ref a10, .ref t10]
theorem odd_base {a10 t10 : Addr} (h1 : H a10 = some (.lst [.int 10])) (h2 : H t10 = some (.tup [.int 10])) (n1 : a10 ≠ l) (n2 : t10 ≠ l) : ∀ x ∈ src1 a10 t10, ∃ d, Comp K l H x d ∧ baseOk x = false := by
  intro x hx
  unfold src1 at hx
  simp only [List.mem_cons, List.not_mem_nil, or_false] at hx
  rcases hx with rfl | rfl | rfl | rfl | rfl | rfl | rfl | rfl
  · exact ⟨_, comp_int (by decide) (by decide), by decide⟩
  · exact ⟨_, comp_int (by decide) (by decide), by decide⟩
  · exact ⟨_, comp_int (by decide) (by decide), by decide⟩
  · exact ⟨_, comp_bl true, rfl⟩
  · exact ⟨_, comp_non, rfl⟩
  · exact ⟨_, comp_str (by decide +kernel), rfl⟩
  · exact ⟨_, comp_lst h1 n1 (fun H' => .cons (.int 10) .nil) (fun d hd => by rw [List.mem_singleton.mp hd]; exact tiny_int (by decide) (by decide)) (by decide), rfl⟩
  · exact ⟨_, comp_tup1 h2 n2 (fun H' => .int 10) (tiny_int (by decide) (by decide)), rfl⟩
/-- another kind -/
theorem pre_kind (D : Drw b k hs most) (hl : H l = some (.lst (hs.map V.int))) {x : V} {d : PyData} {T : String} (c : Comp K l H x d) (ty : Vt H x T) (bx : (∃ y, x = .str y ∧ PySem.W.nsIn K A.a_LEAST y = some none) ∨ (T == "str") = false) : PreR K A H (.int b) x (.ref l) (.int most) := by
  refine pre_own ⟨"int", T, "list", "int", .int _, ty, .lst hl, .int _, .inr (.inl ⟨b, rfl, D.b2, ?_⟩)⟩ D.cb c D.co hl D.ints.1 (fun H' => dp_ints _) D.tinies D.ints.2
  exact .inr bx
def src2 (ain tc d1 : Addr) : List V := [.str "Inside", .str "", .non, .int 0, .ref ain, .str "ticks", .ref tc, .ref d1]
theorem odd_kind {ain tc d1 : Addr} (h1 : H ain = some (.lst [.str "inside"])) (h2 : H tc = some (.tup [.str "cover"])) (h3 : H d1 = some (.dK [])) (n1 : ain ≠ l) (n2 : tc ≠ l) (n3 : d1 ≠ l)
    (z1 : PySem.W.nsIn K A.a_LEAST "Inside" = some none) (z2 : PySem.W.nsIn K A.a_LEAST "" = some none) (z3 : PySem.W.nsIn K A.a_LEAST "ticks" = some none) :
    ∀ x ∈ src2 ain tc d1, ∃ d T, Comp K l H x d ∧ Vt H x T ∧ ((∃ y, x = .str y ∧ PySem.W.nsIn K A.a_LEAST y = some none) ∨ (T == "str") = false) := by
  intro x hx
  unfold src2 at hx
  simp only [List.mem_cons, List.not_mem_nil, or_false] at hx
  rcases hx with rfl | rfl | rfl | rfl | rfl | rfl | rfl | rfl
  · exact ⟨_, _, comp_str (by decide +kernel), .str _, .inl ⟨_, rfl, z1⟩⟩
  · exact ⟨_, _, comp_str (by decide +kernel), .str _, .inl ⟨_, rfl, z2⟩⟩
  · exact ⟨_, _, comp_non, .non, .inr (by decide)⟩
  · exact ⟨_, _, comp_int (by decide) (by decide), .int _, .inr (by decide)⟩
  · exact ⟨_, _, comp_lst h1 n1 (fun H' => .cons (.str _) .nil) (fun d hd => by rw [List.mem_singleton.mp hd]; exact tiny_str (by decide +kernel)) (by decide), .lst h1, .inr (by decide)⟩
  · exact ⟨_, _, comp_str (by decide +kernel), .str _, .inl ⟨_, rfl, z3⟩⟩
  · exact ⟨_, _, comp_tup1 h2 n2 (fun H' => .str _) (tiny_str (by decide +kernel)), .tup h2, .inr (by decide)⟩
  · exact ⟨_, _, comp_emp h3 n3, .emp h3, .inr (by decide)⟩
/-- another number -/
theorem pre_most (D : Drw b k hs most) (hl : H l = some (.lst (hs.map V.int))) {x : V} {d : PyData} (c : Comp K l H x d) (bx : mostOk k.least x = false) : PreR K A H (.int b) (.str k.s) (.ref l) x := by
  obtain ⟨T, ty⟩ := c.ty
  exact pre_own ⟨"int", "str", "list", T, .int _, .str _, .lst hl, ty, .inr (.inl ⟨b, rfl, D.b2, .inl ⟨k, rfl, bx⟩⟩)⟩ D.cb (comp_kd k) c hl D.ints.1 (fun H' => dp_ints _) D.tinies D.ints.2
def src4 (a2 : Addr) (n : Int) : List V := [.int 0, .int (0 - 1), .bl true, .non, .str "2", .ref a2, .int n]
theorem odd_most {a2 : Addr} {n : Int} (h1 : H a2 = some (.lst [.int 2])) (n1 : a2 ≠ l) (hn : 0 ≤ n ∧ n < k.least) : ∀ x ∈ src4 a2 n, ∃ d, Comp K l H x d ∧ mostOk k.least x = false := by
  have kl := kl k
  intro x hx
  unfold src4 at hx
  simp only [List.mem_cons, List.not_mem_nil, or_false] at hx
  rcases hx with rfl | rfl | rfl | rfl | rfl | rfl | rfl
  · exact ⟨_, comp_int (by decide) (by decide), decide_eq_false (by omega)⟩
  · exact ⟨_, comp_int (by decide) (by decide), decide_eq_false (by omega)⟩
  · exact ⟨_, comp_bl true, rfl⟩
  · exact ⟨_, comp_non, rfl⟩
  · exact ⟨_, comp_str (by decide +kernel), rfl⟩
  · exact ⟨_, comp_lst h1 n1 (fun H' => .cons (.int 2) .nil) (fun d hd => by rw [List.mem_singleton.mp hd]; exact tiny_int (by decide) (by decide)) (by decide), rfl⟩
  · exact ⟨_, comp_int (by omega) (by omega), decide_eq_false (by omega)⟩
/-! ### other mantissas -/
theorem vts : ∀ {xs : List V} {ds : List PyData}, (∀ H', DpAll K H' xs ds) → (∀ d ∈ ds, Tiny d) → True := fun _ _ => trivial
theorem Drw.mok (D : Drw b k hs most) : mostOk k.least (.int most) = true := decide_eq_true D.m1
/-- a list of scalars that are none of mantissas -/
theorem pre_wrong (D : Drw b k hs most) {xs : List V} {ds : List PyData} (hl : H l = some (.lst xs)) (dp : ∀ H', DpAll K H' xs ds) (t : ∀ d ∈ ds, Tiny d) (s : ds.length ≤ 7) (n : xs.length ≤ 60) (ty : ∀ x ∈ xs, ∃ T, Vt H x T) (bad : BadL b xs) : PreR K A H (.int b) (.str k.s) (.ref l) (.int most) :=
  pre_own ⟨"int", "str", "list", "int", .int _, .str _, .lst hl, .int _, .inr (.inr ⟨b, k, rfl, D.b2, rfl, D.mok, .inr ⟨l, xs, rfl, hl, ty, n, bad⟩⟩)⟩ D.cb (comp_kd k) D.co hl n dp t s
theorem pre_wrong0 (D : Drw b k hs most) {x : V} {d : PyData} {T : String} (c : Comp K l H x d) (ty : Vt H x T) (nl : (T == "list") = false) : PreR K A H (.int b) (.str k.s) x (.int most) :=
  pre_not ⟨"int", "str", T, "int", .int _, .str _, ty, .int _, .inr (.inr ⟨b, k, rfl, D.b2, rfl, D.mok, .inl nl⟩)⟩ D.cb (comp_kd k) c D.co fun a xs e h => by
    subst e
    cases ty with
    | lst e => cases nl
    | tup e => rw [h] at e; cases e
    | emp e => rw [h] at e; cases e
/-- heads in a list -/
theorem pre_nest (D : Drw b k hs most) {lh : Addr} (hl : H l = some (.lst [.ref lh])) (hh : H lh = some (.lst (hs.map V.int))) (n : lh ≠ l) : PreR K A H (.int b) (.str k.s) (.ref l) (.int most) := by
  have so := show_tinies D.tinies (by have := D.ints.2; omega)
  obtain ⟨h1, h2, h3, h4⟩ := tinies D.tinies
  have l7 := D.ints.2
  have tl := listText_le (PyData.shownAll (hs.map PyData.int))
  have sh : ∀ (r : List PyData), (∀ d ∈ r, Tiny d) → r.length ≤ 1 → ShowOk (.list (.list (hs.map PyData.int) :: r)) ∧ (PyData.list (.list (hs.map PyData.int) :: r)).hasDict = false := fun r hr lr => by
    obtain ⟨g1, g2, g3, g4⟩ := tinies hr
    refine ⟨⟨by simp [PyData.showable, PyData.showableAll, h1, g1], ?_, by simp only [PyData.depth, PyData.depthAll]; omega⟩, by simp [PyData.hasDict, PyData.hasDictAll, h4, g4]⟩
    have tl2 := listText_le (PyData.shownAll (.list (hs.map PyData.int) :: r))
    simp only [PyData.shown] at tl2 ⊢
    simp only [PyData.shownAll, PyData.shown, piled, List.map_cons, List.sum_cons] at tl2 ⊢
    simp only [piled] at g2 h2 tl
    omega
  have sh0 := sh [] (fun _ h => nomatch h) (by decide)
  have sh1 := sh [.str "more"] (fun d hd => by rw [List.mem_singleton.mp hd]; exact tiny_str (by decide +kernel)) (by decide)
  refine ⟨⟨"int", "str", "list", "int", .int _, .str _, .lst hl, .int _, .inr (.inr ⟨b, k, rfl, D.b2, rfl, D.mok, .inr ⟨l, _, rfl, hl, fun x hx => by
    obtain rfl := List.mem_singleton.mp hx
    exact ⟨_, .lst hh⟩, (by show 1 ≤ 60; decide), .inr (.inl ⟨_, List.mem_singleton.mpr rfl, rfl⟩)⟩⟩)⟩,
    .int b, .str k.s, .list [.list (hs.map PyData.int)], .int most, .cons (D.cb (l := l)).now (.cons (comp_kd k (l := l)).now (.cons (.dp (.lst (SqL.of hl) (.cons (.lst (SqL.of hh) (dp_ints _)) .nil)) sh0.2) (.cons (D.co (l := l)).now .nil))), (D.cb (K := K) (H := H) (l := l)).so, (comp_kd (K := K) (H := H) (l := l) k).so, sh0.1, (D.co (K := K) (H := H) (l := l)).so, fun l' ys e h => ?_⟩
  cases e
  rw [hl] at h
  cases h
  exact ⟨(by show 1 ≤ 60; decide), .list [.list (hs.map PyData.int), .str "more"], sh1.1, fun H' kk h' => .cons ((D.cb (l := l)).dx H' kk) (.cons ((comp_kd k (l := l)).dx H' kk) (.cons (.dp (.lst (SqL.of h') (.cons (.lst (SqL.of (kk _ _ n hh)) (dp_ints _)) (.cons (.str _) .nil))) sh1.2) (.cons ((D.co (l := l)).dx H' kk) .nil)))⟩
/-- what stands at the other mantissas -/
structure Wrg (H : Hp) (b : Int) (hs : List Int) (n : Int) (lh w0 w1 w2 w3 w4 w5 w6 th d2 w12 w13 w14 : Addr) : Prop where
  i0 : H w0 = some (.lst (hs.map V.int ++ [.int (hs.headD 0)]))
  i1 : H w1 = some (.lst (hs.map V.int ++ [.int 0]))
  i2 : H w2 = some (.lst (hs.map V.int ++ [.int (b * (1 + n))]))
  i3 : H w3 = some (.lst ([.int (0 - 1)] ++ hs.map V.int))
  i4 : H w4 = some (.lst (hs.map V.int ++ [.bl true]))
  i5 : H w5 = some (.lst (hs.map V.int ++ [.non]))
  i6 : H w6 = some (.lst [])
  it : H th = some (.tup (hs.map V.int))
  id : H d2 = some (.dK [])
  i12 : H w12 = some (.lst [.ref lh])
  i13 : H w13 = some (.lst [.str "1"])
  i14 : H w14 = some (.lst ([.int (hs.headD 0)] ++ hs.map V.int))
  ih : H lh = some (.lst (hs.map V.int))
  n12 : lh ≠ w12
def src3 (m0 : Int) (w0 w1 w2 w3 w4 w5 w6 th d2 w12 w13 w14 : Addr) : List V := [.ref w0, .ref w1, .ref w2, .ref w3, .ref w4, .ref w5, .ref w6, .non, .ref th, .ref d2, .str "12", .int m0, .ref w12, .ref w13, .ref w14]
theorem dpall_app {H' : Hp} : ∀ {xs ys : List V} {ds es : List PyData}, DpAll K H' xs ds → DpAll K H' ys es → DpAll K H' (xs ++ ys) (ds ++ es)
  | _, _, _, _, .nil, q => q
  | _, _, _, _, .cons a r, q => .cons a (dpall_app r q)
theorem tiny_app {ds es : List PyData} (h : ∀ d ∈ ds, Tiny d) (h' : ∀ d ∈ es, Tiny d) : ∀ d ∈ ds ++ es, Tiny d := fun d hd => by
  rcases List.mem_append.mp hd with z | z
  · exact h d z
  · exact h' d z
theorem tiny_one {d : PyData} (h : Tiny d) : ∀ e ∈ [d], Tiny e := fun e he => by
  rw [List.mem_singleton.mp he]
  exact h
theorem vt_ints (H : Hp) (hs : List Int) : ∀ x ∈ hs.map V.int, ∃ T, Vt H x T := fun x hx => by
  obtain ⟨m, _, rfl⟩ := List.mem_map.mp hx
  exact ⟨_, .int m⟩
theorem vt_app {xs ys : List V} (h : ∀ x ∈ xs, ∃ T, Vt H x T) (h' : ∀ x ∈ ys, ∃ T, Vt H x T) : ∀ x ∈ xs ++ ys, ∃ T, Vt H x T := fun x hx => by
  rcases List.mem_append.mp hx with z | z
  · exact h x z
  · exact h' x z
theorem vt_one {y : V} {T : String} (h : Vt H y T) : ∀ x ∈ [y], ∃ T, Vt H x T := fun x hx => by
  obtain rfl := List.mem_singleton.mp hx
  exact ⟨T, h⟩
theorem Drw.head (D : Drw b k hs most) : hs.headD 0 ∈ hs := by
  cases hs with
  | nil => exact absurd rfl D.ne
  | cons m r => exact List.mem_cons_self ..
theorem odd_mant (D : Drw b k hs most) {n : Int} (n0 : 0 ≤ n) (n9 : n < 9) {lh w0 w1 w2 w3 w4 w5 w6 th d2 w12 w13 w14 : Addr} (W : Wrg H b hs n lh w0 w1 w2 w3 w4 w5 w6 th d2 w12 w13 w14) :
    ∀ x ∈ src3 (hs.headD 0) w0 w1 w2 w3 w4 w5 w6 th d2 w12 w13 w14, ∃ nd : Need, Holds nd H ∧ (∀ n ∈ nd, (∀ xs, n.2 ≠ .lst xs) ∨ x = .ref n.1 ∨ n.1 = lh) ∧ ∀ H' : Hp, Holds nd H' → PreR K A H' (.int b) (.str k.s) x (.int most) := by
  have hm := D.h25 _ D.head
  have i7 := D.ints
  have h4 := D.h4
  have lm : (hs.map V.int).length = hs.length := List.length_map _
  have ld : (hs.map PyData.int).length = hs.length := List.length_map _
  have one : ∀ {H : Hp} {l : Addr} {z : Int}, -10 ≤ z → z ≤ 100 → H l = some (.lst (hs.map V.int ++ [.int z])) → (¬ (hs ++ [z]).Nodup ∨ ∃ m ∈ hs ++ [z], m < 1 ∨ m % b = 0) → PreR K A H (.int b) (.str k.s) (.ref l) (.int most) := fun {H l z} z1 z2 hl bad =>
    pre_wrong D hl (fun H' => dpall_app (dp_ints _) (.cons (.int z) .nil)) (tiny_app D.tinies (tiny_one (tiny_int z1 z2))) (by rw [List.length_append, ld]; show _ + 1 ≤ 7; omega) (by rw [List.length_append, lm]; show _ + 1 ≤ 60; omega) (vt_app (vt_ints H hs) (vt_one (.int z)))
      (.inr (.inr ⟨hs ++ [z], by rw [List.map_append]; rfl, bad⟩))
  have odd : ∀ {H : Hp} {l : Addr} {x : V} {d : PyData} {T : String}, H l = some (.lst (hs.map V.int ++ [x])) → Vt H x T → isWh x = false → (∀ H', Dp K H' x d) → Tiny d → PreR K A H (.int b) (.str k.s) (.ref l) (.int most) := fun {H l x d T} hl ty nw dp t =>
    pre_wrong D hl (fun H' => dpall_app (dp_ints _) (.cons (dp H') .nil)) (tiny_app D.tinies (tiny_one t)) (by rw [List.length_append, ld]; show _ + 1 ≤ 7; omega) (by rw [List.length_append, lm]; show _ + 1 ≤ 60; omega) (vt_app (vt_ints H hs) (vt_one ty))
      (.inr (.inl ⟨x, List.mem_append_right _ (List.mem_singleton.mpr rfl), nw⟩))
  have pre : ∀ {H : Hp} {l : Addr} {z : Int}, -10 ≤ z → z ≤ 100 → H l = some (.lst ([.int z] ++ hs.map V.int)) → (¬ (z :: hs).Nodup ∨ ∃ m ∈ z :: hs, m < 1 ∨ m % b = 0) → PreR K A H (.int b) (.str k.s) (.ref l) (.int most) := fun {H l z} z1 z2 hl bad =>
    pre_wrong D hl (fun H' => dpall_app (.cons (.int z) .nil) (dp_ints _)) (tiny_app (tiny_one (tiny_int z1 z2)) D.tinies) (by rw [List.length_append, ld]; show 1 + _ ≤ 7; omega) (by rw [List.length_append, lm]; show 1 + _ ≤ 60; omega) (vt_app (vt_one (.int z)) (vt_ints H hs))
      (.inr (.inr ⟨z :: hs, rfl, bad⟩))
  have holds1 : ∀ {a : Addr} {o : HO}, H a = some o → Holds [(a, o)] H := fun h n hn => by
    rw [List.mem_singleton.mp hn]
    exact h
  have get1 : ∀ {H' : Hp} {a : Addr} {o : HO}, Holds [(a, o)] H' → H' a = some o := fun h => h _ (List.mem_singleton.mpr rfl)
  have own1 : ∀ {a : Addr} {o : HO}, ∀ n ∈ [(a, o)], (∀ xs, n.2 ≠ .lst xs) ∨ V.ref a = .ref n.1 ∨ n.1 = lh := fun n hn => by
    rw [List.mem_singleton.mp hn]
    exact .inr (.inl rfl)
  have two : ∀ {a c : Addr} {o u : HO} {H' : Hp}, Holds [(a, o), (c, u)] H' → H' a = some o ∧ H' c = some u := fun h => ⟨h _ (List.mem_cons_self ..), h _ (List.mem_cons_of_mem _ (List.mem_cons_self ..))⟩
  have holds2 : ∀ {a : Addr} {o : HO}, H a = some o → Holds [(a, o), (lh, .lst (hs.map V.int))] H := fun h n hn => by
    rcases List.mem_cons.mp hn with z | z
    · rw [z]
      exact h
    · rw [List.mem_singleton.mp z]
      exact W.ih
  have own2 : ∀ {a : Addr} {o : HO}, ∀ n ∈ [(a, o), (lh, HO.lst (hs.map V.int))], (∀ xs, n.2 ≠ .lst xs) ∨ V.ref a = .ref n.1 ∨ n.1 = lh := fun n hn => by
    rcases List.mem_cons.mp hn with z | z
    · rw [z]
      exact .inr (.inl rfl)
    · rw [List.mem_singleton.mp z]
      exact .inr (.inr rfl)
  have none0 : ∀ {x : V} {H : Hp}, Holds [] H ∧ (∀ n ∈ ([] : Need), (∀ xs, n.2 ≠ .lst xs) ∨ x = .ref n.1 ∨ n.1 = lh) := ⟨(fun _ h => nomatch h), (fun _ h => nomatch h)⟩
  intro x hx
  unfold src3 at hx
  simp only [List.mem_cons, List.not_mem_nil, or_false] at hx
  rcases hx with rfl | rfl | rfl | rfl | rfl | rfl | rfl | rfl | rfl | rfl | rfl | rfl | rfl | rfl | rfl
  · refine ⟨_, holds1 W.i0, own1, fun H' h => one (by omega) (by omega) (get1 h) (.inl fun z => (List.nodup_append.mp z).2.2 _ D.head _ (List.mem_singleton.mpr rfl) rfl)⟩
  · exact ⟨_, holds1 W.i1, own1, fun H' h => one (by decide) (by decide) (get1 h) (.inr ⟨0, List.mem_append_right _ (List.mem_singleton.mpr rfl), .inl (by decide)⟩)⟩
  · have h1 := D.b2
    have h2 := D.b10
    have h3 : b * (1 + n) ≤ 10 * 9 := Int.mul_le_mul h2 (by omega) (by omega) (by decide)
    have h5 : 0 ≤ b * (1 + n) := Int.mul_nonneg (by omega) (by omega)
    exact ⟨_, holds1 W.i2, own1, fun H' h => one (by omega) (by omega) (get1 h) (.inr ⟨_, List.mem_append_right _ (List.mem_singleton.mpr rfl), .inr (Int.mul_emod_right _ _)⟩)⟩
  · exact ⟨_, holds1 W.i3, own1, fun H' h => pre (by decide) (by decide) (get1 h) (.inr ⟨_, List.mem_cons_self .., .inl (by decide)⟩)⟩
  · exact ⟨_, holds1 W.i4, own1, fun H' h => odd (get1 h) (.bl true) rfl (fun H' => .bl true) (tiny_bl true)⟩
  · exact ⟨_, holds1 W.i5, own1, fun H' h => odd (get1 h) .non rfl (fun H' => .non) tiny_non⟩
  · exact ⟨_, holds1 W.i6, own1, fun H' h => pre_wrong D (get1 h) (fun H' => .nil) (fun _ h => nomatch h) (by decide) (by decide) (fun _ h => nomatch h) (.inl rfl)⟩
  · exact ⟨[], (fun _ h => nomatch h), (fun _ h => nomatch h), fun H' _ => pre_wrong0 (l := lh) D comp_non .non (by decide)⟩
  · have tt := tinies D.tinies
    refine ⟨_, holds2 W.it, own2, fun H' h => pre_wrong0 (l := lh) D (d := .tuple (hs.map PyData.int)) ⟨⟨_, .tup (two h).1⟩, fun H2 kk => .dp (.tup (SqT.of (kk _ _ (tup_ne (two h).1 (two h).2) (two h).1)) (dp_ints _)) (by simp [PyData.hasDict, tt.2.2.2]), ⟨by simp [PyData.showable, tt.1], ?_, by simp only [PyData.depth]; omega⟩⟩ (.tup (two h).1) (by decide)⟩
    simp only [PyData.shown]
    unfold tupleText
    rw [strLen_append, strLen_append]
    have ne : PyData.shownAll (hs.map PyData.int) ≠ [] := by
      have := D.ne
      cases hs with
      | nil => exact absurd rfl this
      | cons m r => simp [PyData.shownAll]
    have j := join_length_add (PyData.shownAll (hs.map PyData.int)) ne
    have e1 : (Str.ofString "(").length = 1 := rfl
    have e2 : (Str.ofString (if ((PyData.shownAll (hs.map PyData.int)).length == 1) = true then ",)" else ")")).length ≤ 2 := by
      split <;> decide
    omega
  · exact ⟨_, holds2 W.id, own2, fun H' h => pre_wrong0 (l := lh) D (comp_emp (two h).1 (emp_ne (two h).1 (two h).2)) (.emp (two h).1) (by decide)⟩
  · exact ⟨[], (fun _ h => nomatch h), (fun _ h => nomatch h), fun H' _ => pre_wrong0 (l := lh) D (comp_str (by decide +kernel)) (.str _) (by decide)⟩
  · exact ⟨[], (fun _ h => nomatch h), (fun _ h => nomatch h), fun H' _ => pre_wrong0 (l := lh) D (comp_int (by omega) (by omega)) (.int _) (by decide)⟩
  · exact ⟨_, holds2 W.i12, own2, fun H' h => pre_nest D (two h).1 (two h).2 W.n12⟩
  · exact ⟨_, holds1 W.i13, own1, fun H' h => pre_wrong D (get1 h) (fun H' => .cons (.str _) .nil) (tiny_one (tiny_str (by decide +kernel))) (by decide) (by decide) (vt_one (.str _)) (.inr (.inl ⟨_, List.mem_singleton.mpr rfl, rfl⟩))⟩
  · exact ⟨_, holds1 W.i14, own1, fun H' h => pre (by omega) (by omega) (get1 h) (.inl fun z => (List.nodup_cons.mp z).1 D.head)⟩
end
end Ax

namespace Ax
open PySem L2
theorem same_upd {H H' : Hp} {D : Addr} {o : HO} (h : H D = none) (s : Same H H') : Same H (upd H' D o) := fun c u e => by
  rw [upd_ne (ne_of_none e h)]
  exact s _ _ e
theorem clist (K : PySem.W.Frag) {X : Cx} (h : X.K = K := by rfl) : CallR X (.type "list") (fun xs H Q => ∃ p ys, xs = [V.ref p] ∧ (SqL K H p ys ∨ SqT K H p ys) ∧ ∀ (l : Addr), H l = none → Q (V.ref l) (upd H l (HO.lst ys))) := h ▸ call_list_of
/-- the entries that have been made, in the list at D -/
structure Acc (K : PySem.W.Frag) (A : Adr) (bl : List Addr) (Hs : Hp) (D : Addr) (i : Nat) (H : Hp) (es : List Ent) : Prop where
  s : Same Hs H
  n : es.length = i
  at_ : H D = some (.lst (es.map fun e => V.ref e.t))
  nd : (vms es).Nodup
  fr : ∀ c ∈ vms es, Hs c = none ∧ H c ≠ none
  ok : ∀ e ∈ es, ∃ nd, EntOk K A bl e nd ∧ Holds nd H ∧ ∀ n ∈ nd, n.1 ≠ D
section
variable {K : PySem.W.Frag} {A : Adr} {bl : List Addr} {Hs : Hp} {D : Addr} {i : Nat} {H H1 : Hp} {es : List Ent}
theorem Acc.nil (h : Hs D = none) : Acc K A bl Hs D 0 (upd Hs D (.lst [])) [] :=
  ⟨same_new h, rfl, upd_same, .nil, (fun _ h => nomatch h), fun _ h => nomatch h⟩
theorem Acc.snoc (a : Acc K A bl Hs D i H es) (hD : Hs D = none) (s1 : Same H H1) {e : Ent} {nd : Need} (o : EntOk K A bl e nd) (hn : Holds nd H1) (nD : ∀ n ∈ nd, n.1 ≠ D)
    (fresh : ∀ c, e.vm = .ref c → H c = none ∧ H1 c ≠ none) : Acc K A bl Hs D (i + 1) (upd H1 D (.lst ((es.map fun e => V.ref e.t) ++ [.ref e.t]))) (es ++ [e]) := by
  have at1 := s1 _ _ a.at_
  refine ⟨same_upd hD (a.s.trans s1), by rw [List.length_append, a.n]; rfl, by rw [upd_same, List.map_append]; rfl, ?_, fun c hc => ?_, fun f hf => ?_⟩
  · rw [vms_app]
    refine List.nodup_append.mpr ⟨a.nd, ?_, fun x hx y hy z => ?_⟩
    · unfold vms
      rw [List.filterMap_cons]
      cases refOf e.vm with
      | none => exact .nil
      | some c => exact List.pairwise_singleton _ _
    · obtain ⟨g, hg, rg⟩ := List.mem_filterMap.mp hy
      rw [List.mem_singleton.mp hg] at rg
      have ev : e.vm = .ref y := by
        revert rg
        cases e.vm <;> intro rg <;> first | (cases rg; rfl) | cases rg
      have := (fresh y ev).1
      exact (a.fr x hx).2 (by rw [z]; exact this)
  · have up : ∀ c, H1 c ≠ none → upd H1 D (.lst ((es.map fun e => V.ref e.t) ++ [.ref e.t])) c ≠ none := fun c h => by
      by_cases z : c = D
      · rw [z, upd_same]
        exact fun z => by cases z
      · rw [upd_ne z]
        exact h
    rw [vms_app] at hc
    rcases List.mem_append.mp hc with h | h
    · refine ⟨(a.fr c h).1, up c fun z => ?_⟩
      cases q : H c with
      | none => exact (a.fr c h).2 q
      | some o => rw [s1 _ _ q] at z; cases z
    · obtain ⟨g, hg, rg⟩ := List.mem_filterMap.mp h
      rw [List.mem_singleton.mp hg] at rg
      have ev : e.vm = .ref c := by
        revert rg
        cases e.vm <;> intro rg <;> first | (cases rg; rfl) | cases rg
      obtain ⟨f1, f2⟩ := fresh c ev
      exact ⟨a.s.free f1, up c f2⟩
  · rcases List.mem_append.mp hf with h | h
    · obtain ⟨nd', o', hh, nn⟩ := a.ok f h
      exact ⟨nd', o', fun n hn => by rw [upd_ne (nn n hn)]; exact s1 _ _ (hh n hn), nn⟩
    · rw [List.mem_singleton.mp h]
      exact ⟨nd, o, fun n hn' => by rw [upd_ne (nD n hn')]; exact hn n hn', nD⟩
end
/-- an entry more, its list of mantissas new -/
theorem Acc.grow {K : PySem.W.Frag} {A : Adr} {bl : List Addr} {Hs : Hp} {D : Addr} {i : Nat} {H : Hp} {es : List Ent} {l tt : Addr} {xs : List V} {vb vk vo : V} {nd0 : Need} (a : Acc K A bl Hs D i H es) (hD : Hs D = none) (hl : H l = none) (ht : upd H l (.lst xs) tt = none)
    (hn : Holds nd0 Hs) (bl0 : ∀ n ∈ nd0, (∀ xs, n.2 ≠ .lst xs) ∨ n.1 ∈ bl) (pre : ∀ H' : Hp, Holds nd0 H' → H' l = some (.lst xs) → (∀ n ∈ nd0, n.1 ≠ l) → PreR K A H' vb vk (.ref l) vo) :
    Acc K A bl Hs D (i + 1) (upd (upd (upd H l (.lst xs)) tt (.tup [vb, vk, .ref l, vo])) D (.lst ((es.map fun e => V.ref e.t) ++ [.ref tt]))) (es ++ [⟨tt, vb, vk, .ref l, vo⟩]) := by
  have s1 : Same H (upd (upd H l (.lst xs)) tt (.tup [vb, vk, .ref l, vo])) := (same_new hl).trans (same_new ht)
  have hl2 : (upd (upd H l (.lst xs)) tt (.tup [vb, vk, .ref l, vo])) l = some (.lst xs) := same_new ht _ _ upd_same
  have nl : ∀ n ∈ nd0, n.1 ≠ l := fun n h => ne_of_none (a.s _ _ (hn n h)) hl
  have lD : l ≠ D := (ne_of_none a.at_ hl).symm
  have tD : tt ≠ D := (ne_of_none (same_new hl _ _ a.at_) ht).symm
  refine a.snoc hD s1 (e := ⟨tt, vb, vk, .ref l, vo⟩) (nd := (tt, .tup [vb, vk, .ref l, vo]) :: (l, .lst xs) :: nd0) ⟨fun H' h => ?_, fun n h => ?_⟩ (fun n h => ?_) (fun n h => ?_) fun c e => ?_
  · exact ⟨h _ (List.mem_cons_self ..), pre H' (fun n hn => h n (List.mem_cons_of_mem _ (List.mem_cons_of_mem _ hn))) (h _ (List.mem_cons_of_mem _ (List.mem_cons_self ..))) nl⟩
  · rcases List.mem_cons.mp h with z | z
    · rw [z]
      exact .inl fun xs y => by cases y
    · rcases List.mem_cons.mp z with z | z
      · rw [z]
        exact .inr (.inl rfl)
      · rcases bl0 n z with y | y
        · exact .inl y
        · exact .inr (.inr y)
  · rcases List.mem_cons.mp h with z | z
    · rw [z]
      exact upd_same
    · rcases List.mem_cons.mp z with z | z
      · rw [z]
        exact hl2
      · exact s1 _ _ (a.s _ _ (hn n z))
  · rcases List.mem_cons.mp h with z | z
    · rw [z]
      exact tD
    · rcases List.mem_cons.mp z with z | z
      · rw [z]
        exact lD
      · exact ne_of_none (hn n z) hD
  · cases e
    exact ⟨hl, by rw [hl2]; exact fun z => by cases z⟩
/-- the entries of other mantissas -/
structure AccW (K : PySem.W.Frag) (A : Adr) (bl : List Addr) (Hs : Hp) (D : Addr) (src : List V) (i : Nat) (H : Hp) (es : List Ent) : Prop where
  s : Same Hs H
  n : es.length = i
  at_ : H D = some (.lst (es.map fun e => V.ref e.t))
  vm : es.map (·.vm) = src.take i
  ok : ∀ e ∈ es, ∃ nd, EntOk K A bl e nd ∧ Holds nd H ∧ ∀ n ∈ nd, n.1 ≠ D
theorem AccW.nil {K : PySem.W.Frag} {A : Adr} {bl : List Addr} {Hs : Hp} {D : Addr} {src : List V} (h : Hs D = none) : AccW K A bl Hs D src 0 (upd Hs D (.lst [])) [] :=
  ⟨same_new h, rfl, upd_same, rfl, fun _ h => nomatch h⟩
theorem AccW.grow {K : PySem.W.Frag} {A : Adr} {bl : List Addr} {Hs : Hp} {D : Addr} {src : List V} {i : Nat} {H : Hp} {es : List Ent} {tt : Addr} {vb vk x vo : V} {nd0 : Need} (a : AccW K A bl Hs D src i H es) (hD : Hs D = none) (ht : H tt = none) (hx : src[i]? = some x)
    (hn : Holds nd0 Hs) (bl0 : ∀ n ∈ nd0, (∀ xs, n.2 ≠ .lst xs) ∨ x = .ref n.1 ∨ n.1 ∈ bl) (pre : ∀ H' : Hp, Holds nd0 H' → PreR K A H' vb vk x vo) :
    AccW K A bl Hs D src (i + 1) (upd (upd H tt (.tup [vb, vk, x, vo])) D (.lst ((es.map fun e => V.ref e.t) ++ [.ref tt]))) (es ++ [⟨tt, vb, vk, x, vo⟩]) := by
  have s1 : Same H (upd H tt (.tup [vb, vk, x, vo])) := same_new ht
  have tD : tt ≠ D := (ne_of_none a.at_ ht).symm
  refine ⟨same_upd hD (a.s.trans s1), by rw [List.length_append, a.n]; rfl, by rw [upd_same, List.map_append]; rfl, by rw [List.map_append, a.vm, List.take_add_one, hx]; rfl, fun f hf => ?_⟩
  rcases List.mem_append.mp hf with h | h
  · obtain ⟨nd', o', hh, nn⟩ := a.ok f h
    exact ⟨nd', o', fun n hn => by rw [upd_ne (nn n hn)]; exact s1 _ _ (hh n hn), nn⟩
  · rw [List.mem_singleton.mp h]
    refine ⟨(tt, .tup [vb, vk, x, vo]) :: nd0, ⟨fun H' h => ⟨h _ (List.mem_cons_self ..), pre H' fun n hn => h n (List.mem_cons_of_mem _ hn)⟩, fun n h => ?_⟩, fun n h => ?_, fun n h => ?_⟩
    · rcases List.mem_cons.mp h with z | z
      · rw [z]
        exact .inl fun xs y => by cases y
      · exact bl0 n z
    · rcases List.mem_cons.mp h with z | z
      · rw [z, upd_ne tD]
        exact upd_same
      · rw [upd_ne (ne_of_none (hn n z) hD)]
        exact s1 _ _ (a.s _ _ (hn n z))
    · rcases List.mem_cons.mp h with z | z
      · rw [z]
        exact tD
      · exact ne_of_none (hn n z) hD
theorem absP {F : Hp → Prop} {H : Hp} (P : Hp → Prop) (p : P H) (h : ∀ H', P H' → F H') : F H := h H p
theorem Track.kp {p : Addr} {H H' : Hp} {L : List Addr} (t : Track H L) (k : Kp p H H') (n : ∀ c ∈ L, c ≠ p) : Track H' L := ⟨t.1, fun c hc z => by
  cases e : H c with
  | none => exact t.2 c hc e
  | some o => rw [k c o (n c hc) e] at z; cases z⟩
theorem Wrg.mono {H H' : Hp} {b : Int} {hs : List Int} {n : Int} {lh w0 w1 w2 w3 w4 w5 w6 th d2 w12 w13 w14 : Addr} (W : Wrg H b hs n lh w0 w1 w2 w3 w4 w5 w6 th d2 w12 w13 w14) (s : Same H H') : Wrg H' b hs n lh w0 w1 w2 w3 w4 w5 w6 th d2 w12 w13 w14 :=
  ⟨s _ _ W.i0, s _ _ W.i1, s _ _ W.i2, s _ _ W.i3, s _ _ W.i4, s _ _ W.i5, s _ _ W.i6, s _ _ W.it, s _ _ W.id, s _ _ W.i12, s _ _ W.i13, s _ _ W.i14, s _ _ W.ih, W.n12⟩
theorem nd_perm {E1 E2 E4 : List Addr} {a b c l x0 x1 x2 x3 x4 x5 x6 x7 x8 x9 x10 x11 : Addr} (h : (E4 ++ c :: (E2 ++ b :: (E1 ++ [a, x11, x10, x9, x8, x7, x6, x5, x4, x3, x2, x1, x0, l]))).Nodup) :
    ((E1 ++ E2 ++ [x0, x1, x2, x3, x4, x5, x6, x7, x8, x9, x10, x11] ++ E4) ++ [l, a, b, c]).Nodup := by
  refine (List.Perm.nodup_iff (List.perm_iff_count.mpr fun z => ?_)).mp h
  simp only [List.count_append, List.count_cons, List.count_nil, Nat.zero_add, Nat.add_assoc, Nat.add_comm, Nat.add_left_comm]
section
variable {P : Program} {w : World} {K : PySem.W.Frag} {mg : Str → Option Value} {base : Heap} {A : Adr}
/-! ### _law_odd -/
abbrev nm_law_odd : List Str := ["_law_purse_here", "_law_base", "_law_kind", "_law_heads", "_law_most", "_law_wrong", "_law_some", "_law_odd_here", "_law_words"]
theorem sc_law_odd : FnScope ["_law_purse_here", "_law_base", "_law_kind", "_law_heads", "_law_most", "_law_wrong", "_law_some", "_law_odd_here", "_law_words"] ["_law_purse_here", "_law_base", "_law_kind", "_law_heads", "_law_most"] (defScope s_law_odd) := ⟨rfl, rfl, rfl, by decide +kernel, rfl, by decide +kernel, by decide +kernel⟩
def spOdd (K : PySem.W.Frag) (A : Adr) : Sp := fun vs H Q _ => ∃ (p lh : Addr) (b : Int) (k : Kd) (hs : List Int) (most : Int) (t : Nat), vs = [.ref p, .int b, .str k.s, .ref lh, .int most] ∧ Purse H p t ∧ t ≤ 2 ^ 18 ∧ H lh = some (.lst (hs.map V.int)) ∧ lh ≠ p ∧ 2 ≤ b ∧ b ≤ 10 ∧ hs ≠ [] ∧ hs.length ≤ 4 ∧ hs.Nodup ∧ (∀ m ∈ hs, 1 ≤ m ∧ m ≤ 25) ∧ k.least ≤ most ∧ most ≤ 10 ∧
  PySem.W.nsIn K A.a_LEAST "Inside" = some none ∧ PySem.W.nsIn K A.a_LEAST "" = some none ∧ PySem.W.nsIn K A.a_LEAST "ticks" = some none ∧
  ∀ (H' : Hp) (R : Addr) (es : List Ent), Kp p H H' → Purse H' p (t + 1) → H R = none → H' R = some (.lst (es.map fun e => V.ref e.t)) → es.length ≤ 60 →
    (∀ i e, es[i]? = some e → ∀ H'', Frame es i H' H'' → H'' e.t = some (.tup [e.vb, e.vk, e.vm, e.vo]) ∧ PreR K A H'' e.vb e.vk e.vm e.vo) → (∀ e ∈ es, ∀ c, e.vm = .ref c → H c = none ∧ c ≠ R) → Q (.ref R) H'
theorem ok_odd (T : Txt K mg A w) : FnOk P w K mg base CX0 2 A.a_law_odd A.d_law_odd ["_law_purse_here", "_law_base", "_law_kind", "_law_heads", "_law_most"] (spOdd K A) := by
  have G_law_draw : FnOk P w K mg base CX0 1 A.a_law_draw A.d_law_draw ["_law_purse_here", "_law_many"] spDraw := ok_draw T
  refine T.F_law_odd.ok sc_law_odd (fun vs H Q E h => ?_) (fun cdv A0 outer s H vs Q E hr h => ?_)
  · obtain ⟨p, lh, b, k, hs, most, t, rfl, _⟩ := h
    rfl
  · obtain ⟨p, lh, b, k, hs, most, t, rfl, hP, ht, hL, nlp, b2, b10, hne, h4, hnd, h25, hm, hm10, z1, z2, z3, q⟩ := h
    refine ⟨_, (pss_cons (ps_set (i := 5) sc_law_odd.nd rfl (Or.inl rfl) (pe_lst (pa_cons (pe_op op_cat (pv 3) (pe_lst (pa_cons (pe_ix ix_list (pv 3) pe_int (fun _ _ => rfl)) pa_nil))) (pa_cons (pe_op op_cat (pv 3) (pe_lst (pa_cons pe_int pa_nil))) (pa_cons (pe_op op_cat (pv 3) (pe_lst (pa_cons (pe_op op_mulW (pv 1) (pe_op op_add pe_int (pe_call G_law_draw (hr.mono (by decide)) (by rfl) T.m_law_draw T.F_law_draw.kp T.B_law_draw .nil pass0 (pa_cons (pv 0) (pa_cons pe_int pa_nil))))) pa_nil))) (pa_cons (pe_op op_cat (pe_lst (pa_cons (pe_op op_sub pe_int pe_int) pa_nil)) (pv 3)) pa_nil))))))
  (pss_cons (ps_set (i := 5) sc_law_odd.nd rfl (Or.inl rfl) (pe_op op_cat (pv 5) (pe_lst (pa_cons (pe_op op_cat (pv 3) (pe_lst (pa_cons pe_bl pa_nil))) (pa_cons (pe_op op_cat (pv 3) (pe_lst (pa_cons pe_non pa_nil))) (pa_cons (pe_lst pa_nil) (pa_cons pe_non (pa_cons (pe_callTy call_tuple_of (by rfl) T.n_tuple (by decide +kernel) (pa_cons (pv 3) pa_nil)) (pa_cons pe_dnewK (pa_cons pe_str (pa_cons (pe_ix ix_list (pv 3) pe_int (fun _ _ => rfl)) (pa_cons (pe_lst (pa_cons (pv 3) pa_nil)) (pa_cons (pe_lst (pa_cons pe_str pa_nil)) pa_nil)))))))))))))
  (pss_cons (ps_expr (pe_bm PySem.F.plainAttrs_list PySem.F.slot_list_append PySem.F.type_list_append mt_append (pv 5) (pa_cons (pe_op op_cat (pe_slice sl_list (pv 3) po_none (po_some pe_int)) (pv 3)) pa_nil)))
  (pss_cons (ps_setLc (i := 6) (own := [("_law_odd_here", 7)]) (g := gName 7) (tt := tYes) rfl sc_law_odd.nd rfl rfl (sw_true rfl rfl rfl (by decide +kernel)) (pi_list (pe_lst (pa_cons pe_int (pa_cons pe_int (pa_cons (pe_op op_sub pe_int pe_int) (pa_cons pe_bl (pa_cons pe_non (pa_cons pe_str (pa_cons (pe_lst (pa_cons pe_int pa_nil)) (pa_cons (pe_tup (pa_cons pe_int pa_nil)) pa_nil)))))))))) (blkOk_by (own := [("_law_odd_here", 7)]) (N := nm_law_odd) (sc := defScope s_law_odd) (by decide +kernel)) (fun _ _ _ _ _ => (pg_name (i := 7) sc_law_odd.nd rfl (Or.inl rfl))) (fun _ _ _ _ _ => pts_nil) (fun _ _ _ _ _ => (pe_tup (pa_cons (pv 7) (pa_cons (pv 2) (pa_cons (pe_callTy (clist K) (by rfl) T.n_list (by decide +kernel) (pa_cons (pv 3) pa_nil)) (pa_cons (pv 4) pa_nil)))))))
  (pss_cons (ps_set (i := 8) sc_law_odd.nd rfl (Or.inl rfl) (pe_lst (pa_cons pe_str (pa_cons pe_str (pa_cons pe_non (pa_cons pe_int (pa_cons (pe_lst (pa_cons pe_str pa_nil)) (pa_cons pe_str (pa_cons (pe_tup (pa_cons pe_str pa_nil)) (pa_cons pe_dnewK pa_nil))))))))))
  (pss_cons (ps_set (i := 6) sc_law_odd.nd rfl (Or.inl rfl) (pe_op op_cat (pv 6) (pe_lc (own := [("_law_odd_here", 7)]) (g := gName 7) (tt := tYes) rfl sc_law_odd.nd (pi_list (pv 8)) (blkOk_by (own := [("_law_odd_here", 7)]) (N := nm_law_odd) (sc := defScope s_law_odd) (by decide +kernel)) (fun _ _ _ _ _ => (pg_name (i := 7) sc_law_odd.nd rfl (Or.inl rfl))) (fun _ _ _ _ _ => pts_nil) (fun _ _ _ _ _ => (pe_tup (pa_cons (pv 1) (pa_cons (pv 7) (pa_cons (pe_callTy (clist K) (by rfl) T.n_list (by decide +kernel) (pa_cons (pv 3) pa_nil)) (pa_cons (pv 4) pa_nil)))))))))
  (pss_cons (ps_set (i := 6) sc_law_odd.nd rfl (Or.inl rfl) (pe_op op_cat (pv 6) (pe_lc (own := [("_law_odd_here", 7)]) (g := gName 7) (tt := tYes) rfl sc_law_odd.nd (pi_list (pv 5)) (blkOk_by (own := [("_law_odd_here", 7)]) (N := nm_law_odd) (sc := defScope s_law_odd) (by decide +kernel)) (fun _ _ _ _ _ => (pg_name (i := 7) sc_law_odd.nd rfl (Or.inl rfl))) (fun _ _ _ _ _ => pts_nil) (fun _ _ _ _ _ => (pe_tup (pa_cons (pv 1) (pa_cons (pv 2) (pa_cons (pv 7) (pa_cons (pv 4) pa_nil)))))))))
  (pss_one (ps_ret (pe_op op_cat (pv 6) (pe_lc (own := [("_law_odd_here", 7)]) (g := gName 7) (tt := tYes) rfl sc_law_odd.nd (pi_list (pe_lst (pa_cons pe_int (pa_cons (pe_op op_sub pe_int pe_int) (pa_cons pe_bl (pa_cons pe_non (pa_cons pe_str (pa_cons (pe_lst (pa_cons pe_int pa_nil)) (pa_cons (pe_callTy call_int1 (by rfl) T.n_int (by decide +kernel) (pa_cons (pe_cmpR op_eq (pv 2) pe_str (nomark _)) pa_nil)) pa_nil))))))))) (blkOk_by (own := [("_law_odd_here", 7)]) (N := nm_law_odd) (sc := defScope s_law_odd) (by decide +kernel)) (fun _ _ _ _ _ => (pg_name (i := 7) sc_law_odd.nd rfl (Or.inl rfl))) (fun _ _ _ _ _ => pts_nil) (fun _ _ _ _ _ => (pe_tup (pa_cons (pv 1) (pa_cons (pv 2) (pa_cons (pe_callTy (clist K) (by rfl) T.n_list (by decide +kernel) (pa_cons (pv 3) pa_nil)) (pa_cons (pv 7) pa_nil))))))))))))))))), ?_⟩
    have e18 : (2 : Nat) ^ 18 = 262144 := by decide
    have e20 : (2 : Nat) ^ 20 = 1048576 := by decide
    obtain ⟨m0, r, rfl⟩ : ∃ m0 r, hs = m0 :: r := by
      cases hs with
      | nil => exact absurd rfl hne
      | cons m0 r => exact ⟨m0, r, rfl⟩
    obtain ⟨xs, exs⟩ : ∃ xs : List V, xs = (m0 :: r).map V.int := ⟨_, rfl⟩
    have lxs : xs.length ≤ 4 := by rw [exs, List.length_map]; exact h4
    have x0 : xs[0]? = some (.int m0) := by rw [exs]; rfl
    rw [← exs] at hL
    have T0 : Track H [lh] := ⟨List.pairwise_singleton _ _, fun c hc => by rw [List.mem_singleton.mp hc, hL]; exact fun z => by cases z⟩
    have fit : ∀ {n : Nat}, n ≤ 5 → xs.length + n ≤ sizeLine := fun {n} h => by rw [PySem.sizeLine_eq]; omega
    have fit2 : ∀ {n : Nat}, n ≤ 5 → n + xs.length ≤ sizeLine := fun {n} h => by rw [PySem.sizeLine_eq]; omega
    -- heads + [heads[0]], heads + [0]
    refine ⟨_, rfl, _, rfl, lh, _, 0, .int m0, rfl, rfl, SqL.of hL, atL (j := 0) x0, (by show 1 ≤ sizeLine; decide), fun c1 hc1 => ?_⟩
    have a1 := same_new (o := .lst [.int m0]) hc1
    refine ⟨lh, c1, _, _, rfl, rfl, a1 _ _ hL, upd_same, fit (by show 1 ≤ 5; decide), fun w0 hw0 => ?_⟩
    have a2 := a1.trans (same_new (o := .lst (xs ++ [.int m0])) hw0)
    have T1 := (T0.mono a1).new (o := .lst (xs ++ [.int m0])) hw0
    refine ⟨_, rfl, (by show 1 ≤ sizeLine; decide), fun c2 hc2 => ?_⟩
    have b1 := same_new (o := .lst [.int 0]) hc2
    have a3 := a2.trans b1
    refine ⟨lh, c2, _, _, rfl, rfl, a3 _ _ hL, upd_same, fit (by show 1 ≤ 5; decide), fun w1 hw1 => ?_⟩
    have b2' := same_new (o := .lst (xs ++ [.int 0])) hw1
    have a4 := a3.trans b2'
    have T2 := (T1.mono b1).new (o := .lst (xs ++ [.int 0])) hw1
    have i0 := (b1.trans b2') _ _ (upd_same (a := w0) (o := .lst (xs ++ [.int m0])))
    have i1 := upd_same (H := upd (upd (upd H c1 (.lst [.int m0])) w0 (.lst (xs ++ [.int m0]))) c2 (.lst [.int 0])) (a := w1) (o := .lst (xs ++ [.int 0]))
    refine absP (fun H1 => Same H H1 ∧ Track H1 [w1, w0, lh] ∧ (∀ c ∈ [w1, w0], H c = none) ∧ H1 w0 = some (.lst (xs ++ [.int m0])) ∧ H1 w1 = some (.lst (xs ++ [.int 0]))) ⟨a4, T2, ?_, i0, i1⟩ ?_
    · intro c hc
      simp only [List.mem_cons, List.not_mem_nil, or_false] at hc
      rcases hc with rfl | rfl
      · exact a3.free hw1
      · exact a1.free hw0
    clear a1 a2 a3 a4 b1 b2' T1 T2 i0 i1 hw0 hw1 hc1 hc2
    rintro H1 ⟨s1, T1, fr1, i0, i1⟩
    have P1 := hP.same s1
    have np : ∀ c, H c = none → c ≠ p := fun c h => hP.ne h
    -- heads + [base * (1 + draw)], [0 - 1] + heads
    refine ⟨_, rfl, _, rfl, _, rfl, p, 9, t, rfl, P1, by omega, by decide, small2000 (by decide), fun H2 n k2 P2 n0 n9 => ?_⟩
    have L2h := k2 _ _ nlp (s1 _ _ hL)
    have fr1' : ∀ c ∈ [w1, w0], c ≠ p := fun c hc => np c (fr1 c hc)
    have T2 : Track H2 [w1, w0, lh] := T1.kp k2 (fun c hc => by
      rcases List.mem_cons.mp hc with h | h
      · exact fr1' c (by rw [h]; exact List.mem_cons_self ..)
      · rcases List.mem_cons.mp h with h | h
        · exact fr1' c (by rw [h]; simp)
        · rw [List.mem_singleton.mp h]
          exact nlp)
    have j0 := k2 _ _ (fr1' w0 (by simp)) i0
    have j1 := k2 _ _ (fr1' w1 (by simp)) i1
    have kH2 : Kp p H H2 := (Same.kp s1 p).trans k2
    refine ⟨_, _, rfl, rfl, _, _, rfl, rfl, mulS (by omega) (by omega) (by omega) (by omega), (by show 1 ≤ sizeLine; decide), fun c3 hc3 => ?_⟩
    have a1 := same_new (o := .lst [.int (b * (1 + n))]) hc3
    refine ⟨lh, c3, _, _, rfl, rfl, a1 _ _ L2h, upd_same, fit (by show 1 ≤ 5; decide), fun w2 hw2 => ?_⟩
    have b1 := same_new (o := .lst (xs ++ [.int (b * (1 + n))])) hw2
    have T3 := (T2.mono a1).new (o := .lst (xs ++ [.int (b * (1 + n))])) hw2
    refine ⟨_, _, rfl, rfl, (by show 1 ≤ sizeLine; decide), fun c4 hc4 => ?_⟩
    have b2' := same_new (o := .lst [.int (0 - 1)]) hc4
    refine ⟨_, rfl, c4, lh, _, _, rfl, rfl, upd_same, (a1.trans (b1.trans b2')) _ _ L2h, fit2 (by show 1 ≤ 5; decide), fun w3 hw3 => ?_⟩
    have b3 := same_new (o := .lst ([.int (0 - 1)] ++ xs)) hw3
    have T4 := (T3.mono b2').new (o := .lst ([.int (0 - 1)] ++ xs)) hw3
    refine ⟨(by show 4 ≤ sizeLine; decide), fun W1 hW1 => ?_⟩
    have b4 := same_new (o := .lst [.ref w0, .ref w1, .ref w2, .ref w3]) hW1
    have T5 := T4.mono b4
    have i2 := (b2'.trans (b3.trans b4)) _ _ (upd_same (a := w2) (o := .lst (xs ++ [.int (b * (1 + n))])))
    have i3 := b4 _ _ (upd_same (a := w3) (o := .lst ([.int (0 - 1)] ++ xs)))
    have s24 := a1.trans (b1.trans (b2'.trans (b3.trans b4)))
    refine gN (σ' := [some (.ref p), some (.int b), some (.str k.s), some (.ref lh), some (.int most), some (.ref W1), none, none, none]) rfl ?_
    refine absP (fun H3 => Same H2 H3 ∧ Track H3 [w3, w2, w1, w0, lh] ∧ (∀ c ∈ [w3, w2], H2 c = none) ∧ H3 w2 = some (.lst (xs ++ [.int (b * (1 + n))])) ∧ H3 w3 = some (.lst ([.int (0 - 1)] ++ xs)) ∧ H3 W1 = some (.lst [.ref w0, .ref w1, .ref w2, .ref w3])) ⟨s24, T5, ?_, i2, i3, upd_same⟩ ?_
    · intro c hc
      simp only [List.mem_cons, List.not_mem_nil, or_false] at hc
      rcases hc with rfl | rfl
      · exact (a1.trans (b1.trans b2')).free hw3
      · exact a1.free hw2
    clear a1 b1 b2' b3 b4 T3 T4 T5 i2 i3 s24 hW1 hw3 hw2 hc3 hc4
    rintro H3 ⟨s23, T3, fr3, i2, i3, hW1⟩
    have kH3 : Kp p H H3 := kH2.trans (Same.kp s23 p)
    have P3 := P2.same s23
    have L3h := s23 _ _ L2h
    have ts0 := Same.refl H3
    refine ⟨_, rfl, _, rfl, (by show 1 ≤ sizeLine; decide), fun c5 hc5 => ?_⟩
    have a1 := same_new (o := .lst [.bl true]) hc5
    refine ⟨lh, c5, _, _, rfl, rfl, a1 _ _ L3h, upd_same, fit (by show 1 ≤ 5; decide), fun w4 hw4 => ?_⟩
    have a2 := same_new (o := .lst (xs ++ [.bl true])) hw4
    have T4 := (T3.mono a1).new (o := .lst (xs ++ [.bl true])) hw4
    refine ⟨_, rfl, (by show 1 ≤ sizeLine; decide), fun c6 hc6 => ?_⟩
    have a3 := same_new (o := .lst [.non]) hc6
    refine ⟨lh, c6, _, _, rfl, rfl, (a1.trans (a2.trans a3)) _ _ L3h, upd_same, fit (by show 1 ≤ 5; decide), fun w5 hw5 => ?_⟩
    have a4 := same_new (o := .lst (xs ++ [.non])) hw5
    have T5 := (T4.mono a3).new (o := .lst (xs ++ [.non])) hw5
    refine ⟨(by show 0 ≤ sizeLine; decide), fun w6 hw6 => ?_⟩
    have a5 := same_new (o := .lst []) hw6
    have T6 := T5.new (o := .lst []) hw6
    have u5 := a1.trans (a2.trans (a3.trans (a4.trans a5)))
    refine ⟨_, rfl, lh, _, rfl, .inl ⟨SqL.of (u5 _ _ L3h), fun th hth => ?_⟩⟩
    have a6 := same_new (o := .tup xs) hth
    have T7 := T6.new (o := .tup xs) hth
    intro d2 hd2
    have a7 := same_new (o := .dK []) hd2
    have T8 := T7.new (o := .dK []) hd2
    have u7 := u5.trans (a6.trans a7)
    refine ⟨_, rfl, lh, _, 0, .int m0, rfl, rfl, SqL.of (u7 _ _ L3h), atL (j := 0) x0, ?_⟩
    refine ⟨_, rfl, (by show 1 ≤ sizeLine; decide), fun w12 hw12 => ?_⟩
    have a8 := same_new (o := .lst [.ref lh]) hw12
    have T9 := T8.new (o := .lst [.ref lh]) hw12
    refine ⟨(by show 1 ≤ sizeLine; decide), fun w13 hw13 => ?_⟩
    have a9 := same_new (o := .lst [.str "1"]) hw13
    have T10 := T9.new (o := .lst [.str "1"]) hw13
    refine ⟨(by show 10 ≤ sizeLine; decide), fun W2 hW2 => ?_⟩
    have a10' := same_new (o := .lst [.ref w4, .ref w5, .ref w6, .non, .ref th, .ref d2, .str "12", .int m0, .ref w12, .ref w13]) hW2
    have u10 := u7.trans (a8.trans (a9.trans a10'))
    refine ⟨W1, W2, _, _, rfl, rfl, u10 _ _ hW1, upd_same, (by show 4 + 10 ≤ sizeLine; decide), fun W3 hW3 => ?_⟩
    have a11 := same_new (o := .lst ([.ref w0, .ref w1, .ref w2, .ref w3] ++ [.ref w4, .ref w5, .ref w6, .non, .ref th, .ref d2, .str "12", .int m0, .ref w12, .ref w13])) hW3
    refine gN (σ' := [some (.ref p), some (.int b), some (.str k.s), some (.ref lh), some (.int most), some (.ref W3), none, none, none]) rfl ?_
    have T11 := (T10.mono a10').new (o := .lst ([.ref w0, .ref w1, .ref w2, .ref w3] ++ [.ref w4, .ref w5, .ref w6, .non, .ref th, .ref d2, .str "12", .int m0, .ref w12, .ref w13])) hW3
    have e0 := a10'.trans a11
    have e1 := a9.trans e0
    have e2 := a8.trans e1
    have e3 := a7.trans e2
    have e4 := a6.trans e3
    have e5 := a5.trans e4
    have e6 := a4.trans e5
    have e7 := a3.trans e6
    refine absP (fun H4 => Same H3 H4 ∧ Track H4 [W3, w13, w12, d2, th, w6, w5, w4, w3, w2, w1, w0, lh] ∧ (∀ c ∈ [W3, w13, w12, d2, th, w6, w5, w4], H3 c = none) ∧ H4 w4 = some (.lst (xs ++ [.bl true])) ∧ H4 w5 = some (.lst (xs ++ [.non])) ∧ H4 w6 = some (.lst []) ∧ H4 th = some (.tup xs) ∧ H4 d2 = some (.dK []) ∧ H4 w12 = some (.lst [.ref lh]) ∧ H4 w13 = some (.lst [.str "1"]) ∧
      H4 W3 = some (.lst [.ref w0, .ref w1, .ref w2, .ref w3, .ref w4, .ref w5, .ref w6, .non, .ref th, .ref d2, .str "12", .int m0, .ref w12, .ref w13])) ⟨u10.trans a11, T11, ?_, e7 _ _ upd_same, e5 _ _ upd_same, e4 _ _ upd_same, e3 _ _ upd_same, e2 _ _ upd_same, e1 _ _ upd_same, e0 _ _ upd_same, upd_same⟩ ?_
    · intro c hc
      simp only [List.mem_cons, List.not_mem_nil, or_false] at hc
      rcases hc with rfl | rfl | rfl | rfl | rfl | rfl | rfl | rfl
      · exact u10.free hW3
      · exact (u7.trans a8).free hw13
      · exact u7.free hw12
      · exact (u5.trans a6).free hd2
      · exact u5.free hth
      · exact (a1.trans (a2.trans (a3.trans a4))).free hw6
      · exact (a1.trans (a2.trans a3)).free hw5
      · exact a1.free hw4
    clear a1 a2 a3 a4 a5 a6 a7 a8 a9 a10' a11 u5 u7 u10 e0 e1 e2 e3 e4 e5 e6 e7 T4 T5 T6 T7 T8 T9 T10 T11 hW3 hW2 hw13 hw12 hd2 hth hw6 hw5 hw4 hc5 hc6 ts0
    rintro H4 ⟨s34, T4, fr4, i4, i5, i6, ith, id2, i12, i13, hW3⟩
    have L4h := s34 _ _ L3h
    -- wrong.append(heads[:1] + heads)
    refine ⟨_, rfl, .inl ⟨rfl, _, SqL.of hW3⟩, _, rfl, _, rfl, lh, _, rfl, SqL.of L4h, fun c7 hc7 => ?_⟩
    have a1 := same_new (o := .lst (cutV xs none (some 1))) hc7
    have ec : cutV xs none (some 1) = [.int m0] := by
      show cutV xs none (some ((1 : Nat) : Int)) = _
      rw [cut_to, exs]
      rfl
    refine ⟨_, rfl, c7, lh, _, _, rfl, rfl, upd_same, a1 _ _ L4h, by rw [ec]; exact fit2 (by show 1 ≤ 5; decide), fun w14 hw14 => ?_⟩
    have a2 := same_new (o := .lst (cutV xs none (some 1) ++ xs)) hw14
    refine ⟨W3, _, _, rfl, rfl, (a1.trans a2) _ _ hW3, (by show 14 < sizeLine; decide), ?_⟩
    have T5 := (T4.mono a1).new (o := .lst (cutV xs none (some 1) ++ xs)) hw14
    have nW : ∀ c ∈ [w14, w13, w12, d2, th, w6, w5, w4, w3, w2, w1, w0, lh], c ≠ W3 := by
      intro c hc z
      have nd := T5.1
      rw [z] at hc
      simp only [List.nodup_cons, List.mem_cons, List.not_mem_nil, or_false, not_or] at nd hc
      rcases hc with h | h | h | h | h | h | h | h | h | h | h | h | h
      · exact nd.1.1 h.symm
      · exact nd.2.1.1 h
      · exact nd.2.1.2.1 h
      · exact nd.2.1.2.2.1 h
      · exact nd.2.1.2.2.2.1 h
      · exact nd.2.1.2.2.2.2.1 h
      · exact nd.2.1.2.2.2.2.2.1 h
      · exact nd.2.1.2.2.2.2.2.2.1 h
      · exact nd.2.1.2.2.2.2.2.2.2.1 h
      · exact nd.2.1.2.2.2.2.2.2.2.2.1 h
      · exact nd.2.1.2.2.2.2.2.2.2.2.2.1 h
      · exact nd.2.1.2.2.2.2.2.2.2.2.2.2.1 h
      · exact nd.2.1.2.2.2.2.2.2.2.2.2.2.2 h
    have wp : W3 ≠ p := np W3 (kH3.free P3 (fr4 W3 (by simp)))
    have kW : ∀ c o, c ≠ W3 → H4 c = some o → upd (upd (upd H4 c7 (.lst (cutV xs none (some 1)))) w14 (.lst (cutV xs none (some 1) ++ xs))) W3 (.lst ([.ref w0, .ref w1, .ref w2, .ref w3, .ref w4, .ref w5, .ref w6, .non, .ref th, .ref d2, .str "12", .int m0, .ref w12, .ref w13] ++ [.ref w14])) c = some o := fun c o n e => by
      rw [upd_ne n]
      exact (a1.trans a2) _ _ e
    refine absP (fun H5 => (∀ c o, c ≠ W3 → H4 c = some o → H5 c = some o) ∧ Track H5 [w14, w13, w12, d2, th, w6, w5, w4, w3, w2, w1, w0, lh] ∧ H4 w14 = none ∧ H5 w14 = some (.lst ([.int m0] ++ xs)) ∧
      H5 W3 = some (.lst [.ref w0, .ref w1, .ref w2, .ref w3, .ref w4, .ref w5, .ref w6, .non, .ref th, .ref d2, .str "12", .int m0, .ref w12, .ref w13, .ref w14])) ⟨kW, ?_, a1.free hw14, ?_, upd_same⟩ ?_
    · refine ⟨?_, fun c hc z => ?_⟩
      · have nd := T5.1
        rw [List.nodup_cons] at nd ⊢
        exact ⟨fun z => nd.1 (List.mem_cons_of_mem _ z), (List.nodup_cons.mp nd.2).2⟩
      · rw [upd_ne (nW c hc)] at z
        refine T5.2 c ?_ z
        rcases List.mem_cons.mp hc with h | h
        · rw [h]
          exact List.mem_cons_self ..
        · exact List.mem_cons_of_mem _ (List.mem_cons_of_mem _ h)
    · rw [upd_ne (nW w14 (by simp)), upd_same, ec]
    clear a1 a2 T5 kW hw14 hc7
    rintro H5 ⟨k5, T5, fr5, i14, hW⟩
    have L5h : H5 lh = some (.lst xs) := k5 _ _ (nW lh (by simp)) L4h
    have W : Wrg H5 b (m0 :: r) n lh w0 w1 w2 w3 w4 w5 w6 th d2 w12 w13 w14 := by
      refine ⟨?_, ?_, ?_, ?_, ?_, ?_, ?_, ?_, ?_, ?_, ?_, ?_, ?_, ?_⟩ <;> (try rw [← exs])
      · exact k5 _ _ (nW w0 (by simp)) (s34 _ _ (s23 _ _ j0))
      · exact k5 _ _ (nW w1 (by simp)) (s34 _ _ (s23 _ _ j1))
      · exact k5 _ _ (nW w2 (by simp)) (s34 _ _ i2)
      · exact k5 _ _ (nW w3 (by simp)) (s34 _ _ i3)
      · exact k5 _ _ (nW w4 (by simp)) i4
      · exact k5 _ _ (nW w5 (by simp)) i5
      · exact k5 _ _ (nW w6 (by simp)) i6
      · exact k5 _ _ (nW th (by simp)) ith
      · exact k5 _ _ (nW d2 (by simp)) id2
      · exact k5 _ _ (nW w12 (by simp)) i12
      · exact k5 _ _ (nW w13 (by simp)) i13
      · exact i14
      · exact L5h
      · intro z
        have nd := T5.1
        rw [z] at nd
        simp at nd
    have w3f : H W3 = none := kH3.free P3 (fr4 W3 (by simp))
    have kH5 : Kp p H H5 := fun c o nc e => k5 c o (fun z => by rw [z, w3f] at e; cases e) (s34 _ _ (kH3 c o nc e))
    have P5 : Purse H5 p (t + 1) := by
      obtain ⟨x1, x2, x3, hp, rest⟩ := P3.same s34
      exact ⟨x1, x2, x3, k5 _ _ (Ne.symm wp) hp, rest⟩
    have frW : ∀ c ∈ [w14, w13, w12, d2, th, w6, w5, w4, w3, w2, w1, w0], H c = none := by
      intro c hc
      have f3 : ∀ c, H3 c = none → H c = none := fun c h => kH3.free P3 h
      have f2 : ∀ c, H2 c = none → H c = none := fun c h => kH2.free P2 h
      rcases List.mem_cons.mp hc with h | h
      · rw [h]
        exact f3 _ (s34.free fr5)
      · have h : c ∈ [w13, w12, d2, th, w6, w5, w4] ++ ([w3, w2] ++ [w1, w0]) := h
        rcases List.mem_append.mp h with h | h
        · exact f3 c (fr4 c (List.mem_cons_of_mem _ h))
        · rcases List.mem_append.mp h with h | h
          · exact f2 c (fr3 c h)
          · exact fr1 c h
    have DR : Drw b k (m0 :: r) most := ⟨b2, b10, h4, hne, hnd, h25, hm, hm10⟩
    clear k5 fr5 i14 nW fr4 i4 i5 i6 ith id2 i12 i13 hW3 L4h s34 i2 i3 fr3 hW1 T3 L3h P3 kH3 s23 j0 j1 L2h P2 kH2 fr1' k2 T2 T4 i0 i1 fr1 T1 s1 P1 T0
    -- other bases
    refine ⟨_, _, rfl, rfl, (by show 1 ≤ sizeLine; decide), fun a10 ha10 => ?_⟩
    have a1 := same_new (o := .lst [.int 10]) ha10
    refine ⟨(by show 1 ≤ sizeLine; decide), fun t10 ht10 => ?_⟩
    have a2 := same_new (o := .tup [.int 10]) ht10
    refine ⟨(by show 8 ≤ sizeLine; decide), fun S1 hS1 => ?_⟩
    have a3 := same_new (o := .lst (src1 a10 t10)) hS1
    refine absP (fun G1 => Same H5 G1 ∧ Track G1 [a10, w14, w13, w12, d2, th, w6, w5, w4, w3, w2, w1, w0, lh] ∧ G1 a10 = some (.lst [.int 10]) ∧ G1 t10 = some (.tup [.int 10]) ∧ G1 S1 = some (.lst (src1 a10 t10))) ⟨a1.trans (a2.trans a3), (T5.new ha10).mono (a2.trans a3), (a2.trans a3) _ _ upd_same, a3 _ _ upd_same, upd_same⟩ ?_
    have fa10 : H5 a10 = none := ha10
    clear a1 a2 a3 hS1 ht10 ha10
    rintro G1 ⟨s5, Tg1, ga10, gt10, gS1⟩
    have L6h := s5 _ _ L5h
    refine ⟨S1, rfl, ⟨_, SqL.of gS1⟩, fun D1 hD1 => lc_list (K := K) (a := S1) (xs := src1 a10 t10) (fun i H' => ∃ es, Acc K A [lh, a10] G1 D1 i H' es) ⟨[], Acc.nil hD1⟩ ?_ ?_ ?_⟩
    · rintro i H' _ ⟨es, ac⟩
      exact SqL.of (ac.s _ _ gS1)
    · rintro i x H' hi ⟨es, ac⟩
      refine ⟨rfl, yes_of ?_⟩
      refine ⟨_, rfl, _, rfl, _, rfl, lh, _, rfl, .inl (SqL.of (ac.s _ _ L6h)), fun l hl => ⟨_, rfl, (by show 4 ≤ sizeLine; decide), fun tt htt => ?_⟩⟩
      refine ⟨_, ((same_new hl).trans (same_new htt)) _ _ ac.at_, ?_, _, Acc.grow (nd0 := [(a10, .lst [.int 10]), (t10, .tup [.int 10])]) ac hD1 hl htt ?_ ?_ ?_⟩
      · rw [List.length_map, ac.n]
        have : i < 8 := (List.getElem?_eq_some_iff.mp hi).1
        exact small1000 (by omega)
      · intro z hz
        simp only [List.mem_cons, List.not_mem_nil, or_false] at hz
        rcases hz with rfl | rfl
        · exact ga10
        · exact gt10
      · intro z hz
        simp only [List.mem_cons, List.not_mem_nil, or_false] at hz
        rcases hz with rfl | rfl
        · exact .inr (by simp)
        · exact .inl fun xs y => by cases y
      · intro H'' hh hl2 nl
        obtain ⟨d, c, bx⟩ := odd_base (K := K) (H := H'') (l := l) (hh _ (by simp)) (hh _ (by simp)) (nl _ (List.mem_cons_self ..)) (nl _ (List.mem_cons_of_mem _ (List.mem_cons_self ..))) x (List.mem_of_getElem? hi)
        exact pre_base DR (by rw [← exs]; exact hl2) c bx
    rintro H6 ⟨es1, ac1⟩
    have e8 : (src1 a10 t10).length = 8 := rfl
    rw [e8] at ac1
    refine gN (σ' := [some (.ref p), some (.int b), some (.str k.s), some (.ref lh), some (.int most), some (.ref W3), some (.ref D1), none, none]) rfl ?_
    have Tg2 : Track H6 (vms es1 ++ [a10, w14, w13, w12, d2, th, w6, w5, w4, w3, w2, w1, w0, lh]) := Tg1.block ac1.s ac1.nd (fun c hc => (ac1.fr c hc).1) (fun c hc => (ac1.fr c hc).2)
    have s6 : Same H5 H6 := s5.trans ac1.s
    have fr6 : ∀ c ∈ vms es1, H5 c = none := fun c hc => s5.free (ac1.fr c hc).1
    have L7h := s6 _ _ L5h
    have n1 := ac1.n
    have at1 := ac1.at_
    have ok1 : ∀ e ∈ es1, ∃ nd, EntOk K A [lh, a10] e nd ∧ Holds nd H6 := fun e he => by
      obtain ⟨nd, o, hh, _⟩ := ac1.ok e he
      exact ⟨nd, o, hh⟩
    clear ac1 L6h gS1 gt10 ga10 Tg1 s5
    -- other kinds
    refine ⟨(by show 1 ≤ sizeLine; decide), fun ain hain => ?_⟩
    have a1 := same_new (o := .lst [.str "inside"]) hain
    refine ⟨(by show 1 ≤ sizeLine; decide), fun tc htc => ?_⟩
    have a2 := same_new (o := .tup [.str "cover"]) htc
    intro d1 hd1
    have a3 := same_new (o := .dK []) hd1
    refine ⟨(by show 8 ≤ sizeLine; decide), fun S2 hS2 => ?_⟩
    have a4 := same_new (o := .lst (src2 ain tc d1)) hS2
    refine gN (σ' := [some (.ref p), some (.int b), some (.str k.s), some (.ref lh), some (.int most), some (.ref W3), some (.ref D1), none, some (.ref S2)]) rfl ?_
    refine absP (fun G2 => Same H6 G2 ∧ Track G2 (ain :: (vms es1 ++ [a10, w14, w13, w12, d2, th, w6, w5, w4, w3, w2, w1, w0, lh])) ∧ G2 ain = some (.lst [.str "inside"]) ∧ G2 tc = some (.tup [.str "cover"]) ∧ G2 d1 = some (.dK []) ∧ G2 S2 = some (.lst (src2 ain tc d1)))
      ⟨a1.trans (a2.trans (a3.trans a4)), (Tg2.new hain).mono (a2.trans (a3.trans a4)), (a2.trans (a3.trans a4)) _ _ upd_same, (a3.trans a4) _ _ upd_same, a4 _ _ upd_same, upd_same⟩ ?_
    have fain : H6 ain = none := hain
    clear a1 a2 a3 a4 hS2 hd1 htc hain
    rintro G2 ⟨s7, Tg3, gain, gtc, gd1, gS2⟩
    have L8h := s7 _ _ L7h
    refine ⟨_, rfl, _, rfl, S2, rfl, ⟨_, SqL.of gS2⟩, fun D2 hD2 => lc_list (K := K) (a := S2) (xs := src2 ain tc d1) (fun i H' => ∃ es, Acc K A [lh, ain] G2 D2 i H' es) ⟨[], Acc.nil hD2⟩ ?_ ?_ ?_⟩
    · rintro i H' _ ⟨es, ac⟩
      exact SqL.of (ac.s _ _ gS2)
    · rintro i x H' hi ⟨es, ac⟩
      refine ⟨rfl, yes_of ?_⟩
      refine ⟨_, rfl, _, rfl, _, rfl, lh, _, rfl, .inl (SqL.of (ac.s _ _ L8h)), fun l hl => ⟨_, rfl, (by show 4 ≤ sizeLine; decide), fun tt htt => ?_⟩⟩
      refine ⟨_, ((same_new hl).trans (same_new htt)) _ _ ac.at_, ?_, _, Acc.grow (nd0 := [(ain, .lst [.str "inside"]), (tc, .tup [.str "cover"]), (d1, .dK [])]) ac hD2 hl htt ?_ ?_ ?_⟩
      · rw [List.length_map, ac.n]
        have : i < 8 := (List.getElem?_eq_some_iff.mp hi).1
        exact small1000 (by omega)
      · intro z hz
        simp only [List.mem_cons, List.not_mem_nil, or_false] at hz
        rcases hz with rfl | rfl | rfl
        · exact gain
        · exact gtc
        · exact gd1
      · intro z hz
        simp only [List.mem_cons, List.not_mem_nil, or_false] at hz
        rcases hz with rfl | rfl | rfl
        · exact .inr (by simp)
        · exact .inl fun xs y => by cases y
        · exact .inl fun xs y => by cases y
      · intro H'' hh hl2 nl
        obtain ⟨d, T, c, ty, bx⟩ := odd_kind (K := K) (A := A) (H := H'') (l := l) (hh _ (by simp)) (hh _ (by simp)) (hh _ (by simp)) (nl _ (List.mem_cons_self ..)) (nl _ (List.mem_cons_of_mem _ (List.mem_cons_self ..))) (nl _ (List.mem_cons_of_mem _ (List.mem_cons_of_mem _ (List.mem_cons_self ..)))) z1 z2 z3 x (List.mem_of_getElem? hi)
        exact pre_kind DR (by rw [← exs]; exact hl2) c ty bx
    rintro H7 ⟨es2, ac2⟩
    have e8 : (src2 ain tc d1).length = 8 := rfl
    rw [e8] at ac2
    have n2 := ac2.n
    have at2 := ac2.at_
    have s67 : Same H6 H7 := s7.trans ac2.s
    have Tg4 : Track H7 (vms es2 ++ (ain :: (vms es1 ++ [a10, w14, w13, w12, d2, th, w6, w5, w4, w3, w2, w1, w0, lh]))) := Tg3.block ac2.s ac2.nd (fun c hc => (ac2.fr c hc).1) (fun c hc => (ac2.fr c hc).2)
    have fr7 : ∀ c ∈ vms es2, H6 c = none := fun c hc => s7.free (ac2.fr c hc).1
    have ok2 : ∀ e ∈ es2, ∃ nd, EntOk K A [lh, ain] e nd ∧ Holds nd H7 := fun e he => by
      obtain ⟨nd, o, hh, _⟩ := ac2.ok e he
      exact ⟨nd, o, hh⟩
    clear ac2 gS2 gd1 gtc gain hD2 Tg3 L8h s7
    refine ⟨D1, D2, _, _, rfl, rfl, s67 _ _ at1, at2, by rw [List.length_map, List.length_map, n1, n2]; show 16 ≤ sizeLine; decide, fun R2 hR2 => ?_⟩
    have a1 := same_new (o := .lst (es1.map (fun e => V.ref e.t) ++ es2.map (fun e => V.ref e.t))) hR2
    refine gN (σ' := [some (.ref p), some (.int b), some (.str k.s), some (.ref lh), some (.int most), some (.ref W3), some (.ref R2), none, some (.ref S2)]) rfl ?_
    refine absP (fun H8 => Same H7 H8 ∧ H8 R2 = some (.lst (es1.map (fun e => V.ref e.t) ++ es2.map (fun e => V.ref e.t)))) ⟨a1, upd_same⟩ ?_
    clear a1 hR2
    rintro H8 ⟨s78, at8⟩
    have Tg5 := Tg4.mono s78
    have s58 : Same H5 H8 := s6.trans (s67.trans s78)
    have W8 := W.mono s58
    have hW8 := s58 _ _ hW
    have L9h := s58 _ _ L5h
    -- other mantissas
    have hW8 : H8 W3 = some (.lst (src3 m0 w0 w1 w2 w3 w4 w5 w6 th d2 w12 w13 w14)) := hW8
    refine ⟨_, rfl, _, rfl, W3, rfl, ⟨_, SqL.of hW8⟩, fun D3 hD3 => lc_list (K := K) (a := W3) (xs := src3 m0 w0 w1 w2 w3 w4 w5 w6 th d2 w12 w13 w14) (fun i H' => ∃ es, AccW K A [lh] H8 D3 (src3 m0 w0 w1 w2 w3 w4 w5 w6 th d2 w12 w13 w14) i H' es) ⟨[], AccW.nil hD3⟩ ?_ ?_ ?_⟩
    · rintro i H' _ ⟨es, ac⟩
      exact SqL.of (ac.s _ _ hW8)
    · rintro i x H' hi ⟨es, ac⟩
      refine ⟨rfl, yes_of ?_⟩
      obtain ⟨nd0, o1, o2, o3⟩ := odd_mant (K := K) (A := A) DR n0 n9 W8 x (List.mem_of_getElem? hi)
      refine ⟨_, rfl, _, rfl, _, rfl, _, rfl, (by show 4 ≤ sizeLine; decide), fun tt htt => ?_⟩
      refine ⟨_, (same_new htt) _ _ ac.at_, ?_, _, AccW.grow (nd0 := nd0) ac hD3 htt hi o1 ?_ o3⟩
      · rw [List.length_map, ac.n]
        have : i < 15 := (List.getElem?_eq_some_iff.mp hi).1
        exact small1000 (by omega)
      · intro z hz
        rcases o2 z hz with h | h | h
        · exact .inl h
        · exact .inr (.inl h)
        · exact .inr (.inr (by rw [h]; exact List.mem_cons_self ..))
    rintro H9 ⟨es3, ac3⟩
    have e15 : (src3 m0 w0 w1 w2 w3 w4 w5 w6 th d2 w12 w13 w14).length = 15 := rfl
    rw [e15] at ac3
    have n3 := ac3.n
    have at3 := ac3.at_
    have vm3 : es3.map (·.vm) = src3 m0 w0 w1 w2 w3 w4 w5 w6 th d2 w12 w13 w14 := ac3.vm
    have s89 := ac3.s
    have ok3 : ∀ e ∈ es3, ∃ nd, EntOk K A [lh] e nd ∧ Holds nd H9 := fun e he => by
      obtain ⟨nd, o, hh, _⟩ := ac3.ok e he
      exact ⟨nd, o, hh⟩
    clear ac3 hW8 W8 hD3
    refine ⟨R2, D3, _, _, rfl, rfl, s89 _ _ at8, at3, by rw [List.length_append, List.length_map, List.length_map, List.length_map, n1, n2, n3]; show 31 ≤ sizeLine; decide, fun R3 hR3 => ?_⟩
    have a1 := same_new (o := .lst (es1.map (fun e => V.ref e.t) ++ es2.map (fun e => V.ref e.t) ++ es3.map (fun e => V.ref e.t))) hR3
    refine gN (σ' := [some (.ref p), some (.int b), some (.str k.s), some (.ref lh), some (.int most), some (.ref W3), some (.ref R3), none, some (.ref S2)]) rfl ?_
    refine absP (fun H10 => Same H9 H10 ∧ H10 R3 = some (.lst (es1.map (fun e => V.ref e.t) ++ es2.map (fun e => V.ref e.t) ++ es3.map (fun e => V.ref e.t)))) ⟨a1, upd_same⟩ ?_
    clear a1 hR3
    rintro H10 ⟨s910, at10⟩
    have Tg6 := (Tg5.mono s89).mono s910
    have s510 : Same H5 H10 := s58.trans (s89.trans s910)
    have L10h := s510 _ _ L5h
    -- other numbers
    obtain ⟨nk, hnk, nk0, nkl⟩ : ∃ nk : Int, nk = (if decide (V.str k.s = V.str "cover") = true then 1 else 0) ∧ 0 ≤ nk ∧ nk < k.least := by
      refine ⟨_, rfl, ?_, ?_⟩ <;> cases k <;> decide
    refine ⟨_, rfl, _, _, rfl, rfl, (by show 1 ≤ sizeLine; decide), fun a2 ha2 => ?_⟩
    have c1 := same_new (o := .lst [.int 2]) ha2
    have Tg7 := Tg6.new (o := .lst [.int 2]) ha2
    refine ⟨_, rfl, rfl, .inr ⟨_, rfl, (by show 7 ≤ sizeLine; decide), fun S4 hS4 => ?_⟩⟩
    rw [← hnk]
    have c2 := same_new (o := .lst (src4 a2 nk)) hS4
    refine absP (fun G4 => Same H10 G4 ∧ Track G4 (a2 :: (vms es2 ++ (ain :: (vms es1 ++ [a10, w14, w13, w12, d2, th, w6, w5, w4, w3, w2, w1, w0, lh])))) ∧ G4 a2 = some (.lst [.int 2]) ∧ G4 S4 = some (.lst (src4 a2 nk))) ⟨c1.trans c2, Tg7.mono c2, c2 _ _ upd_same, upd_same⟩ ?_
    have fa2 : H10 a2 = none := ha2
    clear c1 c2 Tg7 hS4 ha2
    rintro G4 ⟨s11, Tg8, ga2, gS4⟩
    have L11h := s11 _ _ L10h
    refine ⟨S4, rfl, ⟨_, SqL.of gS4⟩, fun D4 hD4 => lc_list (K := K) (a := S4) (xs := src4 a2 nk) (fun i H' => ∃ es, Acc K A [lh, a2] G4 D4 i H' es) ⟨[], Acc.nil hD4⟩ ?_ ?_ ?_⟩
    · rintro i H' _ ⟨es, ac⟩
      exact SqL.of (ac.s _ _ gS4)
    · rintro i x H' hi ⟨es, ac⟩
      refine ⟨rfl, yes_of ?_⟩
      refine ⟨_, rfl, _, rfl, _, rfl, lh, _, rfl, .inl (SqL.of (ac.s _ _ L11h)), fun l hl => ⟨_, rfl, (by show 4 ≤ sizeLine; decide), fun tt htt => ?_⟩⟩
      refine ⟨_, ((same_new hl).trans (same_new htt)) _ _ ac.at_, ?_, _, Acc.grow (nd0 := [(a2, .lst [.int 2])]) ac hD4 hl htt ?_ ?_ ?_⟩
      · rw [List.length_map, ac.n]
        have : i < 7 := (List.getElem?_eq_some_iff.mp hi).1
        exact small1000 (by omega)
      · intro z hz
        rw [List.mem_singleton.mp hz]
        exact ga2
      · intro z hz
        rw [List.mem_singleton.mp hz]
        exact .inr (by simp)
      · intro H'' hh hl2 nl
        obtain ⟨d, c, bx⟩ := odd_most (K := K) (H := H'') (l := l) (n := nk) (k := k) (hh _ (by simp)) (nl _ (List.mem_cons_self ..)) ⟨nk0, nkl⟩ x (List.mem_of_getElem? hi)
        exact pre_most DR (by rw [← exs]; exact hl2) c bx
    rintro H11 ⟨es4, ac4⟩
    have e7 : (src4 a2 nk).length = 7 := rfl
    rw [e7] at ac4
    have n4 := ac4.n
    have at4 := ac4.at_
    have s1011 : Same H10 H11 := s11.trans ac4.s
    have Tg9 : Track H11 (vms es4 ++ (a2 :: (vms es2 ++ (ain :: (vms es1 ++ [a10, w14, w13, w12, d2, th, w6, w5, w4, w3, w2, w1, w0, lh]))))) := Tg8.block ac4.s ac4.nd (fun c hc => (ac4.fr c hc).1) (fun c hc => (ac4.fr c hc).2)
    have fr11 : ∀ c ∈ vms es4, H10 c = none := fun c hc => s11.free (ac4.fr c hc).1
    have ok4 : ∀ e ∈ es4, ∃ nd, EntOk K A [lh, a2] e nd ∧ Holds nd H11 := fun e he => by
      obtain ⟨nd, o, hh, _⟩ := ac4.ok e he
      exact ⟨nd, o, hh⟩
    clear ac4 gS4 ga2 hD4 Tg8 L11h s11
    refine ⟨R3, D4, _, _, rfl, rfl, s1011 _ _ at10, at4, by rw [List.length_append, List.length_append, List.length_map, List.length_map, List.length_map, List.length_map, n1, n2, n3, n4]; show 38 ≤ sizeLine; decide, fun R hR => ?_⟩
    obtain ⟨es, hes⟩ : ∃ es, es = es1 ++ es2 ++ es3 ++ es4 := ⟨_, rfl⟩
    have em : es1.map (fun e => V.ref e.t) ++ es2.map (fun e => V.ref e.t) ++ es3.map (fun e => V.ref e.t) ++ es4.map (fun e => V.ref e.t) = es.map fun e => V.ref e.t := by
      rw [hes, List.map_append, List.map_append, List.map_append]
    rw [em]
    have v3 : vms es3 = [w0, w1, w2, w3, w4, w5, w6, th, d2, w12, w13, w14] := by
      have : vms es3 = (es3.map (·.vm)).filterMap refOf := by
        rw [List.filterMap_map]
        rfl
      rw [this, vm3]
      rfl
    have sR := same_new (o := .lst (es.map fun e => V.ref e.t)) hR
    have s5R : Same H5 H11 := s510.trans s1011
    have s6R : Same H6 H11 := s67.trans (s78.trans (s89.trans (s910.trans s1011)))
    have s7R : Same H7 H11 := s78.trans (s89.trans (s910.trans s1011))
    have ev : vms es = vms es1 ++ vms es2 ++ [w0, w1, w2, w3, w4, w5, w6, th, d2, w12, w13, w14] ++ vms es4 := by
      rw [hes, vms_app, vms_app, vms_app, v3]
    have nd : (vms es ++ [lh, a10, ain, a2]).Nodup := by
      rw [ev]
      exact nd_perm Tg9.1
    have blm : ∀ {e : Ent} {bl : List Addr} {H' : Hp}, (∀ c ∈ bl, c ∈ [lh, a10, ain, a2]) → Same H' (upd H11 R (.lst (es.map fun e => V.ref e.t))) → (∃ nd, EntOk K A bl e nd ∧ Holds nd H') → ∃ nd, EntOk K A [lh, a10, ain, a2] e nd ∧ Holds nd (upd H11 R (.lst (es.map fun e => V.ref e.t))) := by
      rintro e bl H' hb s ⟨nd, o, hh⟩
      exact ⟨nd, o.mono hb, hh.same s⟩
    have ok : ∀ e ∈ es, ∃ nd, EntOk K A [lh, a10, ain, a2] e nd ∧ Holds nd (upd H11 R (.lst (es.map fun e => V.ref e.t))) := by
      intro e he
      rw [hes] at he
      rcases List.mem_append.mp he with he | he
      · rcases List.mem_append.mp he with he | he
        · rcases List.mem_append.mp he with he | he
          · exact blm (by simp) (s6R.trans sR) (ok1 e he)
          · exact blm (by simp) (s7R.trans sR) (ok2 e he)
        · exact blm (by simp) ((s910.trans s1011).trans sR) (ok3 e he)
      · exact blm (by simp) sR (ok4 e he)
    have f5 : ∀ c, H5 c = none → H c = none := fun c h => kH5.free P5 h
    have frA : ∀ c ∈ vms es, H c = none := by
      intro c hc
      rw [ev] at hc
      rcases List.mem_append.mp hc with hc | hc
      · rcases List.mem_append.mp hc with hc | hc
        · rcases List.mem_append.mp hc with hc | hc
          · exact f5 c (fr6 c hc)
          · exact f5 c (s6.free (fr7 c hc))
        · refine frW c ?_
          simp only [List.mem_cons, List.not_mem_nil, or_false] at hc ⊢
          rcases hc with h | h | h | h | h | h | h | h | h | h | h | h <;> simp [h]
      · exact f5 c (s510.free (fr11 c hc))
    refine q _ R es ((kH5.trans (Same.kp s5R p)).trans (Same.kp sR p)) ((P5.same s5R).same sR) (f5 _ (s5R.free hR)) upd_same (by rw [hes, List.length_append, List.length_append, List.length_append, n1, n2, n3, n4]; decide) ?_ ?_
    · intro i e hi H'' fr
      exact ready ok nd hi fr
    · intro e he c hc
      have m := mem_vms he hc
      refine ⟨frA c m, fun z => ?_⟩
      refine Tg9.2 c ?_ (by rw [z]; exact hR)
      rw [ev] at m
      simp only [List.mem_append, List.mem_cons, List.not_mem_nil, or_false] at m ⊢
      rcases m with ((m | m) | m) | m
      · simp [m]
      · simp [m]
      · rcases m with h | h | h | h | h | h | h | h | h | h | h | h <;> simp [h]
      · simp [m]
end
end Ax

namespace L2
open PySem PySem.Spec PyProof.Rows
theorem call_repr_bl {X : Cx} : CallR X (.builtin "repr") (fun xs H Q => ∃ b, xs = [.bl b] ∧ Q (.str (if b then "True" else "False")) H) := by
  intro pins s σ H xs us Q I r h
  obtain ⟨b, rfl, q⟩ := h
  obtain ⟨u, rfl, ru⟩ : ∃ u, us = [u] ∧ RelV (.bl b) u := by
    cases r with
    | cons h t =>
      cases t
      exact ⟨_, rfl, h⟩
  cases ru
  exact PySem.P.repr_of_bool ⟨.str _, H, I.tok _, ⟨_, rfl⟩, q⟩
end L2
namespace Ax
open PySem L2
theorem notInK (K : PySem.W.Frag) {X : Cx} (h : X.K = K := by rfl) : OpR X (compareOp .NotIn) (rIn K true) := h ▸ op_notIn_seq
theorem slK (K : PySem.W.Frag) {X : Cx} (h : X.K = K := by rfl) : SlR X (rSlL K) := h ▸ sl_list
theorem ixT (K : PySem.W.Frag) {X : Cx} (h : X.K = K := by rfl) : IxR X (rIxT K) := h ▸ ix_tup
theorem inV_ints (x : Int) : ∀ xs : List Int, inV (.int x) (xs.map V.int) = decide (x ∈ xs)
  | [] => by simp [inV]
  | y :: r => by
    have ih := inV_ints x r
    unfold inV at ih ⊢
    rw [List.map_cons, List.any_cons, ih]
    show (y == x || _) = _
    by_cases h : y = x
    · subst h
      simp
    · have h' : ¬ x = y := fun z => h z.symm
      simp [h, h']
theorem flat_ints (xs : List Int) : (xs.map V.int).all flatV = true := by
  rw [List.all_map]
  exact List.all_eq_true.mpr fun _ _ => rfl
theorem cut_from (xs : List V) (n : Nat) : cutV xs (some (n : Int)) none = xs.drop n := by
  unfold cutV HT.sIx
  simp
  rw [if_neg (by omega)]
  by_cases h : n ≤ xs.length
  · rw [Nat.min_eq_left (by omega), List.take_of_length_le (by rw [List.length_drop]; omega)]
  · rw [List.drop_eq_nil_of_le (by omega), List.drop_eq_nil_of_le (by omega)]
    simp
theorem turned {hs : List Int} {n n2 : Int} (n0 : 0 ≤ n) (nl : n < hs.length) (m0 : 0 ≤ n2) : ∃ xs : List Int, cutV (hs.map V.int) (some n) none ++ cutV (hs.map V.int) none (some n2) = xs.map V.int ∧ xs ≠ [] ∧ (∀ m ∈ xs, m ∈ hs) ∧ xs.length ≤ hs.length + hs.length := by
  obtain ⟨i, rfl⟩ := Int.eq_ofNat_of_zero_le n0
  obtain ⟨j, rfl⟩ := Int.eq_ofNat_of_zero_le m0
  refine ⟨hs.drop i ++ hs.take j, ?_, fun z => ?_, fun m hm => ?_, ?_⟩
  · rw [cut_from, cut_to, List.map_append, List.map_drop, List.map_take]
  · have := congrArg List.length z
    rw [List.length_append, List.length_drop] at this
    have h : ([] : List Int).length = 0 := rfl
    omega
  · rcases List.mem_append.mp hm with h | h
    · exact List.mem_of_mem_drop h
    · exact List.mem_of_mem_take h
  · rw [List.length_append, List.length_drop, List.length_take]
    omega
/-! ### sorted parts -/
theorem sub_of_sorted : ∀ {L l : List Int}, l.Pairwise (· < ·) → L.Pairwise (· < ·) → (∀ m ∈ l, m ∈ L) → l.Sublist L
  | [], [], _, _, _ => .slnil
  | [], m :: _, _, _, h => nomatch h m (List.mem_cons_self ..)
  | _ :: _, [], _, _, _ => List.nil_sublist _
  | a :: R, b :: r, hl, hL, h => by
    have l2 := List.pairwise_cons.mp hl
    have L2 := List.pairwise_cons.mp hL
    by_cases e : b = a
    · subst e
      refine .cons_cons _ (sub_of_sorted l2.2 L2.2 fun m hm => ?_)
      rcases List.mem_cons.mp (h m (List.mem_cons_of_mem _ hm)) with z | z
      · have := l2.1 m hm
        omega
      · exact z
    · have hb : b ∈ R := by
        rcases List.mem_cons.mp (h b (List.mem_cons_self ..)) with z | z
        · exact absurd z e
        · exact z
      have ab := L2.1 b hb
      refine .cons _ (sub_of_sorted hl L2.2 fun m hm => ?_)
      rcases List.mem_cons.mp (h m hm) with z | z
      · rcases List.mem_cons.mp hm with y | y
        · omega
        · have := l2.1 m y
          omega
      · exact z
theorem strict_isort {l : List Int} (nd : l.Nodup) : (isort l).Pairwise (· < ·) := by
  have nd' : (isort l).Nodup := (isort_perm l).nodup_iff.mpr nd
  have s := isort_sorted l
  generalize isort l = q at nd' s
  induction q with
  | nil => exact .nil
  | cons a r ih =>
    have n2 := List.nodup_cons.mp nd'
    have s2 := List.pairwise_cons.mp s
    refine List.pairwise_cons.mpr ⟨fun m hm => ?_, ih n2.2 s2.2⟩
    have h1 := s2.1 m hm
    have h2 : a ≠ m := fun z => n2.1 (by rw [z]; exact hm)
    omega
theorem fam_sorted : ∀ b ∈ BASES, ∀ is ∈ FAM1 ++ FAM2, (famOf b is).Pairwise (· < ·) := by decide +kernel
theorem Fam.strict {b : Int} {ms : List Int} (h : Fam b ms) : ms.Pairwise (· < ·) := by
  obtain ⟨h1, is, h2, rfl⟩ := h
  exact fam_sorted b h1 is h2
/-- what is kept of drawn heads -/
theorem Fam.sub {b : Int} {ms g : List Int} (h : Fam b ms) (nd : g.Nodup) (sub : ∀ m ∈ g, m ∈ ms) : (isort g).Sublist ms :=
  sub_of_sorted (strict_isort nd) h.strict fun m hm => sub m ((isort_perm g).mem_iff.mp hm)
theorem Fam.drawn {b most : Int} {k : Kd} {ms hs g : List Int} (h : Fam b ms) (D : Drawn b k hs most) (nd : g.Nodup) (ne : g ≠ []) (sub : ∀ m ∈ g, m ∈ ms) : Drawn b k g most := by
  have Fo := h.ok
  refine ⟨D.b2, D.b10, D.m1, D.m6, D.mC, ne, ?_, nd, fun m hm => Fo.2.2.2.2 m (sub m hm)⟩
  rw [← (isort_perm g).length_eq]
  exact Nat.le_trans (h.sub nd sub).length_le Fo.2.2.1
theorem Drawn.sort {b most : Int} {k : Kd} {g : List Int} (D : Drawn b k g most) : Drawn b k (isort g) most := by
  have p := isort_perm g
  exact ⟨D.b2, D.b10, D.m1, D.m6, D.mC, fun z => D.ne (by have := p.length_eq; rw [z] at this; exact List.length_eq_zero_iff.mp this.symm), by rw [p.length_eq]; exact D.le, p.nodup_iff.mpr D.nd, fun m hm => D.all m (p.mem_iff.mp hm)⟩
theorem Drawn.drw {b most : Int} {k : Kd} {g : List Int} (D : Drawn b k g most) : k.least ≤ most := by
  have := D.m1
  cases k with
  | cov => exact D.mC rfl
  | _ => exact this
theorem RArgs.perm {b most : Int} {k : Kd} {g h : List Int} (R : RArgs b k g most) (p : h.Perm g) : RArgs b k h most :=
  ⟨R.b2, R.bB, R.m1, R.mB, R.mC, fun z => R.ne (by have := p.length_eq; rw [z] at this; exact List.length_eq_zero_iff.mp this.symm), by rw [p.length_eq]; exact R.le, p.nodup_iff.mpr R.nd, fun m hm => R.all m (p.mem_iff.mp hm)⟩
/-! ### a rule's fields -/
def dueD (b : Int) (k : Kd) (ms : List Int) (most : Int) : PyData := .tuple [.int b, .str k.s, .list (ms.map .int), .int most]
section
variable {K : PySem.W.Frag} {H : Hp} {t l : Addr} {b b' most most' : Int} {k k' : Kd} {ms ms' : List Int}
theorem dp_due (ht : H t = some (.tup [.int b, .str k.s, .ref l, .int most])) (hl : H l = some (.lst (ms.map V.int))) : Dp K H (.ref t) (dueD b k ms most) :=
  .tup (SqT.of ht) (.cons (.int b) (.cons (.str _) (.cons (.lst (SqL.of hl) (dp_ints _)) (.cons (.int _) .nil))))
theorem dxa_due (ht : H t = some (.tup [.int b, .str k.s, .ref l, .int most])) (hl : H l = some (.lst (ms.map V.int))) (nd : (PyData.list (ms.map .int)).hasDict = false) : DxA K H [.int b, .str k.s, .ref l, .int most] [.int b, .str k.s, .list (ms.map .int), .int most] :=
  .cons (.dp (.int b) (by simp only [PyData.hasDict])) (.cons (.dp (.str _) (by simp only [PyData.hasDict])) (.cons (.dp (.lst (SqL.of hl) (dp_ints _)) nd) (.cons (.dp (.int _) (by simp only [PyData.hasDict])) .nil)))
theorem eqv4 (a b c d a' b' c' d' : PyData) : PyData.eqv (.tuple [a, b, c, d]) (.tuple [a', b', c', d']) = (PyData.eqv a a' && (PyData.eqv b b' && (PyData.eqv c c' && PyData.eqv d d'))) := by
  simp [PyData.eqv, PyData.eqvAll]
theorem kd_deq (k k' : Kd) : PyData.eqv (.str k.s) (.str k'.s) = decide (k = k') := by
  cases k <;> cases k' <;> decide +kernel
theorem eqv_due : PyData.eqv (dueD b k ms most) (dueD b' k' ms' most') = decide (b = b' ∧ k = k' ∧ ms = ms' ∧ most = most') := by
  unfold dueD
  have e : ∀ a c : Int, PyData.eqv (.int a) (.int c) = decide (a = c) := fun a c => by
    simp only [PyData.eqv]
    by_cases h : a = c <;> simp [h]
  rw [eqv4, kd_deq, eqv_ints2, e, e]
  simp
theorem shaped_due : SeqAt.shaped (dueD b k ms most) = true := by
  have h1 := PySem.W.depthAll_ints ms
  have hk : PyData.canLay0 (.str k.s) = true := by cases k <;> decide +kernel
  have hl : PyData.canLay0 (.list (ms.map .int)) = true := SeqAt.canLay_of_shaped (shaped_ints ms)
  show (PyData.canLay0 (dueD b k ms most) && decide (PyData.depth (dueD b k ms most) ≤ 64)) = true
  unfold dueD
  rw [Bool.and_eq_true]
  refine ⟨?_, decide_eq_true (by simp only [PyData.depth, PyData.depthAll]; omega)⟩
  have e : ∀ a b c d : PyData, PyData.canLay0 (.tuple [a, b, c, d]) = (PyData.canLay0 a && (PyData.canLay0 b && (PyData.canLay0 c && PyData.canLay0 d))) := fun a b c d => by simp [PyData.canLay0, PyData.canLayAll0]
  rw [e, hk, hl]
  simp [PyData.canLay0]
end
end Ax

namespace Ax
open PySem L2
section
variable {P : Program} {w : World} {K : PySem.W.Frag} {mg : Str → Option Value} {base : Heap} {A : Adr}
/-! ### _law_right -/
def spRight2 : Sp := fun vs H Q _ => ∃ p : Addr, vs = [.ref p] ∧ Purse H p 0 ∧ ∀ H' : Hp, Kp p H H' → Q (.bl true) H'
abbrev nm_law_right : List Str := ["_law_purse_here", "_law_family_here", "_law_base", "_law_kind", "_law_heads", "_law_most", "_law_given", "_law_at", "_law_made_here", "_law_due", "_law_one", "_law_some", "_law_other", "_law_same", "_law_odd_here"]
theorem sc_law_right : FnScope ["_law_purse_here", "_law_family_here", "_law_base", "_law_kind", "_law_heads", "_law_most", "_law_given", "_law_at", "_law_made_here", "_law_due", "_law_one", "_law_some", "_law_other", "_law_same", "_law_odd_here"] ["_law_purse_here"] (defScope s_law_right) := ⟨rfl, rfl, rfl, by decide +kernel, rfl, by decide +kernel, by decide +kernel⟩
theorem ok_right2 (T : Txt K mg A w) : FnG P w K mg base 7 A.a_law_right A.d_law_right ["_law_purse_here"] spRight2 := by
  have G_law_family : FnOk P w K mg base CX0 3 A.a_law_family A.d_law_family ["_law_purse_here"] spFamily := ok_family T
  have G_law_rule : FnOk P w K mg base CX0 3 A.a_law_rule A.d_law_rule ["_law_purse_here", "_law_family_here"] spRule := ok_rule T
  have G_law_draw : FnOk P w K mg base CX0 1 A.a_law_draw A.d_law_draw ["_law_purse_here", "_law_many"] spDraw := ok_draw T
  have G_law_pick : FnOk P w K mg base CX0 2 A.a_law_pick A.d_law_pick ["_law_purse_here", "_law_items"] spPick := ok_pick T
  have G_Rule_init : FnOk P w K mg base CX0 4 A.a_Rule_init A.d_Rule_init ["self", "base", "kind", "mantissas", "most"] (spInit A) := ok_init T
  have G_law_made : FnOk P w K mg base CX0 6 A.a_law_made A.d_law_made ["_law_rule_here"] (spMade A) := ok_made T
  have G_law_fields : FnOk P w K mg base CX0 3 A.a_law_fields A.d_law_fields ["_law_made_here"] (spFields A) := ok_fields T
  have G_law_is_dividing : FnOk P w K mg base CX0 2 A.a_law_is_dividing A.d_law_is_dividing ["_law_base", "_law_heads"] spLDiv := ok_ldiv T
  have G_law_odd : FnOk P w K mg base CX0 2 A.a_law_odd A.d_law_odd ["_law_purse_here", "_law_base", "_law_kind", "_law_heads", "_law_most"] (spOdd K A) := ok_odd T
  have G_law_refused : FnG P w K mg base 6 A.a_law_refused A.d_law_refused ["_law_base", "_law_kind", "_law_mantissas", "_law_most"] (spRef K A) := ok_ref T
  have G_Rule_dividing : FnOk P w K mg base CX0 1 A.a_Rule_dividing A.d_Rule_dividing ["self"] (spPD A) := ok_pd T
  have G_Rule_mantissas : FnOk P w K mg base CX0 1 A.a_Rule_mantissas A.d_Rule_mantissas ["self"] (spPL A) := ok_pl T
  have G_Rule___eq__ : FnOk P w K mg base CX0 1 A.a_Rule___eq__ A.d_Rule___eq__ ["self", "other"] (spEq2 A) := ok_req2 T
  refine fnG (T.F_law_right) sc_law_right (fun vs H Q E h => ?_) (fun cdv A0 outer s H vs Q E hg hr h => ?_)
  · obtain ⟨p, rfl, _⟩ := h
    rfl
  · obtain ⟨p, rfl, P0, q⟩ := h
    refine ⟨_, (pss_cons (ps_set (i := 1) sc_law_right.nd rfl (Or.inl rfl) (pe_call G_law_family (hr.mono (by decide)) (by rfl) T.m_law_family T.F_law_family.kp T.B_law_family .nil pass0 (pa_cons (pv 0) pa_nil)))
  (pss_cons (ps_asg (pe_call G_law_rule (hr.mono (by decide)) (by rfl) T.m_law_rule T.F_law_rule.kp T.B_law_rule .nil pass0 (pa_cons (pv 0) (pa_cons (pv 1) pa_nil))) (pg_tup (by rfl) (pgs_cons (pg_name (i := 2) sc_law_right.nd rfl (Or.inl rfl)) (pgs_cons (pg_name (i := 3) sc_law_right.nd rfl (Or.inl rfl)) (pgs_cons (pg_name (i := 4) sc_law_right.nd rfl (Or.inl rfl)) (pgs_cons (pg_name (i := 5) sc_law_right.nd rfl (Or.inl rfl)) pgs_nil))))))
  (pss_cons (ps_set (i := 6) sc_law_right.nd rfl (Or.inr rfl) (pe_op op_cat (pe_slice sl_list (pv 4) (po_some (pe_call G_law_draw (hr.mono (by decide)) (by rfl) T.m_law_draw T.F_law_draw.kp T.B_law_draw .nil pass0 (pa_cons (pv 0) (pa_cons (pe_callB call_len_seq (by rfl) T.n_len (by decide +kernel) (pa_cons (pv 4) pa_nil)) pa_nil)))) po_none) (pe_slice sl_list (pv 4) po_none (po_some (pe_call G_law_draw (hr.mono (by decide)) (by rfl) T.m_law_draw T.F_law_draw.kp T.B_law_draw .nil pass0 (pa_cons (pv 0) (pa_cons pe_int pa_nil)))))))
  (pss_cons (ps_set (i := 6) sc_law_right.nd rfl (Or.inr rfl) (pe_lc (own := [("_law_at", 7)]) (g := gName 7) rfl sc_law_right.nd (pi_range1 rfl T.n_range (pa_cons (pe_callB call_len_seq (by rfl) T.n_len (by decide +kernel) (pa_cons (pv 6) pa_nil)) pa_nil)) (blkOk_by (own := [("_law_at", 7)]) (N := nm_law_right) (sc := defScope s_law_right) (by decide +kernel)) (fun _ _ _ _ _ => (pg_name (i := 7) sc_law_right.nd rfl (Or.inl rfl))) (fun _ _ _ _ _ => (pts_one (pt_cmpR (notInK K) (pe_ix (ixL K) (pv 6) (pv 7) (fun _ _ => rfl)) (pe_slice (slK K) (pv 6) po_none (po_some (pv 7))) (by rfl)))) (fun _ _ _ _ _ => (pe_ix (ixL K) (pv 6) (pv 7) (fun _ _ => rfl)))))
  (pss_cons (ps_set (i := 8) sc_law_right.nd rfl (Or.inl rfl) (pe_make T.mk_Rule G_Rule_init (hr.mono (by decide)) (by rfl) T.c_Rule T.B_Rule_init .nil pass0 (pa_cons (pv 2) (pa_cons (pv 3) (pa_cons (pv 6) (pa_cons (pv 5) pa_nil))))))
  (pss_cons (ps_set (i := 9) sc_law_right.nd rfl (Or.inl rfl) (pe_tup (pa_cons (pv 2) (pa_cons (pv 3) (pa_cons (pe_callB cr_sorted (by rfl) T.n_sorted (by decide +kernel) (pa_cons (pe_lc (own := [("_law_one", 10)]) (g := gName 10) (tt := tYes) rfl sc_law_right.nd (pi_list (pv 6)) (blkOk_by (own := [("_law_one", 10)]) (N := nm_law_right) (sc := defScope s_law_right) (by decide +kernel)) (fun _ _ _ _ _ => (pg_name (i := 10) sc_law_right.nd rfl (Or.inl rfl))) (fun _ _ _ _ _ => pts_nil) (fun _ _ _ _ _ => (pe_callTy call_int1 (by rfl) T.n_int (by decide +kernel) (pa_cons (pv 10) pa_nil)))) pa_nil)) (pa_cons (pv 5) pa_nil))))))
  (pss_cons (ps_if (PW.pt (pw_or (pt_cmpR (op_neD hr.units) (pe_call G_law_fields (hr.mono (by decide)) (by rfl) T.m_law_fields T.F_law_fields.kp T.B_law_fields .nil pass0 (pa_cons (pv 8) pa_nil)) (pv 9) (nomark _)) (pw_or1 (pt_cmpR op_ne (pe_callB (call_reprT hg) (by rfl) T.n_repr (by decide +kernel) (pa_cons (pe_call G_law_fields (hr.mono (by decide)) (by rfl) T.m_law_fields T.F_law_fields.kp T.B_law_fields .nil pass0 (pa_cons (pv 8) pa_nil)) pa_nil)) (pe_callB (call_reprT hg) (by rfl) T.n_repr (by decide +kernel) (pa_cons (pv 9) pa_nil)) (nomark _))))) (pss_one (ps_ret pe_bl)) pss_nil)
  (pss_cons (ps_if (pt_cmpR op_ne (pe_callB call_repr_bl (by rfl) T.n_repr (by decide +kernel) (pa_cons (pe_prop (pv 8) T.cl T.pr_Rule_dividing G_Rule_dividing (hr.mono (by decide)) T.B_Rule_dividing .nil pass0 rfl) pa_nil)) (pe_callB call_repr_bl (by rfl) T.n_repr (by decide +kernel) (pa_cons (pe_call G_law_is_dividing (hr.mono (by decide)) (by rfl) T.m_law_is_dividing T.F_law_is_dividing.kp T.B_law_is_dividing .nil pass0 (pa_cons (pv 2) (pa_cons (pe_ix ix_tup (pv 9) pe_int (fun _ _ => rfl)) pa_nil))) pa_nil)) (nomark _)) (pss_one (ps_ret pe_bl)) pss_nil)
  (pss_cons (ps_expr (pe_bm PySem.F.plainAttrs_list PySem.F.slot_list_append PySem.F.type_list_append mt_append (pe_prop (pv 8) T.cl T.pr_Rule_mantissas G_Rule_mantissas (hr.mono (by decide)) T.B_Rule_mantissas .nil pass0 rfl) (pa_cons pe_int pa_nil)))
  (pss_cons (ps_expr (pe_bm PySem.F.plainAttrs_list PySem.F.slot_list_append PySem.F.type_list_append mt_append (pv 6) (pa_cons (pv 2) pa_nil)))
  (pss_cons (ps_if (pt_cmpR (op_neD hr.units) (pe_call G_law_fields (hr.mono (by decide)) (by rfl) T.m_law_fields T.F_law_fields.kp T.B_law_fields .nil pass0 (pa_cons (pv 8) pa_nil)) (pv 9) (nomark _)) (pss_one (ps_ret pe_bl)) pss_nil)
  (pss_cons (ps_set (i := 11) sc_law_right.nd rfl (Or.inl rfl) (pe_lst (pa_cons (pe_call G_law_rule (hr.mono (by decide)) (by rfl) T.m_law_rule T.F_law_rule.kp T.B_law_rule .nil pass0 (pa_cons (pv 0) (pa_cons (pv 1) pa_nil))) (pa_cons (pv 9) (pa_cons (pe_tup (pa_cons (pv 2) (pa_cons (pv 3) (pa_cons (pe_revL (pe_ix ix_tup (pv 9) pe_int (fun _ _ => rfl))) (pa_cons (pv 5) pa_nil))))) (pa_cons (pe_tup (pa_cons (pv 2) (pa_cons (pv 3) (pa_cons (pe_ix ix_tup (pv 9) pe_int (fun _ _ => rfl)) (pa_cons (pe_op op_add (pv 5) pe_int) pa_nil))))) pa_nil))))))
  (pss_cons (ps_set (i := 12) sc_law_right.nd rfl (Or.inl rfl) (pe_call G_law_pick (hr.mono (by decide)) (by rfl) T.m_law_pick T.F_law_pick.kp T.B_law_pick .nil pass0 (pa_cons (pv 0) (pa_cons (pv 11) pa_nil))))
  (pss_cons (ps_set (i := 13) sc_law_right.nd rfl (Or.inl rfl) (pe_cmpR (op_eqD hr.units) (pe_tup (pa_cons (pe_ix ix_tup (pv 12) pe_int (fun _ _ => rfl)) (pa_cons (pe_ix ix_tup (pv 12) pe_int (fun _ _ => rfl)) (pa_cons (pe_callB cr_sorted (by rfl) T.n_sorted (by decide +kernel) (pa_cons (pe_lc (own := [("_law_one", 10)]) (g := gName 10) (tt := tYes) rfl sc_law_right.nd (pi_list (pe_ix ix_tup (pv 12) pe_int (fun _ _ => rfl))) (blkOk_by (own := [("_law_one", 10)]) (N := nm_law_right) (sc := defScope s_law_right) (by decide +kernel)) (fun _ _ _ _ _ => (pg_name (i := 10) sc_law_right.nd rfl (Or.inl rfl))) (fun _ _ _ _ _ => pts_nil) (fun _ _ _ _ _ => (pe_callTy call_int1 (by rfl) T.n_int (by decide +kernel) (pa_cons (pv 10) pa_nil)))) pa_nil)) (pa_cons (pe_ix ix_tup (pv 12) pe_int (fun _ _ => rfl)) pa_nil))))) (pv 9) (nomark _)))
  (pss_cons (ps_if (PW.pt (pw_or (pt_cmpR op_ne (pe_cmpR (op_eqO G_Rule___eq__ (hr.mono (by decide)) T.t_Rule___eq__.at_ T.t_Rule___eq__.fn T.B_Rule___eq__ pass0) (pv 8) (pe_call G_law_made (hr.mono (by decide)) (by rfl) T.m_law_made T.F_law_made.kp T.B_law_made .nil pass0 (pa_cons (pv 12) pa_nil)) (nomark _)) (pv 13) (nomark _)) (pw_or (pt_cmpR op_eq (pe_cmpR (op_neO G_Rule___eq__ (hr.mono (by decide)) T.ne_Rule.cls T.ne_Rule.fty T.B_Rule___eq__ pass0) (pv 8) (pe_call G_law_made (hr.mono (by decide)) (by rfl) T.m_law_made T.F_law_made.kp T.B_law_made .nil pass0 (pa_cons (pv 12) pa_nil)) (nomark _)) (pv 13) (nomark _)) (pw_or (pt_cmpR (op_eqO G_Rule___eq__ (hr.mono (by decide)) T.t_Rule___eq__.at_ T.t_Rule___eq__.fn T.B_Rule___eq__ pass0) (pv 8) (pv 9) (nomark _)) (pw_or1 (pt_cmpR (op_eqO G_Rule___eq__ (hr.mono (by decide)) T.t_Rule___eq__.at_ T.t_Rule___eq__.fn T.B_Rule___eq__ pass0) (pv 8) pe_non (nomark _))))))) (pss_one (ps_ret pe_bl)) pss_nil)
  (pss_cons (ps_set (i := 14) sc_law_right.nd rfl (Or.inl rfl) (pe_call G_law_odd (hr.mono (by decide)) (by rfl) T.m_law_odd T.F_law_odd.kp T.B_law_odd .nil pass0 (pa_cons (pv 0) (pa_cons (pv 2) (pa_cons (pv 3) (pa_cons (pe_ix ix_tup (pv 9) pe_int (fun _ _ => rfl)) (pa_cons (pv 5) pa_nil)))))))
  (pss_cons (ps_if (pt_cmpR (op_neD hr.units) (pe_lc (own := [("_law_one", 10)]) (g := gName 10) rfl sc_law_right.nd (pi_list (pv 14)) (blkOk_by (own := [("_law_one", 10)]) (N := nm_law_right) (sc := defScope s_law_right) (by decide +kernel)) (fun _ _ _ _ _ => (pg_name (i := 10) sc_law_right.nd rfl (Or.inl rfl))) (fun _ _ _ _ _ => (pts_one (pt_not (pt_val (pe_callG G_law_refused hg (hr.mono (by decide)) (by rfl) T.m_law_refused T.F_law_refused.kp T.B_law_refused pass0 (pa_cons (pe_ix (ixT K) (pv 10) pe_int (fun _ _ => rfl)) (pa_cons (pe_ix (ixT K) (pv 10) pe_int (fun _ _ => rfl)) (pa_cons (pe_ix (ixT K) (pv 10) pe_int (fun _ _ => rfl)) (pa_cons (pe_ix (ixT K) (pv 10) pe_int (fun _ _ => rfl)) pa_nil))))))))) (fun _ _ _ _ _ => (pv 10))) (pe_lst pa_nil) (nomark _)) (pss_one (ps_ret pe_bl)) pss_nil)
  (pss_one (ps_ret (pe_and (pe_callG G_law_refused hg (hr.mono (by decide)) (by rfl) T.m_law_refused T.F_law_refused.kp T.B_law_refused pass0 (pa_cons pe_non (pa_cons pe_int (pa_cons pe_non (pa_cons pe_non pa_nil))))) (pe_and (pe_callG G_law_refused hg (hr.mono (by decide)) (by rfl) T.m_law_refused T.F_law_refused.kp T.B_law_refused pass0 (pa_cons (pv 2) (pa_cons (pv 3) (pa_cons (pe_lst (pa_cons (pv 2) pa_nil)) (pa_cons pe_int pa_nil))))) (pe_one (pe_cmpR (op_eqD hr.units) (pe_call G_law_fields (hr.mono (by decide)) (by rfl) T.m_law_fields T.F_law_fields.kp T.B_law_fields .nil pass0 (pa_cons (pv 8) pa_nil)) (pv 9) (nomark _)))))))))))))))))))))))), ?_⟩
    refine ⟨_, rfl, p, 0, rfl, P0, by decide, fun H1 f lf b ms k1 P1 hf hlf lf0 F => ?_⟩
    refine gN (σ' := [some (.ref p), some (.ref f), none, none, none, none, none, none, none, none, none, none, none, none, none]) rfl ?_
    have nlf : lf ≠ p := P0.ne lf0
    have e18 : (2 : Nat) ^ 18 = 262144 := by decide
    have e20 : (2 : Nat) ^ 20 = 1048576 := by decide
    refine ⟨_, rfl, _, rfl, p, f, lf, 2, b, ms, rfl, P1, by decide, hf, hlf, nlf, F, fun H2 ru lh k hs most k2 P2 RT lh0 D hsm => ?_⟩
    refine ⟨ru, _, rfl, SqT.of RT.1, rfl, _, _, rfl, _, _, rfl, _, _, rfl, _, _, rfl, rfl, ?_⟩
    refine norm2 (σ' := [some (.ref p), some (.ref f), some (.int b), some (.str k.s), some (.ref lh), some (.int most), none, none, none, none, none, none, none, none, none]) rfl ?_
    refine ⟨_, rfl, _, rfl, _, rfl, lh, _, rfl, .inl (SqL.of RT.2), ?_⟩
    have hlen : (hs.map V.int).length = hs.length := List.length_map _
    have nlh : lh ≠ p := P1.ne lh0
    have h4 := D.le
    have hpos : 0 < hs.length := List.length_pos_iff.mpr D.ne
    refine ⟨p, _, 10, rfl, P2, by omega, by rw [hlen]; omega, small2000 (by rw [hlen]; omega), fun H3 n k3 P3 n0 nl => ⟨n, rfl, lh, _, rfl, SqL.of (k3 _ _ nlh RT.2), fun c1 hc1 => ?_⟩⟩
    have s1 := same_new (o := .lst (cutV (hs.map V.int) (some n) none)) hc1
    refine ⟨_, rfl, _, rfl, p, 2, 11, rfl, P3.same s1, by omega, by decide, small2000 (by decide), fun H4 n2 k4 P4 m0 m2 => ⟨n2, rfl, lh, _, rfl, SqL.of (k4 _ _ nlh (s1 _ _ (k3 _ _ nlh RT.2))), fun c2 hc2 => ?_⟩⟩
    have s2 := same_new (o := .lst (cutV (hs.map V.int) none (some n2))) hc2
    have nc1 : c1 ≠ p := P3.ne hc1
    refine ⟨c1, c2, _, _, rfl, rfl, s2 _ _ (k4 _ _ nc1 upd_same), upd_same, ?_, fun g0 hg0 => ?_⟩
    · have := cutV_length (hs.map V.int) (some n) none
      have := cutV_length (hs.map V.int) none (some n2)
      rw [PySem.sizeLine_eq]
      omega
    obtain ⟨xs, exs, xne, xmem, xle⟩ := turned n0 (by rw [hlen] at nl; exact nl) m0
    rw [exs]
    have s3 := same_new (o := .lst (xs.map V.int)) hg0
    obtain ⟨pl, epl⟩ := P1.some
    have nf : f ≠ p := ne_of hf epl (by intro z; cases z)
    have k15 : Kp p H1 (upd (upd H4 c2 (.lst (cutV (hs.map V.int) none (some n2)))) g0 (.lst (xs.map V.int))) := k2.trans (k3.trans ((Same.kp s1 p).trans (k4.trans ((Same.kp s2 p).trans (Same.kp s3 p)))))
    have g0f : H1 g0 = none := (k2.trans (k3.trans ((Same.kp s1 p).trans (k4.trans (Same.kp s2 p))))).free (P4.same s2) hg0
    refine gN (σ' := [some (.ref p), some (.ref f), some (.int b), some (.str k.s), some (.ref lh), some (.int most), some (.ref g0), none, none, none, none, none, none, none, none]) rfl ?_
    refine absP (fun H5 => Kp p H1 H5 ∧ Purse H5 p 12 ∧ H5 g0 = some (.lst (xs.map V.int))) ⟨k15, (P4.same s2).same s3, upd_same⟩ ?_
    clear k15 s1 s2 s3 hc1 hc2 hg0 k3 P3 k4 P4 nc1
    rintro H5 ⟨k5, P5, hg⟩
    have xlen : (xs.map V.int).length = xs.length := List.length_map _
    -- given, each once
    refine ⟨_, rfl, g0, _, rfl, .inl (SqL.of hg), _, rfl, by rw [xlen]; omega, by rw [xlen]; omega, fun D6 hD6 => ?_⟩
    rw [show (((xs.map V.int).length : Nat) : Int).toNat = xs.length by rw [xlen]; omega]
    refine lc_range (lo := 0) (n := xs.length) (fun i H' => Same H5 H' ∧ ∃ acc : List Int, H' D6 = some (.lst (acc.map V.int)) ∧ acc.Nodup ∧ acc.length ≤ i ∧ ∀ m, m ∈ acc ↔ m ∈ xs.take i) ⟨same_new hD6, [], upd_same, .nil, Nat.zero_le _, fun m => by simp⟩ ?_ ?_
    · rintro i H' hi ⟨s6, acc, hD, nd, la, hm⟩
      have gi : xs[i]? = some xs[i] := List.getElem?_eq_getElem hi
      have a0 : atI (xs.map V.int) (0 + (i : Int)) = some (.int xs[i]) := by
        rw [Int.zero_add]
        exact atI_nat (by rw [List.getElem?_map, gi]; rfl)
      have hg' := s6 _ _ hg
      refine ⟨rfl, _, rfl, _, rfl, g0, _, _, _, rfl, rfl, SqL.of hg', a0, ?_⟩
      refine ⟨_, rfl, _, rfl, _, rfl, g0, _, rfl, SqL.of hg', fun c7 hc7 => ?_⟩
      have ec : cutV (xs.map V.int) none (some (0 + (i : Int))) = (xs.take i).map V.int := by rw [Int.zero_add, cut_to, List.map_take]
      rw [ec]
      have s7 := same_new (o := .lst ((xs.take i).map V.int)) hc7
      refine ⟨c7, _, rfl, .inl (SqL.of upd_same), rfl, flat_ints _, _, rfl, ?_⟩
      rw [inV_ints]
      have hD7 := s7 _ _ hD
      have hg7 := s7 _ _ hg'
      have s67 := s6.trans s7
      refine ite2 (fun hc => ?_) (fun hc => ?_)
      · have hx : xs[i] ∉ xs.take i := by simpa using hc
        refine ⟨_, rfl, _, rfl, g0, _, _, _, rfl, rfl, SqL.of hg7, a0, _, hD7, ?_, same_upd hD6 s67, acc ++ [xs[i]], ?_, ?_, ?_, fun m => ?_⟩
        · rw [List.length_map]
          exact small1000 (by omega)
        · rw [upd_same, List.map_append]
          rfl
        · exact List.nodup_append.mpr ⟨nd, List.pairwise_singleton _ _, fun a ha c hc' z => hx (by rw [← List.mem_singleton.mp hc', ← z]; exact (hm a).mp ha)⟩
        · rw [List.length_append]
          exact Nat.succ_le_succ la
        · rw [List.take_add_one, gi, List.mem_append, List.mem_append, hm]
          simp
      · have hx : xs[i] ∈ xs.take i := by simpa using hc
        refine ⟨s67, acc, hD7, nd, by omega, fun m => ?_⟩
        rw [List.take_add_one, gi, List.mem_append, ← hm]
        refine ⟨.inl, fun z => ?_⟩
        rcases z with z | z
        · exact z
        · have z : m = xs[i] := by simpa using z
          rw [z]
          exact (hm _).mpr hx
    rintro H6 ⟨s6, acc, hD, nd, la, hm⟩
    rw [List.take_length] at hm
    have ane : acc ≠ [] := fun z => by
      obtain ⟨m, r, rfl⟩ := List.exists_cons_of_ne_nil xne
      have := (hm m).mpr (List.mem_cons_self ..)
      rw [z] at this
      cases this
    have asub : ∀ m ∈ acc, m ∈ ms := fun m h => hsm m (xmem m ((hm m).mp h))
    have D' : Drawn b k acc most := F.drawn D nd ane asub
    have nD6 : D6 ≠ p := P5.ne hD6
    have D6f : H1 D6 = none := k5.free P5 hD6
    have k6 : Kp p H1 H6 := k5.trans (Same.kp s6 p)
    have P6 := P5.same s6
    clear la hm xmem xle xne exs xlen hg s6 k5 P5 hD6
    refine gN (σ' := [some (.ref p), some (.ref f), some (.int b), some (.str k.s), some (.ref lh), some (.int most), some (.ref D6), none, none, none, none, none, none, none, none]) rfl ?_
    -- made
    refine ⟨_, rfl, _, rfl, _, rfl, _, rfl, fun x dx nx ndx nex => ?_⟩
    have s9 : Same H6 (upd (upd H6 dx (.own x)) x (.ins A.c_Rule dx [])) := (same_new ndx).trans (same_new (by rw [upd_ne nex.symm]; exact nx))
    refine ⟨x, dx, D6, b, k, acc, most, rfl, upd_same, s9 _ _ hD, D'.args, fun H7 Dr kept X7 n1 n2 => ⟨rfl, ?_⟩⟩
    have s67 : Same H6 H7 := fun c o e => kept c o (ne_of_none e nx) (s9 _ _ e)
    have lmD : Dr.lm ≠ D6 := (ne_of_none (s9 _ _ hD) n1).symm
    have lrD : Dr.lr ≠ D6 := (ne_of_none (s9 _ _ hD) n2).symm
    have lmp : Dr.lm ≠ p := P6.ne (s9.free n1)
    have lrp : Dr.lr ≠ p := P6.ne (s9.free n2)
    have lmf : H1 Dr.lm = none := k6.free P6 (s9.free n1)
    have lrf : H1 Dr.lr = none := k6.free P6 (s9.free n2)
    have k7 : Kp p H1 H7 := k6.trans (Same.kp s67 p)
    have P7 := P6.same s67
    have hD7 := s67 _ _ hD
    have em : Dr.ms' = isort acc := eq_isort X7.pm X7.ps
    clear s9 n1 n2 kept nx ndx nex s67 k6 P6 hD
    refine gN (σ' := [some (.ref p), some (.ref f), some (.int b), some (.str k.s), some (.ref lh), some (.int most), some (.ref D6), none, some (.ref x), none, none, none, none, none, none]) rfl ?_
    have h4a := D'.le
    have alen : (acc.map V.int).length = acc.length := List.length_map _
    -- due
    refine ⟨_, rfl, _, rfl, _, rfl, D6, rfl, ⟨_, SqL.of hD7⟩, fun e0 he0 => lc_list (K := K) (a := D6) (xs := acc.map V.int) (fun i H' => H' = upd H7 e0 (.lst ((acc.take i).map V.int))) rfl ?_ ?_ ?_⟩
    · rintro i H' _ rfl
      exact SqL.of (by rw [upd_ne (ne_of_none hD7 he0)]; exact hD7)
    · rintro i y H' hi rfl
      obtain ⟨z, hzi, rfl⟩ := map_get hi
      refine ⟨rfl, yes_of ⟨_, rfl, .inl ⟨_, rfl, _, upd_same, ?_, ?_⟩⟩⟩
      · rw [List.length_map, List.length_take]
        exact small1000 (by omega)
      · rw [upd_upd, take_sub hzi, List.map_append]
        rfl
    rintro H' rfl
    rw [alen, List.take_length]
    refine ⟨e0, acc, rfl, SqL.of upd_same, by omega, fun ns' ld hp1 hp2 hld => ?_⟩
    obtain rfl := eq_isort hp1 hp2
    refine ⟨_, rfl, (by show 4 ≤ sizeLine; decide), fun du hdu => ?_⟩
    have a1 := same_new (o := .lst (acc.map V.int)) he0
    have a2 := same_new (o := .lst ((isort acc).map V.int)) hld
    have a3 := same_new (o := .tup [.int b, .str k.s, .ref ld, .int most]) hdu
    refine gN (σ' := [some (.ref p), some (.ref f), some (.int b), some (.str k.s), some (.ref lh), some (.int most), some (.ref D6), none, some (.ref x), some (.ref du), none, none, none, none, none]) rfl ?_
    refine absP (fun H8 => Same H7 H8 ∧ H7 ld = none ∧ H8 ld = some (.lst ((isort acc).map V.int)) ∧ H8 du = some (.tup [.int b, .str k.s, .ref ld, .int most])) ⟨a1.trans (a2.trans a3), a1.free hld, a3 _ _ upd_same, upd_same⟩ ?_
    clear a1 a2 a3 hdu hld hp1 hp2 he0
    rintro H8 ⟨s78, ld7, hl8, hd8⟩
    have k8 := k7.trans (Same.kp s78 p)
    have P8 := P7.same s78
    have ldp : ld ≠ p := P7.ne ld7
    have ldf : H1 ld = none := k7.free P7 ld7
    have X8 := X7.same s78
    have hD8 := s78 _ _ hD7
    have D6ld : D6 ≠ ld := ne_of_none hD7 ld7
    clear ld7 s78 k7 P7 X7 hD7 alen
    have b2 := D'.b2
    have b10 := D'.b10
    have m6 := D'.m6
    have m1 := D'.m1
    -- its fields, as they should be
    have i4 : (isort acc).length ≤ 4 := by rw [(isort_perm acc).length_eq]; exact h4a
    have i25 : ∀ m ∈ isort acc, 1 ≤ m ∧ m ≤ 25 := fun m h => ⟨(D'.all m ((isort_perm acc).mem_iff.mp h)).1, (D'.all m ((isort_perm acc).mem_iff.mp h)).2.1⟩
    have ine : isort acc ≠ [] := D'.sort.ne
    have tin : ∀ d ∈ (isort acc).map PyData.int, Tiny d := fun d hd => by
      obtain ⟨m, hm, rfl⟩ := List.mem_map.mp hd
      have := i25 m hm
      exact tiny_int (by omega) (by omega)
    have som := show_tinies tin (by rw [List.length_map]; omega)
    obtain ⟨u1, u2, u3⟩ := show4 (tiny_int (n := b) (by omega) (by omega)).show_ (comp_kd (K := K) (H := H) (l := D6) k).so som.1 (tiny_int (n := most) (by omega) (by omega)).show_
    have un : ∀ n ≤ 8, (A0.deeper (PyProof.Rows.envOfC "_law_right" (defScope s_law_right) s.heap.objs.size A.a_law_right cdv)).units + (n + 1) < cLine := fun n hn => Nat.lt_of_le_of_lt (Nat.add_le_add_left (by omega) _) hr.units
    refine ⟨_, rfl, x, b, k, acc, most, Dr, rfl, X8, fun H9 t9 l9 s9 _ _ ht9 hl9 => ?_⟩
    rw [em] at hl9
    refine ⟨_, rfl, dueD b k (isort acc) most, dueD b k (isort acc) most, dp_due ht9 hl9, dp_due (s9 _ _ hd8) (s9 _ _ hl8), shaped_due, shaped_due, _, rfl, ?_⟩
    rw [eqv_due, decide_eq_true ⟨rfl, rfl, rfl, rfl⟩]
    refine iteF ?_
    refine ⟨_, rfl, x, b, k, acc, most, Dr, rfl, X8.same s9, fun H10 t10 l10 s10 _ _ ht10 hl10 => ?_⟩
    rw [em] at hl10
    have s8 := s9.trans s10
    refine ⟨t10, _, _, rfl, SqT.of ht10, dxa_due ht10 hl10 som.2, u1, u2, un _ (by omega), ?_⟩
    refine ⟨_, rfl, du, _, _, rfl, SqT.of (s8 _ _ hd8), dxa_due (s8 _ _ hd8) (s8 _ _ hl8) som.2, u1, u2, un _ (by omega), rfl, _, rfl, ?_⟩
    rw [decide_eq_true rfl]
    refine iteF ?_
    have X10 := X8.same s8
    have hl10 := s8 _ _ hl8
    have hd10 := s8 _ _ hd8
    have hD10 := s8 _ _ hD8
    have k10 := k8.trans (Same.kp s8 p)
    have P10 := P8.same s8
    clear s8 s9 s10 ht9 hl9 ht10 X8 hl8 hd8 hD8 k8 P8
    -- dividing
    obtain ⟨v1, v2, v3⟩ := F.div (F.sub nd asub) ine
    have edv : Dr.dv = lawD b (isort acc) := by
      rw [X10.dv_, dv_tab b2 (fun m hm => ⟨(D'.all m hm).1, (D'.all m hm).2.1⟩) X10.pr X10.top_ X10.st, v3]
      congr 1
      exact eq_isort ((isort_perm _).trans ((isort_perm acc).map _).symm) (isort_sorted _)
    refine ⟨_, rfl, x, Dr.dx, _, rfl, X10.at_, x, b, k, acc, most, Dr, rfl, X10, _, rfl, ?_⟩
    refine ⟨_, rfl, _, rfl, du, _, _, _, rfl, rfl, SqT.of hd10, atL (j := 2) rfl, b, isort acc, ld, rfl, hl10, b2, b10, i4, i25, v1, v2, fun H11 s11 => ⟨_, rfl, rfl, _, rfl, ?_⟩⟩
    rw [edv, decide_eq_true rfl]
    refine iteF ?_
    -- made.mantissas.append(7); given.append(base)
    have X11 := X10.same s11
    have hD11 := s11 _ _ hD10
    refine ⟨_, rfl, x, Dr.dx, _, rfl, X11.at_, x, b, k, acc, most, Dr, rfl, X11, fun l12 hl12 => ?_⟩
    have a1 := same_new (o := .lst (Dr.ms'.map V.int)) hl12
    refine ⟨.inl ⟨rfl, _, SqL.of upd_same⟩, l12, _, _, rfl, rfl, upd_same, ?_, ?_⟩
    · rw [List.length_map, em]
      exact small1000 (by omega)
    have a2 : Same H11 (upd (upd H11 l12 (.lst (Dr.ms'.map V.int))) l12 (.lst (Dr.ms'.map V.int ++ [.int 7]))) := fun c o e => by
      rw [upd_upd, upd_ne (ne_of_none e hl12)]
      exact e
    refine absP (fun H12 => Same H11 H12) a2 ?_
    clear a1 a2 hl12
    rintro H12 s12
    have X12 := X11.same s12
    have hD12 := s12 _ _ hD11
    refine ⟨_, rfl, .inl ⟨rfl, _, SqL.of hD12⟩, _, rfl, D6, _, _, rfl, rfl, hD12, ?_, ?_⟩
    · rw [List.length_map]
      exact small1000 (by omega)
    have s1012 := s11.trans s12
    have k12 := k10.trans (Same.kp s1012 p)
    have P12 := P10.same s1012
    have kD : ∀ c o, c ≠ D6 → H12 c = some o → upd H12 D6 (.lst (acc.map V.int ++ [.int b])) c = some o := fun c o n e => by
      rw [upd_ne n]
      exact e
    have duD : du ≠ D6 := tup_ne (s1012 _ _ hd10) hD12
    refine absP (fun H13 => Kp p H1 H13 ∧ Purse H13 p 12 ∧ RX A.c_Rule H13 x b k acc most Dr ∧ H13 ld = some (.lst ((isort acc).map V.int)) ∧ H13 du = some (.tup [.int b, .str k.s, .ref ld, .int most])) ⟨?_, ?_, X12.but hD12 lmD lrD kD, kD _ _ D6ld.symm (s1012 _ _ hl10), kD _ _ duD (s1012 _ _ hd10)⟩ ?_
    · intro c o n e
      exact kD c o (fun z => by rw [z, D6f] at e; cases e) (k12 c o n e)
    · obtain ⟨x1, x2, x3, hp, rest⟩ := P12
      exact ⟨x1, x2, x3, kD _ _ nD6.symm hp, rest⟩
    clear kD k12 P12 s1012 X12 hD12 s12 X11 hD11 s11 k10 P10 X10 hl10 hd10 hD10 lmD lrD D6ld duD
    rintro H13 ⟨k13, P13, X13, hl13, hd13⟩
    refine ⟨_, rfl, x, b, k, acc, most, Dr, rfl, X13, fun H14 t14 l14 s14 _ _ ht14 hl14 => ?_⟩
    rw [em] at hl14
    refine ⟨_, rfl, dueD b k (isort acc) most, dueD b k (isort acc) most, dp_due ht14 hl14, dp_due (s14 _ _ hd13) (s14 _ _ hl13), shaped_due, shaped_due, _, rfl, ?_⟩
    rw [eqv_due, decide_eq_true ⟨rfl, rfl, rfl, rfl⟩]
    refine iteF ?_
    have k14 := k13.trans (Same.kp s14 p)
    have P14 := P13.same s14
    have X14 := X13.same s14
    have hl14' := s14 _ _ hl13
    have hd14 := s14 _ _ hd13
    clear s14 ht14 hl14 k13 P13 X13 hl13 hd13
    -- another one
    refine ⟨_, rfl, _, rfl, p, f, lf, 12, b, ms, rfl, P14, by decide, k14 _ _ nf hf, k14 _ _ nlf hlf, nlf, F, fun H15 ru2 lh2 k2' hs2 most2 k15 P15 RT2 lh2f D2 hsm2 => ?_⟩
    have ndu : du ≠ p := by
      obtain ⟨pl2, e2⟩ := P14.some
      exact ne_of hd14 e2 (by intro z; cases z)
    have hl15 := k15 _ _ ldp hl14'
    have hd15 := k15 _ _ ndu hd14
    refine ⟨_, rfl, _, rfl, _, rfl, _, rfl, du, _, _, _, rfl, rfl, SqT.of hd15, atL (j := 2) rfl, ld, _, rfl, SqL.of hl15, fun rv hrv => ⟨_, rfl, (by show 4 ≤ sizeLine; decide), fun t3 ht3 => ?_⟩⟩
    have a1 := same_new (o := .lst ((isort acc).map V.int).reverse) hrv
    have a2 := same_new (o := .tup [.int b, .str k.s, .ref rv, .int most]) ht3
    have a12 := a1.trans a2
    refine ⟨_, rfl, _, rfl, _, rfl, du, _, _, _, rfl, rfl, SqT.of (a12 _ _ hd15), atL (j := 2) rfl, _, rfl, _, _, rfl, rfl, (by show 4 ≤ sizeLine; decide), fun t4 ht4 => ?_⟩
    have a3 := same_new (o := .tup [.int b, .str k.s, .ref ld, .int (most + 1)]) ht4
    refine ⟨(by show 4 ≤ sizeLine; decide), fun so hso => ?_⟩
    have a4 := same_new (o := .lst [.ref ru2, .ref du, .ref t3, .ref t4]) hso
    refine gN (σ' := [some (.ref p), some (.ref f), some (.int b), some (.str k.s), some (.ref lh), some (.int most), some (.ref D6), none, some (.ref x), some (.ref du), none, some (.ref so), none, none, none]) rfl ?_
    have rvp : rv ≠ p := P15.ne hrv
    have sop : so ≠ p := P15.ne ((a12.trans a3).free hso)
    have a14 := a12.trans (a3.trans a4)
    have R0 := D'.sort.args
    have oth : ∀ (Hn : Hp), Same H15 Hn → Hn rv = some (.lst ((isort acc).map V.int).reverse) → Hn t3 = some (.tup [.int b, .str k.s, .ref rv, .int most]) → Hn t4 = some (.tup [.int b, .str k.s, .ref ld, .int (most + 1)]) →
        ∀ y ∈ [V.ref ru2, .ref du, .ref t3, .ref t4], ∃ (ru lo : Addr) (k' : Kd) (hs' : List Int) (most' : Int), y = .ref ru ∧ RuleT Hn ru lo b k' hs' most' ∧ RArgs b k' hs' most' ∧ hs'.length ≤ 4 ∧ lo ≠ p := by
      intro Hn sn e1 e2 e3 y hy
      simp only [List.mem_cons, List.not_mem_nil, or_false] at hy
      rcases hy with rfl | rfl | rfl | rfl
      · exact ⟨ru2, lh2, k2', hs2, most2, rfl, RT2.same sn, D2.args, D2.le, P14.ne lh2f⟩
      · exact ⟨du, ld, k, isort acc, most, rfl, ⟨sn _ _ hd15, sn _ _ hl15⟩, R0, i4, ldp⟩
      · exact ⟨t3, rv, k, (isort acc).reverse, most, rfl, ⟨e2, by rw [e1, List.map_reverse]⟩, R0.perm (List.reverse_perm _), by rw [List.length_reverse]; exact i4, rvp⟩
      · exact ⟨t4, ld, k, isort acc, most + 1, rfl, ⟨e3, sn _ _ hl15⟩, ⟨R0.b2, R0.bB, by omega, by have e60 : (2 : Int) ^ 60 = 1152921504606846976 := by decide
                                                                                                   omega, fun z => by have := R0.mC z; omega, R0.ne, R0.le, R0.nd, R0.all⟩, i4, ldp⟩
    have k15' : Kp p H14 _ := k15.trans (Same.kp a14 p)
    have X15 : RX A.c_Rule H15 x b k acc most Dr := by
      obtain ⟨pl2, e2⟩ := P14.some
      exact X14.but e2 lmp lrp k15
    refine absP (fun H16 => Kp p H1 H16 ∧ Purse H16 p 20 ∧ RX A.c_Rule H16 x b k acc most Dr ∧ H16 ld = some (.lst ((isort acc).map V.int)) ∧ H16 du = some (.tup [.int b, .str k.s, .ref ld, .int most]) ∧ H16 so = some (.lst [.ref ru2, .ref du, .ref t3, .ref t4]) ∧
        ∀ y ∈ [V.ref ru2, .ref du, .ref t3, .ref t4], ∃ (ru lo : Addr) (k' : Kd) (hs' : List Int) (most' : Int), y = .ref ru ∧ RuleT H16 ru lo b k' hs' most' ∧ RArgs b k' hs' most' ∧ hs'.length ≤ 4 ∧ lo ≠ p)
      ⟨k14.trans k15', P15.same a14, X15.same a14, a14 _ _ hl15, a14 _ _ hd15, upd_same, oth _ a14 ((a2.trans (a3.trans a4)) _ _ upd_same) ((a3.trans a4) _ _ upd_same) (a4 _ _ upd_same)⟩ ?_
    clear oth k15' a14 a12 a1 a2 a3 a4 hso ht4 ht3 hrv rvp X15 X14 k15 P15 hl15 hd15 k14 P14 hl14' hd14 RT2 lh2f D2 hsm2
    rintro H16 ⟨k16, P16, X16, hl16, hd16, hs16, oth⟩
    refine ⟨_, rfl, _, rfl, p, so, _, 20, rfl, P16, by decide, hs16, sop, (by show 0 < 4; decide), (by show 4 ≤ 1000; decide), fun H17 j y k17 P17 gy => ?_⟩
    obtain ⟨ru, lo, k', hs', most', rfl, RT', R', h4', nlo⟩ := oth _ (List.mem_of_getElem? gy)
    refine gN (σ' := [some (.ref p), some (.ref f), some (.int b), some (.str k.s), some (.ref lh), some (.int most), some (.ref D6), none, some (.ref x), some (.ref du), none, some (.ref so), some (.ref ru), none, none]) rfl ?_
    have RT17 := RT'.kp P16 nlo k17
    have X17 : RX A.c_Rule H17 x b k acc most Dr := by
      obtain ⟨pl2, e2⟩ := P16.some
      exact X16.but e2 lmp lrp k17
    have hl17 := k17 _ _ ldp hl16
    have hd17 := k17 _ _ ndu hd16
    have k17' := k16.trans k17
    clear X16 hl16 hd16 hs16 k16 P16 RT' k17 gy oth
    have hlen' : (hs'.map V.int).length = hs'.length := List.length_map _
    -- same
    refine ⟨_, rfl, ru, _, _, _, rfl, rfl, SqT.of RT17.1, atL (j := 0) rfl, _, rfl, ru, _, _, _, rfl, rfl, SqT.of RT17.1, atL (j := 1) rfl, _, rfl, ru, _, _, _, rfl, rfl, SqT.of RT17.1, atL (j := 2) rfl, lo, rfl, ⟨_, SqL.of RT17.2⟩, fun e0 he0 => lc_list (K := K) (a := lo) (xs := hs'.map V.int) (fun i H' => H' = upd H17 e0 (.lst ((hs'.take i).map V.int))) rfl ?_ ?_ ?_⟩
    · rintro i H' _ rfl
      exact SqL.of (by rw [upd_ne (ne_of_none RT17.2 he0)]; exact RT17.2)
    · rintro i y H' hi rfl
      obtain ⟨z, hzi, rfl⟩ := map_get hi
      refine ⟨rfl, yes_of ⟨_, rfl, .inl ⟨_, rfl, _, upd_same, ?_, ?_⟩⟩⟩
      · rw [List.length_map, List.length_take]
        exact small1000 (by omega)
      · rw [upd_upd, take_sub hzi, List.map_append]
        rfl
    rintro H' rfl
    rw [hlen', List.take_length]
    have a1 := same_new (o := .lst (hs'.map V.int)) he0
    refine ⟨e0, hs', rfl, SqL.of upd_same, by omega, fun ns' l3 hp1 hp2 hl3 => ?_⟩
    obtain rfl := eq_isort hp1 hp2
    have a2 := same_new (o := .lst ((isort hs').map V.int)) hl3
    refine ⟨_, rfl, ru, _, _, _, rfl, rfl, SqT.of ((a1.trans a2) _ _ RT17.1), atL (j := 3) rfl, (by show 4 ≤ sizeLine; decide), fun t5 ht5 => ?_⟩
    have a3 := same_new (o := .tup [.int b, .str k'.s, .ref l3, .int most']) ht5
    have s18 := a1.trans (a2.trans a3)
    refine ⟨_, rfl, dueD b k' (isort hs') most', dueD b k (isort acc) most, dp_due upd_same (a3 _ _ upd_same), dp_due (s18 _ _ hd17) (s18 _ _ hl17), shaped_due, shaped_due, ?_⟩
    rw [eqv_due]
    obtain ⟨bb, ebb⟩ : ∃ bb : Bool, bb = decide (b = b ∧ k' = k ∧ isort hs' = isort acc ∧ most' = most) := ⟨_, rfl⟩
    rw [← ebb]
    refine gN (σ' := [some (.ref p), some (.ref f), some (.int b), some (.str k.s), some (.ref lh), some (.int most), some (.ref D6), none, some (.ref x), some (.ref du), none, some (.ref so), some (.ref ru), some (.bl bb), none]) rfl ?_
    refine absP (fun H18 => Same H17 H18) s18 ?_
    clear s18 a1 a2 a3 ht5 hl3 hp1 hp2 he0
    rintro H18 s18
    have RT18 := RT17.same s18
    have X18 := X17.same s18
    have k18 := k17'.trans (Same.kp s18 p)
    have P18 := P17.same s18
    have hl18 := s18 _ _ hl17
    have hd18 := s18 _ _ hd17
    clear s18 RT17 X17 k17' P17 hl17 hd17 hlen'
    have em' : ∀ {C : Addr} {Hn : Hp} {r2 : Addr} {D2 : RD}, RX C Hn r2 b k' hs' most' D2 → D2.ms' = isort hs' := fun X => eq_isort X.pm X.ps
    have ebb' : ∀ D2 : RD, D2.ms' = isort hs' → decide (b = b ∧ k = k' ∧ Dr.ms' = D2.ms' ∧ most = most') = bb := fun D2 e => by
      rw [ebb, e, em]
      exact decide_eq_decide.mpr ⟨fun z => ⟨rfl, z.2.1.symm, z.2.2.1.symm, z.2.2.2.symm⟩, fun z => ⟨rfl, z.2.1.symm, z.2.2.1.symm, z.2.2.2.symm⟩⟩
    -- made == another
    refine ⟨_, rfl, _, rfl, ru, lo, b, k', hs', most', rfl, RT18, R', fun H19 r2 D2 s19 _ X19 _ _ => ?_⟩
    have X9 := X18.same s19
    refine ⟨x, Dr.dx, _, .ref A.c_Rule, rfl, X9.at_, .base (.ins X19.at_ T.cl T.ic.ha T.ic.hn T.ic.htk T.ic.hm), by unfold PySem.W.notFirst; simp, x, .ref r2, b, k, acc, most, Dr, rfl, X9, .inl ⟨r2, b, k', hs', most', D2, rfl, X19, _, rfl, ?_⟩⟩
    rw [ebb' D2 (em' X19)]
    refine ⟨_, rfl, rfl, _, rfl, ?_⟩
    rw [decide_eq_true rfl]
    refine iteF ?_
    refine ⟨_, rfl, _, rfl, ru, lo, b, k', hs', most', rfl, RT18.same s19, R', fun H20 r3 D3 s20 _ X20 _ _ => ?_⟩
    have X10 := X9.same s20
    refine ⟨x, Dr.dx, _, r3, D3.dx, _, rfl, rfl, X10.at_, X20.at_, x, .ref r3, b, k, acc, most, Dr, rfl, X10, .inl ⟨r3, b, k', hs', most', D3, rfl, X20, _, rfl, ?_⟩⟩
    rw [ebb' D3 (em' X20)]
    refine ⟨_, rfl, rfl, _, rfl, ?_⟩
    rw [decide_eq_false (by intro z; cases bb <;> cases z)]
    refine iteF ?_
    have s18 := s19.trans s20
    have hd20 := s18 _ _ hd18
    have hl20 := s18 _ _ hl18
    refine ⟨_, rfl, _, rfl, x, Dr.dx, _, .type "tuple", rfl, X10.at_, .base (.tup hd20), (kit_tup T).2, x, .ref du, b, k, acc, most, Dr, rfl, X10, .inr (.inl ⟨⟨_, du, rfl, hd20⟩, _, rfl, _, rfl, iteF ?_⟩)⟩
    refine ⟨_, rfl, x, Dr.dx, _, .type "NoneType", rfl, X10.at_, .base .non, (kit_non T).2, x, .non, b, k, acc, most, Dr, rfl, X10, .inr (.inr ⟨rfl, _, rfl, _, rfl, iteF ?_⟩)⟩
    have k20 := k18.trans (Same.kp s18 p)
    have P20 := P18.same s18
    clear s18 X20 s20 X9 X19 s19 ebb' em' hl18 hd18 k18 P18 X18 RT18
    -- what does not fit
    have i0 : (isort acc).Nodup := (isort_perm acc).nodup_iff.mpr nd
    refine ⟨_, rfl, _, rfl, _, rfl, _, rfl, du, _, _, _, rfl, rfl, SqT.of hd20, atL (j := 2) rfl, _, rfl, p, ld, b, k, isort acc, most, 21, rfl, P20, by decide, hl20, ldp, b2, b10, ine, i4, i0, i25, D'.drw, by omega, T.kz_Inside, T.kz_empty, T.kz_ticks, fun H21 R es k21 P21 R0 hR lenE rdy fre => ?_⟩
    refine gN (σ' := [some (.ref p), some (.ref f), some (.int b), some (.str k.s), some (.ref lh), some (.int most), some (.ref D6), none, some (.ref x), some (.ref du), none, some (.ref so), some (.ref ru), some (.bl bb), some (.ref R)]) rfl ?_
    have np20 : ∀ e ∈ es, ∀ c o, H20 c = some o → e.vm ≠ .ref c := fun e he c o h z => by
      rw [(fre e he c z).1] at h
      cases h
    refine ⟨_, rfl, R, rfl, ⟨_, SqL.of hR⟩, fun D7 hD7 => lc_list (K := K) (a := R) (xs := es.map fun e => V.ref e.t) (fun i H' => Frame es i H21 H' ∧ H' D7 = some (.lst [])) ⟨fun c o h _ => by rw [upd_ne (ne_of_none h hD7)]; exact h, upd_same⟩ ?_ ?_ ?_⟩
    · rintro i H' _ ⟨fr, _⟩
      exact SqL.of (fr R _ hR (.inl fun e he z => (fre e (List.mem_of_mem_take he) R z).2 rfl))
    · rintro i y H' hi ⟨fr, hD7'⟩
      rw [List.getElem?_map] at hi
      obtain ⟨e, hie, rfl⟩ := Option.map_eq_some_iff.mp hi
      obtain ⟨het, bad, d1, d2, d3, d4, dx4, o1, o2, o3, o4, ap⟩ := rdy i e hie H' fr
      have hit : i < es.length := (List.getElem?_eq_some_iff.mp hie).1
      have ei : es[i] = e := (List.getElem?_eq_some_iff.mp hie).2
      have vD : e.vm ≠ .ref D7 := fun z => by
        obtain ⟨_, ⟨_, _, _, _, _, _, hv, _, _⟩, _⟩ := rdy i e hie H21 (fun c o h _ => h)
        rw [z] at hv
        cases hv with
        | lst e => rw [hD7] at e; cases e
        | tup e => rw [hD7] at e; cases e
        | emp e => rw [hD7] at e; cases e
      refine ⟨rfl, ?_⟩
      refine ⟨_, rfl, e.t, _, _, _, rfl, rfl, SqT.of het, atL (j := 0) rfl, _, rfl, e.t, _, _, _, rfl, rfl, SqT.of het, atL (j := 1) rfl, _, rfl, e.t, _, _, _, rfl, rfl, SqT.of het, atL (j := 2) rfl, _, rfl, e.t, _, _, _, rfl, rfl, SqT.of het, atL (j := 3) rfl, ?_⟩
      refine ⟨e.vb, e.vk, e.vm, e.vo, d1, d2, d3, d4, rfl, bad, dx4, o1, o2, o3, o4, ap, fun H'' kv => ⟨_, rfl, ?_⟩⟩
      refine iteF ⟨fun c o h hc => kv c o (hc.imp (fun hh => hh e ?_) id) (fr c o h (hc.imp (fun hh g hg => hh g ?_) id)), kv _ _ (.inl vD) hD7'⟩
      · rw [List.take_add_one, hie]
        exact List.mem_append_right _ (List.mem_singleton.mpr rfl)
      · rw [List.take_add_one]
        exact List.mem_append_left _ hg
    rintro H22 ⟨fr, hD7'⟩
    have k22 : Kp p H20 H22 := fun c o n h => fr c o (k21 c o n h) (.inl fun e he => np20 e (List.mem_of_mem_take he) c o h)
    clear fr rdy fre np20 R0 hR lenE hD7
    refine ⟨Nat.zero_le _, fun l9 hl9 => ?_⟩
    have a1 := same_new (o := .lst []) hl9
    refine ⟨.list [], .list [], .lst (SqL.of (a1 _ _ hD7')) .nil, .lst (SqL.of upd_same) .nil, by decide, by decide, _, rfl, ?_⟩
    rw [eqv_nil_nil]
    refine iteF ?_
    have k23 := k22.trans (Same.kp a1 p)
    refine absP (fun H23 => Kp p H20 H23) k23 ?_
    clear k23 a1 hl9 hD7' k22 k21 P21
    rintro H23 k23
    obtain ⟨pl2, e2⟩ := P20.some
    have X23 := X10.but e2 lmp lrp k23
    have hl23 := k23 _ _ ldp hl20
    have hd23 := k23 _ _ ndu hd20
    have kA := k1.trans (k20.trans k23)
    clear k23 hl20 hd20 X10 e2 k20 P20
    -- refused also
    obtain ⟨bad, d1, d2, d3, d4, dx4, o1, o2, o3, o4, ap⟩ : PreR K A H23 .non (.int 0) .non .non := pre_not (l := p) ⟨"NoneType", "int", "NoneType", "NoneType", .non, .int _, .non, .non, .inl rfl⟩ comp_non (comp_int (by decide) (by decide)) comp_non comp_non (fun a xs e => by cases e)
    refine ⟨_, _, _, _, d1, d2, d3, d4, rfl, bad, dx4, o1, o2, o3, o4, ap, fun H24 kv => ⟨_, rfl, iteT ?_⟩⟩
    have s24 : Same H23 H24 := fun c o h => kv c o (.inl fun z => by cases z) h
    clear bad dx4 o1 o2 o3 o4 ap kv
    refine ⟨_, rfl, _, rfl, _, rfl, (by show 1 ≤ sizeLine; decide), fun lb hlb => ?_⟩
    have s25 := same_new (o := .lst [.int b]) hlb
    obtain ⟨bad, d1, d2, d3, d4, dx4, o1, o2, o3, o4, ap⟩ : PreR K A (upd H24 lb (.lst [.int b])) (.int b) (.str k.s) (.ref lb) (.int 0) :=
      pre_own (l := lb) (ds := [.int b]) ⟨"int", "str", "list", "int", .int _, .str _, .lst upd_same, .int _, .inr (.inl ⟨b, rfl, b2, .inl ⟨k, rfl, decide_eq_false (by have := (kl k).1; omega)⟩⟩)⟩ (comp_int (by omega) (by omega)) (comp_kd k) (comp_int (by decide) (by decide)) upd_same (by show 1 ≤ 60; decide) (fun H' => .cons (.int b) .nil) (tiny_one (tiny_int (by omega) (by omega))) (by show 1 ≤ 7; decide)
    refine ⟨_, _, _, _, d1, d2, d3, d4, rfl, bad, dx4, o1, o2, o3, o4, ap, fun H26 kv => ⟨_, rfl, iteT ?_⟩⟩
    have s26 : Same H23 H26 := fun c o h => kv c o (.inl fun z => by cases z; rw [s24 _ _ h] at hlb; cases hlb) (s25 _ _ (s24 _ _ h))
    clear bad dx4 o1 o2 o3 o4 ap kv s25 s24 hlb
    refine ⟨_, rfl, x, b, k, acc, most, Dr, rfl, X23.same s26, fun H27 t27 l27 s27 _ _ ht27 hl27 => ?_⟩
    rw [em] at hl27
    have s237 := s26.trans s27
    refine ⟨_, rfl, dueD b k (isort acc) most, dueD b k (isort acc) most, dp_due ht27 hl27, dp_due (s237 _ _ hd23) (s237 _ _ hl23), shaped_due, shaped_due, ?_⟩
    rw [eqv_due, decide_eq_true ⟨rfl, rfl, rfl, rfl⟩]
    exact q _ (kA.trans (Same.kp s237 p))
end
end Ax

namespace Ax
open PySem L2
section
variable {P : Program} {w : World} {K : PySem.W.Frag} {mg : Str → Option Value} {base : Heap} {A : Adr}
def spLaw (K : PySem.W.Frag) : Sp := fun vs H Q _ => ∃ (a : Addr) (ns : List Int), vs = [.ref a] ∧ SqL K H a (ns.map V.int) ∧ ns.length ≤ 63 ∧ ∀ H', Q (.bl true) H'
abbrev nm_law : List Str := ["_law_script", "_law_turn"]
theorem sc_law : FnScope ["_law_script", "_law_turn"] ["_law_script"] (defScope s_law) := ⟨rfl, rfl, rfl, by decide +kernel, rfl, by decide +kernel, by decide +kernel⟩
theorem ok_law (T : Txt K mg A w) : FnG P w K mg base 8 A.a_law A.d_law ["_law_script"] (spLaw K) := by
  have G_law_purse : FnOk P w K mg base CX0 1 A.a_law_purse A.d_law_purse ["_law_script", "_law_at"] (spPurse K) := ok_purse T
  have G_law_right : FnG P w K mg base 7 A.a_law_right A.d_law_right ["_law_purse_here"] spRight2 := ok_right2 T
  refine fnG (T.F_law) sc_law (fun vs H Q E h => ?_) (fun cdv A0 outer s H vs Q E hg hr h => ?_)
  · obtain ⟨a, ns, rfl, _⟩ := h
    rfl
  · obtain ⟨a, ns, rfl, hS, hlen, q⟩ := h
    refine ⟨_, (pss_cons (ps_for PassesOwn.never rfl (pi_range1 rfl T.n_range (pa_cons pe_int pa_nil)) (pg_name (i := 1) sc_law.nd rfl (Or.inl rfl))
  (pss_one (ps_if (pt_not (pt_val (pe_callG G_law_right hg (hr.mono (by decide)) (by rfl) T.m_law_right T.F_law_right.kp T.B_law_right pass0 (pa_cons (pe_call G_law_purse (hr.mono (by decide)) (by rfl) T.m_law_purse T.F_law_purse.kp T.B_law_purse .nil pass0 (pa_cons (pv 0) (pa_cons (pv 1) pa_nil))) pa_nil)))) (pss_one (ps_ret pe_bl)) pss_nil)))
  (pss_one (ps_ret pe_bl))), ?_⟩
    refine ⟨6, rfl, by decide, by decide, for_range (lo := 0) (n := 6) (fun i σ H' => ∃ v1 : Option V, σ = [some (.ref a), v1] ∧ Same H H') ⟨_, rfl, Same.refl H⟩ ?_ ?_⟩
    · rintro i σ H0 hi ⟨v1, rfl, s0⟩
      refine ⟨_, rfl, _, rfl, a, ns, i, by rw [Int.zero_add]; rfl, s0.seq hS, hlen, fun H1 p s1 p0 P1 => ?_⟩
      refine ⟨p, rfl, P1, fun H2 k2 => ⟨_, rfl, ?_⟩⟩
      refine iteF ⟨_, rfl, fun c o e => ?_⟩
      have ncp : c ≠ p := fun z => by
        rw [z] at e
        rw [s0 _ _ e] at p0
        cases p0
      exact k2 c o ncp (s1 _ _ (s0 _ _ e))
    · rintro σ H' ⟨v1, rfl, s0⟩
      exact q H'
end
end Ax

namespace Ax
open PySem L2
/-- an error of this class is what its own clause names -/
theorem exc_self {K : PySem.W.Frag} {C : Addr} (b : PySem.W.subIn K (.ref C) (.type "BaseException") = some true) (i : PySem.W.isClsIn K C = true) (t : PySem.W.typeIn K (.ref C) = some (.type "type")) (s : PySem.W.subIn K (.ref C) (.ref C) = some true) : PySem.W.exmOne K (.ref C) (.ref C) = some true := by
  have i' : (PySem.W.clsIn K C).isSome = true := i
  unfold PySem.W.exmOne
  rw [if_pos (by rw [b]; rfl)]
  show (if ((PySem.W.clsIn K C).isSome && PySem.W.typeIn K (.ref C) == some (.type "type")) = true then PySem.W.subIn K (.ref C) (.ref C) else none) = some true
  rw [if_pos (by rw [i', t]; rfl), s]
/-! ### what the top has written, the head -/
theorem keys3 {P : Params} {x1 x2 x3 : Str} {t1 t2 t3 : Tok} {v1 v2 v3 : Value} : PySem.W.KeysLit P [{ hash := PyData.keyHash P x1, key := .str x1 t1, val := v1 }, { hash := PyData.keyHash P x2, key := .str x2 t2, val := v2 }, { hash := PyData.keyHash P x3, key := .str x3 t3, val := v3 }] := by
  simp only [PySem.W.KeysLit]
  exact ⟨⟨_, _, rfl, rfl⟩, ⟨_, _, rfl, rfl⟩, ⟨_, _, rfl, rfl⟩, trivial⟩
theorem all_mk {l : PySem.W.OpenLaw} {w : World} {K : PySem.W.Frag} {h : Heap} {mg : Str → Option Value} {fa C aL : Addr} {es : Array DictEntry} {nL : Nat} {t1 t2 t3 : Tok} (X : K.In h) (G : h.Ns mainGlobals mg) (hfa : mg "law" = some (.ref fa))
    {f1 : Addr} {od1 an1 : Option Addr} {sl1 : Array (Option Value)} {oc1 kV1 dc1 pm1 cd1 ct1 : Value}
    {f2 : Addr} {od2 an2 : Option Addr} {sl2 : Array (Option Value)} {oc2 kV2 dc2 pm2 cd2 ct2 : Value}
    {f3 : Addr} {od3 an3 : Option Addr} {sl3 : Array (Option Value)} {oc3 kV3 dc3 pm3 cd3 ct3 : Value}
    {f4 : Addr} {od4 an4 : Option Addr} {sl4 : Array (Option Value)} {oc4 kV4 dc4 pm4 cd4 ct4 : Value}
    {f5 : Addr} {od5 an5 : Option Addr} {sl5 : Array (Option Value)} {oc5 kV5 dc5 pm5 cd5 ct5 : Value}
    {f6 : Addr} {od6 an6 : Option Addr} {sl6 : Array (Option Value)} {oc6 kV6 dc6 pm6 cd6 ct6 : Value}
    {f7 : Addr} {od7 an7 : Option Addr} {sl7 : Array (Option Value)} {oc7 kV7 dc7 pm7 cd7 ct7 : Value}
    {f8 : Addr} {od8 an8 : Option Addr} {sl8 : Array (Option Value)} {oc8 kV8 dc8 pm8 cd8 ct8 : Value}
    {f9 : Addr} {od9 an9 : Option Addr} {sl9 : Array (Option Value)} {oc9 kV9 dc9 pm9 cd9 ct9 : Value}
    {f10 : Addr} {od10 an10 : Option Addr} {sl10 : Array (Option Value)} {oc10 kV10 dc10 pm10 cd10 ct10 : Value}
    {f11 : Addr} {od11 an11 : Option Addr} {sl11 : Array (Option Value)} {oc11 kV11 dc11 pm11 cd11 ct11 : Value}
    {f12 : Addr} {od12 an12 : Option Addr} {sl12 : Array (Option Value)} {oc12 kV12 dc12 pm12 cd12 ct12 : Value}
    {f13 : Addr} {od13 an13 : Option Addr} {sl13 : Array (Option Value)} {oc13 kV13 dc13 pm13 cd13 ct13 : Value}
    {f14 : Addr} {od14 an14 : Option Addr} {sl14 : Array (Option Value)} {oc14 kV14 dc14 pm14 cd14 ct14 : Value}
    {f15 : Addr} {od15 an15 : Option Addr} {sl15 : Array (Option Value)} {oc15 kV15 dc15 pm15 cd15 ct15 : Value}
    {f16 : Addr} {od16 an16 : Option Addr} {sl16 : Array (Option Value)} {oc16 kV16 dc16 pm16 cd16 ct16 : Value}
    {f17 : Addr} {od17 an17 : Option Addr} {sl17 : Array (Option Value)} {oc17 kV17 dc17 pm17 cd17 ct17 : Value}
    {f18 : Addr} {od18 an18 : Option Addr} {sl18 : Array (Option Value)} {oc18 kV18 dc18 pm18 cd18 ct18 : Value}
    {f19 : Addr} {od19 an19 : Option Addr} {sl19 : Array (Option Value)} {oc19 kV19 dc19 pm19 cd19 ct19 : Value}
    {f20 : Addr} {od20 an20 : Option Addr} {sl20 : Array (Option Value)} {oc20 kV20 dc20 pm20 cd20 ct20 : Value}
    {f21 : Addr} {od21 an21 : Option Addr} {sl21 : Array (Option Value)} {oc21 kV21 dc21 pm21 cd21 ct21 : Value}
    {f22 : Addr} {od22 an22 : Option Addr} {sl22 : Array (Option Value)} {oc22 kV22 dc22 pm22 cd22 ct22 : Value}
    {f23 : Addr} {od23 an23 : Option Addr} {sl23 : Array (Option Value)} {oc23 kV23 dc23 pm23 cd23 ct23 : Value}
    {f24 : Addr} {od24 an24 : Option Addr} {sl24 : Array (Option Value)} {oc24 kV24 dc24 pm24 cd24 ct24 : Value}
    {f25 : Addr} {od25 an25 : Option Addr} {sl25 : Array (Option Value)} {oc25 kV25 dc25 pm25 cd25 ct25 : Value}
    {f26 : Addr} {od26 an26 : Option Addr} {sl26 : Array (Option Value)} {oc26 kV26 dc26 pm26 cd26 ct26 : Value}
    {f27 : Addr} {od27 an27 : Option Addr} {sl27 : Array (Option Value)} {oc27 kV27 dc27 pm27 cd27 ct27 : Value}
    {f28 : Addr} {od28 an28 : Option Addr} {sl28 : Array (Option Value)} {oc28 kV28 dc28 pm28 cd28 ct28 : Value}
    {f29 : Addr} {od29 an29 : Option Addr} {sl29 : Array (Option Value)} {oc29 kV29 dc29 pm29 cd29 ct29 : Value}
    {f30 : Addr} {od30 an30 : Option Addr} {sl30 : Array (Option Value)} {oc30 kV30 dc30 pm30 cd30 ct30 : Value}
    {f31 : Addr} {od31 an31 : Option Addr} {sl31 : Array (Option Value)} {oc31 kV31 dc31 pm31 cd31 ct31 : Value}
    {f32 : Addr} {od32 an32 : Option Addr} {sl32 : Array (Option Value)} {oc32 kV32 dc32 pm32 cd32 ct32 : Value}
    {f33 pA33 : Addr} {od33 an33 : Option Addr} {sl33 : Array (Option Value)} {oc33 kV33 dc33 pm33 cd33 ct33 : Value} {rest33 : List Value}
    {f34 pA34 : Addr} {od34 an34 : Option Addr} {sl34 : Array (Option Value)} {oc34 kV34 dc34 pm34 cd34 ct34 : Value} {rest34 : List Value}
    {f35 pA35 : Addr} {od35 an35 : Option Addr} {sl35 : Array (Option Value)} {oc35 kV35 dc35 pm35 cd35 ct35 : Value} {rest35 : List Value}
    {f36 pA36 : Addr} {od36 an36 : Option Addr} {sl36 : Array (Option Value)} {oc36 kV36 dc36 pm36 cd36 ct36 : Value} {rest36 : List Value}
    {f37 pA37 : Addr} {od37 an37 : Option Addr} {sl37 : Array (Option Value)} {oc37 kV37 dc37 pm37 cd37 ct37 : Value} {rest37 : List Value}
    (a1 : PySem.W.nsIn K mainGlobals "is_whole" = some (some (.ref f1)))
    (l1 : K.lookup f1 = some ⟨oc1, od1, .func (PySem.W.fnOf "is_whole" "is_whole" (defArgs s_is_whole) (defBody s_is_whole) (defScope s_is_whole) .none kV1 dc1 pm1 an1 cd1 ct1), sl1⟩) (c1 : PySem.W.codeIn K cd1 "is_whole" = true) (k1 : PySem.W.keepIn K (.ref f1) = true)
    (a2 : PySem.W.nsIn K mainGlobals "is_base" = some (some (.ref f2)))
    (l2 : K.lookup f2 = some ⟨oc2, od2, .func (PySem.W.fnOf "is_base" "is_base" (defArgs s_is_base) (defBody s_is_base) (defScope s_is_base) .none kV2 dc2 pm2 an2 cd2 ct2), sl2⟩) (c2 : PySem.W.codeIn K cd2 "is_base" = true) (k2 : PySem.W.keepIn K (.ref f2) = true)
    (a3 : PySem.W.nsIn K mainGlobals "is_span" = some (some (.ref f3)))
    (l3 : K.lookup f3 = some ⟨oc3, od3, .func (PySem.W.fnOf "is_span" "is_span" (defArgs s_is_span) (defBody s_is_span) (defScope s_is_span) .none kV3 dc3 pm3 an3 cd3 ct3), sl3⟩) (c3 : PySem.W.codeIn K cd3 "is_span" = true) (k3 : PySem.W.keepIn K (.ref f3) = true)
    (a4 : PySem.W.nsIn K mainGlobals "power_of" = some (some (.ref f4)))
    (l4 : K.lookup f4 = some ⟨oc4, od4, .func (PySem.W.fnOf "power_of" "power_of" (defArgs s_power_of) (defBody s_power_of) (defScope s_power_of) .none kV4 dc4 pm4 an4 cd4 ct4), sl4⟩) (c4 : PySem.W.codeIn K cd4 "power_of" = true) (k4 : PySem.W.keepIn K (.ref f4) = true)
    (a5 : PySem.W.nsIn K mainGlobals "log_of" = some (some (.ref f5)))
    (l5 : K.lookup f5 = some ⟨oc5, od5, .func (PySem.W.fnOf "log_of" "log_of" (defArgs s_log_of) (defBody s_log_of) (defScope s_log_of) .none kV5 dc5 pm5 an5 cd5 ct5), sl5⟩) (c5 : PySem.W.codeIn K cd5 "log_of" = true) (k5 : PySem.W.keepIn K (.ref f5) = true)
    (a6 : PySem.W.nsIn K mainGlobals "measure" = some (some (.ref f6)))
    (l6 : K.lookup f6 = some ⟨oc6, od6, .func (PySem.W.fnOf "measure" "measure" (defArgs s_measure) (defBody s_measure) (defScope s_measure) .none kV6 dc6 pm6 an6 cd6 ct6), sl6⟩) (c6 : PySem.W.codeIn K cd6 "measure" = true) (k6 : PySem.W.keepIn K (.ref f6) = true)
    (a7 : PySem.W.nsIn K mainGlobals "reach" = some (some (.ref f7)))
    (l7 : K.lookup f7 = some ⟨oc7, od7, .func (PySem.W.fnOf "reach" "reach" (defArgs s_reach) (defBody s_reach) (defScope s_reach) .none kV7 dc7 pm7 an7 cd7 ct7), sl7⟩) (c7 : PySem.W.codeIn K cd7 "reach" = true) (k7 : PySem.W.keepIn K (.ref f7) = true)
    (a8 : PySem.W.nsIn K mainGlobals "rungs_of" = some (some (.ref f8)))
    (l8 : K.lookup f8 = some ⟨oc8, od8, .func (PySem.W.fnOf "rungs_of" "rungs_of" (defArgs s_rungs_of) (defBody s_rungs_of) (defScope s_rungs_of) .none kV8 dc8 pm8 an8 cd8 ct8), sl8⟩) (c8 : PySem.W.codeIn K cd8 "rungs_of" = true) (k8 : PySem.W.keepIn K (.ref f8) = true)
    (a9 : PySem.W.nsIn K mainGlobals "step_at" = some (some (.ref f9)))
    (l9 : K.lookup f9 = some ⟨oc9, od9, .func (PySem.W.fnOf "step_at" "step_at" (defArgs s_step_at) (defBody s_step_at) (defScope s_step_at) .none kV9 dc9 pm9 an9 cd9 ct9), sl9⟩) (c9 : PySem.W.codeIn K cd9 "step_at" = true) (k9 : PySem.W.keepIn K (.ref f9) = true)
    (a10 : PySem.W.nsIn K mainGlobals "low_rung" = some (some (.ref f10)))
    (l10 : K.lookup f10 = some ⟨oc10, od10, .func (PySem.W.fnOf "low_rung" "low_rung" (defArgs s_low_rung) (defBody s_low_rung) (defScope s_low_rung) .none kV10 dc10 pm10 an10 cd10 ct10), sl10⟩) (c10 : PySem.W.codeIn K cd10 "low_rung" = true) (k10 : PySem.W.keepIn K (.ref f10) = true)
    (a11 : PySem.W.nsIn K mainGlobals "_kind_and_most_fit" = some (some (.ref f11)))
    (l11 : K.lookup f11 = some ⟨oc11, od11, .func (PySem.W.fnOf "_kind_and_most_fit" "_kind_and_most_fit" (defArgs s_kind_and_most_fit) (defBody s_kind_and_most_fit) (defScope s_kind_and_most_fit) .none kV11 dc11 pm11 an11 cd11 ct11), sl11⟩) (c11 : PySem.W.codeIn K cd11 "_kind_and_most_fit" = true) (k11 : PySem.W.keepIn K (.ref f11) = true)
    (a12 : PySem.W.nsIn K mainGlobals "_mantissas_fit" = some (some (.ref f12)))
    (l12 : K.lookup f12 = some ⟨oc12, od12, .func (PySem.W.fnOf "_mantissas_fit" "_mantissas_fit" (defArgs s_mantissas_fit) (defBody s_mantissas_fit) (defScope s_mantissas_fit) .none kV12 dc12 pm12 an12 cd12 ct12), sl12⟩) (c12 : PySem.W.codeIn K cd12 "_mantissas_fit" = true) (k12 : PySem.W.keepIn K (.ref f12) = true)
    (a13 : PySem.W.nsIn K mainGlobals "_arguments_fit" = some (some (.ref f13)))
    (l13 : K.lookup f13 = some ⟨oc13, od13, .func (PySem.W.fnOf "_arguments_fit" "_arguments_fit" (defArgs s_arguments_fit) (defBody s_arguments_fit) (defScope s_arguments_fit) .none kV13 dc13 pm13 an13 cd13 ct13), sl13⟩) (c13 : PySem.W.codeIn K cd13 "_arguments_fit" = true) (k13 : PySem.W.keepIn K (.ref f13) = true)
    (a14 : PySem.W.nsIn K mainGlobals "_is_dividing" = some (some (.ref f14)))
    (l14 : K.lookup f14 = some ⟨oc14, od14, .func (PySem.W.fnOf "_is_dividing" "_is_dividing" (defArgs s_is_dividing) (defBody s_is_dividing) (defScope s_is_dividing) .none kV14 dc14 pm14 an14 cd14 ct14), sl14⟩) (c14 : PySem.W.codeIn K cd14 "_is_dividing" = true) (k14 : PySem.W.keepIn K (.ref f14) = true)
    (a15 : PySem.W.findIn K (.ref C) "__init__" = some (some (.ref f15))) (i15 : PySem.W.isFn K (.ref f15) = true)
    (l15 : K.lookup f15 = some ⟨oc15, od15, .func (PySem.W.fnOf "__init__" "Rule.__init__" (defArgs s_Rule_init) (defBody s_Rule_init) (defScope s_Rule_init) .none kV15 dc15 pm15 an15 cd15 ct15), sl15⟩) (c15 : PySem.W.codeIn K cd15 "Rule.__init__" = true) (k15 : PySem.W.keepIn K (.ref f15) = true)
    (a16 : PySem.W.findIn K (.ref C) "__eq__" = some (some (.ref f16))) (i16 : PySem.W.isFn K (.ref f16) = true)
    (l16 : K.lookup f16 = some ⟨oc16, od16, .func (PySem.W.fnOf "__eq__" "Rule.__eq__" (defArgs s_Rule___eq__) (defBody s_Rule___eq__) (defScope s_Rule___eq__) .none kV16 dc16 pm16 an16 cd16 ct16), sl16⟩) (c16 : PySem.W.codeIn K cd16 "Rule.__eq__" = true) (k16 : PySem.W.keepIn K (.ref f16) = true)
    (a17 : PySem.W.findIn K (.ref C) "step" = some (some (.ref f17))) (i17 : PySem.W.isFn K (.ref f17) = true)
    (l17 : K.lookup f17 = some ⟨oc17, od17, .func (PySem.W.fnOf "step" "Rule.step" (defArgs s_Rule_step) (defBody s_Rule_step) (defScope s_Rule_step) .none kV17 dc17 pm17 an17 cd17 ct17), sl17⟩) (c17 : PySem.W.codeIn K cd17 "Rule.step" = true) (k17 : PySem.W.keepIn K (.ref f17) = true)
    (a18 : PySem.W.findIn K (.ref C) "marks" = some (some (.ref f18))) (i18 : PySem.W.isFn K (.ref f18) = true)
    (l18 : K.lookup f18 = some ⟨oc18, od18, .func (PySem.W.fnOf "marks" "Rule.marks" (defArgs s_Rule_marks) (defBody s_Rule_marks) (defScope s_Rule_marks) .none kV18 dc18 pm18 an18 cd18 ct18), sl18⟩) (c18 : PySem.W.codeIn K cd18 "Rule.marks" = true) (k18 : PySem.W.keepIn K (.ref f18) = true)
    (a19 : PySem.W.findIn K (.ref C) "_fits" = some (some (.ref f19))) (i19 : PySem.W.isFn K (.ref f19) = true)
    (l19 : K.lookup f19 = some ⟨oc19, od19, .func (PySem.W.fnOf "_fits" "Rule._fits" (defArgs s_Rule__fits) (defBody s_Rule__fits) (defScope s_Rule__fits) .none kV19 dc19 pm19 an19 cd19 ct19), sl19⟩) (c19 : PySem.W.codeIn K cd19 "Rule._fits" = true) (k19 : PySem.W.keepIn K (.ref f19) = true)
    (a20 : PySem.W.nsIn K mainGlobals "_law_purse" = some (some (.ref f20)))
    (l20 : K.lookup f20 = some ⟨oc20, od20, .func (PySem.W.fnOf "_law_purse" "_law_purse" (defArgs s_law_purse) (defBody s_law_purse) (defScope s_law_purse) .none kV20 dc20 pm20 an20 cd20 ct20), sl20⟩) (c20 : PySem.W.codeIn K cd20 "_law_purse" = true) (k20 : PySem.W.keepIn K (.ref f20) = true)
    (a21 : PySem.W.nsIn K mainGlobals "_law_draw" = some (some (.ref f21)))
    (l21 : K.lookup f21 = some ⟨oc21, od21, .func (PySem.W.fnOf "_law_draw" "_law_draw" (defArgs s_law_draw) (defBody s_law_draw) (defScope s_law_draw) .none kV21 dc21 pm21 an21 cd21 ct21), sl21⟩) (c21 : PySem.W.codeIn K cd21 "_law_draw" = true) (k21 : PySem.W.keepIn K (.ref f21) = true)
    (a22 : PySem.W.nsIn K mainGlobals "_law_pick" = some (some (.ref f22)))
    (l22 : K.lookup f22 = some ⟨oc22, od22, .func (PySem.W.fnOf "_law_pick" "_law_pick" (defArgs s_law_pick) (defBody s_law_pick) (defScope s_law_pick) .none kV22 dc22 pm22 an22 cd22 ct22), sl22⟩) (c22 : PySem.W.codeIn K cd22 "_law_pick" = true) (k22 : PySem.W.keepIn K (.ref f22) = true)
    (a23 : PySem.W.nsIn K mainGlobals "_law_family" = some (some (.ref f23)))
    (l23 : K.lookup f23 = some ⟨oc23, od23, .func (PySem.W.fnOf "_law_family" "_law_family" (defArgs s_law_family) (defBody s_law_family) (defScope s_law_family) .none kV23 dc23 pm23 an23 cd23 ct23), sl23⟩) (c23 : PySem.W.codeIn K cd23 "_law_family" = true) (k23 : PySem.W.keepIn K (.ref f23) = true)
    (a24 : PySem.W.nsIn K mainGlobals "_law_rule" = some (some (.ref f24)))
    (l24 : K.lookup f24 = some ⟨oc24, od24, .func (PySem.W.fnOf "_law_rule" "_law_rule" (defArgs s_law_rule) (defBody s_law_rule) (defScope s_law_rule) .none kV24 dc24 pm24 an24 cd24 ct24), sl24⟩) (c24 : PySem.W.codeIn K cd24 "_law_rule" = true) (k24 : PySem.W.keepIn K (.ref f24) = true)
    (a25 : PySem.W.nsIn K mainGlobals "_law_made" = some (some (.ref f25)))
    (l25 : K.lookup f25 = some ⟨oc25, od25, .func (PySem.W.fnOf "_law_made" "_law_made" (defArgs s_law_made) (defBody s_law_made) (defScope s_law_made) .none kV25 dc25 pm25 an25 cd25 ct25), sl25⟩) (c25 : PySem.W.codeIn K cd25 "_law_made" = true) (k25 : PySem.W.keepIn K (.ref f25) = true)
    (a26 : PySem.W.nsIn K mainGlobals "_law_times" = some (some (.ref f26)))
    (l26 : K.lookup f26 = some ⟨oc26, od26, .func (PySem.W.fnOf "_law_times" "_law_times" (defArgs s_law_times) (defBody s_law_times) (defScope s_law_times) .none kV26 dc26 pm26 an26 cd26 ct26), sl26⟩) (c26 : PySem.W.codeIn K cd26 "_law_times" = true) (k26 : PySem.W.keepIn K (.ref f26) = true)
    (a27 : PySem.W.nsIn K mainGlobals "_law_refused" = some (some (.ref f27)))
    (l27 : K.lookup f27 = some ⟨oc27, od27, .func (PySem.W.fnOf "_law_refused" "_law_refused" (defArgs s_law_refused) (defBody s_law_refused) (defScope s_law_refused) .none kV27 dc27 pm27 an27 cd27 ct27), sl27⟩) (c27 : PySem.W.codeIn K cd27 "_law_refused" = true) (k27 : PySem.W.keepIn K (.ref f27) = true)
    (a28 : PySem.W.nsIn K mainGlobals "_law_fields" = some (some (.ref f28)))
    (l28 : K.lookup f28 = some ⟨oc28, od28, .func (PySem.W.fnOf "_law_fields" "_law_fields" (defArgs s_law_fields) (defBody s_law_fields) (defScope s_law_fields) .none kV28 dc28 pm28 an28 cd28 ct28), sl28⟩) (c28 : PySem.W.codeIn K cd28 "_law_fields" = true) (k28 : PySem.W.keepIn K (.ref f28) = true)
    (a29 : PySem.W.nsIn K mainGlobals "_law_odd" = some (some (.ref f29)))
    (l29 : K.lookup f29 = some ⟨oc29, od29, .func (PySem.W.fnOf "_law_odd" "_law_odd" (defArgs s_law_odd) (defBody s_law_odd) (defScope s_law_odd) .none kV29 dc29 pm29 an29 cd29 ct29), sl29⟩) (c29 : PySem.W.codeIn K cd29 "_law_odd" = true) (k29 : PySem.W.keepIn K (.ref f29) = true)
    (a30 : PySem.W.nsIn K mainGlobals "_law_is_dividing" = some (some (.ref f30)))
    (l30 : K.lookup f30 = some ⟨oc30, od30, .func (PySem.W.fnOf "_law_is_dividing" "_law_is_dividing" (defArgs s_law_is_dividing) (defBody s_law_is_dividing) (defScope s_law_is_dividing) .none kV30 dc30 pm30 an30 cd30 ct30), sl30⟩) (c30 : PySem.W.codeIn K cd30 "_law_is_dividing" = true) (k30 : PySem.W.keepIn K (.ref f30) = true)
    (a31 : PySem.W.nsIn K mainGlobals "_law_right" = some (some (.ref f31)))
    (l31 : K.lookup f31 = some ⟨oc31, od31, .func (PySem.W.fnOf "_law_right" "_law_right" (defArgs s_law_right) (defBody s_law_right) (defScope s_law_right) .none kV31 dc31 pm31 an31 cd31 ct31), sl31⟩) (c31 : PySem.W.codeIn K cd31 "_law_right" = true) (k31 : PySem.W.keepIn K (.ref f31) = true)
    (a32 : PySem.W.nsIn K mainGlobals "law" = some (some (.ref f32)))
    (l32 : K.lookup f32 = some ⟨oc32, od32, .func (PySem.W.fnOf "law" "law" (defArgs s_law) (defBody s_law) (defScope s_law) .none kV32 dc32 pm32 an32 cd32 ct32), sl32⟩) (c32 : PySem.W.codeIn K cd32 "law" = true) (k32 : PySem.W.keepIn K (.ref f32) = true)
    (a33 : PySem.W.findIn K (.ref C) "base" = some (some (.ref pA33))) (g33 : PySem.W.specialIn K (.ref pA33) "__get__" = some (some (.builtin "property.__get__"))) (t33 : PySem.W.takesIn K (.ref pA33) = some true) (r33 : PySem.W.recIn K pA33 "property" = some (.ref f33 :: rest33))
    (l33 : K.lookup f33 = some ⟨oc33, od33, .func (PySem.W.fnOf "base" "Rule.base" (defArgs s_Rule_base) (defBody s_Rule_base) (defScope s_Rule_base) .none kV33 dc33 pm33 an33 cd33 ct33), sl33⟩) (c33 : PySem.W.codeIn K cd33 "Rule.base" = true) (k33 : PySem.W.keepIn K (.ref f33) = true)
    (a34 : PySem.W.findIn K (.ref C) "kind" = some (some (.ref pA34))) (g34 : PySem.W.specialIn K (.ref pA34) "__get__" = some (some (.builtin "property.__get__"))) (t34 : PySem.W.takesIn K (.ref pA34) = some true) (r34 : PySem.W.recIn K pA34 "property" = some (.ref f34 :: rest34))
    (l34 : K.lookup f34 = some ⟨oc34, od34, .func (PySem.W.fnOf "kind" "Rule.kind" (defArgs s_Rule_kind) (defBody s_Rule_kind) (defScope s_Rule_kind) .none kV34 dc34 pm34 an34 cd34 ct34), sl34⟩) (c34 : PySem.W.codeIn K cd34 "Rule.kind" = true) (k34 : PySem.W.keepIn K (.ref f34) = true)
    (a35 : PySem.W.findIn K (.ref C) "mantissas" = some (some (.ref pA35))) (g35 : PySem.W.specialIn K (.ref pA35) "__get__" = some (some (.builtin "property.__get__"))) (t35 : PySem.W.takesIn K (.ref pA35) = some true) (r35 : PySem.W.recIn K pA35 "property" = some (.ref f35 :: rest35))
    (l35 : K.lookup f35 = some ⟨oc35, od35, .func (PySem.W.fnOf "mantissas" "Rule.mantissas" (defArgs s_Rule_mantissas) (defBody s_Rule_mantissas) (defScope s_Rule_mantissas) .none kV35 dc35 pm35 an35 cd35 ct35), sl35⟩) (c35 : PySem.W.codeIn K cd35 "Rule.mantissas" = true) (k35 : PySem.W.keepIn K (.ref f35) = true)
    (a36 : PySem.W.findIn K (.ref C) "most" = some (some (.ref pA36))) (g36 : PySem.W.specialIn K (.ref pA36) "__get__" = some (some (.builtin "property.__get__"))) (t36 : PySem.W.takesIn K (.ref pA36) = some true) (r36 : PySem.W.recIn K pA36 "property" = some (.ref f36 :: rest36))
    (l36 : K.lookup f36 = some ⟨oc36, od36, .func (PySem.W.fnOf "most" "Rule.most" (defArgs s_Rule_most) (defBody s_Rule_most) (defScope s_Rule_most) .none kV36 dc36 pm36 an36 cd36 ct36), sl36⟩) (c36 : PySem.W.codeIn K cd36 "Rule.most" = true) (k36 : PySem.W.keepIn K (.ref f36) = true)
    (a37 : PySem.W.findIn K (.ref C) "dividing" = some (some (.ref pA37))) (g37 : PySem.W.specialIn K (.ref pA37) "__get__" = some (some (.builtin "property.__get__"))) (t37 : PySem.W.takesIn K (.ref pA37) = some true) (r37 : PySem.W.recIn K pA37 "property" = some (.ref f37 :: rest37))
    (l37 : K.lookup f37 = some ⟨oc37, od37, .func (PySem.W.fnOf "dividing" "Rule.dividing" (defArgs s_Rule_dividing) (defBody s_Rule_dividing) (defScope s_Rule_dividing) .none kV37 dc37 pm37 an37 cd37 ct37), sl37⟩) (c37 : PySem.W.codeIn K cd37 "Rule.dividing" = true) (k37 : PySem.W.keepIn K (.ref f37) = true)
    (aC : PySem.W.nsIn K mainGlobals "Rule" = some (some (.ref C))) (pg : PySem.W.plainGet K C Str.empty = true) (hd : PySem.W.hasDictIn K C = true) (po : PySem.W.plainOver K C = true) (sa : PySem.W.findIn K (.ref C) "__setattr__" = some (some (.builtin "object.__setattr__"))) (mk : PySem.W.makesIn K C = true) (kc : PySem.W.keepIn K (.ref C) = true)
    (iA : PySem.W.findIn K (.ref C) "__class__" = some (some (.builtin "object.__class__"))) (iB : PySem.W.specialIn K (.builtin "object.__class__") "__get__" = some (some (.builtin "getset_descriptor.__get__"))) (iD : PySem.W.takesIn K (.builtin "object.__class__") = some true) (iE : PySem.W.mroIn K C (.type "object") = some true)
    (nA0 : PySem.W.findIn K (.ref C) "_base" = some none)
    (nA1 : PySem.W.findIn K (.ref C) "_kind" = some none)
    (nA2 : PySem.W.findIn K (.ref C) "_mantissas" = some none)
    (nA3 : PySem.W.findIn K (.ref C) "_most" = some none)
    (nA4 : PySem.W.findIn K (.ref C) "_dividing" = some none)
    (nA5 : PySem.W.findIn K (.ref C) "_rungs" = some none)
    (z_len : PySem.W.nsIn K mainGlobals "len" = some none)
    (z_isinstance : PySem.W.nsIn K mainGlobals "isinstance" = some none)
    (z_all : PySem.W.nsIn K mainGlobals "all" = some none)
    (z_int : PySem.W.nsIn K mainGlobals "int" = some none)
    (z_bool : PySem.W.nsIn K mainGlobals "bool" = some none)
    (z_str : PySem.W.nsIn K mainGlobals "str" = some none)
    (z_tuple : PySem.W.nsIn K mainGlobals "tuple" = some none)
    (z_list : PySem.W.nsIn K mainGlobals "list" = some none)
    (z_range : PySem.W.nsIn K mainGlobals "range" = some none)
    (z_reversed : PySem.W.nsIn K mainGlobals "reversed" = some none)
    (z_zip : PySem.W.nsIn K mainGlobals "zip" = some none)
    (z_max : PySem.W.nsIn K mainGlobals "max" = some none)
    (z_min : PySem.W.nsIn K mainGlobals "min" = some none)
    (z_abs : PySem.W.nsIn K mainGlobals "abs" = some none)
    (z_sorted : PySem.W.nsIn K mainGlobals "sorted" = some none)
    (z_set : PySem.W.nsIn K mainGlobals "set" = some none)
    (z_divmod : PySem.W.nsIn K mainGlobals "divmod" = some none)
    (z_repr : PySem.W.nsIn K mainGlobals "repr" = some none)
    (z_enumerate : PySem.W.nsIn K mainGlobals "enumerate" = some none)
    (aLM : PySem.W.nsIn K mainGlobals "LEAST_MOST" = some (some (.ref aL))) (lLM : K.lookup aL = some ⟨.type "dict", none, .dict es nL, #[]⟩) (kLM : PySem.W.KeysLit w.params es.toList) (wLM : (aL == sysModules) = false)
    (vI : PySem.W.nsIn K aL "inside" = some (some (.int 1 t1))) (vC : PySem.W.nsIn K aL "cover" = some (some (.int 2 t2))) (vL : PySem.W.nsIn K aL "length" = some (some (.int 1 t3)))
    {C_InvalidRule N_InvalidRule B_InvalidRule : Addr} {nm_InvalidRule qn_InvalidRule : Str} {bs_InvalidRule sb_InvalidRule : List Value} {sn_InvalidRule : List Str} {ab_InvalidRule : Bool} {co_InvalidRule : Option Bool} {dd_InvalidRule : Option Addr} {u0_InvalidRule u1_InvalidRule u2_InvalidRule u3_InvalidRule u5_InvalidRule : Option Value}
    {f_InvalidRule T_InvalidRule : Addr} {od_InvalidRule an_InvalidRule oe_InvalidRule : Option Addr} {sl_InvalidRule sm_InvalidRule : Array (Option Value)} {oc_InvalidRule kw_InvalidRule dc_InvalidRule pm_InvalidRule cd_InvalidRule ct_InvalidRule ot_InvalidRule : Value} {nn_InvalidRule : Nat}
    {N_R : Addr} {nm_R qn_R : Str} {bs_R sb_R : List Value} {hd_R : Bool} {sn_R : List Str} {ab_R : Bool} {co_R : Option Bool} {dd_R : Option Addr} {u0_R u1_R u2_R u3_R u5_R : Option Value} {oN_R : Value} {dN_R : Option Addr} {es_R : Array DictEntry} {n_R : Nat} {sl_R : Array (Option Value)}
    (aC_InvalidRule : PySem.W.nsIn K mainGlobals "InvalidRule" = some (some (.ref C_InvalidRule)))
    (xL_InvalidRule : K.lookup C_InvalidRule = some (excClassObj nm_InvalidRule qn_InvalidRule C_InvalidRule N_InvalidRule bs_InvalidRule [.ref B_InvalidRule, .type "ValueError", .type "Exception", .type "BaseException", .type "object"] true sn_InvalidRule sb_InvalidRule ab_InvalidRule co_InvalidRule dd_InvalidRule u0_InvalidRule u1_InvalidRule u2_InvalidRule u3_InvalidRule u5_InvalidRule "ValueError.__new__"))
    (sa_InvalidRule : PySem.W.findIn K (.ref C_InvalidRule) "__setattr__" = some (some (.builtin "object.__setattr__")))
    (ex_InvalidRule : PySem.W.subIn K (.ref C_InvalidRule) (.type "BaseException") = some true)
    (ty_InvalidRule : PySem.W.typeIn K (.ref C_InvalidRule) = some (.type "type"))
    (kC_InvalidRule : PySem.W.keepIn K (.ref C_InvalidRule) = true)
    (ga_InvalidRule : PySem.W.findIn K (.ref C_InvalidRule) "__getattribute__" = some (some (.builtin "BaseException.__getattribute__")))
    (gg_InvalidRule : PySem.W.findIn K (.ref C_InvalidRule) "__getattr__" = some none)
    (hd_InvalidRule : PySem.W.hasDictIn K C_InvalidRule = true)
    (ca_InvalidRule : PySem.W.findIn K (.ref C_InvalidRule) "__class__" = some (some (.builtin "object.__class__")))
    (cm_InvalidRule : PySem.W.mroIn K C_InvalidRule (.type "object") = some true)
    (ss_InvalidRule : PySem.W.subIn K (.ref C_InvalidRule) (.ref C_InvalidRule) = some true)
    (iC_InvalidRule : PySem.W.isClsIn K C_InvalidRule = true)
    (in_InvalidRule : PySem.W.findIn K (.ref C_InvalidRule) "__init__" = some (some (.ref f_InvalidRule)))
    (ft_InvalidRule : PySem.W.typeIn K (.ref f_InvalidRule) = some (.type "function"))
    (no_InvalidRule : PySem.W.findIn K (.ref C_InvalidRule) "value" = some none)
    (l_InvalidRule : K.lookup f_InvalidRule = some ⟨oc_InvalidRule, od_InvalidRule, .func (PySem.W.fnOf "__init__" "InvalidRule.__init__" (defArgs s_InvalidRule_init) (defBody s_InvalidRule_init) (defScope s_InvalidRule_init) (.ref T_InvalidRule) kw_InvalidRule dc_InvalidRule pm_InvalidRule an_InvalidRule cd_InvalidRule ct_InvalidRule), sl_InvalidRule⟩)
    (lT_InvalidRule : K.lookup T_InvalidRule = some ⟨ot_InvalidRule, oe_InvalidRule, .seq #[.none] nn_InvalidRule, sm_InvalidRule⟩)
    (c_InvalidRule : PySem.W.codeIn K cd_InvalidRule "InvalidRule.__init__" = true)
    (k_InvalidRule : PySem.W.keepIn K (.ref f_InvalidRule) = true)
    (xR : K.lookup C = some (excClassObj nm_R qn_R C N_R bs_R [.type "object"] hd_R sn_R sb_R ab_R co_R dd_R u0_R u1_R u2_R u3_R u5_R "object.__new__"))
    (xN : K.lookup N_R = some ⟨oN_R, dN_R, .dict es_R n_R, sl_R⟩)
    (xK : (es_R.toList.all fun e => match e.key with | .str _ _ => true | _ => false) = true)
    (xE : PySem.W.nsIn K N_R "__eq__" = some (some (.ref f16)))
    (xM : PySem.W.nsIn K N_R "__ne__" = some none)
    (xF : PySem.W.typeIn K (.ref f16) = some (.type "function"))
    (xT : PySem.W.typeIn K (.ref C) = some (.type "type"))
    (kz_Inside : PySem.W.nsIn K aL "Inside" = some none)
    (kz_empty : PySem.W.nsIn K aL "" = some none)
    (kz_ticks : PySem.W.nsIn K aL "ticks" = some none) :
    ∃ fd : FuncData, (∀ (s : Shared) (v : Value), BindsTo s fd ⟨[v], []⟩ [("_law_script", v)]) ∧ ∀ base : Heap, K.In base → base.Ns mainGlobals mg → FnG l.prog w K mg base 8 fa fd ["_law_script"] (spLaw K) := by
  have e := hfa.symm.trans (PySem.W.mg_of X G a32)
  cases e
  have F1 := fun_mk (st := s_is_whole) l1 c1 k1
  have b1 := F1.binds (ps := ["value"]) fun _ _ _ _ _ _ us hl => match us, hl with | [_], _ => rfl
  have F2 := fun_mk (st := s_is_base) l2 c2 k2
  have b2 := F2.binds (ps := ["value"]) fun _ _ _ _ _ _ us hl => match us, hl with | [_], _ => rfl
  have F3 := fun_mk (st := s_is_span) l3 c3 k3
  have b3 := F3.binds (ps := ["value"]) fun _ _ _ _ _ _ us hl => match us, hl with | [_], _ => rfl
  have F4 := fun_mk (st := s_power_of) l4 c4 k4
  have b4 := F4.binds (ps := ["base", "exponent"]) fun _ _ _ _ _ _ us hl => match us, hl with | [_, _], _ => rfl
  have F5 := fun_mk (st := s_log_of) l5 c5 k5
  have b5 := F5.binds (ps := ["base", "number"]) fun _ _ _ _ _ _ us hl => match us, hl with | [_, _], _ => rfl
  have F6 := fun_mk (st := s_measure) l6 c6 k6
  have b6 := F6.binds (ps := ["base", "step", "digits"]) fun _ _ _ _ _ _ us hl => match us, hl with | [_, _, _], _ => rfl
  have F7 := fun_mk (st := s_reach) l7 c7 k7
  have b7 := F7.binds (ps := ["kind", "most", "low", "size"]) fun _ _ _ _ _ _ us hl => match us, hl with | [_, _, _, _], _ => rfl
  have F8 := fun_mk (st := s_rungs_of) l8 c8 k8
  have b8 := F8.binds (ps := ["base", "mantissas"]) fun _ _ _ _ _ _ us hl => match us, hl with | [_, _], _ => rfl
  have F9 := fun_mk (st := s_step_at) l9 c9 k9
  have b9 := F9.binds (ps := ["rungs", "number"]) fun _ _ _ _ _ _ us hl => match us, hl with | [_, _], _ => rfl
  have F10 := fun_mk (st := s_low_rung) l10 c10 k10
  have b10 := F10.binds (ps := ["base", "rungs", "most", "length", "digits"]) fun _ _ _ _ _ _ us hl => match us, hl with | [_, _, _, _, _], _ => rfl
  have F11 := fun_mk (st := s_kind_and_most_fit) l11 c11 k11
  have b11 := F11.binds (ps := ["kind", "most"]) fun _ _ _ _ _ _ us hl => match us, hl with | [_, _], _ => rfl
  have F12 := fun_mk (st := s_mantissas_fit) l12 c12 k12
  have b12 := F12.binds (ps := ["base", "mantissas"]) fun _ _ _ _ _ _ us hl => match us, hl with | [_, _], _ => rfl
  have F13 := fun_mk (st := s_arguments_fit) l13 c13 k13
  have b13 := F13.binds (ps := ["base", "kind", "mantissas", "most"]) fun _ _ _ _ _ _ us hl => match us, hl with | [_, _, _, _], _ => rfl
  have F14 := fun_mk (st := s_is_dividing) l14 c14 k14
  have b14 := F14.binds (ps := ["base", "rungs"]) fun _ _ _ _ _ _ us hl => match us, hl with | [_, _], _ => rfl
  have F15 := fun_mk (st := s_Rule_init) l15 c15 k15
  have b15 := F15.binds (ps := ["self", "base", "kind", "mantissas", "most"]) fun _ _ _ _ _ _ us hl => match us, hl with | [_, _, _, _, _], _ => rfl
  have F16 := fun_mk (st := s_Rule___eq__) l16 c16 k16
  have b16 := F16.binds (ps := ["self", "other"]) fun _ _ _ _ _ _ us hl => match us, hl with | [_, _], _ => rfl
  have F17 := fun_mk (st := s_Rule_step) l17 c17 k17
  have b17 := F17.binds (ps := ["self", "span"]) fun _ _ _ _ _ _ us hl => match us, hl with | [_, _], _ => rfl
  have F18 := fun_mk (st := s_Rule_marks) l18 c18 k18
  have b18 := F18.binds (ps := ["self", "span"]) fun _ _ _ _ _ _ us hl => match us, hl with | [_, _], _ => rfl
  have F19 := fun_mk (st := s_Rule__fits) l19 c19 k19
  have b19 := F19.binds (ps := ["self", "step", "span"]) fun _ _ _ _ _ _ us hl => match us, hl with | [_, _, _], _ => rfl
  have F20 := fun_mk (st := s_law_purse) l20 c20 k20
  have b20 := F20.binds (ps := ["_law_script", "_law_at"]) fun _ _ _ _ _ _ us hl => match us, hl with | [_, _], _ => rfl
  have F21 := fun_mk (st := s_law_draw) l21 c21 k21
  have b21 := F21.binds (ps := ["_law_purse_here", "_law_many"]) fun _ _ _ _ _ _ us hl => match us, hl with | [_, _], _ => rfl
  have F22 := fun_mk (st := s_law_pick) l22 c22 k22
  have b22 := F22.binds (ps := ["_law_purse_here", "_law_items"]) fun _ _ _ _ _ _ us hl => match us, hl with | [_, _], _ => rfl
  have F23 := fun_mk (st := s_law_family) l23 c23 k23
  have b23 := F23.binds (ps := ["_law_purse_here"]) fun _ _ _ _ _ _ us hl => match us, hl with | [_], _ => rfl
  have F24 := fun_mk (st := s_law_rule) l24 c24 k24
  have b24 := F24.binds (ps := ["_law_purse_here", "_law_family_here"]) fun _ _ _ _ _ _ us hl => match us, hl with | [_, _], _ => rfl
  have F25 := fun_mk (st := s_law_made) l25 c25 k25
  have b25 := F25.binds (ps := ["_law_rule_here"]) fun _ _ _ _ _ _ us hl => match us, hl with | [_], _ => rfl
  have F26 := fun_mk (st := s_law_times) l26 c26 k26
  have b26 := F26.binds (ps := ["_law_base", "_law_many"]) fun _ _ _ _ _ _ us hl => match us, hl with | [_, _], _ => rfl
  have F27 := fun_mk (st := s_law_refused) l27 c27 k27
  have b27 := F27.binds (ps := ["_law_base", "_law_kind", "_law_mantissas", "_law_most"]) fun _ _ _ _ _ _ us hl => match us, hl with | [_, _, _, _], _ => rfl
  have F28 := fun_mk (st := s_law_fields) l28 c28 k28
  have b28 := F28.binds (ps := ["_law_made_here"]) fun _ _ _ _ _ _ us hl => match us, hl with | [_], _ => rfl
  have F29 := fun_mk (st := s_law_odd) l29 c29 k29
  have b29 := F29.binds (ps := ["_law_purse_here", "_law_base", "_law_kind", "_law_heads", "_law_most"]) fun _ _ _ _ _ _ us hl => match us, hl with | [_, _, _, _, _], _ => rfl
  have F30 := fun_mk (st := s_law_is_dividing) l30 c30 k30
  have b30 := F30.binds (ps := ["_law_base", "_law_heads"]) fun _ _ _ _ _ _ us hl => match us, hl with | [_, _], _ => rfl
  have F31 := fun_mk (st := s_law_right) l31 c31 k31
  have b31 := F31.binds (ps := ["_law_purse_here"]) fun _ _ _ _ _ _ us hl => match us, hl with | [_], _ => rfl
  have F32 := fun_mk (st := s_law) l32 c32 k32
  have b32 := F32.binds (ps := ["_law_script"]) fun _ _ _ _ _ _ us hl => match us, hl with | [_], _ => rfl
  have F33 := fun_mk (st := s_Rule_base) l33 c33 k33
  have b33 := F33.binds (ps := ["self"]) fun _ _ _ _ _ _ us hl => match us, hl with | [_], _ => rfl
  have F34 := fun_mk (st := s_Rule_kind) l34 c34 k34
  have b34 := F34.binds (ps := ["self"]) fun _ _ _ _ _ _ us hl => match us, hl with | [_], _ => rfl
  have F35 := fun_mk (st := s_Rule_mantissas) l35 c35 k35
  have b35 := F35.binds (ps := ["self"]) fun _ _ _ _ _ _ us hl => match us, hl with | [_], _ => rfl
  have F36 := fun_mk (st := s_Rule_most) l36 c36 k36
  have b36 := F36.binds (ps := ["self"]) fun _ _ _ _ _ _ us hl => match us, hl with | [_], _ => rfl
  have F37 := fun_mk (st := s_Rule_dividing) l37 c37 k37
  have b37 := F37.binds (ps := ["self"]) fun _ _ _ _ _ _ us hl => match us, hl with | [_], _ => rfl
  let A : Adr := {
    a_is_whole := f1
    d_is_whole := PySem.W.fnOf "is_whole" "is_whole" (defArgs s_is_whole) (defBody s_is_whole) (defScope s_is_whole) .none kV1 dc1 pm1 an1 cd1 ct1
    a_is_base := f2
    d_is_base := PySem.W.fnOf "is_base" "is_base" (defArgs s_is_base) (defBody s_is_base) (defScope s_is_base) .none kV2 dc2 pm2 an2 cd2 ct2
    a_is_span := f3
    d_is_span := PySem.W.fnOf "is_span" "is_span" (defArgs s_is_span) (defBody s_is_span) (defScope s_is_span) .none kV3 dc3 pm3 an3 cd3 ct3
    a_power_of := f4
    d_power_of := PySem.W.fnOf "power_of" "power_of" (defArgs s_power_of) (defBody s_power_of) (defScope s_power_of) .none kV4 dc4 pm4 an4 cd4 ct4
    a_log_of := f5
    d_log_of := PySem.W.fnOf "log_of" "log_of" (defArgs s_log_of) (defBody s_log_of) (defScope s_log_of) .none kV5 dc5 pm5 an5 cd5 ct5
    a_measure := f6
    d_measure := PySem.W.fnOf "measure" "measure" (defArgs s_measure) (defBody s_measure) (defScope s_measure) .none kV6 dc6 pm6 an6 cd6 ct6
    a_reach := f7
    d_reach := PySem.W.fnOf "reach" "reach" (defArgs s_reach) (defBody s_reach) (defScope s_reach) .none kV7 dc7 pm7 an7 cd7 ct7
    a_rungs_of := f8
    d_rungs_of := PySem.W.fnOf "rungs_of" "rungs_of" (defArgs s_rungs_of) (defBody s_rungs_of) (defScope s_rungs_of) .none kV8 dc8 pm8 an8 cd8 ct8
    a_step_at := f9
    d_step_at := PySem.W.fnOf "step_at" "step_at" (defArgs s_step_at) (defBody s_step_at) (defScope s_step_at) .none kV9 dc9 pm9 an9 cd9 ct9
    a_low_rung := f10
    d_low_rung := PySem.W.fnOf "low_rung" "low_rung" (defArgs s_low_rung) (defBody s_low_rung) (defScope s_low_rung) .none kV10 dc10 pm10 an10 cd10 ct10
    a_kind_and_most_fit := f11
    d_kind_and_most_fit := PySem.W.fnOf "_kind_and_most_fit" "_kind_and_most_fit" (defArgs s_kind_and_most_fit) (defBody s_kind_and_most_fit) (defScope s_kind_and_most_fit) .none kV11 dc11 pm11 an11 cd11 ct11
    a_mantissas_fit := f12
    d_mantissas_fit := PySem.W.fnOf "_mantissas_fit" "_mantissas_fit" (defArgs s_mantissas_fit) (defBody s_mantissas_fit) (defScope s_mantissas_fit) .none kV12 dc12 pm12 an12 cd12 ct12
    a_arguments_fit := f13
    d_arguments_fit := PySem.W.fnOf "_arguments_fit" "_arguments_fit" (defArgs s_arguments_fit) (defBody s_arguments_fit) (defScope s_arguments_fit) .none kV13 dc13 pm13 an13 cd13 ct13
    a_is_dividing := f14
    d_is_dividing := PySem.W.fnOf "_is_dividing" "_is_dividing" (defArgs s_is_dividing) (defBody s_is_dividing) (defScope s_is_dividing) .none kV14 dc14 pm14 an14 cd14 ct14
    a_Rule_init := f15
    d_Rule_init := PySem.W.fnOf "__init__" "Rule.__init__" (defArgs s_Rule_init) (defBody s_Rule_init) (defScope s_Rule_init) .none kV15 dc15 pm15 an15 cd15 ct15
    a_Rule___eq__ := f16
    d_Rule___eq__ := PySem.W.fnOf "__eq__" "Rule.__eq__" (defArgs s_Rule___eq__) (defBody s_Rule___eq__) (defScope s_Rule___eq__) .none kV16 dc16 pm16 an16 cd16 ct16
    a_Rule_step := f17
    d_Rule_step := PySem.W.fnOf "step" "Rule.step" (defArgs s_Rule_step) (defBody s_Rule_step) (defScope s_Rule_step) .none kV17 dc17 pm17 an17 cd17 ct17
    a_Rule_marks := f18
    d_Rule_marks := PySem.W.fnOf "marks" "Rule.marks" (defArgs s_Rule_marks) (defBody s_Rule_marks) (defScope s_Rule_marks) .none kV18 dc18 pm18 an18 cd18 ct18
    a_Rule__fits := f19
    d_Rule__fits := PySem.W.fnOf "_fits" "Rule._fits" (defArgs s_Rule__fits) (defBody s_Rule__fits) (defScope s_Rule__fits) .none kV19 dc19 pm19 an19 cd19 ct19
    a_law_purse := f20
    d_law_purse := PySem.W.fnOf "_law_purse" "_law_purse" (defArgs s_law_purse) (defBody s_law_purse) (defScope s_law_purse) .none kV20 dc20 pm20 an20 cd20 ct20
    a_law_draw := f21
    d_law_draw := PySem.W.fnOf "_law_draw" "_law_draw" (defArgs s_law_draw) (defBody s_law_draw) (defScope s_law_draw) .none kV21 dc21 pm21 an21 cd21 ct21
    a_law_pick := f22
    d_law_pick := PySem.W.fnOf "_law_pick" "_law_pick" (defArgs s_law_pick) (defBody s_law_pick) (defScope s_law_pick) .none kV22 dc22 pm22 an22 cd22 ct22
    a_law_family := f23
    d_law_family := PySem.W.fnOf "_law_family" "_law_family" (defArgs s_law_family) (defBody s_law_family) (defScope s_law_family) .none kV23 dc23 pm23 an23 cd23 ct23
    a_law_rule := f24
    d_law_rule := PySem.W.fnOf "_law_rule" "_law_rule" (defArgs s_law_rule) (defBody s_law_rule) (defScope s_law_rule) .none kV24 dc24 pm24 an24 cd24 ct24
    a_law_made := f25
    d_law_made := PySem.W.fnOf "_law_made" "_law_made" (defArgs s_law_made) (defBody s_law_made) (defScope s_law_made) .none kV25 dc25 pm25 an25 cd25 ct25
    a_law_times := f26
    d_law_times := PySem.W.fnOf "_law_times" "_law_times" (defArgs s_law_times) (defBody s_law_times) (defScope s_law_times) .none kV26 dc26 pm26 an26 cd26 ct26
    a_law_refused := f27
    d_law_refused := PySem.W.fnOf "_law_refused" "_law_refused" (defArgs s_law_refused) (defBody s_law_refused) (defScope s_law_refused) .none kV27 dc27 pm27 an27 cd27 ct27
    a_law_fields := f28
    d_law_fields := PySem.W.fnOf "_law_fields" "_law_fields" (defArgs s_law_fields) (defBody s_law_fields) (defScope s_law_fields) .none kV28 dc28 pm28 an28 cd28 ct28
    a_law_odd := f29
    d_law_odd := PySem.W.fnOf "_law_odd" "_law_odd" (defArgs s_law_odd) (defBody s_law_odd) (defScope s_law_odd) .none kV29 dc29 pm29 an29 cd29 ct29
    a_law_is_dividing := f30
    d_law_is_dividing := PySem.W.fnOf "_law_is_dividing" "_law_is_dividing" (defArgs s_law_is_dividing) (defBody s_law_is_dividing) (defScope s_law_is_dividing) .none kV30 dc30 pm30 an30 cd30 ct30
    a_law_right := f31
    d_law_right := PySem.W.fnOf "_law_right" "_law_right" (defArgs s_law_right) (defBody s_law_right) (defScope s_law_right) .none kV31 dc31 pm31 an31 cd31 ct31
    a_law := fa
    d_law := PySem.W.fnOf "law" "law" (defArgs s_law) (defBody s_law) (defScope s_law) .none kV32 dc32 pm32 an32 cd32 ct32
    a_Rule_base := f33
    d_Rule_base := PySem.W.fnOf "base" "Rule.base" (defArgs s_Rule_base) (defBody s_Rule_base) (defScope s_Rule_base) .none kV33 dc33 pm33 an33 cd33 ct33
    p_Rule_base := pA33
    a_Rule_kind := f34
    d_Rule_kind := PySem.W.fnOf "kind" "Rule.kind" (defArgs s_Rule_kind) (defBody s_Rule_kind) (defScope s_Rule_kind) .none kV34 dc34 pm34 an34 cd34 ct34
    p_Rule_kind := pA34
    a_Rule_mantissas := f35
    d_Rule_mantissas := PySem.W.fnOf "mantissas" "Rule.mantissas" (defArgs s_Rule_mantissas) (defBody s_Rule_mantissas) (defScope s_Rule_mantissas) .none kV35 dc35 pm35 an35 cd35 ct35
    p_Rule_mantissas := pA35
    a_Rule_most := f36
    d_Rule_most := PySem.W.fnOf "most" "Rule.most" (defArgs s_Rule_most) (defBody s_Rule_most) (defScope s_Rule_most) .none kV36 dc36 pm36 an36 cd36 ct36
    p_Rule_most := pA36
    a_Rule_dividing := f37
    d_Rule_dividing := PySem.W.fnOf "dividing" "Rule.dividing" (defArgs s_Rule_dividing) (defBody s_Rule_dividing) (defScope s_Rule_dividing) .none kV37 dc37 pm37 an37 cd37 ct37
    p_Rule_dividing := pA37
    c_Rule := C
    a_LEAST := aL
    e_InvalidRule := C_InvalidRule
    i_InvalidRule := f_InvalidRule
    j_InvalidRule := PySem.W.fnOf "__init__" "InvalidRule.__init__" (defArgs s_InvalidRule_init) (defBody s_InvalidRule_init) (defScope s_InvalidRule_init) (.ref T_InvalidRule) kw_InvalidRule dc_InvalidRule pm_InvalidRule an_InvalidRule cd_InvalidRule ct_InvalidRule }
  have ox_InvalidRule : OexC K C_InvalidRule := ⟨⟨_, _, _, _, _, _, _, _, _, _, _, _, _, _, _, xL_InvalidRule, by rfl⟩, sa_InvalidRule, ex_InvalidRule, ty_InvalidRule, kC_InvalidRule⟩
  have as_InvalidRule : Xask K C_InvalidRule := ⟨ga_InvalidRule, gg_InvalidRule, ex_InvalidRule, hd_InvalidRule, ca_InvalidRule, iB, iD, cm_InvalidRule⟩
  have okN : PySem.W.nsOkIn K N_R = true := by
    unfold PySem.W.nsOkIn
    rw [xN]
    show (es_R.all fun e => match e.key with | .str _ _ => true | _ => false) = true
    rw [← Array.all_toList]
    exact xK
  have T : Txt K mg A w := {
    F_Rule_base := F33
    B_Rule_base := b33
    pr_Rule_base := ⟨a33, g33, t33, ⟨_, r33⟩⟩
    F_Rule_kind := F34
    B_Rule_kind := b34
    pr_Rule_kind := ⟨a34, g34, t34, ⟨_, r34⟩⟩
    F_Rule_mantissas := F35
    B_Rule_mantissas := b35
    pr_Rule_mantissas := ⟨a35, g35, t35, ⟨_, r35⟩⟩
    F_Rule_most := F36
    B_Rule_most := b36
    pr_Rule_most := ⟨a36, g36, t36, ⟨_, r36⟩⟩
    F_Rule_dividing := F37
    B_Rule_dividing := b37
    pr_Rule_dividing := ⟨a37, g37, t37, ⟨_, r37⟩⟩
    n_len := PySem.W.mg_none_of X G z_len
    n_isinstance := PySem.W.mg_none_of X G z_isinstance
    n_all := PySem.W.mg_none_of X G z_all
    n_int := PySem.W.mg_none_of X G z_int
    n_bool := PySem.W.mg_none_of X G z_bool
    n_str := PySem.W.mg_none_of X G z_str
    n_tuple := PySem.W.mg_none_of X G z_tuple
    n_list := PySem.W.mg_none_of X G z_list
    n_range := PySem.W.mg_none_of X G z_range
    n_reversed := PySem.W.mg_none_of X G z_reversed
    n_zip := PySem.W.mg_none_of X G z_zip
    n_max := PySem.W.mg_none_of X G z_max
    n_min := PySem.W.mg_none_of X G z_min
    n_abs := PySem.W.mg_none_of X G z_abs
    n_sorted := PySem.W.mg_none_of X G z_sorted
    n_set := PySem.W.mg_none_of X G z_set
    n_divmod := PySem.W.mg_none_of X G z_divmod
    n_repr := PySem.W.mg_none_of X G z_repr
    n_enumerate := PySem.W.mg_none_of X G z_enumerate
    F_is_whole := F1
    B_is_whole := b1
    m_is_whole := PySem.W.mg_of X G a1
    F_is_base := F2
    B_is_base := b2
    m_is_base := PySem.W.mg_of X G a2
    F_is_span := F3
    B_is_span := b3
    m_is_span := PySem.W.mg_of X G a3
    F_power_of := F4
    B_power_of := b4
    m_power_of := PySem.W.mg_of X G a4
    F_log_of := F5
    B_log_of := b5
    m_log_of := PySem.W.mg_of X G a5
    F_measure := F6
    B_measure := b6
    m_measure := PySem.W.mg_of X G a6
    F_reach := F7
    B_reach := b7
    m_reach := PySem.W.mg_of X G a7
    F_rungs_of := F8
    B_rungs_of := b8
    m_rungs_of := PySem.W.mg_of X G a8
    F_step_at := F9
    B_step_at := b9
    m_step_at := PySem.W.mg_of X G a9
    F_low_rung := F10
    B_low_rung := b10
    m_low_rung := PySem.W.mg_of X G a10
    F_kind_and_most_fit := F11
    B_kind_and_most_fit := b11
    m_kind_and_most_fit := PySem.W.mg_of X G a11
    F_mantissas_fit := F12
    B_mantissas_fit := b12
    m_mantissas_fit := PySem.W.mg_of X G a12
    F_arguments_fit := F13
    B_arguments_fit := b13
    m_arguments_fit := PySem.W.mg_of X G a13
    F_is_dividing := F14
    B_is_dividing := b14
    m_is_dividing := PySem.W.mg_of X G a14
    F_Rule_init := F15
    B_Rule_init := b15
    F_Rule___eq__ := F16
    B_Rule___eq__ := b16
    t_Rule___eq__ := ⟨a16, i16, k16⟩
    F_Rule_step := F17
    B_Rule_step := b17
    t_Rule_step := ⟨a17, i17, k17⟩
    F_Rule_marks := F18
    B_Rule_marks := b18
    t_Rule_marks := ⟨a18, i18, k18⟩
    F_Rule__fits := F19
    B_Rule__fits := b19
    t_Rule__fits := ⟨a19, i19, k19⟩
    F_law_purse := F20
    B_law_purse := b20
    m_law_purse := PySem.W.mg_of X G a20
    F_law_draw := F21
    B_law_draw := b21
    m_law_draw := PySem.W.mg_of X G a21
    F_law_pick := F22
    B_law_pick := b22
    m_law_pick := PySem.W.mg_of X G a22
    F_law_family := F23
    B_law_family := b23
    m_law_family := PySem.W.mg_of X G a23
    F_law_rule := F24
    B_law_rule := b24
    m_law_rule := PySem.W.mg_of X G a24
    F_law_made := F25
    B_law_made := b25
    m_law_made := PySem.W.mg_of X G a25
    F_law_times := F26
    B_law_times := b26
    m_law_times := PySem.W.mg_of X G a26
    F_law_refused := F27
    B_law_refused := b27
    m_law_refused := PySem.W.mg_of X G a27
    F_law_fields := F28
    B_law_fields := b28
    m_law_fields := PySem.W.mg_of X G a28
    F_law_odd := F29
    B_law_odd := b29
    m_law_odd := PySem.W.mg_of X G a29
    F_law_is_dividing := F30
    B_law_is_dividing := b30
    m_law_is_dividing := PySem.W.mg_of X G a30
    F_law_right := F31
    B_law_right := b31
    m_law_right := PySem.W.mg_of X G a31
    F_law := F32
    B_law := b32
    m_law := PySem.W.mg_of X G a32
    cl := ⟨pg, hd, po, sa⟩
    c_Rule := PySem.W.mg_of X G aC
    mk_Rule := ⟨mk, a15, i15, kc⟩
    na_base := nA0
    na_kind := nA1
    na_mantissas := nA2
    na_most := nA3
    na_dividing := nA4
    na_rungs := nA5
    ic := ⟨⟨pg, hd, po, sa⟩, iA, iB, iD, iE, by unfold PySem.W.kitOne; exact if_pos (beq_self_eq_true _)⟩
    m_LEAST_MOST := PySem.W.mg_of X G aLM
    kd := ⟨es, nL, lLM, kLM, wLM⟩
    kd_inside := ⟨t1, vI⟩
    kd_cover := ⟨t2, vC⟩
    kd_length := ⟨t3, vL⟩
    ne_Rule := ⟨⟨_, _, _, _, _, _, _, _, _, _, _, _, _, _, _, xR, okN, xE, xM⟩, xF, xT⟩
    x_InvalidRule := { mgC := PySem.W.mg_of X G aC_InvalidRule, oex := ox_InvalidRule, ask := as_InvalidRule, ini := in_InvalidRule, fty := ft_InvalidRule, no := no_InvalidRule, self := exc_self ex_InvalidRule iC_InvalidRule ty_InvalidRule ss_InvalidRule, F := ⟨⟨_, _, _, _, _, _, _, _, _, _, rfl, l_InvalidRule, c_InvalidRule, .inr ⟨by simp, _, _, [.none], _, rfl, lT_InvalidRule, rfl, .cons rfl .nil⟩, .inl rfl⟩, k_InvalidRule⟩ }
    kz_Inside := kz_Inside
    kz_empty := kz_empty
    kz_ticks := kz_ticks }
  exact ⟨_, fun s v => .of_eq rfl, fun base _ _ => ok_law (A := A) T⟩
theorem walk {l : PySem.W.OpenLaw} {q : Program} {loose : List Str} {XP : (Str → Option Value) → Heap → Prop} {YP : World → Heap → Prop} {d : DefRec} {K : Params → PySem.W.Frag} (hn : l.most = some 63) (hdf : d.params.defaults = [])
    (hY : ∀ (w : World) (h : Heap), YP w h → (K w.params).In h)
    (F : ∀ (w : World) (mg : Str → Option Value) (fa : Addr) (h : Heap), (K w.params).In h → h.Ns mainGlobals mg → mg d.name = some (.ref fa) →
      ∃ fd : FuncData, (∀ (s : Shared) (u : Value), BindsTo s fd ⟨[u], []⟩ [("_law_script", u)]) ∧ ∀ base : Heap, (K w.params).In base → base.Ns mainGlobals mg → FnG l.prog w (K w.params) mg base 8 fa fd ["_law_script"] (spLaw (K w.params))) :
    PySem.W.WalkO q loose XP YP l.row.toRowW d [] (fun f vs => PySem.call f vs) :=
  walkG (k := 8) (x := "_law_script") (sp := fun w => spLaw (K w.params)) hn hdf ⟨rfl, by decide, by decide⟩ hY F (fun _ _ a ns hl hS => ⟨a, ns, rfl, hS, hl, fun _ => rfl⟩)
end Ax

open PySem PySem.W PyProof.Rows in
set_option maxRecDepth 100000 in
set_option maxHeartbeats 0 in
theorem PySem.Challenge.cw_axisticks_k02_rules_made_holds : PySem.Challenge.rw_axisticks_k02_rules_made.Holds := by
  w_on; o_law; k_head; (case hw => w_witness2)
  k_fill
  refine Ax.walk (l := PySem.Challenge.rw_axisticks_k02_rules_made) rfl rfl (fun w h Y => PySem.W.kIn_of Y) ?F
  case F =>
    intro w mg fa h KX G hmg
    refine' Ax.all_mk KX G hmg ?a1 ?l1 ?c1 ?k1 ?a2 ?l2 ?c2 ?k2 ?a3 ?l3 ?c3 ?k3 ?a4 ?l4 ?c4 ?k4 ?a5 ?l5 ?c5 ?k5 ?a6 ?l6 ?c6 ?k6 ?a7 ?l7 ?c7 ?k7 ?a8 ?l8 ?c8 ?k8 ?a9 ?l9 ?c9 ?k9 ?a10 ?l10 ?c10 ?k10 ?a11 ?l11 ?c11 ?k11 ?a12 ?l12 ?c12 ?k12 ?a13 ?l13 ?c13 ?k13 ?a14 ?l14 ?c14 ?k14 ?a15 ?i15 ?l15 ?c15 ?k15 ?a16 ?i16 ?l16 ?c16 ?k16 ?a17 ?i17 ?l17 ?c17 ?k17 ?a18 ?i18 ?l18 ?c18 ?k18 ?a19 ?i19 ?l19 ?c19 ?k19 ?a20 ?l20 ?c20 ?k20 ?a21 ?l21 ?c21 ?k21 ?a22 ?l22 ?c22 ?k22 ?a23 ?l23 ?c23 ?k23 ?a24 ?l24 ?c24 ?k24 ?a25 ?l25 ?c25 ?k25 ?a26 ?l26 ?c26 ?k26 ?a27 ?l27 ?c27 ?k27 ?a28 ?l28 ?c28 ?k28 ?a29 ?l29 ?c29 ?k29 ?a30 ?l30 ?c30 ?k30 ?a31 ?l31 ?c31 ?k31 ?a32 ?l32 ?c32 ?k32 ?a33 ?g33 ?t33 ?r33 ?l33 ?c33 ?k33 ?a34 ?g34 ?t34 ?r34 ?l34 ?c34 ?k34 ?a35 ?g35 ?t35 ?r35 ?l35 ?c35 ?k35 ?a36 ?g36 ?t36 ?r36 ?l36 ?c36 ?k36 ?a37 ?g37 ?t37 ?r37 ?l37 ?c37 ?k37 ?aC ?pg ?hd ?po ?sa ?mk ?kc ?iA ?iB ?iD ?iE ?nA0 ?nA1 ?nA2 ?nA3 ?nA4 ?nA5 ?z_len ?z_isinstance ?z_all ?z_int ?z_bool ?z_str ?z_tuple ?z_list ?z_range ?z_reversed ?z_zip ?z_max ?z_min ?z_abs ?z_sorted ?z_set ?z_divmod ?z_repr ?z_enumerate ?aLM ?lLM ?kLM ?wLM ?vI ?vC ?vL ?aC_InvalidRule ?xL_InvalidRule ?sa_InvalidRule ?ex_InvalidRule ?ty_InvalidRule ?kC_InvalidRule ?ga_InvalidRule ?gg_InvalidRule ?hd_InvalidRule ?ca_InvalidRule ?cm_InvalidRule ?ss_InvalidRule ?iC_InvalidRule ?in_InvalidRule ?ft_InvalidRule ?no_InvalidRule ?l_InvalidRule ?lT_InvalidRule ?c_InvalidRule ?k_InvalidRule ?xR ?xN ?xK ?xE ?xM ?xF ?xT ?kz_Inside ?kz_empty ?kz_ticks
    (case aC => k_is)
    (case aLM => k_is)
    (case lLM => k_is)
    (case a1 => k_is)
    (case l1 => k_is)
    (case c1 => k_is)
    (case k1 => k_is)
    (case a2 => k_is)
    (case l2 => k_is)
    (case c2 => k_is)
    (case k2 => k_is)
    (case a3 => k_is)
    (case l3 => k_is)
    (case c3 => k_is)
    (case k3 => k_is)
    (case a4 => k_is)
    (case l4 => k_is)
    (case c4 => k_is)
    (case k4 => k_is)
    (case a5 => k_is)
    (case l5 => k_is)
    (case c5 => k_is)
    (case k5 => k_is)
    (case a6 => k_is)
    (case l6 => k_is)
    (case c6 => k_is)
    (case k6 => k_is)
    (case a7 => k_is)
    (case l7 => k_is)
    (case c7 => k_is)
    (case k7 => k_is)
    (case a8 => k_is)
    (case l8 => k_is)
    (case c8 => k_is)
    (case k8 => k_is)
    (case a9 => k_is)
    (case l9 => k_is)
    (case c9 => k_is)
    (case k9 => k_is)
    (case a10 => k_is)
    (case l10 => k_is)
    (case c10 => k_is)
    (case k10 => k_is)
    (case a11 => k_is)
    (case l11 => k_is)
    (case c11 => k_is)
    (case k11 => k_is)
    (case a12 => k_is)
    (case l12 => k_is)
    (case c12 => k_is)
    (case k12 => k_is)
    (case a13 => k_is)
    (case l13 => k_is)
    (case c13 => k_is)
    (case k13 => k_is)
    (case a14 => k_is)
    (case l14 => k_is)
    (case c14 => k_is)
    (case k14 => k_is)
    (case a15 => k_is)
    (case i15 => k_is)
    (case l15 => k_is)
    (case c15 => k_is)
    (case k15 => k_is)
    (case a16 => k_is)
    (case i16 => k_is)
    (case l16 => k_is)
    (case c16 => k_is)
    (case k16 => k_is)
    (case a17 => k_is)
    (case i17 => k_is)
    (case l17 => k_is)
    (case c17 => k_is)
    (case k17 => k_is)
    (case a18 => k_is)
    (case i18 => k_is)
    (case l18 => k_is)
    (case c18 => k_is)
    (case k18 => k_is)
    (case a19 => k_is)
    (case i19 => k_is)
    (case l19 => k_is)
    (case c19 => k_is)
    (case k19 => k_is)
    (case a20 => k_is)
    (case l20 => k_is)
    (case c20 => k_is)
    (case k20 => k_is)
    (case a21 => k_is)
    (case l21 => k_is)
    (case c21 => k_is)
    (case k21 => k_is)
    (case a22 => k_is)
    (case l22 => k_is)
    (case c22 => k_is)
    (case k22 => k_is)
    (case a23 => k_is)
    (case l23 => k_is)
    (case c23 => k_is)
    (case k23 => k_is)
    (case a24 => k_is)
    (case l24 => k_is)
    (case c24 => k_is)
    (case k24 => k_is)
    (case a25 => k_is)
    (case l25 => k_is)
    (case c25 => k_is)
    (case k25 => k_is)
    (case a26 => k_is)
    (case l26 => k_is)
    (case c26 => k_is)
    (case k26 => k_is)
    (case a27 => k_is)
    (case l27 => k_is)
    (case c27 => k_is)
    (case k27 => k_is)
    (case a28 => k_is)
    (case l28 => k_is)
    (case c28 => k_is)
    (case k28 => k_is)
    (case a29 => k_is)
    (case l29 => k_is)
    (case c29 => k_is)
    (case k29 => k_is)
    (case a30 => k_is)
    (case l30 => k_is)
    (case c30 => k_is)
    (case k30 => k_is)
    (case a31 => k_is)
    (case l31 => k_is)
    (case c31 => k_is)
    (case k31 => k_is)
    (case a32 => k_is)
    (case l32 => k_is)
    (case c32 => k_is)
    (case k32 => k_is)
    (case a33 => k_is)
    (case g33 => k_is)
    (case t33 => k_is)
    (case r33 => k_is)
    (case l33 => k_is)
    (case c33 => k_is)
    (case k33 => k_is)
    (case a34 => k_is)
    (case g34 => k_is)
    (case t34 => k_is)
    (case r34 => k_is)
    (case l34 => k_is)
    (case c34 => k_is)
    (case k34 => k_is)
    (case a35 => k_is)
    (case g35 => k_is)
    (case t35 => k_is)
    (case r35 => k_is)
    (case l35 => k_is)
    (case c35 => k_is)
    (case k35 => k_is)
    (case a36 => k_is)
    (case g36 => k_is)
    (case t36 => k_is)
    (case r36 => k_is)
    (case l36 => k_is)
    (case c36 => k_is)
    (case k36 => k_is)
    (case a37 => k_is)
    (case g37 => k_is)
    (case t37 => k_is)
    (case r37 => k_is)
    (case l37 => k_is)
    (case c37 => k_is)
    (case k37 => k_is)
    (case pg => k_is)
    (case hd => k_is)
    (case po => k_is)
    (case sa => k_is)
    (case mk => k_is)
    (case kc => k_is)
    (case iA => k_is)
    (case iB => k_is)
    (case iD => k_is)
    (case iE => k_is)
    (case nA0 => k_is)
    (case nA1 => k_is)
    (case nA2 => k_is)
    (case nA3 => k_is)
    (case nA4 => k_is)
    (case nA5 => k_is)
    (case z_len => k_is)
    (case z_isinstance => k_is)
    (case z_all => k_is)
    (case z_int => k_is)
    (case z_bool => k_is)
    (case z_str => k_is)
    (case z_tuple => k_is)
    (case z_list => k_is)
    (case z_range => k_is)
    (case z_reversed => k_is)
    (case z_zip => k_is)
    (case z_max => k_is)
    (case z_min => k_is)
    (case z_abs => k_is)
    (case z_sorted => k_is)
    (case z_set => k_is)
    (case z_divmod => k_is)
    (case z_repr => k_is)
    (case z_enumerate => k_is)
    (case kLM => exact Ax.keys3)
    (case wLM => rfl)
    (case vI => k_is)
    (case vC => k_is)
    (case vL => k_is)
    (case aC_InvalidRule => k_is)
    (case xL_InvalidRule => k_is)
    (case xR => k_is)
    (case in_InvalidRule => k_is)
    (case xN => k_is)
    (case l_InvalidRule => k_is)
    (case lT_InvalidRule => k_is)
    (case sa_InvalidRule => k_is)
    (case ex_InvalidRule => k_is)
    (case ty_InvalidRule => k_is)
    (case kC_InvalidRule => k_is)
    (case ga_InvalidRule => k_is)
    (case gg_InvalidRule => k_is)
    (case hd_InvalidRule => k_is)
    (case ca_InvalidRule => k_is)
    (case cm_InvalidRule => k_is)
    (case ss_InvalidRule => k_is)
    (case iC_InvalidRule => k_is)
    (case ft_InvalidRule => k_is)
    (case no_InvalidRule => k_is)
    (case c_InvalidRule => k_is)
    (case k_InvalidRule => k_is)
    (case xK => rfl)
    (case xE => k_is)
    (case xM => k_is)
    (case xF => k_is)
    (case xT => k_is)
    (case kz_Inside => k_is)
    (case kz_empty => k_is)
    (case kz_ticks => k_is)


