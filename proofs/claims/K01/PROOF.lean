import PyProof.Rows.All
import Wide.All
import OpenK.AllK
import Wide.FinOn
import HandS.ExcInit
import HandS.ExcField
import HandS.MakeKw
import KE.KExcIs
import HandS.ForMost
import HandS.IsInst
import HandS.Wide
import HandS.WideBits
import HandS.More
import PyProof.ReprRoads
import KE.KExcMake
import PyProof.StrBlock2
import PySem.Challenge.RW_axisticks_k01_errors_made
set_option Elab.async false
set_option linter.all false
set_option maxRecDepth 100000
set_option maxHeartbeats 4000000
namespace Ax
theorem pow_pos' {b : Int} (h : 1 ≤ b) (n : Nat) : 1 ≤ b ^ n := by
  induction n with
  | zero => simp
  | succ n ih =>
    rw [Int.pow_succ]
    have := Int.mul_le_mul ih h (by omega) (by omega)
    omega
theorem pow_add' (b : Int) (m n : Nat) : b ^ (m + n) = b ^ m * b ^ n := by
  induction n with
  | zero => simp
  | succ n ih => rw [← Nat.add_assoc, Int.pow_succ, ih, Int.pow_succ, Int.mul_assoc]
theorem pow_le' {b : Int} (h : 1 ≤ b) {m n : Nat} (hm : m ≤ n) : b ^ m ≤ b ^ n := by
  obtain ⟨k, rfl⟩ := Nat.le.dest hm
  rw [pow_add']
  have h1 := pow_pos' h m
  have h2 := pow_pos' h k
  have := Int.mul_le_mul_of_nonneg_left h2 (show (0:Int) ≤ b ^ m by omega)
  omega
theorem pow_lt' {b : Int} (h : 2 ≤ b) {m n : Nat} (hm : m < n) : b ^ m < b ^ n := by
  have h1 := pow_le' (b := b) (by omega) (show m + 1 ≤ n from hm)
  rw [Int.pow_succ] at h1
  have h2 := pow_pos' (b := b) (by omega) m
  have := Int.mul_le_mul_of_nonneg_left h (show (0:Int) ≤ b ^ m by omega)
  omega
theorem sq_pow (s : Int) (n : Nat) : (s * s) ^ n = s ^ (2 * n) := by
  induction n with
  | zero => simp
  | succ n ih =>
    rw [Int.pow_succ, ih, show 2 * (n + 1) = 2 * n + 1 + 1 by omega, Int.pow_succ, Int.pow_succ, Int.mul_assoc]
/-- a turn of power_of -/
theorem turn_odd {r s : Int} {n : Nat} (h : n % 2 = 1) : (r * s) * (s * s) ^ (n / 2) = r * s ^ n := by
  rw [sq_pow, Int.mul_assoc, Int.mul_comm s, ← Int.pow_succ]
  congr 2
  omega
theorem turn_even {r s : Int} {n : Nat} (h : n % 2 = 0) : r * (s * s) ^ (n / 2) = r * s ^ n := by
  rw [sq_pow]
  congr 2
  omega
theorem le_of_prod {r s B : Int} {n : Nat} (hr : 1 ≤ r) (hs : 1 ≤ s) (e : r * s ^ n = B) : r ≤ B ∧ (1 ≤ n → s ≤ B) := by
  have h1 := pow_pos' hs n
  have h2 := Int.mul_le_mul_of_nonneg_left h1 (show (0:Int) ≤ r by omega)
  refine ⟨by omega, fun hn => ?_⟩
  have h3 := pow_le' hs hn
  rw [Int.pow_succ, Int.pow_zero, Int.one_mul] at h3
  have h4 := Int.mul_le_mul_of_nonneg_right hr (show (0:Int) ≤ s ^ n by omega)
  omega
theorem abs_lt_pow {i : Int} {k : Nat} (h0 : 0 ≤ i) (h : i < 2 ^ k) : i.natAbs < 2 ^ k := by
  have e : ((i.natAbs : Nat) : Int) = i := by omega
  have : ((i.natAbs : Nat) : Int) < ((2 ^ k : Nat) : Int) := by rw [e, Int.natCast_pow]; exact h
  exact Int.ofNat_lt.mp this
end Ax
namespace Ax
/-! ### the exponent of the greatest power that is at most a number -/
/-- what log_of's second loop keeps: j squares are left -/
def LogInv (b n : Int) (j : Nat) (E : Nat) (p : Int) : Prop := p = b ^ (E * 2 ^ j) ∧ p ≤ n ∧ n < b ^ ((E + 1) * 2 ^ j)
theorem LogInv.start {b n : Int} {j : Nat} (hn : 1 ≤ n) (h : n < b ^ (2 ^ j)) : LogInv b n j 0 1 := by
  refine ⟨by simp, hn, ?_⟩
  simpa using h
theorem LogInv.yes {b n p : Int} {j E : Nat} (h : LogInv b n (j + 1) E p) (hle : p * b ^ (2 ^ j) ≤ n) : LogInv b n j (2 * E + 1) (p * b ^ (2 ^ j)) := by
  obtain ⟨h1, h2, h3⟩ := h
  refine ⟨?_, hle, ?_⟩
  · rw [h1, ← pow_add']
    congr 1
    rw [Nat.pow_succ, Nat.add_mul, Nat.mul_comm 2 E, Nat.mul_assoc, Nat.mul_comm 2 (2 ^ j), Nat.one_mul]
  · have e : (2 * E + 1 + 1) * 2 ^ j = (E + 1) * 2 ^ (j + 1) := by
      rw [Nat.pow_succ, show 2 * E + 1 + 1 = (E + 1) * 2 by omega, Nat.mul_assoc, Nat.mul_comm 2 (2 ^ j)]
    rw [e]
    exact h3
theorem LogInv.no {b n p : Int} {j E : Nat} (h : LogInv b n (j + 1) E p) (hgt : ¬ p * b ^ (2 ^ j) ≤ n) : LogInv b n j (2 * E) p := by
  obtain ⟨h1, h2, h3⟩ := h
  have e0 : 2 * E * 2 ^ j = E * 2 ^ (j + 1) := by rw [Nat.pow_succ, Nat.mul_comm 2 E, Nat.mul_assoc, Nat.mul_comm 2 (2 ^ j)]
  refine ⟨by rw [e0]; exact h1, h2, ?_⟩
  have e : (2 * E + 1) * 2 ^ j = E * 2 ^ (j + 1) + 2 ^ j := by rw [Nat.add_mul, e0, Nat.one_mul]
  rw [e, pow_add', ← h1]
  omega
theorem LogInv.fin {b n p : Int} {E : Nat} (h : LogInv b n 0 E p) : b ^ E ≤ n ∧ n < b ^ (E + 1) := by
  obtain ⟨h1, h2, h3⟩ := h
  simp only [Nat.pow_zero, Nat.mul_one] at h1 h3
  exact ⟨by omega, h3⟩
theorem sq_two (b : Int) (k : Nat) : b ^ (2 ^ k) * b ^ (2 ^ k) = b ^ (2 ^ (k + 1)) := by
  rw [← pow_add', Nat.pow_succ]
  congr 1
  omega
theorem log_unique {b n : Int} (hb : 2 ≤ b) {E F : Nat} (h1 : b ^ E ≤ n) (h2 : n < b ^ (E + 1)) (h3 : b ^ F ≤ n) (h4 : n < b ^ (F + 1)) : E = F := by
  rcases Nat.lt_trichotomy E F with h | h | h
  · have := pow_le' (b := b) (by omega) (show E + 1 ≤ F from h)
    omega
  · exact h
  · have := pow_le' (b := b) (by omega) (show F + 1 ≤ E from h)
    omega
end Ax
namespace Ax
theorem pow_base_le {a b : Int} (h0 : 1 ≤ a) (h : a ≤ b) (n : Nat) : a ^ n ≤ b ^ n := by
  induction n with
  | zero => simp
  | succ n ih =>
    rw [Int.pow_succ, Int.pow_succ]
    have := pow_pos' h0 n
    exact Int.mul_le_mul ih h (by omega) (by omega)
theorem exp_lt {b : Int} (hb : 2 ≤ b) {m n : Nat} (h : b ^ m < 2 ^ n) : m < n := by
  apply Nat.lt_of_not_le
  intro c
  have h1 := pow_base_le (a := 2) (by decide) hb m
  have h2 := pow_le' (b := 2) (by decide) c
  omega
theorem k_small {b : Int} (hb : 2 ≤ b) {k : Nat} (h : b ^ (2 ^ k) < 2 ^ 8000) : k < 13 := by
  have h1 := exp_lt hb h
  apply Nat.lt_of_not_le
  intro c
  have : 2 ^ 13 ≤ 2 ^ k := Nat.pow_le_pow_right (by decide) c
  have : (2 : Nat) ^ 13 = 8192 := by decide
  omega
end Ax
namespace Ax
/-! ### the exponent as a function; sizes of the least steps -/
noncomputable def lg (b m : Int) : Nat := Classical.epsilon fun E => b ^ E ≤ m ∧ m < b ^ (E + 1)
theorem lg_ex {b m : Int} (hm : 1 ≤ m) : ∀ N : Nat, m < b ^ N → ∃ E, b ^ E ≤ m ∧ m < b ^ (E + 1)
  | 0, h => by
    rw [Int.pow_zero] at h
    omega
  | N + 1, h => by
    by_cases c : m < b ^ N
    · exact lg_ex hm N c
    · exact ⟨N, by omega, h⟩
theorem lt_two_pow (n : Nat) : n < 2 ^ n := Nat.lt_two_pow_self
theorem lg_spec {b m : Int} (hb : 2 ≤ b) (hm : 1 ≤ m) : b ^ lg b m ≤ m ∧ m < b ^ (lg b m + 1) := by
  have h : ∃ E, b ^ E ≤ m ∧ m < b ^ (E + 1) := lg_ex hm m.toNat (by
    have h1 := pow_base_le (a := 2) (by decide) hb m.toNat
    have h2 := lt_two_pow m.toNat
    have h3 : ((m.toNat : Nat) : Int) < ((2 ^ m.toNat : Nat) : Int) := Int.ofNat_lt.mpr h2
    rw [Int.natCast_pow] at h3
    have h4 : ((m.toNat : Nat) : Int) = m := by omega
    rw [h4] at h3
    exact Int.lt_of_lt_of_le h3 h1)
  exact Classical.epsilon_spec h
theorem lg_eq {b m : Int} {E : Nat} (hb : 2 ≤ b) (hm : 1 ≤ m) (h1 : b ^ E ≤ m) (h2 : m < b ^ (E + 1)) : E = lg b m :=
  log_unique hb h1 h2 (lg_spec hb hm).1 (lg_spec hb hm).2
theorem lg_mono {b m M : Int} (hb : 2 ≤ b) (hm : 1 ≤ m) (h : m ≤ M) : lg b m ≤ lg b M := by
  have a := lg_spec hb hm
  have c := lg_spec hb (show 1 ≤ M by omega)
  apply Nat.le_of_not_lt
  intro q
  have := pow_le' (b := b) (by omega) (show lg b M + 1 ≤ lg b m from q)
  omega
/-- the size of the least step of a mantissa that is at least 1, in units of b ^ -top -/
noncomputable def keyOf (b : Int) (top : Nat) (m : Int) : Int := m * b ^ (top - lg b m)
theorem mul_cancel {a b c : Int} (hc : 1 ≤ c) (h : a * c = b * c) : a = b := Int.eq_of_mul_eq_mul_right (by omega) h
theorem dvd_of_mul {m n b : Int} {k : Nat} (h : m * b ^ (k + 1) = n) : n % b = 0 := by
  rw [← h, Int.pow_succ, ← Int.mul_assoc]
  exact Int.mul_emod_left _ _
theorem key_inj' {b m n : Int} {top : Nat} (hb : 2 ≤ b) (hn : n % b ≠ 0) (ln : lg b n ≤ top) (c : lg b m ≤ lg b n) (h : keyOf b top m = keyOf b top n) : m = n := by
  unfold keyOf at h
  have e : top - lg b m = (lg b n - lg b m) + (top - lg b n) := by omega
  rw [e, pow_add', ← Int.mul_assoc] at h
  have h2 := mul_cancel (pow_pos' (by omega) _) h
  cases q : lg b n - lg b m with
  | zero =>
    rw [q, Int.pow_zero, Int.mul_one] at h2
    exact h2
  | succ k =>
    rw [q] at h2
    exact absurd (dvd_of_mul h2) hn
theorem key_inj {b m n : Int} {top : Nat} (hb : 2 ≤ b) (hm : m % b ≠ 0) (hn : n % b ≠ 0) (lm : lg b m ≤ top) (ln : lg b n ≤ top) (h : keyOf b top m = keyOf b top n) : m = n := by
  rcases Nat.le_total (lg b m) (lg b n) with c | c
  · exact key_inj' hb hn ln c h
  · exact (key_inj' hb hm lm c h.symm).symm
theorem key_pos {b m : Int} {top : Nat} (hb : 2 ≤ b) (hm : 1 ≤ m) : 1 ≤ keyOf b top m := by
  have h1 := pow_pos' (b := b) (by omega) (top - lg b m)
  have := Int.mul_le_mul hm h1 (by omega) (by omega)
  unfold keyOf
  omega
theorem key_lt {b m : Int} {top : Nat} (hb : 2 ≤ b) (hm : 1 ≤ m) (h : lg b m ≤ top) : b ^ top ≤ keyOf b top m ∧ keyOf b top m < b ^ (top + 1) := by
  obtain ⟨h1, h2⟩ := lg_spec hb hm
  have h3 := pow_pos' (b := b) (by omega) (top - lg b m)
  have e1 : b ^ top = b ^ lg b m * b ^ (top - lg b m) := by rw [← pow_add']; congr 1; omega
  have e2 : b ^ (top + 1) = b ^ (lg b m + 1) * b ^ (top - lg b m) := by rw [← pow_add']; congr 1; omega
  rw [e1, e2]
  exact ⟨Int.mul_le_mul_of_nonneg_right h1 (by omega), Int.mul_lt_mul_of_pos_right h2 (by omega)⟩
end Ax
namespace Ax
theorem perm_lift {α β : Type} {f : α → β} : ∀ {zs : List β} {ms : List α}, zs.Perm (ms.map f) → ∃ rs : List α, rs.Perm ms ∧ zs = rs.map f
  | [], ms, h => by
    have e := h.length_eq
    rw [List.length_map] at e
    have : ms = [] := List.eq_nil_of_length_eq_zero e.symm
    subst this
    exact ⟨[], .nil, rfl⟩
  | z :: zs, ms, h => by
    have hz : z ∈ ms.map f := h.mem_iff.mp (List.mem_cons_self ..)
    obtain ⟨m, hm, rfl⟩ := List.mem_map.mp hz
    obtain ⟨l1, l2, rfl⟩ := List.append_of_mem hm
    have h2 : (f m :: zs).Perm (f m :: (l1 ++ l2).map f) := by
      refine h.trans ?_
      rw [List.map_append, List.map_cons, List.map_append]
      exact List.perm_middle
    obtain ⟨rs, p, e⟩ := perm_lift ((List.perm_cons _).mp h2)
    refine ⟨m :: rs, ((List.perm_cons m).mpr p).trans List.perm_middle.symm, by rw [e]; rfl⟩
theorem nodup_map {α β : Type} {f : α → β} {ms : List α} (nd : ms.Nodup) (inj : ∀ x ∈ ms, ∀ y ∈ ms, f x = f y → x = y) : (ms.map f).Nodup := by
  unfold List.Nodup
  rw [List.pairwise_map]
  exact List.Pairwise.imp_of_mem (fun {a b} ha hb h z => h (inj a ha b hb z)) nd
theorem strict {zs : List Int} (h : zs.Pairwise (· ≤ ·)) (nd : zs.Nodup) : zs.Pairwise (· < ·) := (h.and nd).imp fun ⟨a, b⟩ => by omega
end Ax

/-! # Own exceptions as values: made by position, by name, without a value; asked for their class and their field. -/
namespace XcV
open PySem PySem.HandSPX Builtin Builtin.ObjectAttr
section
variable {M : Model} {A : Around} {E : Value → Shared → Prop} {h : Heap} {g : Array GenState} {d : Drawn} {t : Nat} {os : OsState}
variable {nm q : Str} {C N : Addr} {bs bm bmB : List Value} {hdct : Bool} {sn : List Str} {sub : List Value} {ab : Bool} {col : Option Bool} {dd : Option Addr} {k0 k1 k2 k3 k5 : Option Value} {B newId initId : String}
theorem checked (F : ExcBaseFacts B newId initId bmB) (hT : ∀ X : String, bm.contains (.type X) = bmB.contains (.type X)) {n : Str} {u : Value} {Q : Unit → Shared → Prop}
    (hC : h.get? C = some (excClassObj nm q C N bs bm hdct sn sub ab col dd k0 k1 k2 k3 k5 newId)) (hq : Q () ⟨h, g, d, t, os⟩) : wpAny M A (checkBuiltinCall newId ⟨[.ref C], [(n, u)]⟩) Q E ⟨h, g, d, t, os⟩ := by
  have own : (Value.ref C :: bm).contains (.type B) = true := by rw [List.contains_cons, hT, F.hasB, Bool.or_true]
  have star := F.noStar
  simp only [checkBuiltinCall, F.newKind, F.newSplit, F.newRow]
  repeat (first | refine wpAny_loadPart_at hC ?_ | (refine wpAny_isSubtype_exc hC ?_; rw [own]) | refine wpAny_staticBase_exc hC ?_ | refine wpAny_madeBy_exc hC ?_ | simp only [bne_self_eq_false, Bool.false_eq_true, if_false] | wp_step)
  exact hq
end
section
variable {prog : Program} {w : World} {A : Around} {E : Value → Shared → Prop} {R : Result → Shared → Prop} {h : Heap} {g : Array GenState} {d : Drawn} {t : Nat} {os : OsState}
variable {nm q : Str} {C N : Addr} {bs bm bmB : List Value} {hdct : Bool} {sn : List Str} {sub : List Value} {ab : Bool} {col : Option Bool} {dd : Option Addr} {k0 k1 k2 k3 k5 : Option Value} {B newId initId : String}
/-- the heap with the new exception -/
abbrev laid (h : Heap) (C : Addr) : Heap := (h.push (W.kdv_tup [])).push (excO C h.objs.size)
theorem newed (F : ExcBaseFacts B newId initId bmB) (hT : ∀ X : String, bm.contains (.type X) = bmB.contains (.type X)) {n : Str} {u : Value}
    (hC : h.get? C = some (excClassObj nm q C N bs bm hdct sn sub ab col dd k0 k1 k2 k3 k5 newId)) (hq : R (.ok (.ret (.ref (h.objs.size + 1)))) ⟨laid h C, g, d, t, os⟩) :
    codeAny (model prog w) A (.builtin newId ⟨[.ref C], [(n, u)]⟩) R ⟨h, g, d, t, os⟩ := by
  have ends := F.ends
  have isB : (Value.ref C :: bm).contains (.type B) = true := by rw [List.contains_cons, hT, F.hasB, Bool.or_true]
  have noA : (Value.ref C :: bm).contains (.type "AttributeError") = false := by rw [List.contains_cons, hT, F.noAttr]; rfl
  have noN : (Value.ref C :: bm).contains (.type "NameError") = false := by rw [List.contains_cons, hT, F.noName]; rfl
  refine codeAny_builtinAt F.entry ?_
  unfold Builtin.«BaseException.__new__»
  refine wpAt_bind ?_
  show wpAt _ _ _ (stack >>= _) _ _ _
  refine wpAt_bind (wpAt_stack fun p below => wpAt_of_wpAny ?_)
  wp_walk
  refine wpAt_of_wpAny ?_
  rw [F.owner]
  repeat (first | with_reducible refine wpAny_madeHere_exc F.canon hC ?_ | with_reducible refine wpAny_loadPart_at hC ?_ | (with_reducible refine wpAny_isSubtype_exc hC ?_; first | rw [isB] | rw [noA] | rw [noN]) | wp_step)
  show R _ _
  rw [Heap.size_push]
  exact hq
theorem typeCall (F : ExcBaseFacts B newId initId bmB) (hT : ∀ X : String, bm.contains (.type X) = bmB.contains (.type X)) {n : Str} {u : Value} {fI : Addr} {Q : Fin → Shared → Prop}
    (hC : h.get? C = some (excClassObj nm q C N bs bm hdct sn sub ab col dd k0 k1 k2 k3 k5 newId))
    (hi : W.Looks (model prog w) h (typeLookup (.ref C) "__init__") (some (.ref fI))) (hb : ∀ self, W.Looks (model prog w) h (bindSpecial (.ref fI) self) (.ref fI, [self]))
    (hq : codeAny (model prog w) A (.call (.ref fI) ⟨[.ref (h.objs.size + 1)], [(n, u)]⟩)
      (fun r s' => match r with | .ok (.ret v) => v = .none ∧ Q (.done (.ret (.ref (h.objs.size + 1)))) s' | .ok _ => False | .error e => E e s') ⟨laid h C, g, d, t, os⟩) :
    wpAny (model prog w) A (Builtin.«type.__call__» ⟨[.ref C], [(n, u)]⟩) Q E ⟨h, g, d, t, os⟩ := by
  repeat (first | with_reducible refine wpAny_loadPart_at hC ?_ | with_reducible refine wpAny_madeBy_exc hC ?_ | wp_step)
  refine codeAny_call_builtin_code (Code.quiet_builtin _ F.quiet) (checked F hT hC ?_)
  refine newed F hT hC ?_
  show wpAny _ _ _ _ _ _
  have k : ∀ b o, h.get? b = some o → (laid h C).get? b = some o := fun b o e => Heap.get?_push_of_some _ (Heap.get?_push_of_some _ e)
  have hC2 := k _ _ hC
  have here : (laid h C).get? (h.objs.size + 1) = some (excO C h.objs.size) := by heap_get
  have same : (Value.ref C :: bm).contains (.ref C) = true := by simp
  have i1 := hi.keeps k
  have b1 := (hb (.ref (h.objs.size + 1))).keeps k
  unfold isInstance
  repeat (first | with_reducible refine wpAny_loadPart_at here ?_ | (with_reducible refine wpAny_isSubtype_exc hC2 ?_; rw [same]) | wp_step)
  show wpAny _ _ (typeLookup (.ref C) _) _ _ _
  refine i1.at ?_
  refine wpAny_holding (wpAny_bind (b1.at ?_))
  refine wpAny_bind (wpAny_call (codeAny_mono hq fun r s' z => ?_))
  rcases r with e | (v | _ | _ | _) <;> first | exact z | exact z.elim | skip
  obtain ⟨rfl, z⟩ := z
  first
    | exact wpAny_pure (wpAny_pure z)
    | (wp_walk; exact z)
theorem called (F : ExcBaseFacts B newId initId bmB) (hT : ∀ X : String, bm.contains (.type X) = bmB.contains (.type X)) {n : Str} {u : Value} {fI : Addr}
    (hC : h.get? C = some (excClassObj nm q C N bs bm hdct sn sub ab col dd k0 k1 k2 k3 k5 newId))
    (hi : W.Looks (model prog w) h (typeLookup (.ref C) "__init__") (some (.ref fI))) (hb : ∀ self, W.Looks (model prog w) h (bindSpecial (.ref fI) self) (.ref fI, [self]))
    (hq : codeAny (model prog w) (A.under (.builtin "type.__call__" ⟨[.ref C], [(n, u)]⟩)) (.call (.ref fI) ⟨[.ref (h.objs.size + 1)], [(n, u)]⟩) (W.InitBack (h.objs.size + 1) R) ⟨laid h C, g, d, t, os⟩) :
    codeAny (model prog w) A (.call (.ref C) ⟨[], [(n, u)]⟩) R ⟨h, g, d, t, os⟩ := by
  have f1 := tc_lookup
  have f2 := tc_bind (.ref C)
  have hTy : (⟨h, g, d, t, os⟩ : Shared).TypeIs (.ref C) "type" := ⟨_, hC, rfl⟩
  refine codeAny_of_tree ?_
  show wpAny _ _ (callAny (.ref C) _) _ _ _
  repeat (any_goals (first | assumption | with_reducible refine wpAny_loadPart_at hC ?_ | wp_step))
  refine ⟨rfl, ?_⟩
  refine codeAny_call_builtin_at (Code.quiet_builtin _ (by decide +kernel)) entry_typeCall ?_
  have f3 := tc_sub
  show wpAny _ _ (checkBuiltinCall "type.__call__" ⟨[.ref C], [(n, u)]⟩) _ _ _
  have ok : ∀ {A' : Around} {Q' : Unit → Shared → Prop} {E' : Value → Shared → Prop}, Q' () ⟨h, g, d, t, os⟩ → wpAny (model prog w) A' (checkBuiltinCall "type.__call__" ⟨[.ref C], [(n, u)]⟩) Q' E' ⟨h, g, d, t, os⟩ := fun {A' Q' E'} z => by
    simp only [checkBuiltinCall, tc_kind, tc_split]
    repeat (any_goals (first | assumption | with_reducible refine wpAny_loadPart_at hC ?_ | with_reducible refine wpAny_onRaise ?_ | with_reducible refine wpAny_map ?_ | wp_step))
  refine ok ?_
  refine typeCall F hT hC hi hb ?_
  refine codeAny_mono hq fun r s' z => ?_
  rcases r with e | (v | _ | _ | _) <;> exact z
end
end XcV
namespace L2
open PySem PySem.Spec PyProof.Rows
/-- what a made exception is: its object, its dict -/
def tMkV (C : Addr) (sp : Sp) (gV : List V → List V → List V) (ta tk : TA) : TE := fun σ H Q => ta σ H fun vs H1 => tk σ H1 fun zs H2 => vs.length ≤ 1 ∧ zs.length + vs.length ≤ 1 ∧ ∀ a, H2 a = none → sp (.ref a :: gV vs zs) (upd H2 a (exo a C none)) (fun v H3 => v = .non ∧ Q (.ref a) H3) (fun _ _ _ => False)
section
variable {X : Cx} {CX : CXT} {C fI : Addr} {k : Nat} {fd : FuncData} {ps : List Str} {sp : Sp} {pins : List (Addr × Obj)} {σ : St} {H : Hp} {s : Shared} {Q : VK}
/-- what a class asks for, and its own __init__ -/
structure Xmk (X : Cx) (CX : CXT) (C fI : Addr) (k : Nat) (fd : FuncData) (ps : List Str) (sp : Sp) : Prop where
  T : OexC X.K C
  iC : PySem.W.findIn X.K (.ref C) "__init__" = some (some (.ref fI))
  tI : PySem.W.typeIn X.K (.ref fI) = some (.type "function")
  F1 : FnOk X.prog X.w X.K X.mg X.base CX k fI fd ps sp
  hx : Passes CX X (fun _ _ _ => False)
theorem run_xv0 {us ds : List Value} {vs dvs : List V} (M : Xmk X CX C fI k fd ps sp) (hr : Room (k + 1) X.A) (hb : Binds X.K fd ps ds) (hd : Vals dvs ds) (I : Inv X pins σ H s) (r : Vals vs us) (hz : vs.length ≤ 1)
    (h : ∀ a, H a = none → sp (.ref a :: (vs ++ dvs)) (upd H a (exo a C none)) (fun v H3 => v = .non ∧ Q (.ref a) H3) (fun _ _ _ => False)) : wpAny (model X.prog X.w) X.A (call (.ref C) us) (EP X pins σ Q) X.xe s := by
  obtain ⟨nm, q, N, bs, bm, sn, sub, ab, col, dd, k0, k1, k2, k3, k5, hC, hbm⟩ := M.T.cls
  obtain ⟨hp, g, dr, tk, os⟩ := s
  have up1 : hp.objs.size ≤ hp.objs.size + 1 := Nat.le_succ _
  have hq := h (hp.objs.size + 1) (I.hok.fresh up1)
  have kk : ∀ b o, hp.get? b = some o → ((hp.push (PySem.W.kdv_tup us)).push (PySem.HandSPX.excO C hp.objs.size)).get? b = some o := fun b o e => Heap.get?_push_of_some _ (Heap.get?_push_of_some _ e)
  have here : ((hp.push (PySem.W.kdv_tup us)).push (PySem.HandSPX.excO C hp.objs.size)).get? (hp.objs.size + 1) = some (PySem.HandSPX.excO C hp.objs.size) := by heap_get
  have I2 : Inv X pins σ (upd H (hp.objs.size + 1) (exo (hp.objs.size + 1) C none)) ⟨(hp.push (PySem.W.kdv_tup us)).push (PySem.HandSPX.excO C hp.objs.size), g, dr, tk, os⟩ := I.laid (t' := tk) kk up1 (exo_ok here)
  have r2 : Vals (V.ref (hp.objs.size + 1) :: (vs ++ dvs)) (Value.ref (hp.objs.size + 1) :: (us ++ ds)) := .cons rfl (r.append hd)
  have hl : (Value.ref (hp.objs.size + 1) :: us ++ ds).length = ps.length := (r2.length.symm.trans (M.F1.len _ _ _ _ hq))
  have hus : us.length ≤ sizeLine := by
    rw [← Paired.length r, sizeLine_eq]
    omega
  refine wpAny_call (PySem.HandSPX.call_own F.excBase_ValueError (fun Y => PySem.HandSPX.refsVE_contains Y bm hbm) (I.kIn _ _ hC) (PySem.W.looks_findIn I.kIn M.iC) (fun self => PySem.W.bind_fn I.kIn self M.tI) hus
    (codeAny_mono (M.F1.run _ X.stack _ _ ⟨Value.ref (hp.objs.size + 1) :: us, []⟩ (Value.ref (hp.objs.size + 1) :: (us ++ ds)) _ _ (fun _ _ _ => False) (hr.make C us []) (I2.env0.make C us []) (hb _ (Value.ref (hp.objs.size + 1) :: us) I2.kIn hl) r2 hq) fun r s' hq' => ?_))
  cases r with
  | error er => exact M.hx pins σ _ _ er s' I2 hq'
  | ok fl =>
    cases fl with
    | ret u =>
      obtain ⟨v, H', I3, rv, ev, q3⟩ := I2.after hq'
      subst ev
      -- what was tracked ahead of the call stands as it did: the entry's heap is that of I
      exact ⟨rv, ⟨V.ref (hp.objs.size + 1), H', I3, rfl, q3⟩⟩
    | next => exact False.elim hq'
    | brk => exact False.elim hq'
    | cont => exact False.elim hq'
theorem run_xvK {w' : Value} {v' : V} {n : Str} {g : List Value → List Value → List Value} {gV : List V → List V → List V} (M : Xmk X CX C fI k fd ps sp) (hr : Room (k + 1) X.A) (hb : KBn X.K fd ps 1 [n] g gV) (I : Inv X pins σ H s) (r : RelV v' w')
    (h : ∀ a, H a = none → sp (gV [.ref a] [v']) (upd H a (exo a C none)) (fun v H3 => v = .non ∧ Q (.ref a) H3) (fun _ _ _ => False)) : wpAny (model X.prog X.w) X.A (call (.ref C) [] [(n, w')]) (EP X pins σ Q) X.xe s := by
  obtain ⟨nm, q, N, bs, bm, sn, sub, ab, col, dd, k0, k1, k2, k3, k5, hC, hbm⟩ := M.T.cls
  obtain ⟨hp, gn, dr, tk, os⟩ := s
  have up1 : hp.objs.size ≤ hp.objs.size + 1 := Nat.le_succ _
  have hq := h (hp.objs.size + 1) (I.hok.fresh up1)
  have kk : ∀ b o, hp.get? b = some o → (XcV.laid hp C).get? b = some o := fun b o e => Heap.get?_push_of_some _ (Heap.get?_push_of_some _ e)
  have here : (XcV.laid hp C).get? (hp.objs.size + 1) = some (PySem.HandSPX.excO C hp.objs.size) := by heap_get
  have I2 : Inv X pins σ (upd H (hp.objs.size + 1) (exo (hp.objs.size + 1) C none)) ⟨XcV.laid hp C, gn, dr, tk, os⟩ := I.laid (t' := tk) kk up1 (exo_ok here)
  have r2 : Vals (gV [V.ref (hp.objs.size + 1)] [v']) (g [Value.ref (hp.objs.size + 1)] [w']) := hb.rel (.cons rfl .nil) (.cons r .nil)
  refine wpAny_call (XcV.called F.excBase_ValueError (fun Y => PySem.HandSPX.refsVE_contains Y bm hbm) (I.kIn _ _ hC) (PySem.W.looks_findIn I.kIn M.iC) (fun self => PySem.W.bind_fn I.kIn self M.tI)
    (codeAny_mono (M.F1.run _ X.stack _ _ ⟨[Value.ref (hp.objs.size + 1)], [(n, w')]⟩ (g [Value.ref (hp.objs.size + 1)] [w']) _ _ (fun _ _ _ => False) (hr.make C [] [(n, w')]) (I2.env0.make C [] [(n, w')]) (hb.to _ [Value.ref (hp.objs.size + 1)] [w'] I2.kIn rfl rfl) r2 hq) fun r s' hq' => ?_))
  cases r with
  | error er => exact M.hx pins σ _ _ er s' I2 hq'
  | ok fl =>
    cases fl with
    | ret u =>
      obtain ⟨v, H', I3, rv, ev, q3⟩ := I2.after hq'
      subst ev
      exact ⟨rv, ⟨V.ref (hp.objs.size + 1), H', I3, rfl, q3⟩⟩
    | next => exact False.elim hq'
    | brk => exact False.elim hq'
    | cont => exact False.elim hq'
end
/-- C(e) -/
def tXv (C : Addr) (sp : Sp) (dvs : List V) (ta : TA) : TE := fun σ H Q => ta σ H fun vs H1 => vs.length ≤ 1 ∧ ∀ a, H1 a = none → sp (.ref a :: (vs ++ dvs)) (upd H1 a (exo a C none)) (fun v H3 => v = .non ∧ Q (.ref a) H3) (fun _ _ _ => False)
/-- C(n=e) -/
def tXvK (C : Addr) (sp : Sp) (gV : List V → List V → List V) (te : TE) : TE := fun σ H Q => tCons te tNil σ H fun zs H1 => ∃ v, zs = [v] ∧ ∀ a, H1 a = none → sp (gV [.ref a] [v]) (upd H1 a (exo a C none)) (fun v H3 => v = .non ∧ Q (.ref a) H3) (fun _ _ _ => False)
section
variable {X : Cx} {CX : CXT} {C fI : Addr} {k : Nat} {fd : FuncData} {ps : List Str} {sp : Sp} {ds : List Value} {dvs : List V} {x : Str} {p pos : Pos} {e : Expr} {ta : TA} {te : TE}
theorem pe_xv (M : Xmk X CX C fI k fd ps sp) (hr : Room (k + 1) X.A) (hb : Binds X.K fd ps ds) (hd : Vals dvs ds) (hg : Gl X x) (hm : X.mg x = some (.ref C)) (ha : PA X [e] ta)
    (hdb : (x == ("__debug__" : Str)) = false := by decide) (he : starEach [e] X.env = (false, eval e X.env) :: starEach [] X.env := by rfl) (hpl : (backTo pos (starEach [] X.env)).any (·.1) = false := by rfl) : PE X (.Call (.Name x p) [e] [] pos) (tXv C sp dvs ta) := by
  refine ⟨fun pins s σ H Q I h => ?_⟩
  refine wpAny_Call_Name_kw (ld_glob I hg hm ?_ hdb)
  exact PySem.W.callWith_K (h₀ := X.base) I.ok.mod.kin M.T.kC (thn (ha.run pos pins s σ H _ I h) fun us s1 ⟨vs, H1, I1, r, hz, q⟩ => ⟨I1.kIn, run_xv0 M hr hb hd I1 r hz q⟩) he hpl
theorem pe_xv0 (M : Xmk X CX C fI k fd ps sp) (hr : Room (k + 1) X.A) (hb : Binds X.K fd ps ds) (hd : Vals dvs ds) (hg : Gl X x) (hm : X.mg x = some (.ref C)) (hdb : (x == ("__debug__" : Str)) = false := by decide) : PE X (.Call (.Name x p) [] [] pos) (tXv C sp dvs tNil) := by
  refine ⟨fun pins s σ H Q I h => ?_⟩
  refine wpAny_Call_Name_kw (ld_glob I hg hm ?_ hdb)
  exact PySem.W.callWith_K0 I.kIn M.T.kC (run_xv0 (us := []) M hr hb hd I .nil h.1 h.2)
theorem pe_xvK {n : Str} {kp : Pos} {g : List Value → List Value → List Value} {gV : List V → List V → List V} (M : Xmk X CX C fI k fd ps sp) (hr : Room (k + 1) X.A) (hb : KBn X.K fd ps 1 [n] g gV) (hg : Gl X x) (hm : X.mg x = some (.ref C)) (he : PE X e te)
    (hall : (backToKw pos (keywordEach [⟨some n, e, kp⟩] X.env)).all (·.1.isSome) = true := by rfl) (hks : (backToKw pos (keywordEach [⟨some n, e, kp⟩] X.env)).filterMap (·.1) = [n] := by rfl) (hdb : (x == ("__debug__" : Str)) = false := by decide)
    (hpl : ((backTo pos (starEach [] X.env)).any (·.1) || (backToKw pos (keywordEach [⟨some n, e, kp⟩] X.env)).any (·.1.isNone)) = false := by rfl) : PE X (.Call (.Name x p) [] [⟨some n, e, kp⟩] pos) (tXvK C sp gV te) := by
  refine ⟨fun pins s σ H Q I h => ?_⟩
  refine wpAny_Call_Name_kw (ld_glob I hg hm ?_ hdb)
  refine PySem.W.callWith_KW0 (h₀ := X.base) I.ok.mod.kin M.T.kC hall ?_ hpl
  refine thn ((pk_cons (kpos := kp) (nm := some n) he pk_nil).run pos pins s σ H (fun zs H1 => ∃ v, zs = [v] ∧ ∀ a, H1 a = none → sp (gV [.ref a] [v]) (upd H1 a (exo a C none)) (fun v H3 => v = .non ∧ Q (.ref a) H3) (fun _ _ _ => False)) I ?_) fun ws s1 ⟨zs, H1, I1, rz, v, ez, q⟩ => ⟨I1.kIn, ?_⟩
  · exact h
  · subst ez
    cases rz with
    | cons r rn =>
      cases rn
      rw [hks]
      exact run_xvK M hr hb I1 r q
end
/-! ### asked for its class, its field -/
/-- what a class must say for that -/
structure Xask (K : PySem.W.Frag) (C : Addr) : Prop where
  ga : PySem.W.findIn K (.ref C) "__getattribute__" = some (some (.builtin "BaseException.__getattribute__"))
  gg : PySem.W.findIn K (.ref C) "__getattr__" = some none
  ex : PySem.W.subIn K (.ref C) (.type "BaseException") = some true
  hd : PySem.W.hasDictIn K C = true
  ca : PySem.W.findIn K (.ref C) "__class__" = some (some (.builtin "object.__class__"))
  cn : PySem.W.specialIn K (.builtin "object.__class__") "__get__" = some (some (.builtin "getset_descriptor.__get__"))
  ct : PySem.W.takesIn K (.builtin "object.__class__") = some true
  cm : PySem.W.mroIn K C (.type "object") = some true
/-- an exception at a, of the class at C, with these fields -/
def Xat (H : Hp) (a C : Addr) (fs : List (Str × V)) : Prop := ∃ d, H a = some (exo a C (some d)) ∧ H d = some (exd d fs)
theorem Xat.same {H H' : Hp} {a C : Addr} {fs : List (Str × V)} (s : ∀ b o, H b = some o → H' b = some o) (x : Xat H a C fs) : Xat H' a C fs := by
  obtain ⟨d, h1, h2⟩ := x
  exact ⟨d, s _ _ h1, s _ _ h2⟩
section
variable {X : Cx} {pins : List (Addr × Obj)} {σ : St} {H : Hp} {s : Shared} {a C : Addr} {fs : List (Str × V)}
theorem xat_inst (I : Inv X pins σ H s) (x : Xat H a C fs) : ∃ (ox od : Obj) (mA : Str → Option Value), PySem.W.InstAt s.heap a ox C (some od) ∧ (∀ f, PySem.W.lookIn f od = some (mA f)) ∧ ∀ f, RelO (fs.lookup f) (mA f) := by
  obtain ⟨d, h1, h2⟩ := x
  obtain ⟨t1, ho⟩ := exo_at I.hok h1
  obtain ⟨mA, hns, rel⟩ := exd_at I.hok h2
  obtain ⟨od, hod, hl⟩ := lookIn_ns hns
  exact ⟨_, od, mA, ⟨ho, rfl, rfl, hod⟩, hl, rel⟩
/-- isinstance(e, c) -/
def rIsX (K : PySem.W.Frag) : List V → Hp → VK → Prop := fun xs H Q => ∃ (a C : Addr) (fs : List (Str × V)) (c : V) (cv : Value) (b : Bool), xs = [.ref a, c] ∧ Xask K C ∧ Xat H a C fs ∧ (∀ u, RelV c u → u = cv) ∧ PySem.W.kitOne K (.ref C) cv = some b ∧ Q (.bl b) H
theorem call_isX : CallR X (.builtin "isinstance") (rIsX X.K) := by
  intro pins s σ H xs us Q I r h
  obtain ⟨a, C, fs, c, cv, b, rfl, T, x, hcv, e, q⟩ := h
  cases r with
  | cons rx rr =>
    cases rr with
    | cons rt rr =>
      cases rr
      cases rx
      obtain rfl := hcv _ rt
      obtain ⟨ox, od, mA, J, _, _⟩ := xat_inst I x
      obtain ⟨cd, hcd, _⟩ := PySem.W.any_some T.hd
      exact PySem.W.kia_one (PySem.W.kitx_exc (od := some od) (by rw [hcd]; rfl) T.ga T.gg T.ex T.ca T.cn T.ct T.cm) I.kIn J e (fun z => nomatch z) fun tk => ⟨.bl b, H, I.kept (t' := tk) fun _ _ z => z, rfl, q⟩
/-- e.f -/
def tXf2 (K : PySem.W.Frag) (f : Str) (te : TE) : TE := fun σ H Q => te σ H fun x H1 => ∃ (a C : Addr) (fs : List (Str × V)) (v : V), x = .ref a ∧ Xask K C ∧ PySem.W.findIn K (.ref C) f = some none ∧ Xat H1 a C fs ∧ fs.lookup f = some v ∧ Q v H1
theorem pe_xf2 {e : Expr} {te : TE} {f : Str} {pos : Pos} (he : PE X e te) (hb : attributeBase e f X.env (eval e X.env) = eval e X.env := by rfl) : PE X (.Attribute e f pos) (tXf2 X.K f te) := by
  refine ⟨fun pins s σ H Q I h => ?_⟩
  refine attr_of hb (thn (he.run pins s σ H _ I h) fun u s1 hh => ?_)
  obtain ⟨x, H1, I1, rx, a, C, fs, v, rfl, T, no, xa, lk, q⟩ := hh
  obtain rfl : u = Value.ref a := rx
  obtain ⟨ox, od, mA, J, hl, rel⟩ := xat_inst I1 xa
  obtain ⟨u, hu, ru⟩ := RelO.some_of (v := v) (o := mA f) (by rw [← lk]; exact rel f)
  exact PySem.HandSPX.exc_get I1.kIn J T.ga T.gg T.ex (PySem.W.findObj_own T.hd no rfl (by rw [hl, hu])) (handed_of ru) ⟨v, H1, I1.tok _, ru, q⟩
end
end L2

/-! # The program's exceptions, the law's defs, one promise each. -/
namespace Ax
open PySem L2
def top (i : Nat) : Stmt := PySem.Challenge.pw_axisticks_k01_errors_made.main.body.getD i (.Pass ⟨0, 0, 0, 0⟩)
abbrev s_InvalidRule_init : Stmt := inClass (top 2) 0
abbrev s_InvalidRange_init : Stmt := inClass (top 3) 0
abbrev s_InvalidSet_init : Stmt := inClass (top 4) 0
abbrev s_InvalidBase_init : Stmt := inClass (top 5) 0
abbrev s_InvalidNumber_init : Stmt := inClass (top 6) 0
abbrev s_InvalidFactor_init : Stmt := inClass (top 7) 0
abbrev s_InvalidEnd_init : Stmt := inClass (top 8) 0
abbrev s_InvalidRules_init : Stmt := inClass (top 9) 0
abbrev s_law_purse : Stmt := top 11
abbrev s_law_draw : Stmt := top 12
abbrev s_law_pick : Stmt := top 13
abbrev s_law_classes : Stmt := top 14
abbrev s_law_right : Stmt := top 15
abbrev s_law : Stmt := top 16
/-- what stands of an exception class nm at C, its __init__ at f -/
structure XcF (K : PySem.W.Frag) (mg : Str → Option Value) (nm qual : Str) (st : Stmt) (C f : Addr) (fd : FuncData) : Prop where
  mgC : mg nm = some (.ref C)
  oex : OexC K C
  ask : Xask K C
  ini : PySem.W.findIn K (.ref C) "__init__" = some (some (.ref f))
  fty : PySem.W.typeIn K (.ref f) = some (.type "function")
  no : PySem.W.findIn K (.ref C) "value" = some none
  F : FunD K "__init__" qual (defArgs st) (defBody st) (defScope st) [.non] [] f fd
/-- what stands of the base class -/
structure XcB (K : PySem.W.Frag) (C : Addr) : Prop where
  oex : OexC K C
  ask : Xask K C
  ini : PySem.W.findIn K (.ref C) "__init__" = some (some (.builtin "ValueError.__init__"))
  kit : PySem.W.kitOne K (.ref C) (.type "ValueError") = some true
structure Adr where
  a_law_purse : Addr
  d_law_purse : FuncData
  a_law_draw : Addr
  d_law_draw : FuncData
  a_law_pick : Addr
  d_law_pick : FuncData
  a_law_classes : Addr
  d_law_classes : FuncData
  a_law_right : Addr
  d_law_right : FuncData
  a_law : Addr
  d_law : FuncData
  e_InvalidRule : Addr
  i_InvalidRule : Addr
  j_InvalidRule : FuncData
  e_InvalidRange : Addr
  i_InvalidRange : Addr
  j_InvalidRange : FuncData
  e_InvalidSet : Addr
  i_InvalidSet : Addr
  j_InvalidSet : FuncData
  e_InvalidBase : Addr
  i_InvalidBase : Addr
  j_InvalidBase : FuncData
  e_InvalidNumber : Addr
  i_InvalidNumber : Addr
  j_InvalidNumber : FuncData
  e_InvalidFactor : Addr
  i_InvalidFactor : Addr
  j_InvalidFactor : FuncData
  e_InvalidEnd : Addr
  i_InvalidEnd : Addr
  j_InvalidEnd : FuncData
  e_InvalidRules : Addr
  i_InvalidRules : Addr
  j_InvalidRules : FuncData
  e_AxisTicksError : Addr
/-- the classes, in order -/
def Adr.cl (A : Adr) : List Addr := [A.e_InvalidRule, A.e_InvalidRange, A.e_InvalidSet, A.e_InvalidBase, A.e_InvalidNumber, A.e_InvalidFactor, A.e_InvalidEnd, A.e_InvalidRules]

structure Txt (K : PySem.W.Frag) (mg : Str → Option Value) (A : Adr) (w : World) : Prop where
  n_len : mg "len" = none
  n_isinstance : mg "isinstance" = none
  n_all : mg "all" = none
  n_int : mg "int" = none
  n_bool : mg "bool" = none
  n_str : mg "str" = none
  n_tuple : mg "tuple" = none
  n_list : mg "list" = none
  n_range : mg "range" = none
  n_reversed : mg "reversed" = none
  n_zip : mg "zip" = none
  n_max : mg "max" = none
  n_min : mg "min" = none
  n_abs : mg "abs" = none
  n_sorted : mg "sorted" = none
  n_set : mg "set" = none
  n_divmod : mg "divmod" = none
  n_repr : mg "repr" = none
  n_enumerate : mg "enumerate" = none
  n_ValueError : mg "ValueError" = none
  F_law_purse : Fun K "_law_purse" "_law_purse" s_law_purse A.a_law_purse A.d_law_purse
  B_law_purse : Binds K A.d_law_purse ["_law_script", "_law_at"] []
  m_law_purse : mg "_law_purse" = some (.ref A.a_law_purse)
  F_law_draw : Fun K "_law_draw" "_law_draw" s_law_draw A.a_law_draw A.d_law_draw
  B_law_draw : Binds K A.d_law_draw ["_law_purse_here", "_law_many"] []
  m_law_draw : mg "_law_draw" = some (.ref A.a_law_draw)
  F_law_pick : Fun K "_law_pick" "_law_pick" s_law_pick A.a_law_pick A.d_law_pick
  B_law_pick : Binds K A.d_law_pick ["_law_purse_here", "_law_items"] []
  m_law_pick : mg "_law_pick" = some (.ref A.a_law_pick)
  F_law_classes : Fun K "_law_classes" "_law_classes" s_law_classes A.a_law_classes A.d_law_classes
  B_law_classes : Binds K A.d_law_classes ["_law_error"] []
  m_law_classes : mg "_law_classes" = some (.ref A.a_law_classes)
  F_law_right : Fun K "_law_right" "_law_right" s_law_right A.a_law_right A.d_law_right
  B_law_right : Binds K A.d_law_right ["_law_errors", "_law_given"] []
  m_law_right : mg "_law_right" = some (.ref A.a_law_right)
  F_law : Fun K "law" "law" s_law A.a_law A.d_law
  B_law : Binds K A.d_law ["_law_script"] []
  m_law : mg "law" = some (.ref A.a_law)
  x_InvalidRule : XcF K mg "InvalidRule" "InvalidRule.__init__" s_InvalidRule_init A.e_InvalidRule A.i_InvalidRule A.j_InvalidRule
  x_InvalidRange : XcF K mg "InvalidRange" "InvalidRange.__init__" s_InvalidRange_init A.e_InvalidRange A.i_InvalidRange A.j_InvalidRange
  x_InvalidSet : XcF K mg "InvalidSet" "InvalidSet.__init__" s_InvalidSet_init A.e_InvalidSet A.i_InvalidSet A.j_InvalidSet
  x_InvalidBase : XcF K mg "InvalidBase" "InvalidBase.__init__" s_InvalidBase_init A.e_InvalidBase A.i_InvalidBase A.j_InvalidBase
  x_InvalidNumber : XcF K mg "InvalidNumber" "InvalidNumber.__init__" s_InvalidNumber_init A.e_InvalidNumber A.i_InvalidNumber A.j_InvalidNumber
  x_InvalidFactor : XcF K mg "InvalidFactor" "InvalidFactor.__init__" s_InvalidFactor_init A.e_InvalidFactor A.i_InvalidFactor A.j_InvalidFactor
  x_InvalidEnd : XcF K mg "InvalidEnd" "InvalidEnd.__init__" s_InvalidEnd_init A.e_InvalidEnd A.i_InvalidEnd A.j_InvalidEnd
  x_InvalidRules : XcF K mg "InvalidRules" "InvalidRules.__init__" s_InvalidRules_init A.e_InvalidRules A.i_InvalidRules A.j_InvalidRules
  m_AxisTicksError : mg "AxisTicksError" = some (.ref A.e_AxisTicksError)
  x_base : XcB K A.e_AxisTicksError
  kit : ∀ i j : Nat, i < 8 → j < 8 → ∃ C D, A.cl[i]? = some C ∧ A.cl[j]? = some D ∧ PySem.W.kitOne K (.ref C) (.ref D) = some (decide (i = j))
  kitA : ∀ i : Nat, i < 8 → ∃ C, A.cl[i]? = some C ∧ PySem.W.kitOne K (.ref C) (.ref A.e_AxisTicksError) = some true ∧ PySem.W.kitOne K (.ref C) (.type "ValueError") = some true ∧ Xask K C ∧ PySem.W.findIn K (.ref C) "value" = some none

/-! ### helpers -/
abbrev BIG : Int := 2 ^ 8000
theorem size_div {j : Int} (h1 : 1 ≤ j) (h2 : j < BIG) (i : Int) : CDivW i j := wide_div (b := 8000) (by omega) (abs_lt_pow (by omega) h2) (by decide) (by decide)
theorem lt_big {i : Int} {n : Nat} (h : i < 2 ^ n) (hn : n ≤ 8000) : i < BIG := Int.lt_of_lt_of_le h (pow_le' (b := 2) (by decide) hn)
theorem map_get {ms : List Int} {i : Nat} {x : V} (h : (ms.map V.int)[i]? = some x) : ∃ m, ms[i]? = some m ∧ x = .int m := by
  rw [List.getElem?_map] at h
  cases e : ms[i]? with
  | none =>
    rw [e] at h
    cases h
  | some m =>
    rw [e] at h
    exact ⟨m, rfl, (Option.some.inj h).symm⟩
theorem same_new {H : Hp} {D : Addr} {o : HO} (hD : H D = none) : Same H (upd H D o) := fun c o e => by
  rw [upd_ne (ne_of_none e hD)]
  exact e
end Ax

namespace L2
open PySem PySem.Spec PyProof.Rows
/-- a power that is not too great -/
def CPowX (i j : Int) : Prop := 0 ≤ j ∧ (Builtin.Int.intBits i : Int) * j ≤ 2 ^ 27
theorem op_powX {X : Cx} : OpR X (binaryOp .Pow) (rI CPowX fun i j => .int (i ^ j.toNat)) := opI fun _ _ _ _ _ _ _ hc q => pow_int hc.1 hc.2 q
end L2
namespace Ax
open PySem L2
section
variable {P : Program} {w : World} {K : PySem.W.Frag} {mg : Str → Option Value} {base : Heap} {A : Adr}
/-! ### the purse of draws -/
abbrev PM : Int := (10 ^ (40 : Int).toNat) ^ (10 : Int).toNat
/-- a purse that at most t draws have been taken from -/
def Purse (H : Hp) (p : Addr) (t : Nat) : Prop := ∃ a c u : Int, H p = some (.lst [.int a, .int c, .int u]) ∧ 0 ≤ a ∧ a < PM ∧ 0 ≤ c ∧ c < 2 ^ 31 ∧ 0 ≤ u ∧ u ≤ t
/-- all but the purse is kept -/
def Kp (p : Addr) (H H' : Hp) : Prop := ∀ c o, c ≠ p → H c = some o → H' c = some o
theorem Kp.refl (p : Addr) (H : Hp) : Kp p H H := fun _ _ _ e => e
theorem Kp.trans {p : Addr} {H H1 H2 : Hp} (a : Kp p H H1) (b : Kp p H1 H2) : Kp p H H2 := fun c o h e => b c o h (a c o h e)
theorem Same.kp {H H' : Hp} (s : Same H H') (p : Addr) : Kp p H H' := fun c o _ e => s c o e
theorem Purse.same {H H' : Hp} {p : Addr} {t : Nat} (x : Purse H p t) (s : Same H H') : Purse H' p t := by
  obtain ⟨a, c, u, h, r⟩ := x
  exact ⟨a, c, u, s _ _ h, r⟩
theorem Purse.le {H : Hp} {p : Addr} {t t' : Nat} (x : Purse H p t) (h : t ≤ t') : Purse H p t' := by
  obtain ⟨a, c, u, h1, h2, h3, h4, h5, h6, h7⟩ := x
  exact ⟨a, c, u, h1, h2, h3, h4, h5, h6, by omega⟩
theorem Purse.some {H : Hp} {p : Addr} {t : Nat} (x : Purse H p t) : ∃ xs, H p = some (.lst xs) := by
  obtain ⟨a, c, u, h, _⟩ := x
  exact ⟨_, h⟩
theorem Purse.ne {H : Hp} {p l : Addr} {t : Nat} (x : Purse H p t) (h : H l = none) : l ≠ p := by
  obtain ⟨xs, e⟩ := x.some
  exact (ne_of_none e h).symm
/-- what was free before is free, behind an all-but-the-purse step -/
theorem Kp.free {p : Addr} {H H' : Hp} {l : Addr} {t' : Nat} (k : Kp p H H') (y : Purse H' p t') (h : H' l = none) : H l = none := by
  have n := y.ne h
  cases e : H l with
  | none => rfl
  | some o =>
    rw [k l o n e] at h
    cases h
theorem PM_lt : PM < 2 ^ 1400 := by
  show ((10 : Int) ^ 40) ^ 10 < 2 ^ 1400
  decide +kernel
def spPurse (K : PySem.W.Frag) : Sp := fun vs H Q _ => ∃ (s : Addr) (ns : List Int) (i : Nat), vs = [.ref s, .int i] ∧ SqL K H s (ns.map V.int) ∧ ns.length ≤ 63 ∧ ∀ (H' : Hp) (p : Addr), Same H H' → H p = none → Purse H' p 0 → Q (.ref p) H'
abbrev nm_law_purse : List Str := ["_law_script", "_law_at", "_law_cell"]
theorem sc_law_purse : FnScope ["_law_script", "_law_at", "_law_cell"] ["_law_script", "_law_at"] (defScope s_law_purse) := ⟨rfl, rfl, rfl, by decide +kernel, rfl, by decide +kernel, by decide +kernel⟩
theorem ok_purse (T : Txt K mg A w) : FnOk P w K mg base CX0 1 A.a_law_purse A.d_law_purse ["_law_script", "_law_at"] (spPurse K) := by
  refine T.F_law_purse.ok sc_law_purse (fun vs H Q E h => ?_) (fun cdv A0 outer s H vs Q E hr h => ?_)
  · obtain ⟨r, ns, i, rfl, _⟩ := h
    rfl
  · obtain ⟨r, ns, i, rfl, hS, hl, q⟩ := h
    refine ⟨_, (pss_cons (ps_set (i := 2) sc_law_purse.nd rfl (Or.inl rfl) pe_int)
  (pss_cons (ps_if (pt_cmpR op_lt (pv 1) (pe_callB call_len_seq (by rfl) T.n_len (by decide +kernel) (pa_cons (pv 0) pa_nil)) (nomark _)) (pss_one (ps_set (i := 2) sc_law_purse.nd rfl (Or.inl rfl) (pe_ix ix_list (pv 0) (pv 1) (fun _ _ => rfl)))) pss_nil)
  (pss_one (ps_ret (pe_lst (pa_cons (pe_op op_mod (pe_callTy call_int1 (by rfl) T.n_int (by decide +kernel) (pa_cons (pe_callB (call_max2 rfl) (by rfl) T.n_max (by decide +kernel) (pa_cons (pe_op op_sub (pv 2) (pe_op op_pow pe_int pe_int)) (pa_cons pe_int pa_nil))) pa_nil)) (pe_op op_powX (pe_op op_pow pe_int pe_int) pe_int)) (pa_cons (pe_op op_mod (pe_callTy call_int1 (by rfl) T.n_int (by decide +kernel) (pa_cons (pv 2) pa_nil)) pe_int) (pa_cons pe_int pa_nil)))))))), ?_⟩
    have lm : (ns.map V.int).length = ns.length := List.length_map _
    -- behind the cell
    have rest : ∀ c : Int, ∀ p, H p = none → Q (.ref p) (upd H p (.lst [.int ((if 0 > c - 10 ^ (18 : Int).toNat then 0 else c - 10 ^ (18 : Int).toNat) % PM), .int (c % 2147483629), .int 0])) := fun c p hp => by
      refine q _ p (same_new hp) hp ⟨_, _, _, upd_same, Int.emod_nonneg _ ?_, Int.emod_lt_of_pos _ ?_, Int.emod_nonneg _ (by decide), ?_, by decide, by decide⟩
      · show ((10 : Int) ^ 40) ^ 10 ≠ 0
        decide +kernel
      · show 0 < ((10 : Int) ^ 40) ^ 10
        decide +kernel
      · have := Int.emod_lt_of_pos c (show (0 : Int) < 2147483629 by decide)
        have : (2 : Int) ^ 31 = 2147483648 := by decide
        omega
    refine ⟨_, rfl, _, rfl, r, _, rfl, .inl hS, _, _, rfl, rfl, _, rfl, ?_⟩
    refine ite2 (fun hc => ?_) (fun hc => ?_)
    · have hc : (i : Int) < ((ns.map V.int).length : Nat) := of_decide_eq_true hc
      have hi : i < ns.length := by omega
      refine ⟨_, rfl, _, rfl, r, _, _, _, rfl, rfl, hS, atI_nat (by rw [List.getElem?_map, List.getElem?_eq_getElem hi]; rfl), ?_⟩
      refine ⟨_, rfl, _, _, rfl, rfl, ⟨by decide, by decide, by decide⟩, _, _, rfl, rfl, _, _, rfl, .inl ⟨_, rfl, _, _, rfl, rfl, ⟨by decide, by decide, by decide⟩, _, _, rfl, rfl, ⟨by decide, by decide +kernel⟩, _, _, rfl, rfl, ?_, _, rfl, .inl ⟨_, rfl, _, _, rfl, rfl, (by show (0 : Int) < 2147483629; decide), ?_⟩⟩⟩
      · show 0 < ((10 : Int) ^ 40) ^ 10
        decide +kernel
      · exact ⟨(by show 3 ≤ sizeLine; decide), fun p hp => rest _ p hp⟩
    · refine ⟨_, rfl, _, _, rfl, rfl, ⟨by decide, by decide, by decide⟩, _, _, rfl, rfl, _, _, rfl, .inl ⟨_, rfl, _, _, rfl, rfl, ⟨by decide, by decide, by decide⟩, _, _, rfl, rfl, ⟨by decide, by decide +kernel⟩, _, _, rfl, rfl, ?_, _, rfl, .inl ⟨_, rfl, _, _, rfl, rfl, (by show (0 : Int) < 2147483629; decide), ?_⟩⟩⟩
      · show 0 < ((10 : Int) ^ 40) ^ 10
        decide +kernel
      · exact ⟨(by show 3 ≤ sizeLine; decide), fun p hp => rest _ p hp⟩
/-! ### a draw -/
theorem mulS {i j : Int} (h0 : 0 ≤ i) (h1 : i < 18446744073709551616) (h2 : 0 ≤ j) (h3 : j < 18446744073709551616) : CMulW i j :=
  wide_mul (a := 64) (b := 64) (abs_lt_pow h0 h1) (abs_lt_pow h2 h3) (by decide) (by decide) (by decide)
theorem ofNat_le {t : Nat} {u : Int} (h : u ≤ t) (ht : t ≤ 2 ^ 20) : u < 2 ^ 21 := by
  have : (2 : Nat) ^ 20 = 1048576 := by decide
  have : (2 : Int) ^ 21 = 2097152 := by decide
  omega
theorem nab {i : Int} {n : Nat} (h0 : 0 ≤ i) (h : i < 2 ^ n) : i.natAbs < 2 ^ n := abs_lt_pow h0 h
theorem atL {xs : List V} {j : Nat} {v : V} (h : xs[j]? = some v) : atI xs (j : Int) = some v := atI_nat h
def spDraw : Sp := fun vs H Q _ => ∃ (p : Addr) (many : Int) (t : Nat), vs = [.ref p, .int many] ∧ Purse H p t ∧ t ≤ 2 ^ 20 ∧ 0 < many ∧ many < 2 ^ 2000 ∧ ∀ (H' : Hp) (n : Int), Kp p H H' → Purse H' p (t + 1) → 0 ≤ n → n < many → Q (.int n) H'
abbrev nm_law_draw : List Str := ["_law_purse_here", "_law_many", "_law_drawn", "_law_turn", "_law_number"]
theorem sc_law_draw : FnScope ["_law_purse_here", "_law_many", "_law_drawn", "_law_turn", "_law_number"] ["_law_purse_here", "_law_many"] (defScope s_law_draw) := ⟨rfl, rfl, rfl, by decide +kernel, rfl, by decide +kernel, by decide +kernel⟩
theorem ok_draw (T : Txt K mg A w) : FnOk P w K mg base CX0 1 A.a_law_draw A.d_law_draw ["_law_purse_here", "_law_many"] spDraw := by
  refine T.F_law_draw.ok sc_law_draw (fun vs H Q E h => ?_) (fun cdv A0 outer s H vs Q E hr h => ?_)
  · obtain ⟨p, many, t, rfl, _⟩ := h
    rfl
  · obtain ⟨p, many, t, rfl, ⟨a, c, u, hp, a0, aB, c0, cB, u0, uB⟩, ht, m0, mB, q⟩ := h
    refine ⟨_, (pss_cons (ps_if (pt_cmpR op_gt (pe_ix ix_list (pv 0) pe_int (fun _ _ => rfl)) pe_int (nomark _)) (pss_cons (ps_set (i := 2) sc_law_draw.nd rfl (Or.inl rfl) (pe_op op_mod (pe_callTy call_int1 (by rfl) T.n_int (by decide +kernel) (pa_cons (pe_ix ix_list (pv 0) pe_int (fun _ _ => rfl)) pa_nil)) (pv 1)))
  (pss_cons (ps_asg (pe_op op_fdivW (pe_ix ix_list (pv 0) pe_int (fun _ _ => rfl)) (pv 1)) (pg_sub (pv 0) pe_int set_list))
  (pss_one (ps_ret (pv 2))))) pss_nil)
  (pss_cons (ps_set (i := 3) sc_law_draw.nd rfl (Or.inl rfl) (pe_op op_add (pe_ix ix_list (pv 0) pe_int (fun _ _ => rfl)) pe_int))
  (pss_cons (ps_asg (pv 3) (pg_sub (pv 0) pe_int set_list))
  (pss_cons (ps_set (i := 4) sc_law_draw.nd rfl (Or.inl rfl) (pe_op op_mod (pe_callTy call_int1 (by rfl) T.n_int (by decide +kernel) (pa_cons (pe_op op_mulW (pe_op op_add (pe_ix ix_list (pv 0) pe_int (fun _ _ => rfl)) (pe_op op_mulW pe_int (pv 3))) (pe_op op_add (pe_op op_mulW (pv 3) (pv 3)) pe_int)) pa_nil)) pe_int))
  (pss_cons (ps_set (i := 4) sc_law_draw.nd rfl (Or.inl rfl) (pe_op op_mod (pe_callTy call_int1 (by rfl) T.n_int (by decide +kernel) (pa_cons (pe_op op_add (pe_op op_mulW (pv 4) (pv 4)) (pv 3)) pa_nil)) pe_int))
  (pss_one (ps_ret (pe_op op_mod (pe_op op_fdivW (pe_op op_mod (pe_callTy call_int1 (by rfl) T.n_int (by decide +kernel) (pa_cons (pe_op op_mulW (pv 4) pe_int) pa_nil)) pe_int) pe_int) (pv 1))))))))), ?_⟩
    refine ⟨_, rfl, p, _, _, _, rfl, rfl, SqL.of hp, atL (j := 0) rfl, _, _, rfl, rfl, _, rfl, ?_⟩
    have kp : ∀ xs, Kp p H (upd H p (.lst xs)) := fun xs b o n e => by
      rw [upd_ne n]
      exact e
    refine ite2 (fun hc => ?_) (fun hc => ?_)
    · have hc : 0 < a := of_decide_eq_true hc
      refine ⟨_, rfl, p, _, _, _, rfl, rfl, SqL.of hp, atL (j := 0) rfl, .inl ⟨_, rfl, _, rfl, _, _, rfl, rfl, m0, ?_⟩⟩
      refine ⟨_, rfl, p, _, _, _, rfl, rfl, SqL.of hp, atL (j := 0) rfl, _, rfl, _, _, rfl, rfl, size_div (by omega) (lt_big mB (by decide)) _, ?_⟩
      refine ⟨_, rfl, p, _, _, 0, rfl, rfl, hp, rfl, ?_⟩
      refine ⟨_, rfl, q _ _ (kp _) ⟨_, _, _, upd_same, Int.ediv_nonneg a0 (by omega), Int.lt_of_le_of_lt (Int.ediv_le_self _ a0) aB, c0, cB, u0, by omega⟩ (Int.emod_nonneg _ (by omega)) (Int.emod_lt_of_pos _ m0)⟩
    · refine ⟨_, rfl, p, _, _, _, rfl, rfl, SqL.of hp, atL (j := 2) rfl, _, _, rfl, rfl, ?_⟩
      have u1 := ofNat_le uB ht
      have e21 : (2 : Int) ^ 21 = 2097152 := by decide
      have e31 : (2 : Int) ^ 31 = 2147483648 := by decide
      refine ⟨_, rfl, _, rfl, p, _, _, 2, rfl, rfl, hp, rfl, ?_⟩
      have v1 : (u + 1) * (u + 1) ≤ 2097152 * 2097152 := Int.mul_le_mul (by omega) (by omega) (by omega) (by decide)
      have v0 : 0 ≤ (u + 1) * (u + 1) := Int.mul_nonneg (by omega) (by omega)
      refine ⟨_, rfl, p, _, _, _, rfl, rfl, SqL.of upd_same, atL (j := 1) rfl, _, rfl, _, _, rfl, rfl, mulS (by decide) (by decide) (by omega) (by omega), _, _, rfl, rfl, ?_⟩
      refine ⟨_, rfl, _, rfl, _, _, rfl, rfl, mulS (by omega) (by omega) (by omega) (by omega), _, _, rfl, rfl, _, _, rfl, rfl, mulS (by omega) (by omega) (by omega) (by omega), .inl ⟨_, rfl, _, _, rfl, rfl, (by show (0 : Int) < 2147483629; decide), ?_⟩⟩
      have g10 : 0 ≤ (((c + 104729 * (u + 1)) * ((u + 1) * (u + 1) + 7919)) % 2147483629) := Int.emod_nonneg _ (by decide)
      have g11 : (((c + 104729 * (u + 1)) * ((u + 1) * (u + 1) + 7919)) % 2147483629) < 2147483629 := Int.emod_lt_of_pos _ (by decide)
      refine ⟨_, rfl, _, rfl, _, _, rfl, rfl, mulS g10 (Int.lt_trans g11 (by decide)) g10 (Int.lt_trans g11 (by decide)), _, rfl, _, _, rfl, rfl, .inl ⟨_, rfl, _, _, rfl, rfl, (by show (0 : Int) < 2147483587; decide), ?_⟩⟩
      have g20 : 0 ≤ (((((c + 104729 * (u + 1)) * ((u + 1) * (u + 1) + 7919)) % 2147483629) * (((c + 104729 * (u + 1)) * ((u + 1) * (u + 1) + 7919)) % 2147483629) + (u + 1)) % 2147483587) := Int.emod_nonneg _ (by decide)
      have g21 : (((((c + 104729 * (u + 1)) * ((u + 1) * (u + 1) + 7919)) % 2147483629) * (((c + 104729 * (u + 1)) * ((u + 1) * (u + 1) + 7919)) % 2147483629) + (u + 1)) % 2147483587) < 2147483587 := Int.emod_lt_of_pos _ (by decide)
      refine ⟨_, rfl, _, _, rfl, rfl, mulS g20 (Int.lt_trans g21 (by decide)) (by decide) (by decide), .inl ⟨_, rfl, _, _, rfl, rfl, (by show (0 : Int) < 2147483647; decide), _, _, rfl, rfl, ⟨by decide, by decide⟩, _, rfl, _, _, rfl, rfl, m0, ?_⟩⟩
      exact q _ _ (kp _) ⟨a, c, u + 1, upd_same, a0, aB, c0, cB, by omega, by omega⟩ (Int.emod_nonneg _ (by omega)) (Int.emod_lt_of_pos _ m0)
end
end Ax

namespace Ax
open PySem L2
section
variable {P : Program} {w : World} {K : PySem.W.Frag} {mg : Str → Option Value} {base : Heap} {A : Adr}
theorem two20 {t : Nat} {n : Nat} (h : t ≤ 2 ^ 20) (hn : n < 2 ^ 1000) : (n : Int) < 2 ^ 2000 := by
  have h1 : ((n : Nat) : Int) < ((2 ^ 1000 : Nat) : Int) := Int.ofNat_lt.mpr hn
  rw [Int.natCast_pow] at h1
  exact Int.lt_trans h1 (pow_lt' (b := 2) (by decide) (by decide))
theorem small2000 {n : Int} (h : n < 18446744073709551616) : n < 2 ^ 2000 := Int.lt_of_lt_of_le (show n < 2 ^ 64 from h) (pow_le' (b := 2) (by decide) (by decide))
/-! ### _law_pick -/
def spPick : Sp := fun vs H Q _ => ∃ (p l : Addr) (xs : List V) (t : Nat), vs = [.ref p, .ref l] ∧ Purse H p t ∧ t ≤ 2 ^ 20 ∧ H l = some (.lst xs) ∧ l ≠ p ∧ 0 < xs.length ∧ xs.length ≤ 1000 ∧ ∀ (H' : Hp) (i : Nat) (x : V), Kp p H H' → Purse H' p (t + 1) → xs[i]? = some x → Q x H'
abbrev nm_law_pick : List Str := ["_law_purse_here", "_law_items"]
theorem sc_law_pick : FnScope ["_law_purse_here", "_law_items"] ["_law_purse_here", "_law_items"] (defScope s_law_pick) := ⟨rfl, rfl, rfl, by decide +kernel, rfl, by decide +kernel, by decide +kernel⟩
theorem ok_pick (T : Txt K mg A w) : FnOk P w K mg base CX0 2 A.a_law_pick A.d_law_pick ["_law_purse_here", "_law_items"] spPick := by
  have G_law_draw : FnOk P w K mg base CX0 1 A.a_law_draw A.d_law_draw ["_law_purse_here", "_law_many"] spDraw := ok_draw T
  refine T.F_law_pick.ok sc_law_pick (fun vs H Q E h => ?_) (fun cdv A0 outer s H vs Q E hr h => ?_)
  · obtain ⟨p, l, xs, t, rfl, _⟩ := h
    rfl
  · obtain ⟨p, l, xs, t, rfl, hP, ht, hl, nlp, h0, h1, q⟩ := h
    refine ⟨_, (pss_one (ps_ret (pe_ix ix_list (pv 1) (pe_call G_law_draw (hr.mono (by decide)) (by rfl) T.m_law_draw T.F_law_draw.kp T.B_law_draw .nil pass0 (pa_cons (pv 0) (pa_cons (pe_callB call_len_seq (by rfl) T.n_len (by decide +kernel) (pa_cons (pv 1) pa_nil)) pa_nil))) (fun _ _ => rfl)))), ?_⟩
    refine ⟨_, rfl, _, rfl, _, rfl, l, _, rfl, .inl (SqL.of hl), p, _, t, rfl, hP, ht, by omega, small2000 (by omega), fun H' n k P' n0 n1 => ?_⟩
    have hn : n.toNat < xs.length := by omega
    refine ⟨l, _, n, xs[n.toNat], rfl, rfl, SqL.of (k _ _ nlp hl), at_of (j := n.toNat) (by omega) (List.getElem?_eq_getElem hn), q H' n.toNat _ k P' (List.getElem?_eq_getElem hn)⟩
/-- what a pick out of a written list of whole numbers gives -/
theorem pick_int {ms : List Int} {i : Nat} {x : V} {P : Int → Prop} (h : (ms.map V.int)[i]? = some x) (hp : ∀ m ∈ ms, P m) : ∃ m, x = .int m ∧ P m := by
  obtain ⟨m, hm, rfl⟩ := map_get h
  exact ⟨m, rfl, hp m (List.mem_of_getElem? hm)⟩
theorem kpNew {p l : Addr} {H : Hp} {o : HO} (h : H l = none) : Kp p H (upd H l o) := fun c u _ e => by
  rw [upd_ne (ne_of_none e h)]
  exact e
end
end Ax

namespace Ax
open PySem L2
/-- self.value = value -/
def spXi (K : PySem.W.Frag) (C : Addr) : Sp := fun vs H Q _ => ∃ (a : Addr) (v : V), vs = [.ref a, v] ∧ H a = some (exo a C none) ∧ OexC K C ∧ PySem.W.findIn K (.ref C) "value" = some none ∧
  ∀ d, H d = none → d ≠ a → Q .non (upd (upd H d (exd d [("value", v)])) a (exo a C (some d)))
theorem mkv {K : PySem.W.Frag} {C : Addr} {H : Hp} {v : V} {Q : VK} (T : OexC K C) (no : PySem.W.findIn K (.ref C) "value" = some none) (h : ∀ (H' : Hp) (a : Addr), Same H H' → H a = none → Xat H' a C [("value", v)] → Q (.ref a) H') :
    ∀ a, H a = none → spXi K C [.ref a, v] (upd H a (exo a C none)) (fun u H3 => u = .non ∧ Q (.ref a) H3) (fun _ _ _ => False) := fun a ha => by
  refine ⟨a, v, rfl, upd_same, T, no, fun d hd nd => ⟨rfl, ?_⟩⟩
  have hd0 : H d = none := by rwa [upd_ne nd] at hd
  refine h _ a (fun c o e => ?_) ha ⟨d, upd_same, by rw [upd_ne nd, upd_same]⟩
  have ca : c ≠ a := ne_of_none e ha
  have cd : c ≠ d := ne_of_none e hd0
  rw [upd_ne ca, upd_ne cd, upd_ne ca]
  exact e
section
variable {P : Program} {w : World} {K : PySem.W.Frag} {mg : Str → Option Value} {base : Heap} {A : Adr}
abbrev nm_InvalidRule_init : List Str := ["self", "value"]
theorem sc_InvalidRule_init : FnScope ["self", "value"] ["self", "value"] (defScope s_InvalidRule_init) := ⟨rfl, rfl, rfl, by decide +kernel, rfl, by decide +kernel, by decide +kernel⟩
theorem ok_InvalidRule (T : Txt K mg A w) : FnOk P w K mg base CX0 1 A.i_InvalidRule A.j_InvalidRule ["self", "value"] (spXi K A.e_InvalidRule) := by
  refine T.x_InvalidRule.F.ok sc_InvalidRule_init (fun vs H Q E h => ?_) (fun cdv A0 outer s H vs Q E hr h => ?_)
  · obtain ⟨a, v, rfl, _⟩ := h
    rfl
  · obtain ⟨a, v, rfl, ha, T1, no, q⟩ := h
    refine ⟨_, (pss_one (ps_ost (pv 0) (pv 1))), ?_⟩
    exact ⟨_, rfl, _, rfl, a, A.e_InvalidRule, rfl, T1, no, .inl ⟨ha, fun d hd nd => q d hd nd⟩⟩
theorem mk_InvalidRule (T : Txt K mg A w) {X : Cx} (hP : X.prog = P) (hw : X.w = w) (hK : X.K = K) (hm : X.mg = mg) (hb : X.base = base) (hx : Passes CX0 X (fun _ _ _ => False)) : Xmk X CX0 A.e_InvalidRule A.i_InvalidRule 1 A.j_InvalidRule ["self", "value"] (spXi K A.e_InvalidRule) := by
  subst hP hw hK hm hb
  exact ⟨T.x_InvalidRule.oex, T.x_InvalidRule.ini, T.x_InvalidRule.fty, ok_InvalidRule T, hx⟩
theorem b2_InvalidRule (T : Txt K mg A w) : Binds K A.j_InvalidRule ["self", "value"] [] := by
  obtain ⟨ds, hd, hb⟩ := T.x_InvalidRule.F.binds1 (ps := ["self", "value"]) 2 1 (by simp) rfl (fun _ _ _ _ _ _ _ us its hu hi => match us, its, hu, hi with | [_, _], [_], _, _ => ⟨_, rfl, rfl⟩)
  cases hd
  exact hb
theorem b1_InvalidRule (T : Txt K mg A w) : ∃ ds, Vals [V.non] ds ∧ Binds K A.j_InvalidRule ["self", "value"] ds :=
  T.x_InvalidRule.F.binds1 (ps := ["self", "value"]) 1 0 (by simp) rfl (fun _ _ _ _ _ _ _ us its hu hi => match us, its, hu, hi with | [_], [_], _, _ => ⟨_, rfl, rfl⟩)
theorem bk_InvalidRule (T : Txt K mg A w) : ∃ g, KBn K A.j_InvalidRule ["self", "value"] 1 ["value"] g (fun vs zs => vs ++ zs) := by
  obtain ⟨its, h⟩ := T.x_InvalidRule.F.kbindsD (ps := ["self", "value"]) 1 ["value"] (fun us _ ws => us ++ ws) (by simp) (fun r1 _ r3 => r1.append r3) (fun _ _ _ _ _ _ _ us its ws hu hi hw => match us, its, ws, hu, hi, hw with | [_], [_], [_], _, _, _ => ⟨_, rfl, rfl⟩)
  exact ⟨_, h⟩
abbrev nm_InvalidRange_init : List Str := ["self", "value"]
theorem sc_InvalidRange_init : FnScope ["self", "value"] ["self", "value"] (defScope s_InvalidRange_init) := ⟨rfl, rfl, rfl, by decide +kernel, rfl, by decide +kernel, by decide +kernel⟩
theorem ok_InvalidRange (T : Txt K mg A w) : FnOk P w K mg base CX0 1 A.i_InvalidRange A.j_InvalidRange ["self", "value"] (spXi K A.e_InvalidRange) := by
  refine T.x_InvalidRange.F.ok sc_InvalidRange_init (fun vs H Q E h => ?_) (fun cdv A0 outer s H vs Q E hr h => ?_)
  · obtain ⟨a, v, rfl, _⟩ := h
    rfl
  · obtain ⟨a, v, rfl, ha, T1, no, q⟩ := h
    refine ⟨_, (pss_one (ps_ost (pv 0) (pv 1))), ?_⟩
    exact ⟨_, rfl, _, rfl, a, A.e_InvalidRange, rfl, T1, no, .inl ⟨ha, fun d hd nd => q d hd nd⟩⟩
theorem mk_InvalidRange (T : Txt K mg A w) {X : Cx} (hP : X.prog = P) (hw : X.w = w) (hK : X.K = K) (hm : X.mg = mg) (hb : X.base = base) (hx : Passes CX0 X (fun _ _ _ => False)) : Xmk X CX0 A.e_InvalidRange A.i_InvalidRange 1 A.j_InvalidRange ["self", "value"] (spXi K A.e_InvalidRange) := by
  subst hP hw hK hm hb
  exact ⟨T.x_InvalidRange.oex, T.x_InvalidRange.ini, T.x_InvalidRange.fty, ok_InvalidRange T, hx⟩
theorem b2_InvalidRange (T : Txt K mg A w) : Binds K A.j_InvalidRange ["self", "value"] [] := by
  obtain ⟨ds, hd, hb⟩ := T.x_InvalidRange.F.binds1 (ps := ["self", "value"]) 2 1 (by simp) rfl (fun _ _ _ _ _ _ _ us its hu hi => match us, its, hu, hi with | [_, _], [_], _, _ => ⟨_, rfl, rfl⟩)
  cases hd
  exact hb
theorem b1_InvalidRange (T : Txt K mg A w) : ∃ ds, Vals [V.non] ds ∧ Binds K A.j_InvalidRange ["self", "value"] ds :=
  T.x_InvalidRange.F.binds1 (ps := ["self", "value"]) 1 0 (by simp) rfl (fun _ _ _ _ _ _ _ us its hu hi => match us, its, hu, hi with | [_], [_], _, _ => ⟨_, rfl, rfl⟩)
theorem bk_InvalidRange (T : Txt K mg A w) : ∃ g, KBn K A.j_InvalidRange ["self", "value"] 1 ["value"] g (fun vs zs => vs ++ zs) := by
  obtain ⟨its, h⟩ := T.x_InvalidRange.F.kbindsD (ps := ["self", "value"]) 1 ["value"] (fun us _ ws => us ++ ws) (by simp) (fun r1 _ r3 => r1.append r3) (fun _ _ _ _ _ _ _ us its ws hu hi hw => match us, its, ws, hu, hi, hw with | [_], [_], [_], _, _, _ => ⟨_, rfl, rfl⟩)
  exact ⟨_, h⟩
abbrev nm_InvalidSet_init : List Str := ["self", "value"]
theorem sc_InvalidSet_init : FnScope ["self", "value"] ["self", "value"] (defScope s_InvalidSet_init) := ⟨rfl, rfl, rfl, by decide +kernel, rfl, by decide +kernel, by decide +kernel⟩
theorem ok_InvalidSet (T : Txt K mg A w) : FnOk P w K mg base CX0 1 A.i_InvalidSet A.j_InvalidSet ["self", "value"] (spXi K A.e_InvalidSet) := by
  refine T.x_InvalidSet.F.ok sc_InvalidSet_init (fun vs H Q E h => ?_) (fun cdv A0 outer s H vs Q E hr h => ?_)
  · obtain ⟨a, v, rfl, _⟩ := h
    rfl
  · obtain ⟨a, v, rfl, ha, T1, no, q⟩ := h
    refine ⟨_, (pss_one (ps_ost (pv 0) (pv 1))), ?_⟩
    exact ⟨_, rfl, _, rfl, a, A.e_InvalidSet, rfl, T1, no, .inl ⟨ha, fun d hd nd => q d hd nd⟩⟩
theorem mk_InvalidSet (T : Txt K mg A w) {X : Cx} (hP : X.prog = P) (hw : X.w = w) (hK : X.K = K) (hm : X.mg = mg) (hb : X.base = base) (hx : Passes CX0 X (fun _ _ _ => False)) : Xmk X CX0 A.e_InvalidSet A.i_InvalidSet 1 A.j_InvalidSet ["self", "value"] (spXi K A.e_InvalidSet) := by
  subst hP hw hK hm hb
  exact ⟨T.x_InvalidSet.oex, T.x_InvalidSet.ini, T.x_InvalidSet.fty, ok_InvalidSet T, hx⟩
theorem b2_InvalidSet (T : Txt K mg A w) : Binds K A.j_InvalidSet ["self", "value"] [] := by
  obtain ⟨ds, hd, hb⟩ := T.x_InvalidSet.F.binds1 (ps := ["self", "value"]) 2 1 (by simp) rfl (fun _ _ _ _ _ _ _ us its hu hi => match us, its, hu, hi with | [_, _], [_], _, _ => ⟨_, rfl, rfl⟩)
  cases hd
  exact hb
theorem b1_InvalidSet (T : Txt K mg A w) : ∃ ds, Vals [V.non] ds ∧ Binds K A.j_InvalidSet ["self", "value"] ds :=
  T.x_InvalidSet.F.binds1 (ps := ["self", "value"]) 1 0 (by simp) rfl (fun _ _ _ _ _ _ _ us its hu hi => match us, its, hu, hi with | [_], [_], _, _ => ⟨_, rfl, rfl⟩)
theorem bk_InvalidSet (T : Txt K mg A w) : ∃ g, KBn K A.j_InvalidSet ["self", "value"] 1 ["value"] g (fun vs zs => vs ++ zs) := by
  obtain ⟨its, h⟩ := T.x_InvalidSet.F.kbindsD (ps := ["self", "value"]) 1 ["value"] (fun us _ ws => us ++ ws) (by simp) (fun r1 _ r3 => r1.append r3) (fun _ _ _ _ _ _ _ us its ws hu hi hw => match us, its, ws, hu, hi, hw with | [_], [_], [_], _, _, _ => ⟨_, rfl, rfl⟩)
  exact ⟨_, h⟩
abbrev nm_InvalidBase_init : List Str := ["self", "value"]
theorem sc_InvalidBase_init : FnScope ["self", "value"] ["self", "value"] (defScope s_InvalidBase_init) := ⟨rfl, rfl, rfl, by decide +kernel, rfl, by decide +kernel, by decide +kernel⟩
theorem ok_InvalidBase (T : Txt K mg A w) : FnOk P w K mg base CX0 1 A.i_InvalidBase A.j_InvalidBase ["self", "value"] (spXi K A.e_InvalidBase) := by
  refine T.x_InvalidBase.F.ok sc_InvalidBase_init (fun vs H Q E h => ?_) (fun cdv A0 outer s H vs Q E hr h => ?_)
  · obtain ⟨a, v, rfl, _⟩ := h
    rfl
  · obtain ⟨a, v, rfl, ha, T1, no, q⟩ := h
    refine ⟨_, (pss_one (ps_ost (pv 0) (pv 1))), ?_⟩
    exact ⟨_, rfl, _, rfl, a, A.e_InvalidBase, rfl, T1, no, .inl ⟨ha, fun d hd nd => q d hd nd⟩⟩
theorem mk_InvalidBase (T : Txt K mg A w) {X : Cx} (hP : X.prog = P) (hw : X.w = w) (hK : X.K = K) (hm : X.mg = mg) (hb : X.base = base) (hx : Passes CX0 X (fun _ _ _ => False)) : Xmk X CX0 A.e_InvalidBase A.i_InvalidBase 1 A.j_InvalidBase ["self", "value"] (spXi K A.e_InvalidBase) := by
  subst hP hw hK hm hb
  exact ⟨T.x_InvalidBase.oex, T.x_InvalidBase.ini, T.x_InvalidBase.fty, ok_InvalidBase T, hx⟩
theorem b2_InvalidBase (T : Txt K mg A w) : Binds K A.j_InvalidBase ["self", "value"] [] := by
  obtain ⟨ds, hd, hb⟩ := T.x_InvalidBase.F.binds1 (ps := ["self", "value"]) 2 1 (by simp) rfl (fun _ _ _ _ _ _ _ us its hu hi => match us, its, hu, hi with | [_, _], [_], _, _ => ⟨_, rfl, rfl⟩)
  cases hd
  exact hb
theorem b1_InvalidBase (T : Txt K mg A w) : ∃ ds, Vals [V.non] ds ∧ Binds K A.j_InvalidBase ["self", "value"] ds :=
  T.x_InvalidBase.F.binds1 (ps := ["self", "value"]) 1 0 (by simp) rfl (fun _ _ _ _ _ _ _ us its hu hi => match us, its, hu, hi with | [_], [_], _, _ => ⟨_, rfl, rfl⟩)
theorem bk_InvalidBase (T : Txt K mg A w) : ∃ g, KBn K A.j_InvalidBase ["self", "value"] 1 ["value"] g (fun vs zs => vs ++ zs) := by
  obtain ⟨its, h⟩ := T.x_InvalidBase.F.kbindsD (ps := ["self", "value"]) 1 ["value"] (fun us _ ws => us ++ ws) (by simp) (fun r1 _ r3 => r1.append r3) (fun _ _ _ _ _ _ _ us its ws hu hi hw => match us, its, ws, hu, hi, hw with | [_], [_], [_], _, _, _ => ⟨_, rfl, rfl⟩)
  exact ⟨_, h⟩
abbrev nm_InvalidNumber_init : List Str := ["self", "value"]
theorem sc_InvalidNumber_init : FnScope ["self", "value"] ["self", "value"] (defScope s_InvalidNumber_init) := ⟨rfl, rfl, rfl, by decide +kernel, rfl, by decide +kernel, by decide +kernel⟩
theorem ok_InvalidNumber (T : Txt K mg A w) : FnOk P w K mg base CX0 1 A.i_InvalidNumber A.j_InvalidNumber ["self", "value"] (spXi K A.e_InvalidNumber) := by
  refine T.x_InvalidNumber.F.ok sc_InvalidNumber_init (fun vs H Q E h => ?_) (fun cdv A0 outer s H vs Q E hr h => ?_)
  · obtain ⟨a, v, rfl, _⟩ := h
    rfl
  · obtain ⟨a, v, rfl, ha, T1, no, q⟩ := h
    refine ⟨_, (pss_one (ps_ost (pv 0) (pv 1))), ?_⟩
    exact ⟨_, rfl, _, rfl, a, A.e_InvalidNumber, rfl, T1, no, .inl ⟨ha, fun d hd nd => q d hd nd⟩⟩
theorem mk_InvalidNumber (T : Txt K mg A w) {X : Cx} (hP : X.prog = P) (hw : X.w = w) (hK : X.K = K) (hm : X.mg = mg) (hb : X.base = base) (hx : Passes CX0 X (fun _ _ _ => False)) : Xmk X CX0 A.e_InvalidNumber A.i_InvalidNumber 1 A.j_InvalidNumber ["self", "value"] (spXi K A.e_InvalidNumber) := by
  subst hP hw hK hm hb
  exact ⟨T.x_InvalidNumber.oex, T.x_InvalidNumber.ini, T.x_InvalidNumber.fty, ok_InvalidNumber T, hx⟩
theorem b2_InvalidNumber (T : Txt K mg A w) : Binds K A.j_InvalidNumber ["self", "value"] [] := by
  obtain ⟨ds, hd, hb⟩ := T.x_InvalidNumber.F.binds1 (ps := ["self", "value"]) 2 1 (by simp) rfl (fun _ _ _ _ _ _ _ us its hu hi => match us, its, hu, hi with | [_, _], [_], _, _ => ⟨_, rfl, rfl⟩)
  cases hd
  exact hb
theorem b1_InvalidNumber (T : Txt K mg A w) : ∃ ds, Vals [V.non] ds ∧ Binds K A.j_InvalidNumber ["self", "value"] ds :=
  T.x_InvalidNumber.F.binds1 (ps := ["self", "value"]) 1 0 (by simp) rfl (fun _ _ _ _ _ _ _ us its hu hi => match us, its, hu, hi with | [_], [_], _, _ => ⟨_, rfl, rfl⟩)
theorem bk_InvalidNumber (T : Txt K mg A w) : ∃ g, KBn K A.j_InvalidNumber ["self", "value"] 1 ["value"] g (fun vs zs => vs ++ zs) := by
  obtain ⟨its, h⟩ := T.x_InvalidNumber.F.kbindsD (ps := ["self", "value"]) 1 ["value"] (fun us _ ws => us ++ ws) (by simp) (fun r1 _ r3 => r1.append r3) (fun _ _ _ _ _ _ _ us its ws hu hi hw => match us, its, ws, hu, hi, hw with | [_], [_], [_], _, _, _ => ⟨_, rfl, rfl⟩)
  exact ⟨_, h⟩
abbrev nm_InvalidFactor_init : List Str := ["self", "value"]
theorem sc_InvalidFactor_init : FnScope ["self", "value"] ["self", "value"] (defScope s_InvalidFactor_init) := ⟨rfl, rfl, rfl, by decide +kernel, rfl, by decide +kernel, by decide +kernel⟩
theorem ok_InvalidFactor (T : Txt K mg A w) : FnOk P w K mg base CX0 1 A.i_InvalidFactor A.j_InvalidFactor ["self", "value"] (spXi K A.e_InvalidFactor) := by
  refine T.x_InvalidFactor.F.ok sc_InvalidFactor_init (fun vs H Q E h => ?_) (fun cdv A0 outer s H vs Q E hr h => ?_)
  · obtain ⟨a, v, rfl, _⟩ := h
    rfl
  · obtain ⟨a, v, rfl, ha, T1, no, q⟩ := h
    refine ⟨_, (pss_one (ps_ost (pv 0) (pv 1))), ?_⟩
    exact ⟨_, rfl, _, rfl, a, A.e_InvalidFactor, rfl, T1, no, .inl ⟨ha, fun d hd nd => q d hd nd⟩⟩
theorem mk_InvalidFactor (T : Txt K mg A w) {X : Cx} (hP : X.prog = P) (hw : X.w = w) (hK : X.K = K) (hm : X.mg = mg) (hb : X.base = base) (hx : Passes CX0 X (fun _ _ _ => False)) : Xmk X CX0 A.e_InvalidFactor A.i_InvalidFactor 1 A.j_InvalidFactor ["self", "value"] (spXi K A.e_InvalidFactor) := by
  subst hP hw hK hm hb
  exact ⟨T.x_InvalidFactor.oex, T.x_InvalidFactor.ini, T.x_InvalidFactor.fty, ok_InvalidFactor T, hx⟩
theorem b2_InvalidFactor (T : Txt K mg A w) : Binds K A.j_InvalidFactor ["self", "value"] [] := by
  obtain ⟨ds, hd, hb⟩ := T.x_InvalidFactor.F.binds1 (ps := ["self", "value"]) 2 1 (by simp) rfl (fun _ _ _ _ _ _ _ us its hu hi => match us, its, hu, hi with | [_, _], [_], _, _ => ⟨_, rfl, rfl⟩)
  cases hd
  exact hb
theorem b1_InvalidFactor (T : Txt K mg A w) : ∃ ds, Vals [V.non] ds ∧ Binds K A.j_InvalidFactor ["self", "value"] ds :=
  T.x_InvalidFactor.F.binds1 (ps := ["self", "value"]) 1 0 (by simp) rfl (fun _ _ _ _ _ _ _ us its hu hi => match us, its, hu, hi with | [_], [_], _, _ => ⟨_, rfl, rfl⟩)
theorem bk_InvalidFactor (T : Txt K mg A w) : ∃ g, KBn K A.j_InvalidFactor ["self", "value"] 1 ["value"] g (fun vs zs => vs ++ zs) := by
  obtain ⟨its, h⟩ := T.x_InvalidFactor.F.kbindsD (ps := ["self", "value"]) 1 ["value"] (fun us _ ws => us ++ ws) (by simp) (fun r1 _ r3 => r1.append r3) (fun _ _ _ _ _ _ _ us its ws hu hi hw => match us, its, ws, hu, hi, hw with | [_], [_], [_], _, _, _ => ⟨_, rfl, rfl⟩)
  exact ⟨_, h⟩
abbrev nm_InvalidEnd_init : List Str := ["self", "value"]
theorem sc_InvalidEnd_init : FnScope ["self", "value"] ["self", "value"] (defScope s_InvalidEnd_init) := ⟨rfl, rfl, rfl, by decide +kernel, rfl, by decide +kernel, by decide +kernel⟩
theorem ok_InvalidEnd (T : Txt K mg A w) : FnOk P w K mg base CX0 1 A.i_InvalidEnd A.j_InvalidEnd ["self", "value"] (spXi K A.e_InvalidEnd) := by
  refine T.x_InvalidEnd.F.ok sc_InvalidEnd_init (fun vs H Q E h => ?_) (fun cdv A0 outer s H vs Q E hr h => ?_)
  · obtain ⟨a, v, rfl, _⟩ := h
    rfl
  · obtain ⟨a, v, rfl, ha, T1, no, q⟩ := h
    refine ⟨_, (pss_one (ps_ost (pv 0) (pv 1))), ?_⟩
    exact ⟨_, rfl, _, rfl, a, A.e_InvalidEnd, rfl, T1, no, .inl ⟨ha, fun d hd nd => q d hd nd⟩⟩
theorem mk_InvalidEnd (T : Txt K mg A w) {X : Cx} (hP : X.prog = P) (hw : X.w = w) (hK : X.K = K) (hm : X.mg = mg) (hb : X.base = base) (hx : Passes CX0 X (fun _ _ _ => False)) : Xmk X CX0 A.e_InvalidEnd A.i_InvalidEnd 1 A.j_InvalidEnd ["self", "value"] (spXi K A.e_InvalidEnd) := by
  subst hP hw hK hm hb
  exact ⟨T.x_InvalidEnd.oex, T.x_InvalidEnd.ini, T.x_InvalidEnd.fty, ok_InvalidEnd T, hx⟩
theorem b2_InvalidEnd (T : Txt K mg A w) : Binds K A.j_InvalidEnd ["self", "value"] [] := by
  obtain ⟨ds, hd, hb⟩ := T.x_InvalidEnd.F.binds1 (ps := ["self", "value"]) 2 1 (by simp) rfl (fun _ _ _ _ _ _ _ us its hu hi => match us, its, hu, hi with | [_, _], [_], _, _ => ⟨_, rfl, rfl⟩)
  cases hd
  exact hb
theorem b1_InvalidEnd (T : Txt K mg A w) : ∃ ds, Vals [V.non] ds ∧ Binds K A.j_InvalidEnd ["self", "value"] ds :=
  T.x_InvalidEnd.F.binds1 (ps := ["self", "value"]) 1 0 (by simp) rfl (fun _ _ _ _ _ _ _ us its hu hi => match us, its, hu, hi with | [_], [_], _, _ => ⟨_, rfl, rfl⟩)
theorem bk_InvalidEnd (T : Txt K mg A w) : ∃ g, KBn K A.j_InvalidEnd ["self", "value"] 1 ["value"] g (fun vs zs => vs ++ zs) := by
  obtain ⟨its, h⟩ := T.x_InvalidEnd.F.kbindsD (ps := ["self", "value"]) 1 ["value"] (fun us _ ws => us ++ ws) (by simp) (fun r1 _ r3 => r1.append r3) (fun _ _ _ _ _ _ _ us its ws hu hi hw => match us, its, ws, hu, hi, hw with | [_], [_], [_], _, _, _ => ⟨_, rfl, rfl⟩)
  exact ⟨_, h⟩
abbrev nm_InvalidRules_init : List Str := ["self", "value"]
theorem sc_InvalidRules_init : FnScope ["self", "value"] ["self", "value"] (defScope s_InvalidRules_init) := ⟨rfl, rfl, rfl, by decide +kernel, rfl, by decide +kernel, by decide +kernel⟩
theorem ok_InvalidRules (T : Txt K mg A w) : FnOk P w K mg base CX0 1 A.i_InvalidRules A.j_InvalidRules ["self", "value"] (spXi K A.e_InvalidRules) := by
  refine T.x_InvalidRules.F.ok sc_InvalidRules_init (fun vs H Q E h => ?_) (fun cdv A0 outer s H vs Q E hr h => ?_)
  · obtain ⟨a, v, rfl, _⟩ := h
    rfl
  · obtain ⟨a, v, rfl, ha, T1, no, q⟩ := h
    refine ⟨_, (pss_one (ps_ost (pv 0) (pv 1))), ?_⟩
    exact ⟨_, rfl, _, rfl, a, A.e_InvalidRules, rfl, T1, no, .inl ⟨ha, fun d hd nd => q d hd nd⟩⟩
theorem mk_InvalidRules (T : Txt K mg A w) {X : Cx} (hP : X.prog = P) (hw : X.w = w) (hK : X.K = K) (hm : X.mg = mg) (hb : X.base = base) (hx : Passes CX0 X (fun _ _ _ => False)) : Xmk X CX0 A.e_InvalidRules A.i_InvalidRules 1 A.j_InvalidRules ["self", "value"] (spXi K A.e_InvalidRules) := by
  subst hP hw hK hm hb
  exact ⟨T.x_InvalidRules.oex, T.x_InvalidRules.ini, T.x_InvalidRules.fty, ok_InvalidRules T, hx⟩
theorem b2_InvalidRules (T : Txt K mg A w) : Binds K A.j_InvalidRules ["self", "value"] [] := by
  obtain ⟨ds, hd, hb⟩ := T.x_InvalidRules.F.binds1 (ps := ["self", "value"]) 2 1 (by simp) rfl (fun _ _ _ _ _ _ _ us its hu hi => match us, its, hu, hi with | [_, _], [_], _, _ => ⟨_, rfl, rfl⟩)
  cases hd
  exact hb
theorem b1_InvalidRules (T : Txt K mg A w) : ∃ ds, Vals [V.non] ds ∧ Binds K A.j_InvalidRules ["self", "value"] ds :=
  T.x_InvalidRules.F.binds1 (ps := ["self", "value"]) 1 0 (by simp) rfl (fun _ _ _ _ _ _ _ us its hu hi => match us, its, hu, hi with | [_], [_], _, _ => ⟨_, rfl, rfl⟩)
theorem bk_InvalidRules (T : Txt K mg A w) : ∃ g, KBn K A.j_InvalidRules ["self", "value"] 1 ["value"] g (fun vs zs => vs ++ zs) := by
  obtain ⟨its, h⟩ := T.x_InvalidRules.F.kbindsD (ps := ["self", "value"]) 1 ["value"] (fun us _ ws => us ++ ws) (by simp) (fun r1 _ r3 => r1.append r3) (fun _ _ _ _ _ _ _ us its ws hu hi hw => match us, its, ws, hu, hi, hw with | [_], [_], [_], _, _, _ => ⟨_, rfl, rfl⟩)
  exact ⟨_, h⟩
end
end Ax

namespace Ax
open PySem L2
theorem gN {i : Nat} {v : V} {σ σ' : L2.St} {H : Hp} {Q : L2.St → Hp → Prop} (e : σ.set i (some v) = σ') (h : Q σ' H) : gName i v σ H Q := by
  subst e
  exact h
theorem norm2 {F : L2.St → Hp → Prop} {σ σ' : L2.St} {H : Hp} (e : σ = σ') (h : F σ' H) : F σ H := by
  subst e
  exact h
section
variable {P : Program} {w : World} {K : PySem.W.Frag} {mg : Str → Option Value} {base : Heap} {A : Adr}
/-! ### _law_classes -/
theorem ixL (K : PySem.W.Frag) {X : Cx} (h : X.K = K := by rfl) : IxR X (rIxL K) := h ▸ ix_list
def spClasses (A : Adr) : Sp := fun vs H Q _ => ∃ (a C : Addr) (v : V) (j : Nat), vs = [.ref a] ∧ A.cl[j]? = some C ∧ j < 8 ∧ Xat H a C [("value", v)] ∧ ∀ (H' : Hp) (L : Addr), Same H H' → H L = none → H' L = some (.lst [.int j]) → Q (.ref L) H'
abbrev nm_law_classes : List Str := ["_law_error", "_law_some", "_law_at"]
theorem sc_law_classes : FnScope ["_law_error", "_law_some", "_law_at"] ["_law_error"] (defScope s_law_classes) := ⟨rfl, rfl, rfl, by decide +kernel, rfl, by decide +kernel, by decide +kernel⟩
theorem ok_classes (T : Txt K mg A w) : FnOk P w K mg base CX0 1 A.a_law_classes A.d_law_classes ["_law_error"] (spClasses A) := by
  refine T.F_law_classes.ok sc_law_classes (fun vs H Q E h => ?_) (fun cdv A0 outer s H vs Q E hr h => ?_)
  · obtain ⟨a, C, v, j, rfl, _⟩ := h
    rfl
  · obtain ⟨a, C, v, j, rfl, hC, j8, xa, q⟩ := h
    have kit : ∀ i : Nat, i < 8 → ∃ D, A.cl[i]? = some D ∧ PySem.W.kitOne K (.ref C) (.ref D) = some (decide (j = i)) := fun i hi => by
      obtain ⟨C', D, h1, h2, h3⟩ := T.kit j i j8 hi
      rw [hC] at h1
      obtain rfl := Option.some.inj h1
      exact ⟨D, h2, h3⟩
    obtain ⟨C', h1, kA, kV, ask, no⟩ := T.kitA j j8
    rw [hC] at h1
    obtain rfl := Option.some.inj h1
    have kk : ∀ (i : Nat) (D : Addr), i < 8 → A.cl[i]? = some D → PySem.W.kitOne K (.ref C) (.ref D) = some (decide (j = i)) := fun i D hi h => by
      obtain ⟨D', e1, e2⟩ := kit i hi
      rw [h] at e1
      obtain rfl := Option.some.inj e1
      exact e2
    refine ⟨_, (pss_cons (ps_set (i := 1) sc_law_classes.nd rfl (Or.inr rfl) (pe_lst (pa_cons (pe_callB call_isX (by rfl) T.n_isinstance (by decide +kernel) (pa_cons (pv 0) (pa_cons (pe_glob (v := .ref A.e_InvalidRule) rfl T.x_InvalidRule.mgC rfl) pa_nil))) (pa_cons (pe_callB call_isX (by rfl) T.n_isinstance (by decide +kernel) (pa_cons (pv 0) (pa_cons (pe_glob (v := .ref A.e_InvalidRange) rfl T.x_InvalidRange.mgC rfl) pa_nil))) (pa_cons (pe_callB call_isX (by rfl) T.n_isinstance (by decide +kernel) (pa_cons (pv 0) (pa_cons (pe_glob (v := .ref A.e_InvalidSet) rfl T.x_InvalidSet.mgC rfl) pa_nil))) pa_nil)))))
  (pss_cons (ps_set (i := 1) sc_law_classes.nd rfl (Or.inr rfl) (pe_op op_cat (pv 1) (pe_lst (pa_cons (pe_callB call_isX (by rfl) T.n_isinstance (by decide +kernel) (pa_cons (pv 0) (pa_cons (pe_glob (v := .ref A.e_InvalidBase) rfl T.x_InvalidBase.mgC rfl) pa_nil))) (pa_cons (pe_callB call_isX (by rfl) T.n_isinstance (by decide +kernel) (pa_cons (pv 0) (pa_cons (pe_glob (v := .ref A.e_InvalidNumber) rfl T.x_InvalidNumber.mgC rfl) pa_nil))) (pa_cons (pe_callB call_isX (by rfl) T.n_isinstance (by decide +kernel) (pa_cons (pv 0) (pa_cons (pe_glob (v := .ref A.e_InvalidFactor) rfl T.x_InvalidFactor.mgC rfl) pa_nil))) pa_nil))))))
  (pss_cons (ps_set (i := 1) sc_law_classes.nd rfl (Or.inr rfl) (pe_op op_cat (pv 1) (pe_lst (pa_cons (pe_callB call_isX (by rfl) T.n_isinstance (by decide +kernel) (pa_cons (pv 0) (pa_cons (pe_glob (v := .ref A.e_InvalidEnd) rfl T.x_InvalidEnd.mgC rfl) pa_nil))) (pa_cons (pe_callB call_isX (by rfl) T.n_isinstance (by decide +kernel) (pa_cons (pv 0) (pa_cons (pe_glob (v := .ref A.e_InvalidRules) rfl T.x_InvalidRules.mgC rfl) pa_nil))) pa_nil)))))
  (pss_cons (ps_if (PW.pt (pw_or (pt_not (pt_val (pe_callB call_isX (by rfl) T.n_isinstance (by decide +kernel) (pa_cons (pv 0) (pa_cons (pe_glob (v := .ref A.e_AxisTicksError) rfl T.m_AxisTicksError rfl) pa_nil))))) (pw_or1 (pt_not (pt_val (pe_callB call_isX (by rfl) T.n_isinstance (by decide +kernel) (pa_cons (pv 0) (pa_cons (pe_bltn (v := .ty "ValueError") (by rfl) T.n_ValueError (by decide +kernel) rfl) pa_nil)))))))) (pss_one (ps_ret (pe_lst pa_nil))) pss_nil)
  (pss_one (ps_ret (pe_lc (own := [("_law_at", 2)]) (g := gName 2) rfl sc_law_classes.nd (pi_range1 rfl T.n_range (pa_cons (pe_callB call_len_seq (by rfl) T.n_len (by decide +kernel) (pa_cons (pv 1) pa_nil)) pa_nil)) (blkOk_by (own := [("_law_at", 2)]) (N := nm_law_classes) (sc := defScope s_law_classes) (by decide +kernel)) (fun _ _ _ _ _ => (pg_name (i := 2) sc_law_classes.nd rfl (Or.inl rfl))) (fun _ _ _ _ _ => (pts_one (pt_val (pe_ix (ixL K) (pv 1) (pv 2) (fun _ _ => rfl))))) (fun _ _ _ _ _ => (pv 2))))))))), ?_⟩
    refine ⟨_, rfl, a, C, _, _, .ref A.e_InvalidRule, _, rfl, ask, xa, fun u h => h, kk 0 _ (by decide) rfl, _, rfl, a, C, _, _, .ref A.e_InvalidRange, _, rfl, ask, xa, fun u h => h, kk 1 _ (by decide) rfl, _, rfl, a, C, _, _, .ref A.e_InvalidSet, _, rfl, ask, xa, fun u h => h, kk 2 _ (by decide) rfl, (by show 3 ≤ sizeLine; decide), fun l1 hl1 => ?_⟩
    have s1 := same_new (o := .lst [.bl (decide (j = 0)), .bl (decide (j = 1)), .bl (decide (j = 2))]) hl1
    have x1 := xa.same s1
    refine gN (σ' := [some (.ref a), some (.ref l1), none]) rfl ?_
    refine ⟨_, rfl, _, rfl, a, C, _, _, .ref A.e_InvalidBase, _, rfl, ask, x1, fun u h => h, kk 3 _ (by decide) rfl, _, rfl, a, C, _, _, .ref A.e_InvalidNumber, _, rfl, ask, x1, fun u h => h, kk 4 _ (by decide) rfl, _, rfl, a, C, _, _, .ref A.e_InvalidFactor, _, rfl, ask, x1, fun u h => h, kk 5 _ (by decide) rfl, (by show 3 ≤ sizeLine; decide), fun l2 hl2 => ?_⟩
    have s2 := same_new (o := .lst [.bl (decide (j = 3)), .bl (decide (j = 4)), .bl (decide (j = 5))]) hl2
    refine ⟨l1, l2, _, _, rfl, rfl, s2 _ _ upd_same, upd_same, (by show 3 + 3 ≤ sizeLine; decide), fun l3 hl3 => ?_⟩
    have s3 := same_new (o := .lst [.bl (decide (j = 0)), .bl (decide (j = 1)), .bl (decide (j = 2)), .bl (decide (j = 3)), .bl (decide (j = 4)), .bl (decide (j = 5))]) hl3
    have x3 := (x1.same s2).same s3
    refine gN (σ' := [some (.ref a), some (.ref l3), none]) rfl ?_
    refine ⟨_, rfl, _, rfl, a, C, _, _, .ref A.e_InvalidEnd, _, rfl, ask, x3, fun u h => h, kk 6 _ (by decide) rfl, _, rfl, a, C, _, _, .ref A.e_InvalidRules, _, rfl, ask, x3, fun u h => h, kk 7 _ (by decide) rfl, (by show 2 ≤ sizeLine; decide), fun l4 hl4 => ?_⟩
    have s4 := same_new (o := .lst [.bl (decide (j = 6)), .bl (decide (j = 7))]) hl4
    refine ⟨l3, l4, _, _, rfl, rfl, s4 _ _ upd_same, upd_same, (by show 6 + 2 ≤ sizeLine; decide), fun l5 hl5 => ?_⟩
    have s5 := same_new (o := .lst ((List.range 8).map fun i => V.bl (decide (j = i)))) hl5
    have x5 := (x3.same s4).same s5
    have s05 : Same H _ := ((((s1.trans s2).trans s3).trans s4).trans s5)
    have h5 : (upd _ l5 (.lst ((List.range 8).map fun i => V.bl (decide (j = i))))) l5 = some (HO.lst ((List.range 8).map fun i => V.bl (decide (j = i)))) := upd_same (H := upd (upd (upd (upd H l1 (.lst [.bl (decide (j = 0)), .bl (decide (j = 1)), .bl (decide (j = 2))])) l2 (.lst [.bl (decide (j = 3)), .bl (decide (j = 4)), .bl (decide (j = 5))])) l3 (.lst [.bl (decide (j = 0)), .bl (decide (j = 1)), .bl (decide (j = 2)), .bl (decide (j = 3)), .bl (decide (j = 4)), .bl (decide (j = 5))])) l4 (.lst [.bl (decide (j = 6)), .bl (decide (j = 7))]))
    refine gN (σ' := [some (.ref a), some (.ref l5), none]) rfl ?_
    refine ⟨_, rfl, a, C, _, _, .ref A.e_AxisTicksError, _, rfl, ask, x5, fun u h => h, kA, true, rfl, iteF ?_⟩
    refine ⟨_, rfl, a, C, _, _, .type "ValueError", _, rfl, ask, x5, fun u h => h, kV, true, rfl, iteF ?_⟩
    refine ⟨_, rfl, l5, _, rfl, .inl (SqL.of h5), _, rfl, by rw [List.length_map, List.length_range]; decide, by rw [List.length_map, List.length_range]; decide, fun D hD => lc_range (lo := 0) (n := 8) (fun i H' => ∃ HX, Same H HX ∧ HX l5 = some (HO.lst ((List.range 8).map fun i => V.bl (decide (j = i)))) ∧ HX D = none ∧ H' = upd HX D (.lst (((List.range i).filter fun k => decide (j = k)).map fun k : Nat => V.int k))) ⟨_, s05, h5, hD, rfl⟩ ?_ ?_⟩
    · rintro i H' hi ⟨HX, sX, hX, nX, rfl⟩
      have nD5 : l5 ≠ D := ne_of_none hX nX
      refine ⟨rfl, _, rfl, _, rfl, l5, _, _, .bl (decide (j = i)), rfl, rfl, SqL.of (by rw [upd_ne nD5]; exact hX), by rw [Int.zero_add]; exact atL (by rw [List.getElem?_map, List.getElem?_range hi]; rfl), _, rfl, ?_⟩
      rw [show List.range (i + 1) = List.range i ++ [i] from List.range_succ, List.filter_append, List.filter_cons, List.filter_nil]
      refine ite2 (fun hc => ?_) (fun hc => ?_)
      · rw [if_pos hc]
        refine ⟨_, rfl, _, upd_same, ?_, HX, sX, hX, nX, ?_⟩
        · rw [List.length_map]
          refine small1000 (Nat.le_trans (List.length_filter_le _ _) ?_)
          rw [List.length_range]
          omega
        · rw [upd_upd, List.map_append, Int.zero_add]
          rfl
      · rw [if_neg hc, List.append_nil]
        exact ⟨HX, sX, hX, nX, rfl⟩
    · rintro H' ⟨HX, sX, hX, nX, rfl⟩
      refine q _ D (sX.trans (same_new nX)) (sX.free nX) ?_
      refine upd_same.trans ?_
      rw [show (List.range 8).filter (fun k => decide (j = k)) = [j] from (by decide : ∀ j < 8, (List.range 8).filter (fun k => decide (j = k)) = [j]) j j8]
      rfl
end
end Ax

/-! # Promises of defs that are called where no guard stands below: they may tell texts of data (repr). -/
namespace Ax
open PySem PySem.Spec PyProof.Rows L2
structure FnG (P : Program) (w : World) (K : PySem.W.Frag) (mg : Str → Option Value) (base : Heap) (k : Nat) (f : Addr) (fd : FuncData) (ps : List Str) (sp : Sp) : Prop where
  many : ∀ vs H Q E, sp vs H Q E → vs.length = ps.length
  go : ∀ {A : Around} {callers : List Env} {st : Shared} {H : Hp} {ar : Args} {us : List Value} {vs : List V} {Q : VK} {E : XK}, A.guards = some [] → Room k A →
    Env0 P w K mg base A callers st H → BindsTo st fd ar (ps.zip us) → Vals vs us → sp vs H Q E →
    codeAny (model P w) A (.call (.ref f) ar) (CR CX0 callers P w H st Q E) st
section
variable {P : Program} {w : World} {K : PySem.W.Frag} {mg : Str → Option Value} {base : Heap} {k : Nat} {f : Addr} {fd : FuncData} {ps N : List Str} {sp : Sp}
/-- by its body -/
theorem fnG {x qual : Str} {d : Stmt} (F : Fun K x qual d f fd) (S : FnScope N ps (defScope d)) (many : ∀ vs H Q E, sp vs H Q E → vs.length = ps.length)
    (body : ∀ (cd : Value) (A : Around) (callers : List Env) (st : Shared) (H : Hp) (vs : List V) (Q : VK) (E : XK), A.guards = some [] → Room k (A.deeper (envOfC qual (defScope d) st.heap.objs.size f cd)) → sp vs H Q E →
      ∃ t, PSs (cxOf CX0 P w K mg base N qual (defScope d) f cd A callers st H E).nox (defBody d) t ∧ t ⟨fun _ H' => Q .non H', Q, fun _ _ => False, fun _ _ => False⟩ (L2.start N vs) H) :
    FnG P w K mg base (k + 1) f fd ps sp := by
  obtain ⟨_, _, _, _, _, _, cd, _, _, rfl, look, isCode⟩ := F.ex
  constructor
  · exact many
  · intro A callers st H ar us vs Q E hg room en bi rel hsp
    have old : ∀ b o, base.get? b = some o → st.heap.get? b = some o := fun b o e => (en.bs b o e).1
    have inK := en.mod.kin.keeps old
    have free := en.mod.nolimit.keeps old
    have kinds : ∀ y ∈ ps.zip us, (defScope d).names.lookup y.1 = some .local ∨ (defScope d).names.lookup y.1 = some .cell ∧ ((cellsFrom (st.heap.objs.size + 1) (defScope d).names []).lookup y.1).isSome = true := by
      rintro ⟨n, u⟩ hy
      exact (S.par n (List.of_mem_zip hy).1).imp id fun z => ⟨z, PySem.W.cellsFrom_some _ _ _ (.inl z)⟩
    refine codeAny_call_function room.depth (inK _ _ look) rfl S.co S.gen rfl (PySem.W.codeRec_of inK isCode) (bi _ _ _ _ (wpAny_newFunctionEnv_cells S.kind kinds ?_))
    rintro _ rfl s1 fresh
    refine ⟨free.keeps fresh.toInCall.keep, codeAny_func ?_⟩
    obtain ⟨t, read, now⟩ := body cd A callers st H vs Q E hg (room.deeper _) hsp
    have start := inv_start (CX := CX0) (E := E) S room.hd en (many _ _ _ _ hsp) rel fresh
    refine wpAny_mono (read.nox.run [] s1 (L2.start N vs) H _ start now) ?_ fun _ _ z => z
    intro fl s2 hs
    have out : ∀ {σ' : L2.St} {H' : Hp} {v : V} {u : Value}, Inv (cxOf CX0 P w K mg base N qual (defScope d) f cd A callers st H E) [] σ' H' s2 → RelV v u → Q v H' → CE callers P w H st Q u s2 :=
      fun J r q => ⟨_, _, J.os, J.bare, J.base, J.hok, r, q⟩
    match fl, hs with
    | .ret u, ⟨v, σ', H', J, r, q⟩ => exact out J r q
    | .next, ⟨σ', H', J, q⟩ => exact out (v := .non) (u := .none) J rfl q
    | .brk, ⟨_, _, _, q⟩ => exact q.elim
    | .cont, ⟨_, _, _, q⟩ => exact q.elim
end
/-! ### its call -/
section
variable {X : Cx} {k : Nat} {f : Addr} {fd : FuncData} {ps : List Str} {sp : Sp} {E : XK} {x : Str} {p pos : Pos} {e : Expr} {es : List Expr} {t : TA}
theorem pe_callG (F : FnG X.prog X.w X.K X.mg X.base k f fd ps sp) (gu : X.A.guards = some []) (room : Room k X.A) (gl : Gl X x) (hm : X.mg x = some (.ref f)) (kp : PySem.W.keepIn X.K (.ref f) = true) (bi : Binds X.K fd ps []) (ps0 : Passes CX0 X E)
    (args : PA X (e :: es) t) (nd : (x == ("__debug__" : Str)) = false := by decide) (st1 : starEach (e :: es) X.env = (false, eval e X.env) :: starEach es X.env := by rfl)
    (st2 : (backTo pos (starEach es X.env)).any (·.1) = false := by rfl) : PE X (.Call (.Name x p) (e :: es) [] pos) (tCall sp [] E t) := by
  constructor
  intro pins s σ H Q I h
  refine wpAny_Call_Name_kw (ld_glob I gl hm (PySem.W.callWith_K (h₀ := X.base) I.ok.mod.kin kp (thn (args.run pos pins s σ H _ I h) ?_) st1 st2) nd)
  rintro us s1 ⟨vs, H1, I1, rel, now⟩
  refine ⟨I1.kIn, ?_⟩
  have rel' : Vals (vs ++ []) (us ++ []) := rel.append .nil
  have len : (us ++ []).length = ps.length := rel'.length.symm.trans (F.many _ _ _ _ now)
  refine wpAny_call (codeAny_mono (F.go gu room I1.env0 (bi s1 us I1.kIn len) rel' now) ?_)
  rintro (er | fl) s2 z
  · exact ps0 pins σ H1 s1 er s2 I1 z
  · match fl, z with
    | .ret u, z => exact I1.after z
    | .next, z => exact z.elim
    | .brk, z => exact z.elim
    | .cont, z => exact z.elim
end
/-! ### the law's call -/
theorem lawG {P : Program} {w : World} {K : PySem.W.Frag} {mg mb : Str → Option Value} {k : Nat} {fa a : Addr} {fd : FuncData} {x : Str} {sp : Sp} {st : Shared} {vs : List Value} {ns : List Int}
    (inK : K.In st.heap) (gl : st.heap.Ns mainGlobals mg) (bl : st.heap.Ns builtinsNs mb) (bb : ∀ y : Str, y ≠ "__name__" → mb y = bootBuiltins y) (free : st.heap.NoLimit) (gens : st.gens = #[])
    (at_ : st.heap.get? a = some { cls := .type "list", data := .seq vs.toArray }) (isI : IntsAre vs ns) (few : ns.length ≤ sizeLine) (room : Room k callerA)
    (F : ∀ base : Heap, K.In base → base.Ns mainGlobals mg → FnG P w K mg base k fa fd [x] sp) (bi : ∀ (s : Shared) (u : Value), BindsTo s fd ⟨[u], []⟩ [(x, u)])
    (hsp : ∀ H : Hp, SqL K H a (ns.map V.int) → sp [.ref a] H (fun v _ => v = .bl true) fun _ _ _ => False) :
    codeAny (model P w) callerA (.call (.ref fa) ⟨[.ref a], []⟩) (fun r s' => r = .ok (.ret (.bool true)) ∧ OldK st.heap s'.heap ∧ s'.os = st.os ∧ AllBare s'.gens) st := by
  have rel := vals_ints isI
  obtain ⟨ob, eob⟩ : ∃ ob : Obj, ob = { cls := .type "list", data := .seq vs.toArray } := ⟨_, rfl⟩
  obtain ⟨H, eH⟩ : ∃ H : Hp, H = fun b => if b = a ∧ K.lookup a = none then some (.frz ob (.lst (ns.map V.int))) else none := ⟨_, rfl⟩
  have only : ∀ {b u}, H b = some u → b = a ∧ K.lookup a = none ∧ u = .frz ob (.lst (ns.map V.int)) := fun {b u} z => by
    rw [eH] at z
    by_cases c : b = a ∧ K.lookup a = none
    · exact ⟨c.1, c.2, (Option.some.inj ((if_pos c).symm.trans z)).symm⟩
    · cases (if_neg c).symm.trans z
  have sizes : vs.length = ns.length := isI.length
  have hS : SqL K H a (ns.map V.int) := by
    cases look : K.lookup a with
    | some o =>
      have same := inK a o look
      rw [at_] at same
      cases same
      exact .inr ⟨_, vs.toArray, _, look, rfl, rfl, rfl, by rw [List.size_toArray, sizes]; exact few, by simpa using rel⟩
    | none => exact .inl (.inr ⟨ob, by rw [eH]; exact if_pos ⟨rfl, look⟩⟩)
  have ok : HOk P w H st.heap := fun b u z => by
    obtain ⟨rfl, _, rfl⟩ := only z
    subst eob
    exact ⟨at_, by rw [List.length_map]; exact few, vs, _, rel, at_⟩
  have shown : ∀ {b o}, st.heap.get? b = some o → (b = a → K.lookup a ≠ none) → (hidT st.heap H).get? b = some o := fun {b o} e n => hidT_get e (by
    cases z : H b with
    | none => rfl
    | some u => exact absurd (only z).2.1 (n (only z).1))
  have names : ∀ {b m}, st.heap.Ns b m → (hidT st.heap H).Ns b m := by
    rintro b m ⟨o, es, ep, e, dd, r⟩
    refine ⟨o, es, ep, shown e (fun z => ?_), dd, r⟩
    rw [z, at_] at e
    cases e
    cases dd
  have inB : K.In (hidT st.heap H) := by
    intro b o e
    refine shown (inK b o e) (fun z n => ?_)
    rw [z, n] at e
    cases e
  have nolim : (hidT st.heap H).NoLimit := by
    obtain ⟨mc, h1, h2⟩ := free
    exact ⟨mc, names h1, h2⟩
  have en : Env0 P w K mg (hidT st.heap H) callerA [] st H :=
    { frames := rfl, mod := ⟨inB, names gl, ⟨mb, names bl, bb⟩, nolim⟩, bs := fun b o e => of_hidT e, bsz := Nat.le_of_eq (hidT_size _ _), funs := trivial,
      frf := fun b hb => (List.not_mem_nil hb).elim, hok := ok, bare := .of_eq gens }
  refine codeAny_mono ((F _ inB (names gl)).go rfl room en (us := [.ref a]) (vs := [V.ref a]) (bi st (.ref a)) (.cons rfl .nil) (hsp H hS)) ?_
  rintro (er | fl) s' z
  · exact (show False from z).elim
  · match fl, z with
    | .next, z => exact z.elim
    | .brk, z => exact z.elim
    | .cont, z => exact z.elim
    | .ret u, ⟨v, H', os, bare, un, ok', r, q⟩ =>
      cases (show v = .bl true from q)
      cases (show u = Value.bool true from r)
      refine ⟨rfl, OldK.of_keep fun b o e => ?_, os, bare⟩
      cases z : H b with
      | none => exact un.keep b o e z (fun y => (List.not_mem_nil y).elim) (fun y => (List.not_mem_nil y).elim)
      | some u =>
        obtain ⟨rfl, _, rfl⟩ := only z
        have e1 := (ok _ _ z).1
        have e2 := (ok' _ _ (un.frzs _ _ _ z)).1
        rw [e] at e1
        cases e1
        exact e2
theorem walkG {l : PySem.W.OpenLaw} {q : Program} {loose : List Str} {XP : (Str → Option Value) → Heap → Prop} {YP : World → Heap → Prop} {d : DefRec} {K : Params → PySem.W.Frag} {k : Nat} {x : Str} {sp : World → Sp}
    (most : l.most = some 63) (nodef : d.params.defaults = []) (room : Room k callerA) (inK : ∀ (w : World) (h : Heap), YP w h → (K w.params).In h)
    (F : ∀ (w : World) (mg : Str → Option Value) (fa : Addr) (h : Heap), (K w.params).In h → h.Ns mainGlobals mg → mg d.name = some (.ref fa) →
      ∃ fd : FuncData, (∀ (s : Shared) (u : Value), BindsTo s fd ⟨[u], []⟩ [(x, u)]) ∧ ∀ base : Heap, (K w.params).In base → base.Ns mainGlobals mg → FnG l.prog w (K w.params) mg base k fa fd [x] (sp w))
    (hsp : ∀ (w : World) (H : Hp) (a : Addr) (ns : List Int), ns.length ≤ 63 → SqL (K w.params) H a (ns.map V.int) → sp w [.ref a] H (fun v _ => v = .bl true) fun _ _ _ => False) :
    PySem.W.WalkO q loose XP YP l.row.toRowW d [] (fun f vs => PySem.call f vs) := by
  refine Att.attach_call most nodef ?_
  intro w s0 st mg mb fa o pm cd doc a vs ns G Y _ _ _ hm at_ isI few gens
  obtain ⟨fd, bi, hF⟩ := F w mg fa _ (inK w _ Y) G.T.g hm
  exact lawG (inK w _ Y) G.T.g G.T.b G.T.builtins G.T.nolimit gens at_ isI (Nat.le_trans few (by decide)) room hF bi fun H hS => hsp w H a ns few hS
/-! ### texts of data -/
/-- repr of data that holds no dict, where no guard stands below -/
def rRepr (K : PySem.W.Frag) (A : Around) : List V → Hp → VK → Prop := fun xs H Q => ∃ (a : Addr) (d : PyData), xs = [.ref a] ∧ Dp K H (.ref a) d ∧ d.showable = true ∧ d.hasDict = false ∧ d.shown.length ≤ sizeLine ∧ A.units + (d.depth + 1) < cLine ∧ Q (.str d.shown) H
theorem call_reprD {X : Cx} (gu : X.A.guards = some []) : CallR X (.builtin "repr") (rRepr X.K X.A) := by
  intro pins s σ H xs us Q I rel h
  obtain ⟨a, d, rfl, dp, s1, s2, s3, s4, q⟩ := h
  obtain ⟨u, rfl, ru⟩ : ∃ u, us = [u] ∧ RelV (.ref a) u := by
    cases rel with
    | cons h t =>
      cases t
      exact ⟨_, rfl, h⟩
  cases ru
  obtain ⟨as, rd⟩ := Dp.reads I d _ _ dp rfl
  refine repr_of_reads' rd s1 (PyData.noDict_hsm s2) gu s4 (fun _ _ e => e) (fun h' u tk kept => ?_) s3
  exact ⟨.str d.shown, H, I.kept kept, ⟨u, rfl⟩, q⟩
theorem shown2 {a b : Int} (h1 : a.natAbs.log2 < 1920) (h2 : b.natAbs.log2 < 1920) : (PyData.tuple [.int a, .int b]).showable = true ∧ (PyData.tuple [.int a, .int b]).hasDict = false ∧ (PyData.tuple [.int a, .int b]).shown.length ≤ sizeLine ∧ (PyData.tuple [.int a, .int b]).depth ≤ 8 := by
  refine ⟨?_, ?_, ?_, ?_⟩
  · simp [PyData.showable, PyData.showableAll, h1, h2]
  · simp [PyData.hasDict, PyData.hasDictAll]
  · have l1 := PyProof.Rows.int_text_len_1921 h1
    have l2 := PyProof.Rows.int_text_len_1921 h2
    simp only [PyData.shown, PyData.shownAll]
    unfold tupleText
    rw [strLen_append, strLen_append]
    have j := join_length_add [Str.ofString (toString a), Str.ofString (toString b)] (by simp)
    simp only [piled] at j
    simp only [List.map_cons, List.map_nil, List.sum_cons, List.sum_nil] at j
    have e1 : (Str.ofString "(").length = 1 := rfl
    have e2 : (Str.ofString (if ([Str.ofString (toString a), Str.ofString (toString b)].length == 1) = true then ",)" else ")")).length ≤ 2 := by
      rw [if_neg (by simp)]
      decide
    rw [sizeLine_eq]
    omega
  · simp [PyData.depth, PyData.depthAll]
end Ax

namespace Ax
open PySem PySem.Spec PyProof.Rows L2
/-! ### data, or an empty dict -/
inductive Dx (K : PySem.W.Frag) (H : Hp) : V → PyData → Prop
  | dp {v : V} {d : PyData} : Dp K H v d → d.hasDict = false → Dx K H v d
  | emp {a : Addr} : H a = some (.dK []) → Dx K H (.ref a) (.dict [])
theorem hasAll_rep {d : PyData} (h : d.hasDict = false) : ∀ n : Nat, PyData.hasDictAll (List.replicate n d) = false
  | 0 => by simp [PyData.hasDictAll]
  | n + 1 => by
    rw [List.replicate_succ]
    simp only [PyData.hasDictAll, h, hasAll_rep h n, Bool.or_self]
theorem showAll_rep {d : PyData} (h : d.showable = true) : ∀ n : Nat, PyData.showableAll (List.replicate n d) = true
  | 0 => by simp [PyData.showableAll]
  | n + 1 => by
    rw [List.replicate_succ]
    simp only [PyData.showableAll, h, showAll_rep h n, Bool.and_self]
theorem shownAll_rep {d : PyData} : ∀ n : Nat, PyData.shownAll (List.replicate n d) = List.replicate n d.shown
  | 0 => by simp [PyData.shownAll]
  | n + 1 => by
    rw [List.replicate_succ, List.replicate_succ]
    simp only [PyData.shownAll, shownAll_rep n]
theorem depthAll_rep {d : PyData} : ∀ n : Nat, PyData.depthAll (List.replicate n d) ≤ d.depth
  | 0 => by simp [PyData.depthAll]
  | n + 1 => by
    rw [List.replicate_succ]
    simp only [PyData.depthAll]
    have := depthAll_rep (d := d) n
    omega
theorem dpAll_rep {K : PySem.W.Frag} {H : Hp} {v : V} {d : PyData} (h : Dp K H v d) : ∀ n : Nat, DpAll K H (List.replicate n v) (List.replicate n d)
  | 0 => .nil
  | n + 1 => .cons h (dpAll_rep h n)
section
variable {X : Cx} {pins : List (Addr × Obj)} {σ : L2.St} {H : Hp} {s : Shared}
theorem reads_rep (I : Inv X pins σ H s) {v : V} {d : PyData} (h : Dx X.K H v d) : ∀ (n : Nat) (us : List Value), Vals (List.replicate n v) us → ∃ as, ReadsAll s.heap us (List.replicate n d) as ∧ (PyData.hasDictAll (List.replicate n d) = true → sysModules ∉ as) := by
  cases h with
  | dp h nd =>
    intro n us r
    obtain ⟨as, q⟩ := Dp.readsAll I _ _ us (dpAll_rep h n) r
    exact ⟨as, q, fun z => by rw [hasAll_rep nd n] at z; cases z⟩
  | @emp a ha =>
    obtain ⟨_, sm, vs, kv, o, es, ep, ho, ex, hd, ko, prs, _⟩ := dk_of I.hok ha
    cases kv
    have e0 : es.toList = [] := by
      cases h : es.toList with
      | nil => rfl
      | cons x r =>
        rw [h] at prs
        cases prs
    have one : Reads s.heap (.ref a) (.dict []) (a :: [] ++ []) := Reads.dict ho ex.1 hd (by rw [e0]; exact .nil) (by rw [e0]; exact .nil)
    intro n
    induction n with
    | zero =>
      intro us r
      cases r
      exact ⟨[], .nil, fun _ z => nomatch z⟩
    | succ n ih =>
      intro us r
      rw [List.replicate_succ] at r ⊢
      cases r with
      | cons r1 r2 =>
        cases r1
        obtain ⟨bs, q, nb⟩ := ih _ r2
        refine ⟨_, ReadsAll.cons one q, fun _ z => ?_⟩
        have z : sysModules ∈ a :: bs := z
        rcases List.mem_cons.mp z with y | y
        · rw [← y] at sm
          exact absurd sm (by decide)
        · cases n with
          | zero =>
            rw [List.replicate_zero] at q
            cases q
            exact nomatch y
          | succ n => exact nb (by rw [List.replicate_succ]; simp [PyData.hasDictAll, PyData.hasDict]) y
/-- the text of a list of one thing, again and again -/
def rReprN (K : PySem.W.Frag) (A : Around) : List V → Hp → VK → Prop := fun xs H Q => ∃ (l : Addr) (n : Nat) (v : V) (d : PyData), xs = [.ref l] ∧ SqL K H l (List.replicate (n + 1) v) ∧ Dx K H v d ∧ d.showable = true ∧
  (listText (List.replicate (n + 1) d.shown)).length ≤ sizeLine ∧ A.units + (d.depth + 2) < cLine ∧ Q (.str (listText (List.replicate (n + 1) d.shown))) H
theorem call_reprN {X : Cx} (gu : X.A.guards = some []) : CallR X (.builtin "repr") (rReprN X.K X.A) := by
  intro pins s σ H xs us Q I rel h
  obtain ⟨l, n, v, d, rfl, hl, dx, sh, len, un, q⟩ := h
  obtain ⟨u, rfl, ru⟩ : ∃ u, us = [u] ∧ RelV (.ref l) u := by
    cases rel with
    | cons h t =>
      cases t
      exact ⟨_, rfl, h⟩
  cases ru
  obtain ⟨its, rv, ⟨o, m, ho, hc, _, hd⟩, _⟩ := I.list hl
  obtain ⟨as, ra, nos⟩ := reads_rep I dx (n + 1) its rv
  have len1 : ∀ t ∈ PyData.shownAll (List.replicate (n + 1) d), t.length ≤ sizeLine := fun t ht => by
    rw [shownAll_rep] at ht
    exact Nat.le_trans (listText_mem_le ht) len
  obtain ⟨bs, hb, hk⟩ := ReprAllK.of_readsAll (prog := X.prog) (w := X.w) ra (showAll_rep sh _) nos len1
  have rd : Reads s.heap (.ref l) (.list (List.replicate (n + 1) d)) (l :: as) := Reads.list ho hc hd ra
  have na : l ∉ bs := not_mem_of_deeper rd (by simp only [PyData.depth]; omega) hb
  have dl := depthAll_rep (d := d) (n + 1)
  rw [shownAll_rep] at hk
  cases its with
  | nil => cases rv
  | cons u0 ur =>
    refine call_repr_slot (by omega) (T := "list") ⟨o, ho, hc⟩ F.slot_list_repr.toG ?_
    exact call_list_reprK ho hc hd na (by simpa using hk.length_eq) (fun i y e => hk.item i y (by simpa using e)) gu (fun b _ => Clear.nil b) (by show X.A.units + 1 + (_ + 1) < cLine; omega) (fun _ _ e => e) (fun h' u tk kept => ⟨_, _, rfl, ⟨.str _, H, I.kept kept, ⟨u, rfl⟩, q⟩⟩) len
end
end Ax

namespace Ax
open PySem L2
/-- the eight exceptions, class by class, of one value -/
def Errs (A : Adr) (v : V) (H : Hp) (es : List Addr) : Prop := es.length = 8 ∧ ∀ (j : Nat) (e : Addr), es[j]? = some e → ∃ C, A.cl[j]? = some C ∧ Xat H e C [("value", v)]
theorem Errs.same {A : Adr} {v : V} {H H' : Hp} {es : List Addr} (s : Same H H') (x : Errs A v H es) : Errs A v H' es :=
  ⟨x.1, fun j e h => by
    obtain ⟨C, h1, h2⟩ := x.2 j e h
    exact ⟨C, h1, h2.same s⟩⟩
theorem ref_get {as : List Addr} {i : Nat} {x : V} (h : (as.map V.ref)[i]? = some x) : ∃ a, as[i]? = some a ∧ x = .ref a := by
  rw [List.getElem?_map] at h
  cases e : as[i]? with
  | none =>
    rw [e] at h
    cases h
  | some a =>
    rw [e] at h
    exact ⟨a, rfl, (Option.some.inj h).symm⟩
theorem yes_of {σ : L2.St} {H : Hp} {A B : Hp → Prop} (h : A H) : tYes σ H (fun b H3 => if b = true then A H3 else B H3) := by
  show if true = true then A H else B H
  rw [if_pos rfl]
  exact h
/-- lists of one number each -/
abbrev OnesAt (H : Hp) : List Nat → List Addr → Prop := Paired fun j a => H a = some (.lst [.int j])
theorem OnesAt.same {H H' : Hp} (s : Same H H') : ∀ {js : List Nat} {as : List Addr}, OnesAt H js as → OnesAt H' js as
  | _, _, .nil => .nil
  | _, _, .cons h r => .cons (s _ _ h) (OnesAt.same s r)
theorem OnesAt.upd {H : Hp} {D : Addr} {o : HO} : ∀ {js : List Nat} {as : List Addr}, D ∉ as → OnesAt H js as → OnesAt (upd H D o) js as
  | _, _, _, .nil => .nil
  | _, _, n, .cons h r => .cons (by rw [upd_ne (fun z => n (by rw [z]; exact List.mem_cons_self))]; exact h) (OnesAt.upd (fun z => n (List.mem_cons_of_mem _ z)) r)
theorem same_upd {H H' : Hp} {D : Addr} {o : HO} (h : H D = none) (s : Same H H') : Same H (upd H' D o) := fun c u e => by
  rw [upd_ne (ne_of_none e h)]
  exact s _ _ e
theorem OnesAt.snoc {H : Hp} {j : Nat} {a : Addr} : ∀ {js : List Nat} {as : List Addr}, OnesAt H js as → H a = some (.lst [.int j]) → OnesAt H (js ++ [j]) (as ++ [a])
  | _, _, .nil, h => .cons h .nil
  | _, _, .cons h r, q => .cons h (OnesAt.snoc r q)
theorem OnesAt.dp {K : PySem.W.Frag} {H : Hp} : ∀ {js : List Nat} {as : List Addr}, OnesAt H js as → DpAll K H (as.map V.ref) (js.map fun j : Nat => PyData.list [.int j])
  | _, _, .nil => .nil
  | _, _, .cons h r => .cons (.lst (SqL.of h) (.cons (.int _) .nil)) (OnesAt.dp r)
section
variable {P : Program} {w : World} {K : PySem.W.Frag} {mg : Str → Option Value} {base : Heap} {A : Adr}
/-! ### _law_right -/
theorem text8 (x : Str) : (listText (List.replicate (7 + 1) x)).length ≤ 8 * x.length + 16 := by
  have h := textFrom_length_pos (List.replicate 7 x) 1 (("[" : Str) ++ (if (0 : Nat) > 0 then ", " else "" : String) ++ x) (Nat.succ_pos 0)
  have hX : (listText (List.replicate (7 + 1) x)).length = (textFrom 1 (("[" : Str) ++ (if (0 : Nat) > 0 then ", " else "" : String) ++ x) (List.replicate 7 x)).length + 1 := by
    show (textFrom 0 "[" (List.replicate (7 + 1) x) ++ "]").length = _
    rw [strLen_append]
    rfl
  rw [hX, h, strLen_append, strLen_append]
  have e1 : ("[" : Str).length = 1 := rfl
  have e2 : (Str.ofString (if (0 : Nat) > 0 then ", " else "")).length = 0 := rfl
  have e3 : piled (List.replicate 7 x) = 7 * (x.length + 2) := by
    simp only [piled, List.map_replicate]
    have : ∀ y : Nat, (List.replicate 7 y).sum = 7 * y := fun y => by
      simp [List.replicate]
      try omega
    exact this _
  rw [e1, e2, e3]
  omega
/-- what is told of a value's text -/
structure ShowOk (d : PyData) : Prop where
  show_ : d.showable = true
  len : d.shown.length ≤ 4000
  dep : d.depth ≤ 6
def spRight (K : PySem.W.Frag) (A : Adr) : Sp := fun vs H Q _ => ∃ (L : Addr) (v : V) (d : PyData) (es : List Addr), vs = [.ref L, v] ∧ H L = some (.lst (es.map V.ref)) ∧ Errs A v H es ∧ Dx K H v d ∧ ShowOk d ∧ (∀ H' : Hp, Same H H' → Q (.bl true) H')
abbrev nm_law_right : List Str := ["_law_errors", "_law_given", "_law_told", "_law_error", "_law_at"]
theorem sc_law_right : FnScope ["_law_errors", "_law_given", "_law_told", "_law_error", "_law_at"] ["_law_errors", "_law_given"] (defScope s_law_right) := ⟨rfl, rfl, rfl, by decide +kernel, rfl, by decide +kernel, by decide +kernel⟩
theorem SqT.same' {K : PySem.W.Frag} {H H' : Hp} {a : Addr} {xs : List V} (e : Same H H') (h : SqT K H a xs) : SqT K H' a xs := by
  rcases h with h | h
  · rcases h with h | ⟨o, h⟩
    · exact .inl (.inl (e _ _ h))
    · exact .inl (.inr ⟨o, e _ _ h⟩)
  · exact .inr h
mutual
theorem Dp.mono {K : PySem.W.Frag} {H H' : Hp} (s : Same H H') : ∀ {v : V} {d : PyData}, Dp K H v d → Dp K H' v d
  | _, _, .non => .non
  | _, _, .bl b => .bl b
  | _, _, .int i => .int i
  | _, _, .str x => .str x
  | _, _, .lst h r => .lst (s.seq h) (DpAll.mono s r)
  | _, _, .tup h r => .tup (SqT.same' s h) (DpAll.mono s r)
theorem DpAll.mono {K : PySem.W.Frag} {H H' : Hp} (s : Same H H') : ∀ {vs : List V} {ds : List PyData}, DpAll K H vs ds → DpAll K H' vs ds
  | _, _, .nil => .nil
  | _, _, .cons h r => .cons (Dp.mono s h) (DpAll.mono s r)
end
theorem pe_xfK {K : PySem.W.Frag} {X : Cx} (h : X.K = K) {e : Expr} {te : TE} {f : Str} {pos : Pos} (he : PE X e te) (hb : attributeBase e f X.env (eval e X.env) = eval e X.env := by rfl) : PE X (.Attribute e f pos) (tXf2 K f te) := h ▸ pe_xf2 he hb
theorem Dx.same {K : PySem.W.Frag} {H H' : Hp} (s : Same H H') {v : V} {d : PyData} (h : Dx K H v d) : Dx K H' v d := by
  cases h with
  | dp h nd => exact .dp (Dp.mono s h) nd
  | emp h => exact .emp (s _ _ h)
theorem ok_right (T : Txt K mg A w) : FnG P w K mg base 2 A.a_law_right A.d_law_right ["_law_errors", "_law_given"] (spRight K A) := by
  have G_law_classes : FnOk P w K mg base CX0 1 A.a_law_classes A.d_law_classes ["_law_error"] (spClasses A) := ok_classes T
  refine fnG (T.F_law_right) sc_law_right (fun vs H Q E h => ?_) (fun cdv A0 outer s H vs Q E hg hr h => ?_)
  · obtain ⟨L, v, d, es, rfl, _⟩ := h
    rfl
  · obtain ⟨L, v, d, es, rfl, hL, ER, dx, so, q⟩ := h
    have un : ∀ n ≤ 8, (A0.deeper (PyProof.Rows.envOfC "_law_right" (defScope s_law_right) s.heap.objs.size A.a_law_right cdv)).units + (n + 1) < cLine := fun n hn => Nat.lt_of_le_of_lt (Nat.add_le_add_left (by omega) _) hr.units
    refine ⟨_, (pss_cons (ps_setLc (i := 2) (own := [("_law_error", 3)]) (g := gName 3) (tt := tYes) rfl sc_law_right.nd rfl rfl (sw_true rfl rfl rfl (by decide +kernel)) (pi_list (pv 0)) (blkOk_by (own := [("_law_error", 3)]) (N := nm_law_right) (sc := defScope s_law_right) (by decide +kernel)) (fun _ _ _ _ _ => (pg_name (i := 3) sc_law_right.nd rfl (Or.inl rfl))) (fun _ _ _ _ _ => pts_nil) (fun _ _ _ _ _ => (pe_xfK (K := K) rfl (pv 3))))
  (pss_cons (ps_if (pt_cmpR op_ne (pe_callB (call_reprN hg) (by rfl) T.n_repr (by decide +kernel) (pa_cons (pv 2) pa_nil)) (pe_callB (call_reprN hg) (by rfl) T.n_repr (by decide +kernel) (pa_cons (pe_op op_rep (pe_lst (pa_cons (pv 1) pa_nil)) (pe_callB call_len_seq (by rfl) T.n_len (by decide +kernel) (pa_cons (pv 0) pa_nil))) pa_nil)) (nomark _)) (pss_one (ps_ret pe_bl)) pss_nil)
  (pss_one (ps_ret (pe_cmpR (op_eqD hr.units) (pe_lc (own := [("_law_error", 3)]) (g := gName 3) (tt := tYes) rfl sc_law_right.nd (pi_list (pv 0)) (blkOk_by (own := [("_law_error", 3)]) (N := nm_law_right) (sc := defScope s_law_right) (by decide +kernel)) (fun _ _ _ _ _ => (pg_name (i := 3) sc_law_right.nd rfl (Or.inl rfl))) (fun _ _ _ _ _ => pts_nil) (fun _ _ _ _ _ => (pe_call G_law_classes (hr.mono (by decide)) (by rfl) T.m_law_classes T.F_law_classes.kp T.B_law_classes .nil pass0 (pa_cons (pv 3) pa_nil)))) (pe_lc (own := [("_law_at", 4)]) (g := gName 4) (tt := tYes) rfl sc_law_right.nd (pi_range1 rfl T.n_range (pa_cons (pe_callB call_len_seq (by rfl) T.n_len (by decide +kernel) (pa_cons (pv 0) pa_nil)) pa_nil)) (blkOk_by (own := [("_law_at", 4)]) (N := nm_law_right) (sc := defScope s_law_right) (by decide +kernel)) (fun _ _ _ _ _ => (pg_name (i := 4) sc_law_right.nd rfl (Or.inl rfl))) (fun _ _ _ _ _ => pts_nil) (fun _ _ _ _ _ => (pe_lst (pa_cons (pv 4) pa_nil)))) (nomark _)))))), ?_⟩
    have h8 : (es.map V.ref).length = 8 := by rw [List.length_map]; exact ER.1
    have el : ∀ (i : Nat) (x : V), (es.map V.ref)[i]? = some x → ∃ a C, x = .ref a ∧ i < 8 ∧ A.cl[i]? = some C ∧ Xat H a C [("value", v)] ∧ Xask K C ∧ PySem.W.findIn K (.ref C) "value" = some none := fun i x hx => by
      obtain ⟨a, ha, rfl⟩ := ref_get hx
      have i8 : i < 8 := by rw [← ER.1]; exact (List.getElem?_eq_some_iff.mp ha).1
      obtain ⟨C, hC, xa⟩ := ER.2 i a ha
      obtain ⟨C', h1, _, _, ask, no⟩ := T.kitA i i8
      rw [hC] at h1
      obtain rfl := Option.some.inj h1
      exact ⟨a, C, rfl, i8, hC, xa, ask, no⟩
    refine ⟨_, rfl, L, rfl, ⟨_, SqL.of hL⟩, fun D hD => lc_list (K := K) (a := L) (xs := es.map V.ref) (fun i H' => H' = upd H D (.lst (List.replicate i v))) rfl ?_ ?_ ?_⟩
    · rintro i H' _ rfl
      exact SqL.of (by rw [upd_ne (ne_of_none hL hD)]; exact hL)
    · rintro i x H' hi rfl
      obtain ⟨a, C, rfl, i8, hC, xa, ask, no⟩ := el i x hi
      refine ⟨rfl, yes_of ?_⟩
      refine ⟨_, rfl, a, C, _, v, rfl, ask, no, xa.same (same_new hD), rfl, ?_⟩
      refine ⟨_, upd_same, ?_, ?_⟩
      · rw [List.length_replicate]
        exact small1000 (by omega)
      · rw [upd_upd, List.replicate_succ']
    · rintro H' rfl
      rw [h8]
      have s1 : Same H (upd H D (.lst (List.replicate 8 v))) := same_new hD
      refine gN (σ' := [some (.ref L), some v, some (.ref D), none, none]) rfl ?_
      have len8 : (listText (List.replicate (7 + 1) d.shown)).length ≤ sizeLine := by
        have := text8 d.shown
        have := so.len
        rw [sizeLine_eq]
        omega
      refine ⟨_, rfl, D, 7, v, d, rfl, SqL.of upd_same, dx.same s1, so.show_, len8, un _ (by have := so.dep; omega), ?_⟩
      refine ⟨_, rfl, (by show 1 ≤ sizeLine; decide), fun l hl => ?_⟩
      have s2 := same_new (o := .lst [v]) hl
      refine ⟨_, rfl, L, _, rfl, .inl (SqL.of (s2 _ _ (s1 _ _ hL))), ?_⟩
      refine ⟨l, _, [v], rfl, rfl, upd_same, by rw [h8]; decide, by rw [h8]; decide, (by rw [h8]; show 1 * 8 ≤ sizeLine; decide), fun l2 hl2 => ?_⟩
      have s3 := same_new (o := .lst (List.replicate (((es.map V.ref).length : Int)).toNat [v]).flatten) hl2
      have s123 := (s1.trans s2).trans s3
      refine ⟨l2, 7, v, d, rfl, SqL.of ?_, dx.same s123, so.show_, len8, un _ (by have := so.dep; omega), rfl, ?_⟩
      · rw [h8]
        exact upd_same
      rw [decide_eq_true rfl]
      refine ⟨_, rfl, ?_⟩
      refine iteF ?_
      have s4 : Same H (upd (upd (upd H D (.lst (List.replicate 8 v))) l (.lst [v])) l2 (.lst (List.replicate (((es.map V.ref).length : Int)).toNat [v]).flatten)) := s123
      generalize (upd (upd (upd H D (.lst (List.replicate 8 v))) l (.lst [v])) l2 (.lst (List.replicate (((es.map V.ref).length : Int)).toNat [v]).flatten)) = H4 at s4 ⊢
      have hL4 := s4 _ _ hL
      refine ⟨_, rfl, L, rfl, ⟨_, SqL.of hL4⟩, fun D5 hD5 => lc_list (K := K) (a := L) (xs := es.map V.ref) (fun i H' => ∃ as : List Addr, Same H4 H' ∧ H' D5 = some (.lst (as.map V.ref)) ∧ as.length = i ∧ D5 ∉ as ∧ OnesAt H' (List.range i) as) ⟨[], same_new hD5, upd_same, rfl, List.not_mem_nil, .nil⟩ ?_ ?_ ?_⟩
      · rintro i H' _ ⟨as, sX, nX, la, nd, oa⟩
        exact SqL.of (sX _ _ hL4)
      · rintro i x H' hi ⟨as, sX, nX, la, nd, oa⟩
        obtain ⟨a, C, rfl, i8, hC, xa, ask, no⟩ := el i x hi
        refine ⟨rfl, yes_of ?_⟩
        refine ⟨_, rfl, a, C, v, i, rfl, hC, i8, xa.same (s4.trans sX), fun H6 LL sL nL hLL => ?_⟩
        have nLD : LL ≠ D5 := (ne_of_none nX nL).symm
        refine ⟨_, sL _ _ nX, ?_, as ++ [LL], same_upd hD5 (sX.trans sL), ?_, ?_, ?_, ?_⟩
        · rw [List.length_map]
          exact small1000 (by omega)
        · rw [List.map_append]
          exact upd_same
        · rw [List.length_append, la]
          rfl
        · intro z
          rcases List.mem_append.mp z with y | y
          · exact nd y
          · exact nLD (List.mem_singleton.mp y).symm
        · rw [List.range_succ]
          exact OnesAt.snoc (OnesAt.upd nd (OnesAt.same sL oa)) (by rw [upd_ne nLD]; exact hLL)
      · rintro H5 ⟨as, sX, nX, la, nd, oa⟩
        rw [h8] at la oa
        have hL5 := sX _ _ hL4
        refine ⟨_, rfl, L, _, rfl, .inl (SqL.of hL5), _, rfl, by rw [h8]; decide, by rw [h8]; decide, fun D6 hD6 => ?_⟩
        rw [show (((es.map V.ref).length : Int)).toNat = 8 from by rw [h8]; rfl]
        refine lc_range (lo := 0) (n := 8) (fun i H' => ∃ bs : List Addr, Same H5 H' ∧ H' D6 = some (.lst (bs.map V.ref)) ∧ bs.length = i ∧ D6 ∉ bs ∧ OnesAt H' (List.range i) bs) ⟨[], same_new hD6, upd_same, rfl, List.not_mem_nil, .nil⟩ ?_ ?_
        · rintro i H' hi ⟨bs, sY, nY, lb, nb, ob⟩
          refine ⟨rfl, yes_of ?_⟩
          refine ⟨_, rfl, (by show 1 ≤ sizeLine; decide), fun LL hLL => ?_⟩
          have nLD : LL ≠ D6 := (ne_of_none nY hLL).symm
          have sL := same_new (o := .lst [.int (0 + (i : Int))]) hLL
          refine ⟨_, sL _ _ nY, ?_, bs ++ [LL], same_upd hD6 (sY.trans sL), ?_, ?_, ?_, ?_⟩
          · rw [List.length_map]
            exact small1000 (by omega)
          · rw [List.map_append]
            exact upd_same
          · rw [List.length_append, lb]
            rfl
          · intro z
            rcases List.mem_append.mp z with y | y
            · exact nb y
            · exact nLD (List.mem_singleton.mp y).symm
          · rw [List.range_succ]
            exact OnesAt.snoc (OnesAt.upd nb (OnesAt.same sL ob)) (by rw [upd_ne nLD, upd_same, Int.zero_add])
        · rintro H6 ⟨bs, sY, nY, lb, nb, ob⟩
          refine ⟨.list ((List.range 8).map fun j : Nat => PyData.list [.int j]), .list ((List.range 8).map fun j : Nat => PyData.list [.int j]), .lst (SqL.of (sY _ _ nX)) (OnesAt.dp (OnesAt.same sY oa)), .lst (SqL.of nY) (OnesAt.dp ob), by decide +kernel, by decide +kernel, ?_⟩
          rw [show PyData.eqv (.list ((List.range 8).map fun j : Nat => PyData.list [.int j])) (.list ((List.range 8).map fun j : Nat => PyData.list [.int j])) = true by decide +kernel]
          exact q _ (s4.trans (sX.trans sY))
end
end Ax

namespace L2
open PySem PySem.Spec PyProof.Rows
/-- a text times a number -/
def rRepS : R2 := fun x y H Q => ∃ (a : Str) (n : Int), x = .str a ∧ y = .int n ∧ MulOk a n ∧ Q (.str (Txt.mul a n)) H
theorem op_repS {X : Cx} : OpR X (binaryOp .Mult) rRepS := by
  intro pins s σ H x y v u Q I rx ry h
  obtain ⟨a, n, rfl, rfl, hm, q⟩ := h
  obtain ⟨t, rfl⟩ := rx
  obtain ⟨t2, rfl⟩ := ry
  exact PySem.SB.mul hm fun t' k => ⟨.str _, H, I.kept (t' := k) fun _ _ z => z, ⟨t', rfl⟩, q⟩
/-- C(e), a class whose __init__ is ValueError's -/
def tXb (C : Addr) (ta : TA) : TE := fun σ H Q => ta σ H fun vs H1 => vs.length ≤ 1 ∧ ∀ a, H1 a = none → Q (.ref a) (upd H1 a (exo a C none))
section
variable {X : Cx} {C : Addr} {x : Str} {p pos : Pos} {e : Expr} {ta : TA}
theorem pe_xb (T : OexC X.K C) (iC : PySem.W.findIn X.K (.ref C) "__init__" = some (some (.builtin "ValueError.__init__"))) (hg : Gl X x) (hm : X.mg x = some (.ref C)) (ha : PA X [e] ta)
    (hdb : (x == ("__debug__" : Str)) = false := by decide) (he : starEach [e] X.env = (false, eval e X.env) :: starEach [] X.env := by rfl) (hpl : (backTo pos (starEach [] X.env)).any (·.1) = false := by rfl) : PE X (.Call (.Name x p) [e] [] pos) (tXb C ta) := by
  refine ⟨fun pins s σ H Q I h => ?_⟩
  refine wpAny_Call_Name_kw (ld_glob I hg hm ?_ hdb)
  refine PySem.W.callWith_K (h₀ := X.base) I.ok.mod.kin T.kC (thn (ha.run pos pins s σ H _ I h) fun us s1 ⟨vs, H1, I1, r, hz, q⟩ => ⟨I1.kIn, ?_⟩) he hpl
  obtain ⟨nm, qn, N, bs, bm, sn, sub, ab, col, dd, k0, k1, k2, k3, k5, hC, hbm⟩ := T.cls
  obtain ⟨hp, g, dr, tk, os⟩ := s1
  have up1 : hp.objs.size ≤ hp.objs.size + 1 := Nat.le_succ _
  refine PySem.W.call_B F.excBase_ValueError (fun Y => PySem.HandSPX.refsVE_contains Y bm hbm) (I1.kIn _ _ hC) (PySem.W.looks_findIn I1.kIn iC) (by rw [List.nil_append, ← Paired.length r, sizeLine_eq]; omega) fun h' kk here _ => ?_
  exact ⟨V.ref (hp.objs.size + 1), _, I1.laid (t' := tk) kk up1 (exo_ok here), rfl, q _ (I1.hok.fresh up1)⟩
end
/-- isinstance(e, c), an exception without a field -/
def rIsX0 (K : PySem.W.Frag) : List V → Hp → VK → Prop := fun xs H Q => ∃ (a C : Addr) (c : V) (cv : Value) (b : Bool), xs = [.ref a, c] ∧ Xask K C ∧ H a = some (exo a C none) ∧ (∀ u, RelV c u → u = cv) ∧ PySem.W.kitOne K (.ref C) cv = some b ∧ Q (.bl b) H
theorem call_isX0 {X : Cx} : CallR X (.builtin "isinstance") (rIsX0 X.K) := by
  intro pins s σ H xs us Q I r h
  obtain ⟨a, C, c, cv, b, rfl, T, x, hcv, e, q⟩ := h
  cases r with
  | cons rx rr =>
    cases rr with
    | cons rt rr =>
      cases rr
      cases rx
      obtain rfl := hcv _ rt
      obtain ⟨t1, ho⟩ := exo_at I.hok x
      have J : PySem.W.InstAt s.heap a { cls := .ref C, dict := none, data := .fields #[.ref t1, .none, .none, .none, .bool false, .none] } C none := ⟨ho, rfl, rfl, trivial⟩
      obtain ⟨cd, hcd, _⟩ := PySem.W.any_some T.hd
      exact PySem.W.kia_one (PySem.W.kitx_exc (od := none) (by rw [hcd]; rfl) T.ga T.gg T.ex T.ca T.cn T.ct T.cm) I.kIn J e (fun z => nomatch z) fun tk => ⟨.bl b, H, I.kept (t' := tk) fun _ _ z => z, rfl, q⟩
end L2

namespace Ax
open PySem L2 PyProof.Rows
theorem show_int {n : Int} (h : n.natAbs.log2 < 1920) : ShowOk (.int n) := by
  refine ⟨by simp [PyData.showable, h], ?_, by simp [PyData.depth]⟩
  have l1 := PyProof.Rows.int_text_len_1921 h
  simp only [PyData.shown]
  omega
theorem show_ints {n : Int} (h : n.natAbs.log2 < 1920) : ShowOk (.list [.int n]) ∧ ShowOk (.list [.int n, .str "more"]) := by
  have l1 := PyProof.Rows.int_text_len_1921 h
  have e3 : (Str.ofString "").length = 0 := rfl
  refine ⟨⟨by simp [PyData.showable, PyData.showableAll, h], ?_, by simp [PyData.depth, PyData.depthAll]⟩, ⟨by simp [PyData.showable, PyData.showableAll, h], ?_, by simp [PyData.depth, PyData.depthAll]⟩⟩
  · simp only [PyData.shown, PyData.shownAll]
    rw [listText_one, strLen_append, strLen_append, strLen_append]
    have e1 : (Str.ofString "[").length = 1 := rfl
    have e2 : (Str.ofString "]").length = 1 := rfl
    omega
  · simp only [PyData.shown, PyData.shownAll]
    have t := textFrom_length_pos [reprText "more"] 1 (("[" : Str) ++ (if (0 : Nat) > 0 then ", " else "" : String) ++ (Str.ofString (toString n))) (Nat.succ_pos 0)
    have hX : (listText [Str.ofString (toString n), reprText "more"]).length = (textFrom 1 (("[" : Str) ++ (if (0 : Nat) > 0 then ", " else "" : String) ++ (Str.ofString (toString n))) [reprText "more"]).length + 1 := by
      show (textFrom 0 "[" [Str.ofString (toString n), reprText "more"] ++ "]").length = _
      rw [strLen_append]
      rfl
    rw [hX, t, strLen_append, strLen_append]
    have e1 : ("[" : Str).length = 1 := rfl
    have e2 : (Str.ofString (if (0 : Nat) > 0 then ", " else "")).length = 0 := rfl
    have e4 : piled [reprText "more"] = 8 := by decide +kernel
    omega
theorem show_x : ∀ k < 9, ShowOk (.str (Txt.mul "x" (k : Nat))) ∧ MulOk "x" (k : Nat) := by
  intro k hk
  have h : ∀ k < 9, (PyData.str (Txt.mul "x" ((k : Nat) : Int))).showable = true ∧ (PyData.str (Txt.mul "x" ((k : Nat) : Int))).shown.length ≤ 4000 ∧ (PyData.str (Txt.mul "x" ((k : Nat) : Int))).depth ≤ 6 := by decide +kernel
  obtain ⟨h1, h2, h3⟩ := h k hk
  exact ⟨⟨h1, h2, h3⟩, (by unfold MulOk; decide +kernel : ∀ k < 9, MulOk "x" ((k : Nat) : Int)) k hk⟩
theorem mkw {K : PySem.W.Frag} {C : Addr} {H : Hp} {v : V} {R : Addr → Hp → Prop} (T : OexC K C) (no : PySem.W.findIn K (.ref C) "value" = some none) (h : ∀ (H' : Hp) (a : Addr), Same H H' → H a = none → Xat H' a C [("value", v)] → R a H') :
    ∀ a, H a = none → spXi K C [.ref a, v] (upd H a (exo a C none)) (fun u H3 => u = .non ∧ R a H3) (fun _ _ _ => False) := fun a ha =>
  mkv (Q := fun x H3 => ∀ b, x = .ref b → R b H3) T no (fun H' a s z x b e => by cases e; exact h H' a s z x) a ha |> fun z => by
    obtain ⟨a', v', e, h1, h2, h3, q⟩ := z
    exact ⟨a', v', e, h1, h2, h3, fun d hd nd => ⟨(q d hd nd).1, (q d hd nd).2 a rfl⟩⟩
/-- the value that is given -/
structure Giv (K : PySem.W.Frag) (H : Hp) (v : V) (d : PyData) : Prop where
  dx : Dx K H v d
  so : ShowOk d
  ty : ∃ (t : Value) (b : Bool), TyX K H v t ∧ PySem.W.kitOne K t (.type "list") = some b ∧ (b = true → ∃ l xs d', v = .ref l ∧ H l = some (.lst xs) ∧ xs.length ≤ 9 ∧ ShowOk d' ∧ ∀ H' : Hp, (∀ c o, c ≠ l → H c = some o → H' c = some o) → H' l = some (.lst (xs ++ [.str "more"])) → Dx K H' v d')
theorem tyX_mono {K : PySem.W.Frag} {H H' : Hp} (s : Same H H') {v : V} {t : Value} (h : TyX K H v t) : TyX K H' v t := by
  cases h with
  | base h =>
    cases h with
    | non => exact .base .non
    | bl x => exact .base (.bl x)
    | int x => exact .base (.int x)
    | str x => exact .base (.str x)
    | flt x => exact .base (.flt x)
    | lst e => exact .base (.lst (s _ _ e))
    | frz e => exact .base (.frz (s _ _ e))
    | tup e => exact .base (.tup (s _ _ e))
    | dK e => exact .base (.dK (s _ _ e))
    | dT e => exact .base (.dT (s _ _ e))
    | ins e c1 c2 c3 c4 c5 => exact .base (.ins (s _ _ e) c1 c2 c3 c4 c5)
  | byt b => exact .byt b
  | set e => exact .set (s _ _ e)
  | kList e c => exact .kList e c
  | kTuple e c => exact .kTuple e c
  | kDict e c => exact .kDict e c
  | fTuple e => exact .fTuple (s _ _ e)
  | fDict e => exact .fDict (s _ _ e)
theorem Giv.same {K : PySem.W.Frag} {H H' : Hp} (s : Same H H') {v : V} {d : PyData} (g : Giv K H v d) : Giv K H' v d := by
  obtain ⟨dx, so, t, b, ty, kt, z⟩ := g
  refine ⟨dx.same s, so, t, b, tyX_mono s ty, kt, fun hb => ?_⟩
  obtain ⟨l, xs, d', e, hl, n9, so', k⟩ := z hb
  exact ⟨l, xs, d', e, s _ _ hl, n9, so', fun H2 k2 h2 => k H2 (fun c o nc e => k2 c o nc (s _ _ e)) h2⟩
theorem giv_non {K : PySem.W.Frag} {H : Hp} : Giv K H .non .none := ⟨.dp .non (by simp [PyData.hasDict]), ⟨by decide +kernel, by decide +kernel, by decide +kernel⟩, _, false, .base .non, kit_ty (by decide +kernel), fun z => by cases z⟩
theorem giv_bl {K : PySem.W.Frag} {H : Hp} : Giv K H (.bl true) (.bool true) := ⟨.dp (.bl _) (by simp [PyData.hasDict]), ⟨by decide +kernel, by decide +kernel, by decide +kernel⟩, _, false, .base (.bl _), kit_ty (by decide +kernel), fun z => by cases z⟩
theorem giv_int {K : PySem.W.Frag} {H : Hp} {n : Int} (h : n.natAbs.log2 < 1920) : Giv K H (.int n) (.int n) := ⟨.dp (.int _) (by simp [PyData.hasDict]), show_int h, _, false, .base (.int _), kit_ty (by decide +kernel), fun z => by cases z⟩
theorem giv_str {K : PySem.W.Frag} {H : Hp} {x : Str} (h : ShowOk (.str x)) : Giv K H (.str x) (.str x) := ⟨.dp (.str _) (by simp [PyData.hasDict]), h, _, false, .base (.str _), kit_ty (by decide +kernel), fun z => by cases z⟩
theorem giv_tup {K : PySem.W.Frag} {H : Hp} {a : Addr} (h : H a = some (.tup [])) : Giv K H (.ref a) (.tuple []) := ⟨.dp (.tup (SqT.of h) .nil) (by simp [PyData.hasDict, PyData.hasDictAll]), ⟨by decide +kernel, by decide +kernel, by decide +kernel⟩, _, false, .base (.tup h), kit_ty (by decide +kernel), fun z => by cases z⟩
theorem giv_dict {K : PySem.W.Frag} {H : Hp} {a : Addr} (h : H a = some (.dK [])) : Giv K H (.ref a) (.dict []) := ⟨.emp h, ⟨by decide +kernel, by decide +kernel, by decide +kernel⟩, _, false, .base (.dK h), kit_ty (by decide +kernel), fun z => by cases z⟩
theorem giv_one {K : PySem.W.Frag} {H : Hp} {a : Addr} {n : Int} (hn : n.natAbs.log2 < 1920) (h : H a = some (.lst [.int n])) : Giv K H (.ref a) (.list [.int n]) :=
  ⟨.dp (.lst (SqL.of h) (.cons (.int _) .nil)) (by simp [PyData.hasDict, PyData.hasDictAll]), (show_ints hn).1, _, true, .base (.lst h), kit_ty (by decide +kernel), fun _ => ⟨a, _, .list [.int n, .str "more"], rfl, h, (by show 1 ≤ 9; decide), (show_ints hn).2, fun H' _ h' => .dp (.lst (SqL.of h') (.cons (.int _) (.cons (.str _) .nil))) (by simp [PyData.hasDict, PyData.hasDictAll])⟩⟩
theorem giv_two {K : PySem.W.Frag} {H : Hp} {a l m : Addr} (h : H a = some (.lst [.ref l, .ref m])) (hl : H l = some (.lst [])) (hm : H m = some (.lst [.str "a"])) : Giv K H (.ref a) (.list [.list [], .list [.str "a"]]) := by
  have nl : l ≠ a := ne_of hl h (fun z => by cases z)
  have nm : m ≠ a := ne_of hm h (fun z => by cases z)
  refine ⟨.dp (.lst (SqL.of h) (.cons (.lst (SqL.of hl) .nil) (.cons (.lst (SqL.of hm) (.cons (.str _) .nil)) .nil))) (by simp [PyData.hasDict, PyData.hasDictAll]), ⟨by decide +kernel, by decide +kernel, by decide +kernel⟩, _, true, .base (.lst h), kit_ty (by decide +kernel), fun _ => ⟨a, _, .list [.list [], .list [.str "a"], .str "more"], rfl, h, (by show 2 ≤ 9; decide), ⟨by decide +kernel, by decide +kernel, by decide +kernel⟩, fun H' k h' => ?_⟩⟩
  exact .dp (.lst (SqL.of h') (.cons (.lst (SqL.of (k _ _ nl hl)) .nil) (.cons (.lst (SqL.of (k _ _ nm hm)) (.cons (.str _) .nil)) (.cons (.str _) .nil)))) (by simp [PyData.hasDict, PyData.hasDictAll])
theorem Errs.upd {A : Adr} {v : V} {H : Hp} {l : Addr} {xs ys : List V} {es : List Addr} (h : H l = some (.lst xs)) (x : Errs A v H es) : Errs A v (upd H l (.lst ys)) es :=
  ⟨x.1, fun j e he => by
    obtain ⟨C, h1, d, h2, h3⟩ := x.2 j e he
    exact ⟨C, h1, d, by rw [upd_ne (ne_of h2 h (fun z => by cases z))]; exact h2, by rw [upd_ne (ne_of h3 h (fun z => by cases z))]; exact h3⟩⟩
theorem errs_mk {A : Adr} {v : V} {H : Hp} {a1 a2 a3 a4 a5 a6 a7 a8 : Addr} (x1 : Xat H a1 A.e_InvalidRule [("value", v)]) (x2 : Xat H a2 A.e_InvalidRange [("value", v)]) (x3 : Xat H a3 A.e_InvalidSet [("value", v)]) (x4 : Xat H a4 A.e_InvalidBase [("value", v)])
    (x5 : Xat H a5 A.e_InvalidNumber [("value", v)]) (x6 : Xat H a6 A.e_InvalidFactor [("value", v)]) (x7 : Xat H a7 A.e_InvalidEnd [("value", v)]) (x8 : Xat H a8 A.e_InvalidRules [("value", v)]) : Errs A v H [a1, a2, a3, a4, a5, a6, a7, a8] :=
  ⟨rfl, fun j e h => by
    match j, h with
    | 0, h => cases h; exact ⟨_, rfl, x1⟩
    | 1, h => cases h; exact ⟨_, rfl, x2⟩
    | 2, h => cases h; exact ⟨_, rfl, x3⟩
    | 3, h => cases h; exact ⟨_, rfl, x4⟩
    | 4, h => cases h; exact ⟨_, rfl, x5⟩
    | 5, h => cases h; exact ⟨_, rfl, x6⟩
    | 6, h => cases h; exact ⟨_, rfl, x7⟩
    | 7, h => cases h; exact ⟨_, rfl, x8⟩
    | n + 8, h => cases h⟩
end Ax

namespace Ax
open PySem L2
theorem absP {F : Hp → Prop} {H : Hp} (P : Hp → Prop) (p : P H) (h : ∀ H', P H' → F H') : F H := h H p
theorem log_sm {n : Int} (h : n.natAbs < 2 ^ 1920) : n.natAbs.log2 < 1920 := by
  by_cases z : n.natAbs = 0
  · rw [z]
    decide
  · exact (Nat.log2_lt z).mpr h
section
variable {P : Program} {w : World} {K : PySem.W.Frag} {mg : Str → Option Value} {base : Heap} {A : Adr}
def spLaw (K : PySem.W.Frag) : Sp := fun vs H Q _ => ∃ (a : Addr) (ns : List Int), vs = [.ref a] ∧ SqL K H a (ns.map V.int) ∧ ns.length ≤ 63 ∧ ∀ H', Q (.bl true) H'
abbrev nm_law : List Str := ["_law_script", "_law_purse_here", "_law_number", "_law_given", "_law_placed", "_law_named", "_law_bare"]
theorem sc_law : FnScope ["_law_script", "_law_purse_here", "_law_number", "_law_given", "_law_placed", "_law_named", "_law_bare"] ["_law_script"] (defScope s_law) := ⟨rfl, rfl, rfl, by decide +kernel, rfl, by decide +kernel, by decide +kernel⟩
theorem ok_law (T : Txt K mg A w) : FnG P w K mg base 3 A.a_law A.d_law ["_law_script"] (spLaw K) := by
  have G_law_purse : FnOk P w K mg base CX0 1 A.a_law_purse A.d_law_purse ["_law_script", "_law_at"] (spPurse K) := ok_purse T
  have G_law_draw : FnOk P w K mg base CX0 1 A.a_law_draw A.d_law_draw ["_law_purse_here", "_law_many"] spDraw := ok_draw T
  have G_law_pick : FnOk P w K mg base CX0 2 A.a_law_pick A.d_law_pick ["_law_purse_here", "_law_items"] spPick := ok_pick T
  have G_law_right : FnG P w K mg base 2 A.a_law_right A.d_law_right ["_law_errors", "_law_given"] (spRight K A) := ok_right T
  obtain ⟨g_InvalidRule, k_InvalidRule⟩ := bk_InvalidRule T
  obtain ⟨d_InvalidRule, v_InvalidRule, b_InvalidRule⟩ := b1_InvalidRule T
  obtain ⟨g_InvalidRange, k_InvalidRange⟩ := bk_InvalidRange T
  obtain ⟨d_InvalidRange, v_InvalidRange, b_InvalidRange⟩ := b1_InvalidRange T
  obtain ⟨g_InvalidSet, k_InvalidSet⟩ := bk_InvalidSet T
  obtain ⟨d_InvalidSet, v_InvalidSet, b_InvalidSet⟩ := b1_InvalidSet T
  obtain ⟨g_InvalidBase, k_InvalidBase⟩ := bk_InvalidBase T
  obtain ⟨d_InvalidBase, v_InvalidBase, b_InvalidBase⟩ := b1_InvalidBase T
  obtain ⟨g_InvalidNumber, k_InvalidNumber⟩ := bk_InvalidNumber T
  obtain ⟨d_InvalidNumber, v_InvalidNumber, b_InvalidNumber⟩ := b1_InvalidNumber T
  obtain ⟨g_InvalidFactor, k_InvalidFactor⟩ := bk_InvalidFactor T
  obtain ⟨d_InvalidFactor, v_InvalidFactor, b_InvalidFactor⟩ := b1_InvalidFactor T
  obtain ⟨g_InvalidEnd, k_InvalidEnd⟩ := bk_InvalidEnd T
  obtain ⟨d_InvalidEnd, v_InvalidEnd, b_InvalidEnd⟩ := b1_InvalidEnd T
  obtain ⟨g_InvalidRules, k_InvalidRules⟩ := bk_InvalidRules T
  obtain ⟨d_InvalidRules, v_InvalidRules, b_InvalidRules⟩ := b1_InvalidRules T
  refine fnG (T.F_law) sc_law (fun vs H Q E h => ?_) (fun cdv A0 outer s H vs Q E hg hr h => ?_)
  · obtain ⟨a, ns, rfl, _⟩ := h
    rfl
  · obtain ⟨a, ns, rfl, hS, hlen, q⟩ := h
    refine ⟨_, (pss_cons (ps_set (i := 1) sc_law.nd rfl (Or.inl rfl) (pe_call G_law_purse (hr.mono (by decide)) (by rfl) T.m_law_purse T.F_law_purse.kp T.B_law_purse .nil pass0 (pa_cons (pv 0) (pa_cons pe_int pa_nil))))
  (pss_cons (ps_set (i := 2) sc_law.nd rfl (Or.inl rfl) (pe_op op_add (pe_op op_mulW (pe_call G_law_draw (hr.mono (by decide)) (by rfl) T.m_law_draw T.F_law_draw.kp T.B_law_draw .nil pass0 (pa_cons (pv 1) (pa_cons (pe_op op_pow pe_int pe_int) pa_nil))) (pe_op op_pow pe_int pe_int)) (pe_call G_law_draw (hr.mono (by decide)) (by rfl) T.m_law_draw T.F_law_draw.kp T.B_law_draw .nil pass0 (pa_cons (pv 1) (pa_cons (pe_op op_pow pe_int pe_int) pa_nil)))))
  (pss_cons (ps_set (i := 3) sc_law.nd rfl (Or.inl rfl) (pe_call G_law_pick (hr.mono (by decide)) (by rfl) T.m_law_pick T.F_law_pick.kp T.B_law_pick .nil pass0 (pa_cons (pv 1) (pa_cons (pe_lst (pa_cons pe_non (pa_cons pe_bl (pa_cons (pv 2) (pa_cons (pe_op op_sub pe_int (pv 2)) (pa_cons (pe_op op_repS pe_str (pe_call G_law_draw (hr.mono (by decide)) (by rfl) T.m_law_draw T.F_law_draw.kp T.B_law_draw .nil pass0 (pa_cons (pv 1) (pa_cons pe_int pa_nil)))) (pa_cons (pe_tup pa_nil) (pa_cons (pe_lst (pa_cons (pv 2) pa_nil)) (pa_cons (pe_lst (pa_cons (pe_lst pa_nil) (pa_cons (pe_lst (pa_cons pe_str pa_nil)) pa_nil))) (pa_cons pe_dnewK pa_nil)))))))))) pa_nil))))
  (pss_cons (ps_set (i := 4) sc_law.nd rfl (Or.inl rfl) (pe_lst (pa_cons (pe_xv (mk_InvalidRule T rfl rfl rfl rfl rfl pass0) (hr.mono (by decide)) (b2_InvalidRule T) .nil rfl T.x_InvalidRule.mgC (pa_cons (pv 3) pa_nil)) (pa_cons (pe_xv (mk_InvalidRange T rfl rfl rfl rfl rfl pass0) (hr.mono (by decide)) (b2_InvalidRange T) .nil rfl T.x_InvalidRange.mgC (pa_cons (pv 3) pa_nil)) (pa_cons (pe_xv (mk_InvalidSet T rfl rfl rfl rfl rfl pass0) (hr.mono (by decide)) (b2_InvalidSet T) .nil rfl T.x_InvalidSet.mgC (pa_cons (pv 3) pa_nil)) (pa_cons (pe_xv (mk_InvalidBase T rfl rfl rfl rfl rfl pass0) (hr.mono (by decide)) (b2_InvalidBase T) .nil rfl T.x_InvalidBase.mgC (pa_cons (pv 3) pa_nil)) (pa_cons (pe_xv (mk_InvalidNumber T rfl rfl rfl rfl rfl pass0) (hr.mono (by decide)) (b2_InvalidNumber T) .nil rfl T.x_InvalidNumber.mgC (pa_cons (pv 3) pa_nil)) pa_nil)))))))
  (pss_cons (ps_set (i := 4) sc_law.nd rfl (Or.inl rfl) (pe_op op_cat (pv 4) (pe_lst (pa_cons (pe_xv (mk_InvalidFactor T rfl rfl rfl rfl rfl pass0) (hr.mono (by decide)) (b2_InvalidFactor T) .nil rfl T.x_InvalidFactor.mgC (pa_cons (pv 3) pa_nil)) (pa_cons (pe_xv (mk_InvalidEnd T rfl rfl rfl rfl rfl pass0) (hr.mono (by decide)) (b2_InvalidEnd T) .nil rfl T.x_InvalidEnd.mgC (pa_cons (pv 3) pa_nil)) (pa_cons (pe_xv (mk_InvalidRules T rfl rfl rfl rfl rfl pass0) (hr.mono (by decide)) (b2_InvalidRules T) .nil rfl T.x_InvalidRules.mgC (pa_cons (pv 3) pa_nil)) pa_nil))))))
  (pss_cons (ps_set (i := 5) sc_law.nd rfl (Or.inl rfl) (pe_lst (pa_cons (pe_xvK (mk_InvalidRule T rfl rfl rfl rfl rfl pass0) (hr.mono (by decide)) k_InvalidRule rfl T.x_InvalidRule.mgC (pv 3)) (pa_cons (pe_xvK (mk_InvalidRange T rfl rfl rfl rfl rfl pass0) (hr.mono (by decide)) k_InvalidRange rfl T.x_InvalidRange.mgC (pv 3)) (pa_cons (pe_xvK (mk_InvalidSet T rfl rfl rfl rfl rfl pass0) (hr.mono (by decide)) k_InvalidSet rfl T.x_InvalidSet.mgC (pv 3)) (pa_cons (pe_xvK (mk_InvalidBase T rfl rfl rfl rfl rfl pass0) (hr.mono (by decide)) k_InvalidBase rfl T.x_InvalidBase.mgC (pv 3)) pa_nil))))))
  (pss_cons (ps_set (i := 5) sc_law.nd rfl (Or.inl rfl) (pe_op op_cat (pv 5) (pe_lst (pa_cons (pe_xvK (mk_InvalidNumber T rfl rfl rfl rfl rfl pass0) (hr.mono (by decide)) k_InvalidNumber rfl T.x_InvalidNumber.mgC (pv 3)) (pa_cons (pe_xvK (mk_InvalidFactor T rfl rfl rfl rfl rfl pass0) (hr.mono (by decide)) k_InvalidFactor rfl T.x_InvalidFactor.mgC (pv 3)) (pa_cons (pe_xvK (mk_InvalidEnd T rfl rfl rfl rfl rfl pass0) (hr.mono (by decide)) k_InvalidEnd rfl T.x_InvalidEnd.mgC (pv 3)) pa_nil))))))
  (pss_cons (ps_expr (pe_bm PySem.F.plainAttrs_list PySem.F.slot_list_append PySem.F.type_list_append mt_append (pv 5) (pa_cons (pe_xvK (mk_InvalidRules T rfl rfl rfl rfl rfl pass0) (hr.mono (by decide)) k_InvalidRules rfl T.x_InvalidRules.mgC (pv 3)) pa_nil)))
  (pss_cons (ps_set (i := 6) sc_law.nd rfl (Or.inl rfl) (pe_lst (pa_cons (pe_xv0 (mk_InvalidRule T rfl rfl rfl rfl rfl pass0) (hr.mono (by decide)) b_InvalidRule v_InvalidRule rfl T.x_InvalidRule.mgC) (pa_cons (pe_xv0 (mk_InvalidRange T rfl rfl rfl rfl rfl pass0) (hr.mono (by decide)) b_InvalidRange v_InvalidRange rfl T.x_InvalidRange.mgC) (pa_cons (pe_xv0 (mk_InvalidSet T rfl rfl rfl rfl rfl pass0) (hr.mono (by decide)) b_InvalidSet v_InvalidSet rfl T.x_InvalidSet.mgC) (pa_cons (pe_xv0 (mk_InvalidBase T rfl rfl rfl rfl rfl pass0) (hr.mono (by decide)) b_InvalidBase v_InvalidBase rfl T.x_InvalidBase.mgC) (pa_cons (pe_xv0 (mk_InvalidNumber T rfl rfl rfl rfl rfl pass0) (hr.mono (by decide)) b_InvalidNumber v_InvalidNumber rfl T.x_InvalidNumber.mgC) (pa_cons (pe_xv0 (mk_InvalidFactor T rfl rfl rfl rfl rfl pass0) (hr.mono (by decide)) b_InvalidFactor v_InvalidFactor rfl T.x_InvalidFactor.mgC) (pa_cons (pe_xv0 (mk_InvalidEnd T rfl rfl rfl rfl rfl pass0) (hr.mono (by decide)) b_InvalidEnd v_InvalidEnd rfl T.x_InvalidEnd.mgC) pa_nil)))))))))
  (pss_cons (ps_expr (pe_bm PySem.F.plainAttrs_list PySem.F.slot_list_append PySem.F.type_list_append mt_append (pv 6) (pa_cons (pe_xv0 (mk_InvalidRules T rfl rfl rfl rfl rfl pass0) (hr.mono (by decide)) b_InvalidRules v_InvalidRules rfl T.x_InvalidRules.mgC) pa_nil)))
  (pss_cons (ps_if (PW.pt (pw_or (pt_not (pt_val (pe_callG G_law_right hg (hr.mono (by decide)) (by rfl) T.m_law_right T.F_law_right.kp T.B_law_right pass0 (pa_cons (pv 4) (pa_cons (pv 3) pa_nil))))) (pw_or (pt_not (pt_val (pe_callG G_law_right hg (hr.mono (by decide)) (by rfl) T.m_law_right T.F_law_right.kp T.B_law_right pass0 (pa_cons (pv 5) (pa_cons (pv 3) pa_nil))))) (pw_or1 (pt_not (pt_val (pe_callG G_law_right hg (hr.mono (by decide)) (by rfl) T.m_law_right T.F_law_right.kp T.B_law_right pass0 (pa_cons (pv 6) (pa_cons pe_non pa_nil))))))))) (pss_one (ps_ret pe_bl)) pss_nil)
  (pss_cons (ps_if (pt_val (pe_callB call_isi (by rfl) T.n_isinstance (by decide +kernel) (pa_cons (pv 3) (pa_cons (pe_bltn (v := .ty "list") (by rfl) T.n_list (by decide +kernel) rfl) pa_nil)))) (pss_cons (ps_expr (pe_bm PySem.F.plainAttrs_list PySem.F.slot_list_append PySem.F.type_list_append mt_append (pv 3) (pa_cons pe_str pa_nil)))
  (pss_one (ps_ret (pe_and (pe_callG G_law_right hg (hr.mono (by decide)) (by rfl) T.m_law_right T.F_law_right.kp T.B_law_right pass0 (pa_cons (pv 4) (pa_cons (pv 3) pa_nil))) (pe_one (pe_callG G_law_right hg (hr.mono (by decide)) (by rfl) T.m_law_right T.F_law_right.kp T.B_law_right pass0 (pa_cons (pv 5) (pa_cons (pv 3) pa_nil)))))))) pss_nil)
  (pss_one (ps_ret (pe_callB call_isX0 (by rfl) T.n_isinstance (by decide +kernel) (pa_cons (pe_xb T.x_base.oex T.x_base.ini rfl T.m_AxisTicksError (pa_cons pe_str pa_nil)) (pa_cons (pe_bltn (v := .ty "ValueError") (by rfl) T.n_ValueError (by decide +kernel) rfl) pa_nil))))))))))))))))), ?_⟩
    refine ⟨_, rfl, a, ns, 0, rfl, hS, hlen, fun H1 p s1 p0 P1 => ?_⟩
    refine ⟨_, rfl, _, _, rfl, rfl, ⟨by decide, by decide, by decide⟩, p, _, 0, rfl, P1, by decide, by decide +kernel, small2000 (by decide +kernel), fun H2 d1 k2 P2 d10 d11 => ?_⟩
    have d12 : d1 < 2 ^ 20 := Int.lt_trans d11 (by decide +kernel)
    refine ⟨_, _, rfl, rfl, ⟨by decide, by decide, by decide⟩, _, _, rfl, rfl, wide_mul (a := 64) (b := 128) (abs_lt_pow d10 (Int.lt_trans d12 (by decide +kernel))) (by decide +kernel) (by decide) (by decide) (by decide), ?_⟩
    refine ⟨_, rfl, _, _, rfl, rfl, ⟨by decide, by decide, by decide⟩, p, _, 1, rfl, P2, by decide, by decide +kernel, small2000 (by decide +kernel), fun H3 d2 k3 P3 d20 d21 => ?_⟩
    have d22 : d2 < 2 ^ 20 := Int.lt_trans d21 (by decide +kernel)
    refine ⟨_, _, rfl, rfl, ?_⟩
    obtain ⟨n, en⟩ : ∃ n : Int, n = d1 * 10 ^ (33 : Int).toNat + d2 := ⟨_, rfl⟩
    have n0 : 0 ≤ n := by
      rw [en]
      exact Int.add_nonneg (Int.mul_nonneg d10 (by decide +kernel)) d20
    have nB : n.natAbs < 2 ^ 1920 := by
      refine abs_lt_pow n0 ?_
      have e33 : (10 : Int) ^ (33 : Int).toNat = 1000000000000000000000000000000000 := by decide +kernel
      have e20 : (2 : Int) ^ 20 = 1048576 := by decide +kernel
      have z : n < 2000000000000000000000000000000000000000000 := by
        rw [en, e33]
        omega
      exact Int.lt_trans z (by decide +kernel)
    have nL := log_sm nB
    have mL : (0 - n).natAbs.log2 < 1920 := log_sm (by rw [Int.zero_sub, Int.natAbs_neg]; exact nB)
    refine gN (σ' := [some (.ref a), some (.ref p), some (.int n), none, none, none, none]) (by subst en; rfl) ?_
    refine ⟨_, rfl, _, rfl, _, rfl, _, _, rfl, rfl, ?_⟩
    refine ⟨_, rfl, p, _, 2, rfl, P3, by decide, by decide, small2000 (by decide +kernel), fun H4 k k4 P4 k0 k9 => ?_⟩
    obtain ⟨sx, mx⟩ := show_x k.toNat (by omega)
    rw [Int.toNat_of_nonneg k0] at sx mx
    refine ⟨_, _, rfl, rfl, mx, (by decide), fun t1 ht1 => ?_⟩
    have u1 := same_new (o := .tup []) ht1
    refine ⟨_, rfl, (by show 1 ≤ sizeLine; decide), fun t2 ht2 => ?_⟩
    have u2 := same_new (o := .lst [.int n]) ht2
    refine ⟨(by decide), fun t3 ht3 => ?_⟩
    have u3 := same_new (o := .lst []) ht3
    refine ⟨(by decide), fun t4 ht4 => ?_⟩
    have u4 := same_new (o := .lst [.str "a"]) ht4
    refine ⟨(by show 2 ≤ sizeLine; decide), fun t5 ht5 => ?_⟩
    have u5 := same_new (o := .lst [.ref t3, .ref t4]) ht5
    intro t6 ht6
    have u6 := same_new (o := .dK []) ht6
    refine ⟨(by show 9 ≤ sizeLine; decide), fun t7 ht7 => ?_⟩
    have u7 := same_new (o := .lst [.non, .bl true, .int n, .int (0 - n), .str (Txt.mul "x" k), .ref t1, .ref t2, .ref t5, .ref t6]) ht7
    have s27 := u3.trans (u4.trans (u5.trans (u6.trans u7)))
    have s47 := u1.trans (u2.trans s27)
    have P7 := P4.same s47
    have n1 := P4.ne ht1
    have n2 := (P4.same u1).ne ht2
    have n3 := ((P4.same u1).same u2).ne ht3
    have n4 := (((P4.same u1).same u2).same u3).ne ht4
    have n5 := ((((P4.same u1).same u2).same u3).same u4).ne ht5
    have n6 := (((((P4.same u1).same u2).same u3).same u4).same u5).ne ht6
    have n7 := ((((((P4.same u1).same u2).same u3).same u4).same u5).same u6).ne ht7
    refine ⟨p, t7, _, 3, rfl, P7, by decide, upd_same, n7, (by show 0 < 9; decide), (by show 9 ≤ 1000; decide), fun H5 i v k5 P5 hi => ?_⟩
    have giv : ∃ d, Giv K H5 v d := by
      have w1 : H5 t1 = some (.tup []) := k5 _ _ n1 (u2.trans s27 _ _ upd_same)
      have w2 : H5 t2 = some (.lst [.int n]) := k5 _ _ n2 (s27 _ _ upd_same)
      have w3 : H5 t3 = some (.lst []) := k5 _ _ n3 (u4.trans (u5.trans (u6.trans u7)) _ _ upd_same)
      have w4 : H5 t4 = some (.lst [.str "a"]) := k5 _ _ n4 (u5.trans (u6.trans u7) _ _ upd_same)
      have w5 : H5 t5 = some (.lst [.ref t3, .ref t4]) := k5 _ _ n5 (u6.trans u7 _ _ upd_same)
      have w6 : H5 t6 = some (.dK []) := k5 _ _ n6 (u7 _ _ upd_same)
      match i, hi with
      | 0, hi => cases hi; exact ⟨_, giv_non⟩
      | 1, hi => cases hi; exact ⟨_, giv_bl⟩
      | 2, hi => cases hi; exact ⟨_, giv_int nL⟩
      | 3, hi => cases hi; exact ⟨_, giv_int mL⟩
      | 4, hi => cases hi; exact ⟨_, giv_str sx⟩
      | 5, hi => cases hi; exact ⟨_, giv_tup w1⟩
      | 6, hi => cases hi; exact ⟨_, giv_one nL w2⟩
      | 7, hi => cases hi; exact ⟨_, giv_two w5 w3 w4⟩
      | 8, hi => cases hi; exact ⟨_, giv_dict w6⟩
      | n + 9, hi => cases hi
    clear u1 u2 u3 u4 u5 u6 u7 s27 s47 P7 n1 n2 n3 n4 n5 n6 n7 k5 hi ht7 ht6 ht5 ht4 ht3 ht2 ht1 P5
    obtain ⟨d, G⟩ := giv
    refine gN (σ' := [some (.ref a), some (.ref p), some (.int n), some v, none, none, none]) rfl ?_
    refine ⟨_, rfl, Nat.le_refl 1, mkw T.x_InvalidRule.oex T.x_InvalidRule.no fun pE1 pa1 ps1 pf1 px1 => ?_⟩
    refine ⟨_, rfl, Nat.le_refl 1, mkw T.x_InvalidRange.oex T.x_InvalidRange.no fun pE2 pa2 ps2 pf2 px2 => ?_⟩
    refine ⟨_, rfl, Nat.le_refl 1, mkw T.x_InvalidSet.oex T.x_InvalidSet.no fun pE3 pa3 ps3 pf3 px3 => ?_⟩
    refine ⟨_, rfl, Nat.le_refl 1, mkw T.x_InvalidBase.oex T.x_InvalidBase.no fun pE4 pa4 ps4 pf4 px4 => ?_⟩
    refine ⟨_, rfl, Nat.le_refl 1, mkw T.x_InvalidNumber.oex T.x_InvalidNumber.no fun pE5 pa5 ps5 pf5 px5 => ?_⟩
    refine ⟨(by show 5 ≤ sizeLine; decide), fun pl pg => ?_⟩
    have pn := same_new (o := .lst [.ref pa1, .ref pa2, .ref pa3, .ref pa4, .ref pa5]) pg
    refine gN (σ' := [some (.ref a), some (.ref p), some (.int n), some v, some (.ref pl), none, none]) rfl ?_
    refine ⟨_, rfl, ?_⟩
    refine ⟨_, rfl, Nat.le_refl 1, mkw T.x_InvalidFactor.oex T.x_InvalidFactor.no fun pE6 pa6 ps6 pf6 px6 => ?_⟩
    refine ⟨_, rfl, Nat.le_refl 1, mkw T.x_InvalidEnd.oex T.x_InvalidEnd.no fun pE7 pa7 ps7 pf7 px7 => ?_⟩
    refine ⟨_, rfl, Nat.le_refl 1, mkw T.x_InvalidRules.oex T.x_InvalidRules.no fun pE8 pa8 ps8 pf8 px8 => ?_⟩
    refine ⟨(by show 3 ≤ sizeLine; decide), fun pm ph => ?_⟩
    have po := same_new (o := .lst [.ref pa6, .ref pa7, .ref pa8]) ph
    refine ⟨pl, pm, _, _, rfl, rfl, po _ _ (ps8 _ _ (ps7 _ _ (ps6 _ _ upd_same))), upd_same, (by show 5 + 3 ≤ sizeLine; decide), fun L pk => ?_⟩
    have pq := same_new (o := .lst ([.ref pa1, .ref pa2, .ref pa3, .ref pa4, .ref pa5] ++ [.ref pa6, .ref pa7, .ref pa8])) pk
    refine gN (σ' := [some (.ref a), some (.ref p), some (.int n), some v, some (.ref L), none, none]) rfl ?_
    have pf : H5 L = none := (ps1.trans (ps2.trans (ps3.trans (ps4.trans (ps5.trans (pn.trans (ps6.trans (ps7.trans (ps8.trans po))))))))).free pk
    refine absP (fun H6 => Same H5 H6 ∧ H6 L = some (.lst ([pa1, pa2, pa3, pa4, pa5, pa6, pa7, pa8].map V.ref)) ∧ Errs A v H6 [pa1, pa2, pa3, pa4, pa5, pa6, pa7, pa8]) ⟨(ps1.trans (ps2.trans (ps3.trans (ps4.trans (ps5.trans (pn.trans (ps6.trans (ps7.trans (ps8.trans (po.trans pq)))))))))), upd_same, errs_mk (px1.same (ps2.trans (ps3.trans (ps4.trans (ps5.trans (pn.trans (ps6.trans (ps7.trans (ps8.trans (po.trans pq)))))))))) (px2.same (ps3.trans (ps4.trans (ps5.trans (pn.trans (ps6.trans (ps7.trans (ps8.trans (po.trans pq))))))))) (px3.same (ps4.trans (ps5.trans (pn.trans (ps6.trans (ps7.trans (ps8.trans (po.trans pq)))))))) (px4.same (ps5.trans (pn.trans (ps6.trans (ps7.trans (ps8.trans (po.trans pq))))))) (px5.same (pn.trans (ps6.trans (ps7.trans (ps8.trans (po.trans pq)))))) (px6.same (ps7.trans (ps8.trans (po.trans pq)))) (px7.same (ps8.trans (po.trans pq))) (px8.same (po.trans pq))⟩ ?_
    clear pn po pq pg ph pk px1 px2 px3 px4 px5 px6 px7 px8 ps1 ps2 ps3 ps4 ps5 ps6 ps7 ps8 pf1 pf2 pf3 pf4 pf5 pf6 pf7 pf8
    rintro H6 ⟨s56, hL6, er6⟩
    refine ⟨_, rfl, _, rfl, mkw T.x_InvalidRule.oex T.x_InvalidRule.no fun nE1 na1 ns1 nf1 nx1 => ?_⟩
    refine ⟨_, rfl, _, rfl, mkw T.x_InvalidRange.oex T.x_InvalidRange.no fun nE2 na2 ns2 nf2 nx2 => ?_⟩
    refine ⟨_, rfl, _, rfl, mkw T.x_InvalidSet.oex T.x_InvalidSet.no fun nE3 na3 ns3 nf3 nx3 => ?_⟩
    refine ⟨_, rfl, _, rfl, mkw T.x_InvalidBase.oex T.x_InvalidBase.no fun nE4 na4 ns4 nf4 nx4 => ?_⟩
    refine ⟨(by show 4 ≤ sizeLine; decide), fun nl ng => ?_⟩
    have nn := same_new (o := .lst [.ref na1, .ref na2, .ref na3, .ref na4]) ng
    refine gN (σ' := [some (.ref a), some (.ref p), some (.int n), some v, some (.ref L), some (.ref nl), none]) rfl ?_
    refine ⟨_, rfl, ?_⟩
    refine ⟨_, rfl, _, rfl, mkw T.x_InvalidNumber.oex T.x_InvalidNumber.no fun nE5 na5 ns5 nf5 nx5 => ?_⟩
    refine ⟨_, rfl, _, rfl, mkw T.x_InvalidFactor.oex T.x_InvalidFactor.no fun nE6 na6 ns6 nf6 nx6 => ?_⟩
    refine ⟨_, rfl, _, rfl, mkw T.x_InvalidEnd.oex T.x_InvalidEnd.no fun nE7 na7 ns7 nf7 nx7 => ?_⟩
    refine ⟨(by show 3 ≤ sizeLine; decide), fun nm nh => ?_⟩
    have no := same_new (o := .lst [.ref na5, .ref na6, .ref na7]) nh
    refine ⟨nl, nm, _, _, rfl, rfl, no _ _ (ns7 _ _ (ns6 _ _ (ns5 _ _ upd_same))), upd_same, (by show 4 + 3 ≤ sizeLine; decide), fun N nk => ?_⟩
    have nq := same_new (o := .lst ([.ref na1, .ref na2, .ref na3, .ref na4] ++ [.ref na5, .ref na6, .ref na7])) nk
    refine gN (σ' := [some (.ref a), some (.ref p), some (.int n), some v, some (.ref L), some (.ref N), none]) rfl ?_
    refine ⟨_, rfl, .inl ⟨rfl, _, SqL.of upd_same⟩, ?_⟩
    refine ⟨_, rfl, _, rfl, mkw T.x_InvalidRules.oex T.x_InvalidRules.no fun nE8 na8 ns8 nf8 nx8 => ?_⟩
    refine ⟨N, _, _, rfl, rfl, ns8 _ _ upd_same, (by show 7 < sizeLine; decide), ?_⟩
    have nf : H6 N = none := (ns1.trans (ns2.trans (ns3.trans (ns4.trans (nn.trans (ns5.trans (ns6.trans (ns7.trans no)))))))).free nk
    refine absP (fun H7 => Same H6 H7 ∧ H7 N = some (.lst ([na1, na2, na3, na4, na5, na6, na7, na8].map V.ref)) ∧ Errs A v H7 [na1, na2, na3, na4, na5, na6, na7, na8]) ⟨same_upd nf (ns1.trans (ns2.trans (ns3.trans (ns4.trans (nn.trans (ns5.trans (ns6.trans (ns7.trans (no.trans (nq.trans ns8)))))))))), upd_same, Errs.upd (ns8 _ _ upd_same) (errs_mk (nx1.same (ns2.trans (ns3.trans (ns4.trans (nn.trans (ns5.trans (ns6.trans (ns7.trans (no.trans (nq.trans ns8)))))))))) (nx2.same (ns3.trans (ns4.trans (nn.trans (ns5.trans (ns6.trans (ns7.trans (no.trans (nq.trans ns8))))))))) (nx3.same (ns4.trans (nn.trans (ns5.trans (ns6.trans (ns7.trans (no.trans (nq.trans ns8)))))))) (nx4.same (nn.trans (ns5.trans (ns6.trans (ns7.trans (no.trans (nq.trans ns8))))))) (nx5.same (ns6.trans (ns7.trans (no.trans (nq.trans ns8))))) (nx6.same (ns7.trans (no.trans (nq.trans ns8)))) (nx7.same (no.trans (nq.trans ns8))) (nx8.same (Same.refl _)))⟩ ?_
    clear nn no nq ng nh nk nx1 nx2 nx3 nx4 nx5 nx6 nx7 nx8 ns1 ns2 ns3 ns4 ns5 ns6 ns7 ns8 nf1 nf2 nf3 nf4 nf5 nf6 nf7 nf8
    rintro H7 ⟨s67, hN7, er7⟩
    refine ⟨Nat.zero_le 1, mkw T.x_InvalidRule.oex T.x_InvalidRule.no fun bE1 ba1 bs1 bf1 bx1 => ?_⟩
    refine ⟨Nat.zero_le 1, mkw T.x_InvalidRange.oex T.x_InvalidRange.no fun bE2 ba2 bs2 bf2 bx2 => ?_⟩
    refine ⟨Nat.zero_le 1, mkw T.x_InvalidSet.oex T.x_InvalidSet.no fun bE3 ba3 bs3 bf3 bx3 => ?_⟩
    refine ⟨Nat.zero_le 1, mkw T.x_InvalidBase.oex T.x_InvalidBase.no fun bE4 ba4 bs4 bf4 bx4 => ?_⟩
    refine ⟨Nat.zero_le 1, mkw T.x_InvalidNumber.oex T.x_InvalidNumber.no fun bE5 ba5 bs5 bf5 bx5 => ?_⟩
    refine ⟨Nat.zero_le 1, mkw T.x_InvalidFactor.oex T.x_InvalidFactor.no fun bE6 ba6 bs6 bf6 bx6 => ?_⟩
    refine ⟨Nat.zero_le 1, mkw T.x_InvalidEnd.oex T.x_InvalidEnd.no fun bE7 ba7 bs7 bf7 bx7 => ?_⟩
    refine ⟨(by show 7 ≤ sizeLine; decide), fun B bg => ?_⟩
    have bn := same_new (o := .lst [.ref ba1, .ref ba2, .ref ba3, .ref ba4, .ref ba5, .ref ba6, .ref ba7]) bg
    refine gN (σ' := [some (.ref a), some (.ref p), some (.int n), some v, some (.ref L), some (.ref N), some (.ref B)]) rfl ?_
    refine ⟨_, rfl, .inl ⟨rfl, _, SqL.of upd_same⟩, ?_⟩
    refine ⟨Nat.zero_le 1, mkw T.x_InvalidRules.oex T.x_InvalidRules.no fun bE8 ba8 bs8 bf8 bx8 => ?_⟩
    refine ⟨B, _, _, rfl, rfl, bs8 _ _ upd_same, (by show 7 < sizeLine; decide), ?_⟩
    have bf : H7 B = none := (bs1.trans (bs2.trans (bs3.trans (bs4.trans (bs5.trans (bs6.trans bs7)))))).free bg
    refine absP (fun H8 => Same H7 H8 ∧ H8 B = some (.lst ([ba1, ba2, ba3, ba4, ba5, ba6, ba7, ba8].map V.ref)) ∧ Errs A .non H8 [ba1, ba2, ba3, ba4, ba5, ba6, ba7, ba8]) ⟨same_upd bf (bs1.trans (bs2.trans (bs3.trans (bs4.trans (bs5.trans (bs6.trans (bs7.trans (bn.trans bs8)))))))), upd_same, Errs.upd (bs8 _ _ upd_same) (errs_mk (bx1.same (bs2.trans (bs3.trans (bs4.trans (bs5.trans (bs6.trans (bs7.trans (bn.trans bs8)))))))) (bx2.same (bs3.trans (bs4.trans (bs5.trans (bs6.trans (bs7.trans (bn.trans bs8))))))) (bx3.same (bs4.trans (bs5.trans (bs6.trans (bs7.trans (bn.trans bs8)))))) (bx4.same (bs5.trans (bs6.trans (bs7.trans (bn.trans bs8))))) (bx5.same (bs6.trans (bs7.trans (bn.trans bs8)))) (bx6.same (bs7.trans (bn.trans bs8))) (bx7.same (bn.trans bs8)) (bx8.same (Same.refl _)))⟩ ?_
    clear bf bn bg bx1 bx2 bx3 bx4 bx5 bx6 bx7 bx8 bs1 bs2 bs3 bs4 bs5 bs6 bs7 bs8 bf1 bf2 bf3 bf4 bf5 bf6 bf7 bf8
    rintro H8 ⟨s78, hB8, er8⟩
    have s58 := s56.trans (s67.trans s78)
    have G8 := G.same s58
    have hL8 := (s67.trans s78) _ _ hL6
    have er68 := er6.same (s67.trans s78)
    have hN8 := s78 _ _ hN7
    have er78 := er7.same s78
    refine ⟨_, rfl, _, rfl, L, v, d, _, rfl, hL8, er68, G8.dx, G8.so, fun H9 s9 => ⟨_, rfl, iteF ?_⟩⟩
    refine ⟨_, rfl, _, rfl, N, v, d, _, rfl, s9 _ _ hN8, er78.same s9, (G8.same s9).dx, G8.so, fun H10 s10 => ⟨_, rfl, iteF ?_⟩⟩
    have s810 := s9.trans s10
    refine ⟨_, rfl, B, .non, .none, _, rfl, s810 _ _ hB8, er8.same s810, giv_non.dx, (giv_non (K := K) (H := H)).so, fun H11 s11 => ⟨_, rfl, iteF ?_⟩⟩
    have s811 := s810.trans s11
    have hL11 := s811 _ _ hL8
    have hN11 := s811 _ _ hN8
    have er611 := er68.same s811
    have er711 := er78.same s811
    have s511 := s58.trans s811
    obtain ⟨dx, so, t, b, ty, kt, gl⟩ := G
    refine ⟨_, rfl, v, .ty "list", t, .type "list", b, rfl, .ty _, tyX_mono s511 ty, kt, b, rfl, ?_⟩
    cases b with
    | false =>
      refine iteF ?_
      refine ⟨Nat.le_refl 1, fun e he => ?_⟩
      exact ⟨e, A.e_AxisTicksError, _, .type "ValueError", true, rfl, T.x_base.ask, upd_same, fun u h => h, T.x_base.kit, q _⟩
    | true =>
      refine iteT ?_
      obtain ⟨l, xs, d', rfl, hl, n9, so', k⟩ := gl rfl
      have hl11 := s511 _ _ hl
      have nLl : L ≠ l := (ne_of_none hl pf).symm
      have nNl : N ≠ l := (ne_of_none hl (s56.free nf)).symm
      refine ⟨_, rfl, .inl ⟨rfl, _, SqL.of hl11⟩, l, xs, _, rfl, rfl, hl11, by rw [sizeLine_eq]; omega, ?_⟩
      have dx' : Dx K (upd H11 l (.lst (xs ++ [.str "more"]))) (.ref l) d' := k _ (fun c o nc e => by rw [upd_ne nc]; exact s511 _ _ e) upd_same
      refine ⟨_, rfl, _, rfl, L, .ref l, d', _, rfl, by rw [upd_ne nLl]; exact hL11, Errs.upd hl11 er611, dx', so', fun H12 s12 => ?_⟩
      refine ⟨_, rfl, ?_⟩
      refine iteT ?_
      exact ⟨_, rfl, _, rfl, N, .ref l, d', _, rfl, s12 _ _ (by rw [upd_ne nNl]; exact hN11), (Errs.upd hl11 er711).same s12, dx'.same s12, so', fun H13 s13 => q _⟩
end
end Ax

namespace Ax
open PySem PySem.W PyProof.Rows L2
theorem kit_cc {K : PySem.W.Frag} {C D : Addr} {b : Bool} (ne : (C == D) = false) (hd : PySem.W.hasDictIn K D = true) (ty : PySem.W.typeIn K (.ref D) = some (.type "type")) (s : PySem.W.subIn K (.ref C) (.ref D) = some b) : PySem.W.kitOne K (.ref C) (.ref D) = some b := by
  obtain ⟨cd, hcd, _⟩ := PySem.W.any_some hd
  have n : C ≠ D := fun z => by rw [z, beq_self_eq_true] at ne; cases ne
  unfold PySem.W.kitOne
  rw [if_neg (fun z => n (by have e := beq_iff_eq.mp z; cases e; rfl))]
  show (if ((PySem.W.clsIn K D).isSome && PySem.W.typeIn K (.ref D) == some (.type "type")) = true then PySem.W.subIn K (.ref C) (.ref D) else none) = some b
  rw [hcd, ty, s]
  rfl
theorem kit_ve {K : PySem.W.Frag} {C : Addr} {b : Bool} (s : PySem.W.subIn K (.ref C) (.type "ValueError") = some b) : PySem.W.kitOne K (.ref C) (.type "ValueError") = some b := by
  unfold PySem.W.kitOne
  rw [if_neg (fun z => by have e := beq_iff_eq.mp z; cases e)]
  show (if PySem.W.kitMeta "ValueError" = true then PySem.W.subIn K (.ref C) (.type "ValueError") else none) = some b
  rw [s]
  exact if_pos (by decide +kernel)
theorem all_mk {l : PySem.W.OpenLaw} {w : World} {K : PySem.W.Frag} {h : Heap} {mg : Str → Option Value} {fa : Addr} (X : K.In h) (G : h.Ns mainGlobals mg) (hfa : mg "law" = some (.ref fa))
    {C_AxisTicksError N_AxisTicksError : Addr} {nm_AxisTicksError qn_AxisTicksError : Str} {bs_AxisTicksError sb_AxisTicksError : List Value} {sn_AxisTicksError : List Str} {ab_AxisTicksError : Bool} {co_AxisTicksError : Option Bool} {dd_AxisTicksError : Option Addr} {u0_AxisTicksError u1_AxisTicksError u2_AxisTicksError u3_AxisTicksError u5_AxisTicksError : Option Value}
    {C_InvalidRule N_InvalidRule : Addr} {nm_InvalidRule qn_InvalidRule : Str} {bs_InvalidRule sb_InvalidRule : List Value} {sn_InvalidRule : List Str} {ab_InvalidRule : Bool} {co_InvalidRule : Option Bool} {dd_InvalidRule : Option Addr} {u0_InvalidRule u1_InvalidRule u2_InvalidRule u3_InvalidRule u5_InvalidRule : Option Value}
    {f_InvalidRule T_InvalidRule : Addr} {od_InvalidRule an_InvalidRule oe_InvalidRule : Option Addr} {sl_InvalidRule sm_InvalidRule : Array (Option Value)} {oc_InvalidRule kw_InvalidRule dc_InvalidRule pm_InvalidRule cd_InvalidRule ct_InvalidRule ot_InvalidRule : Value} {nn_InvalidRule : Nat}
    {C_InvalidRange N_InvalidRange : Addr} {nm_InvalidRange qn_InvalidRange : Str} {bs_InvalidRange sb_InvalidRange : List Value} {sn_InvalidRange : List Str} {ab_InvalidRange : Bool} {co_InvalidRange : Option Bool} {dd_InvalidRange : Option Addr} {u0_InvalidRange u1_InvalidRange u2_InvalidRange u3_InvalidRange u5_InvalidRange : Option Value}
    {f_InvalidRange T_InvalidRange : Addr} {od_InvalidRange an_InvalidRange oe_InvalidRange : Option Addr} {sl_InvalidRange sm_InvalidRange : Array (Option Value)} {oc_InvalidRange kw_InvalidRange dc_InvalidRange pm_InvalidRange cd_InvalidRange ct_InvalidRange ot_InvalidRange : Value} {nn_InvalidRange : Nat}
    {C_InvalidSet N_InvalidSet : Addr} {nm_InvalidSet qn_InvalidSet : Str} {bs_InvalidSet sb_InvalidSet : List Value} {sn_InvalidSet : List Str} {ab_InvalidSet : Bool} {co_InvalidSet : Option Bool} {dd_InvalidSet : Option Addr} {u0_InvalidSet u1_InvalidSet u2_InvalidSet u3_InvalidSet u5_InvalidSet : Option Value}
    {f_InvalidSet T_InvalidSet : Addr} {od_InvalidSet an_InvalidSet oe_InvalidSet : Option Addr} {sl_InvalidSet sm_InvalidSet : Array (Option Value)} {oc_InvalidSet kw_InvalidSet dc_InvalidSet pm_InvalidSet cd_InvalidSet ct_InvalidSet ot_InvalidSet : Value} {nn_InvalidSet : Nat}
    {C_InvalidBase N_InvalidBase : Addr} {nm_InvalidBase qn_InvalidBase : Str} {bs_InvalidBase sb_InvalidBase : List Value} {sn_InvalidBase : List Str} {ab_InvalidBase : Bool} {co_InvalidBase : Option Bool} {dd_InvalidBase : Option Addr} {u0_InvalidBase u1_InvalidBase u2_InvalidBase u3_InvalidBase u5_InvalidBase : Option Value}
    {f_InvalidBase T_InvalidBase : Addr} {od_InvalidBase an_InvalidBase oe_InvalidBase : Option Addr} {sl_InvalidBase sm_InvalidBase : Array (Option Value)} {oc_InvalidBase kw_InvalidBase dc_InvalidBase pm_InvalidBase cd_InvalidBase ct_InvalidBase ot_InvalidBase : Value} {nn_InvalidBase : Nat}
    {C_InvalidNumber N_InvalidNumber : Addr} {nm_InvalidNumber qn_InvalidNumber : Str} {bs_InvalidNumber sb_InvalidNumber : List Value} {sn_InvalidNumber : List Str} {ab_InvalidNumber : Bool} {co_InvalidNumber : Option Bool} {dd_InvalidNumber : Option Addr} {u0_InvalidNumber u1_InvalidNumber u2_InvalidNumber u3_InvalidNumber u5_InvalidNumber : Option Value}
    {f_InvalidNumber T_InvalidNumber : Addr} {od_InvalidNumber an_InvalidNumber oe_InvalidNumber : Option Addr} {sl_InvalidNumber sm_InvalidNumber : Array (Option Value)} {oc_InvalidNumber kw_InvalidNumber dc_InvalidNumber pm_InvalidNumber cd_InvalidNumber ct_InvalidNumber ot_InvalidNumber : Value} {nn_InvalidNumber : Nat}
    {C_InvalidFactor N_InvalidFactor : Addr} {nm_InvalidFactor qn_InvalidFactor : Str} {bs_InvalidFactor sb_InvalidFactor : List Value} {sn_InvalidFactor : List Str} {ab_InvalidFactor : Bool} {co_InvalidFactor : Option Bool} {dd_InvalidFactor : Option Addr} {u0_InvalidFactor u1_InvalidFactor u2_InvalidFactor u3_InvalidFactor u5_InvalidFactor : Option Value}
    {f_InvalidFactor T_InvalidFactor : Addr} {od_InvalidFactor an_InvalidFactor oe_InvalidFactor : Option Addr} {sl_InvalidFactor sm_InvalidFactor : Array (Option Value)} {oc_InvalidFactor kw_InvalidFactor dc_InvalidFactor pm_InvalidFactor cd_InvalidFactor ct_InvalidFactor ot_InvalidFactor : Value} {nn_InvalidFactor : Nat}
    {C_InvalidEnd N_InvalidEnd : Addr} {nm_InvalidEnd qn_InvalidEnd : Str} {bs_InvalidEnd sb_InvalidEnd : List Value} {sn_InvalidEnd : List Str} {ab_InvalidEnd : Bool} {co_InvalidEnd : Option Bool} {dd_InvalidEnd : Option Addr} {u0_InvalidEnd u1_InvalidEnd u2_InvalidEnd u3_InvalidEnd u5_InvalidEnd : Option Value}
    {f_InvalidEnd T_InvalidEnd : Addr} {od_InvalidEnd an_InvalidEnd oe_InvalidEnd : Option Addr} {sl_InvalidEnd sm_InvalidEnd : Array (Option Value)} {oc_InvalidEnd kw_InvalidEnd dc_InvalidEnd pm_InvalidEnd cd_InvalidEnd ct_InvalidEnd ot_InvalidEnd : Value} {nn_InvalidEnd : Nat}
    {C_InvalidRules N_InvalidRules : Addr} {nm_InvalidRules qn_InvalidRules : Str} {bs_InvalidRules sb_InvalidRules : List Value} {sn_InvalidRules : List Str} {ab_InvalidRules : Bool} {co_InvalidRules : Option Bool} {dd_InvalidRules : Option Addr} {u0_InvalidRules u1_InvalidRules u2_InvalidRules u3_InvalidRules u5_InvalidRules : Option Value}
    {f_InvalidRules T_InvalidRules : Addr} {od_InvalidRules an_InvalidRules oe_InvalidRules : Option Addr} {sl_InvalidRules sm_InvalidRules : Array (Option Value)} {oc_InvalidRules kw_InvalidRules dc_InvalidRules pm_InvalidRules cd_InvalidRules ct_InvalidRules ot_InvalidRules : Value} {nn_InvalidRules : Nat}
    {f0 : Addr} {od0 an0 : Option Addr} {sl0 : Array (Option Value)} {oc0 kV0 dc0 pm0 cd0 ct0 : Value}
    {f1 : Addr} {od1 an1 : Option Addr} {sl1 : Array (Option Value)} {oc1 kV1 dc1 pm1 cd1 ct1 : Value}
    {f2 : Addr} {od2 an2 : Option Addr} {sl2 : Array (Option Value)} {oc2 kV2 dc2 pm2 cd2 ct2 : Value}
    {f3 : Addr} {od3 an3 : Option Addr} {sl3 : Array (Option Value)} {oc3 kV3 dc3 pm3 cd3 ct3 : Value}
    {f4 : Addr} {od4 an4 : Option Addr} {sl4 : Array (Option Value)} {oc4 kV4 dc4 pm4 cd4 ct4 : Value}
    {f5 : Addr} {od5 an5 : Option Addr} {sl5 : Array (Option Value)} {oc5 kV5 dc5 pm5 cd5 ct5 : Value}
    (aC_AxisTicksError : PySem.W.nsIn K mainGlobals "AxisTicksError" = some (some (.ref C_AxisTicksError)))
    (xL_AxisTicksError : K.lookup C_AxisTicksError = some (excClassObj nm_AxisTicksError qn_AxisTicksError C_AxisTicksError N_AxisTicksError bs_AxisTicksError [.type "ValueError", .type "Exception", .type "BaseException", .type "object"] true sn_AxisTicksError sb_AxisTicksError ab_AxisTicksError co_AxisTicksError dd_AxisTicksError u0_AxisTicksError u1_AxisTicksError u2_AxisTicksError u3_AxisTicksError u5_AxisTicksError "ValueError.__new__"))
    (sa_AxisTicksError : PySem.W.findIn K (.ref C_AxisTicksError) "__setattr__" = some (some (.builtin "object.__setattr__")))
    (ex_AxisTicksError : PySem.W.subIn K (.ref C_AxisTicksError) (.type "BaseException") = some true)
    (ty_AxisTicksError : PySem.W.typeIn K (.ref C_AxisTicksError) = some (.type "type"))
    (kC_AxisTicksError : PySem.W.keepIn K (.ref C_AxisTicksError) = true)
    (ga_AxisTicksError : PySem.W.findIn K (.ref C_AxisTicksError) "__getattribute__" = some (some (.builtin "BaseException.__getattribute__")))
    (gg_AxisTicksError : PySem.W.findIn K (.ref C_AxisTicksError) "__getattr__" = some none)
    (hd_AxisTicksError : PySem.W.hasDictIn K C_AxisTicksError = true)
    (ca_AxisTicksError : PySem.W.findIn K (.ref C_AxisTicksError) "__class__" = some (some (.builtin "object.__class__")))
    (cm_AxisTicksError : PySem.W.mroIn K C_AxisTicksError (.type "object") = some true)
    (kv_AxisTicksError : PySem.W.subIn K (.ref C_AxisTicksError) (.type "ValueError") = some true)
    (cn : PySem.W.specialIn K (.builtin "object.__class__") "__get__" = some (some (.builtin "getset_descriptor.__get__")))
    (ct : PySem.W.takesIn K (.builtin "object.__class__") = some true)
    (ib : PySem.W.findIn K (.ref C_AxisTicksError) "__init__" = some (some (.builtin "ValueError.__init__")))
    (aC_InvalidRule : PySem.W.nsIn K mainGlobals "InvalidRule" = some (some (.ref C_InvalidRule)))
    (xL_InvalidRule : K.lookup C_InvalidRule = some (excClassObj nm_InvalidRule qn_InvalidRule C_InvalidRule N_InvalidRule bs_InvalidRule [.ref C_AxisTicksError, .type "ValueError", .type "Exception", .type "BaseException", .type "object"] true sn_InvalidRule sb_InvalidRule ab_InvalidRule co_InvalidRule dd_InvalidRule u0_InvalidRule u1_InvalidRule u2_InvalidRule u3_InvalidRule u5_InvalidRule "ValueError.__new__"))
    (sa_InvalidRule : PySem.W.findIn K (.ref C_InvalidRule) "__setattr__" = some (some (.builtin "object.__setattr__")))
    (ex_InvalidRule : PySem.W.subIn K (.ref C_InvalidRule) (.type "BaseException") = some true)
    (ty_InvalidRule : PySem.W.typeIn K (.ref C_InvalidRule) = some (.type "type"))
    (kC_InvalidRule : PySem.W.keepIn K (.ref C_InvalidRule) = true)
    (ga_InvalidRule : PySem.W.findIn K (.ref C_InvalidRule) "__getattribute__" = some (some (.builtin "BaseException.__getattribute__")))
    (gg_InvalidRule : PySem.W.findIn K (.ref C_InvalidRule) "__getattr__" = some none)
    (hd_InvalidRule : PySem.W.hasDictIn K C_InvalidRule = true)
    (ca_InvalidRule : PySem.W.findIn K (.ref C_InvalidRule) "__class__" = some (some (.builtin "object.__class__")))
    (cm_InvalidRule : PySem.W.mroIn K C_InvalidRule (.type "object") = some true)
    (kv_InvalidRule : PySem.W.subIn K (.ref C_InvalidRule) (.type "ValueError") = some true)
    (in_InvalidRule : PySem.W.findIn K (.ref C_InvalidRule) "__init__" = some (some (.ref f_InvalidRule)))
    (ft_InvalidRule : PySem.W.typeIn K (.ref f_InvalidRule) = some (.type "function"))
    (no_InvalidRule : PySem.W.findIn K (.ref C_InvalidRule) "value" = some none)
    (l_InvalidRule : K.lookup f_InvalidRule = some ⟨oc_InvalidRule, od_InvalidRule, .func (PySem.W.fnOf "__init__" "InvalidRule.__init__" (defArgs s_InvalidRule_init) (defBody s_InvalidRule_init) (defScope s_InvalidRule_init) (.ref T_InvalidRule) kw_InvalidRule dc_InvalidRule pm_InvalidRule an_InvalidRule cd_InvalidRule ct_InvalidRule), sl_InvalidRule⟩)
    (lT_InvalidRule : K.lookup T_InvalidRule = some ⟨ot_InvalidRule, oe_InvalidRule, .seq #[.none] nn_InvalidRule, sm_InvalidRule⟩)
    (c_InvalidRule : PySem.W.codeIn K cd_InvalidRule "InvalidRule.__init__" = true)
    (k_InvalidRule : PySem.W.keepIn K (.ref f_InvalidRule) = true)
    (kb_InvalidRule : PySem.W.subIn K (.ref C_InvalidRule) (.ref C_AxisTicksError) = some true)
    (nb_InvalidRule : (C_InvalidRule == C_AxisTicksError) = false)
    (aC_InvalidRange : PySem.W.nsIn K mainGlobals "InvalidRange" = some (some (.ref C_InvalidRange)))
    (xL_InvalidRange : K.lookup C_InvalidRange = some (excClassObj nm_InvalidRange qn_InvalidRange C_InvalidRange N_InvalidRange bs_InvalidRange [.ref C_AxisTicksError, .type "ValueError", .type "Exception", .type "BaseException", .type "object"] true sn_InvalidRange sb_InvalidRange ab_InvalidRange co_InvalidRange dd_InvalidRange u0_InvalidRange u1_InvalidRange u2_InvalidRange u3_InvalidRange u5_InvalidRange "ValueError.__new__"))
    (sa_InvalidRange : PySem.W.findIn K (.ref C_InvalidRange) "__setattr__" = some (some (.builtin "object.__setattr__")))
    (ex_InvalidRange : PySem.W.subIn K (.ref C_InvalidRange) (.type "BaseException") = some true)
    (ty_InvalidRange : PySem.W.typeIn K (.ref C_InvalidRange) = some (.type "type"))
    (kC_InvalidRange : PySem.W.keepIn K (.ref C_InvalidRange) = true)
    (ga_InvalidRange : PySem.W.findIn K (.ref C_InvalidRange) "__getattribute__" = some (some (.builtin "BaseException.__getattribute__")))
    (gg_InvalidRange : PySem.W.findIn K (.ref C_InvalidRange) "__getattr__" = some none)
    (hd_InvalidRange : PySem.W.hasDictIn K C_InvalidRange = true)
    (ca_InvalidRange : PySem.W.findIn K (.ref C_InvalidRange) "__class__" = some (some (.builtin "object.__class__")))
    (cm_InvalidRange : PySem.W.mroIn K C_InvalidRange (.type "object") = some true)
    (kv_InvalidRange : PySem.W.subIn K (.ref C_InvalidRange) (.type "ValueError") = some true)
    (in_InvalidRange : PySem.W.findIn K (.ref C_InvalidRange) "__init__" = some (some (.ref f_InvalidRange)))
    (ft_InvalidRange : PySem.W.typeIn K (.ref f_InvalidRange) = some (.type "function"))
    (no_InvalidRange : PySem.W.findIn K (.ref C_InvalidRange) "value" = some none)
    (l_InvalidRange : K.lookup f_InvalidRange = some ⟨oc_InvalidRange, od_InvalidRange, .func (PySem.W.fnOf "__init__" "InvalidRange.__init__" (defArgs s_InvalidRange_init) (defBody s_InvalidRange_init) (defScope s_InvalidRange_init) (.ref T_InvalidRange) kw_InvalidRange dc_InvalidRange pm_InvalidRange an_InvalidRange cd_InvalidRange ct_InvalidRange), sl_InvalidRange⟩)
    (lT_InvalidRange : K.lookup T_InvalidRange = some ⟨ot_InvalidRange, oe_InvalidRange, .seq #[.none] nn_InvalidRange, sm_InvalidRange⟩)
    (c_InvalidRange : PySem.W.codeIn K cd_InvalidRange "InvalidRange.__init__" = true)
    (k_InvalidRange : PySem.W.keepIn K (.ref f_InvalidRange) = true)
    (kb_InvalidRange : PySem.W.subIn K (.ref C_InvalidRange) (.ref C_AxisTicksError) = some true)
    (nb_InvalidRange : (C_InvalidRange == C_AxisTicksError) = false)
    (aC_InvalidSet : PySem.W.nsIn K mainGlobals "InvalidSet" = some (some (.ref C_InvalidSet)))
    (xL_InvalidSet : K.lookup C_InvalidSet = some (excClassObj nm_InvalidSet qn_InvalidSet C_InvalidSet N_InvalidSet bs_InvalidSet [.ref C_AxisTicksError, .type "ValueError", .type "Exception", .type "BaseException", .type "object"] true sn_InvalidSet sb_InvalidSet ab_InvalidSet co_InvalidSet dd_InvalidSet u0_InvalidSet u1_InvalidSet u2_InvalidSet u3_InvalidSet u5_InvalidSet "ValueError.__new__"))
    (sa_InvalidSet : PySem.W.findIn K (.ref C_InvalidSet) "__setattr__" = some (some (.builtin "object.__setattr__")))
    (ex_InvalidSet : PySem.W.subIn K (.ref C_InvalidSet) (.type "BaseException") = some true)
    (ty_InvalidSet : PySem.W.typeIn K (.ref C_InvalidSet) = some (.type "type"))
    (kC_InvalidSet : PySem.W.keepIn K (.ref C_InvalidSet) = true)
    (ga_InvalidSet : PySem.W.findIn K (.ref C_InvalidSet) "__getattribute__" = some (some (.builtin "BaseException.__getattribute__")))
    (gg_InvalidSet : PySem.W.findIn K (.ref C_InvalidSet) "__getattr__" = some none)
    (hd_InvalidSet : PySem.W.hasDictIn K C_InvalidSet = true)
    (ca_InvalidSet : PySem.W.findIn K (.ref C_InvalidSet) "__class__" = some (some (.builtin "object.__class__")))
    (cm_InvalidSet : PySem.W.mroIn K C_InvalidSet (.type "object") = some true)
    (kv_InvalidSet : PySem.W.subIn K (.ref C_InvalidSet) (.type "ValueError") = some true)
    (in_InvalidSet : PySem.W.findIn K (.ref C_InvalidSet) "__init__" = some (some (.ref f_InvalidSet)))
    (ft_InvalidSet : PySem.W.typeIn K (.ref f_InvalidSet) = some (.type "function"))
    (no_InvalidSet : PySem.W.findIn K (.ref C_InvalidSet) "value" = some none)
    (l_InvalidSet : K.lookup f_InvalidSet = some ⟨oc_InvalidSet, od_InvalidSet, .func (PySem.W.fnOf "__init__" "InvalidSet.__init__" (defArgs s_InvalidSet_init) (defBody s_InvalidSet_init) (defScope s_InvalidSet_init) (.ref T_InvalidSet) kw_InvalidSet dc_InvalidSet pm_InvalidSet an_InvalidSet cd_InvalidSet ct_InvalidSet), sl_InvalidSet⟩)
    (lT_InvalidSet : K.lookup T_InvalidSet = some ⟨ot_InvalidSet, oe_InvalidSet, .seq #[.none] nn_InvalidSet, sm_InvalidSet⟩)
    (c_InvalidSet : PySem.W.codeIn K cd_InvalidSet "InvalidSet.__init__" = true)
    (k_InvalidSet : PySem.W.keepIn K (.ref f_InvalidSet) = true)
    (kb_InvalidSet : PySem.W.subIn K (.ref C_InvalidSet) (.ref C_AxisTicksError) = some true)
    (nb_InvalidSet : (C_InvalidSet == C_AxisTicksError) = false)
    (aC_InvalidBase : PySem.W.nsIn K mainGlobals "InvalidBase" = some (some (.ref C_InvalidBase)))
    (xL_InvalidBase : K.lookup C_InvalidBase = some (excClassObj nm_InvalidBase qn_InvalidBase C_InvalidBase N_InvalidBase bs_InvalidBase [.ref C_AxisTicksError, .type "ValueError", .type "Exception", .type "BaseException", .type "object"] true sn_InvalidBase sb_InvalidBase ab_InvalidBase co_InvalidBase dd_InvalidBase u0_InvalidBase u1_InvalidBase u2_InvalidBase u3_InvalidBase u5_InvalidBase "ValueError.__new__"))
    (sa_InvalidBase : PySem.W.findIn K (.ref C_InvalidBase) "__setattr__" = some (some (.builtin "object.__setattr__")))
    (ex_InvalidBase : PySem.W.subIn K (.ref C_InvalidBase) (.type "BaseException") = some true)
    (ty_InvalidBase : PySem.W.typeIn K (.ref C_InvalidBase) = some (.type "type"))
    (kC_InvalidBase : PySem.W.keepIn K (.ref C_InvalidBase) = true)
    (ga_InvalidBase : PySem.W.findIn K (.ref C_InvalidBase) "__getattribute__" = some (some (.builtin "BaseException.__getattribute__")))
    (gg_InvalidBase : PySem.W.findIn K (.ref C_InvalidBase) "__getattr__" = some none)
    (hd_InvalidBase : PySem.W.hasDictIn K C_InvalidBase = true)
    (ca_InvalidBase : PySem.W.findIn K (.ref C_InvalidBase) "__class__" = some (some (.builtin "object.__class__")))
    (cm_InvalidBase : PySem.W.mroIn K C_InvalidBase (.type "object") = some true)
    (kv_InvalidBase : PySem.W.subIn K (.ref C_InvalidBase) (.type "ValueError") = some true)
    (in_InvalidBase : PySem.W.findIn K (.ref C_InvalidBase) "__init__" = some (some (.ref f_InvalidBase)))
    (ft_InvalidBase : PySem.W.typeIn K (.ref f_InvalidBase) = some (.type "function"))
    (no_InvalidBase : PySem.W.findIn K (.ref C_InvalidBase) "value" = some none)
    (l_InvalidBase : K.lookup f_InvalidBase = some ⟨oc_InvalidBase, od_InvalidBase, .func (PySem.W.fnOf "__init__" "InvalidBase.__init__" (defArgs s_InvalidBase_init) (defBody s_InvalidBase_init) (defScope s_InvalidBase_init) (.ref T_InvalidBase) kw_InvalidBase dc_InvalidBase pm_InvalidBase an_InvalidBase cd_InvalidBase ct_InvalidBase), sl_InvalidBase⟩)
    (lT_InvalidBase : K.lookup T_InvalidBase = some ⟨ot_InvalidBase, oe_InvalidBase, .seq #[.none] nn_InvalidBase, sm_InvalidBase⟩)
    (c_InvalidBase : PySem.W.codeIn K cd_InvalidBase "InvalidBase.__init__" = true)
    (k_InvalidBase : PySem.W.keepIn K (.ref f_InvalidBase) = true)
    (kb_InvalidBase : PySem.W.subIn K (.ref C_InvalidBase) (.ref C_AxisTicksError) = some true)
    (nb_InvalidBase : (C_InvalidBase == C_AxisTicksError) = false)
    (aC_InvalidNumber : PySem.W.nsIn K mainGlobals "InvalidNumber" = some (some (.ref C_InvalidNumber)))
    (xL_InvalidNumber : K.lookup C_InvalidNumber = some (excClassObj nm_InvalidNumber qn_InvalidNumber C_InvalidNumber N_InvalidNumber bs_InvalidNumber [.ref C_AxisTicksError, .type "ValueError", .type "Exception", .type "BaseException", .type "object"] true sn_InvalidNumber sb_InvalidNumber ab_InvalidNumber co_InvalidNumber dd_InvalidNumber u0_InvalidNumber u1_InvalidNumber u2_InvalidNumber u3_InvalidNumber u5_InvalidNumber "ValueError.__new__"))
    (sa_InvalidNumber : PySem.W.findIn K (.ref C_InvalidNumber) "__setattr__" = some (some (.builtin "object.__setattr__")))
    (ex_InvalidNumber : PySem.W.subIn K (.ref C_InvalidNumber) (.type "BaseException") = some true)
    (ty_InvalidNumber : PySem.W.typeIn K (.ref C_InvalidNumber) = some (.type "type"))
    (kC_InvalidNumber : PySem.W.keepIn K (.ref C_InvalidNumber) = true)
    (ga_InvalidNumber : PySem.W.findIn K (.ref C_InvalidNumber) "__getattribute__" = some (some (.builtin "BaseException.__getattribute__")))
    (gg_InvalidNumber : PySem.W.findIn K (.ref C_InvalidNumber) "__getattr__" = some none)
    (hd_InvalidNumber : PySem.W.hasDictIn K C_InvalidNumber = true)
    (ca_InvalidNumber : PySem.W.findIn K (.ref C_InvalidNumber) "__class__" = some (some (.builtin "object.__class__")))
    (cm_InvalidNumber : PySem.W.mroIn K C_InvalidNumber (.type "object") = some true)
    (kv_InvalidNumber : PySem.W.subIn K (.ref C_InvalidNumber) (.type "ValueError") = some true)
    (in_InvalidNumber : PySem.W.findIn K (.ref C_InvalidNumber) "__init__" = some (some (.ref f_InvalidNumber)))
    (ft_InvalidNumber : PySem.W.typeIn K (.ref f_InvalidNumber) = some (.type "function"))
    (no_InvalidNumber : PySem.W.findIn K (.ref C_InvalidNumber) "value" = some none)
    (l_InvalidNumber : K.lookup f_InvalidNumber = some ⟨oc_InvalidNumber, od_InvalidNumber, .func (PySem.W.fnOf "__init__" "InvalidNumber.__init__" (defArgs s_InvalidNumber_init) (defBody s_InvalidNumber_init) (defScope s_InvalidNumber_init) (.ref T_InvalidNumber) kw_InvalidNumber dc_InvalidNumber pm_InvalidNumber an_InvalidNumber cd_InvalidNumber ct_InvalidNumber), sl_InvalidNumber⟩)
    (lT_InvalidNumber : K.lookup T_InvalidNumber = some ⟨ot_InvalidNumber, oe_InvalidNumber, .seq #[.none] nn_InvalidNumber, sm_InvalidNumber⟩)
    (c_InvalidNumber : PySem.W.codeIn K cd_InvalidNumber "InvalidNumber.__init__" = true)
    (k_InvalidNumber : PySem.W.keepIn K (.ref f_InvalidNumber) = true)
    (kb_InvalidNumber : PySem.W.subIn K (.ref C_InvalidNumber) (.ref C_AxisTicksError) = some true)
    (nb_InvalidNumber : (C_InvalidNumber == C_AxisTicksError) = false)
    (aC_InvalidFactor : PySem.W.nsIn K mainGlobals "InvalidFactor" = some (some (.ref C_InvalidFactor)))
    (xL_InvalidFactor : K.lookup C_InvalidFactor = some (excClassObj nm_InvalidFactor qn_InvalidFactor C_InvalidFactor N_InvalidFactor bs_InvalidFactor [.ref C_AxisTicksError, .type "ValueError", .type "Exception", .type "BaseException", .type "object"] true sn_InvalidFactor sb_InvalidFactor ab_InvalidFactor co_InvalidFactor dd_InvalidFactor u0_InvalidFactor u1_InvalidFactor u2_InvalidFactor u3_InvalidFactor u5_InvalidFactor "ValueError.__new__"))
    (sa_InvalidFactor : PySem.W.findIn K (.ref C_InvalidFactor) "__setattr__" = some (some (.builtin "object.__setattr__")))
    (ex_InvalidFactor : PySem.W.subIn K (.ref C_InvalidFactor) (.type "BaseException") = some true)
    (ty_InvalidFactor : PySem.W.typeIn K (.ref C_InvalidFactor) = some (.type "type"))
    (kC_InvalidFactor : PySem.W.keepIn K (.ref C_InvalidFactor) = true)
    (ga_InvalidFactor : PySem.W.findIn K (.ref C_InvalidFactor) "__getattribute__" = some (some (.builtin "BaseException.__getattribute__")))
    (gg_InvalidFactor : PySem.W.findIn K (.ref C_InvalidFactor) "__getattr__" = some none)
    (hd_InvalidFactor : PySem.W.hasDictIn K C_InvalidFactor = true)
    (ca_InvalidFactor : PySem.W.findIn K (.ref C_InvalidFactor) "__class__" = some (some (.builtin "object.__class__")))
    (cm_InvalidFactor : PySem.W.mroIn K C_InvalidFactor (.type "object") = some true)
    (kv_InvalidFactor : PySem.W.subIn K (.ref C_InvalidFactor) (.type "ValueError") = some true)
    (in_InvalidFactor : PySem.W.findIn K (.ref C_InvalidFactor) "__init__" = some (some (.ref f_InvalidFactor)))
    (ft_InvalidFactor : PySem.W.typeIn K (.ref f_InvalidFactor) = some (.type "function"))
    (no_InvalidFactor : PySem.W.findIn K (.ref C_InvalidFactor) "value" = some none)
    (l_InvalidFactor : K.lookup f_InvalidFactor = some ⟨oc_InvalidFactor, od_InvalidFactor, .func (PySem.W.fnOf "__init__" "InvalidFactor.__init__" (defArgs s_InvalidFactor_init) (defBody s_InvalidFactor_init) (defScope s_InvalidFactor_init) (.ref T_InvalidFactor) kw_InvalidFactor dc_InvalidFactor pm_InvalidFactor an_InvalidFactor cd_InvalidFactor ct_InvalidFactor), sl_InvalidFactor⟩)
    (lT_InvalidFactor : K.lookup T_InvalidFactor = some ⟨ot_InvalidFactor, oe_InvalidFactor, .seq #[.none] nn_InvalidFactor, sm_InvalidFactor⟩)
    (c_InvalidFactor : PySem.W.codeIn K cd_InvalidFactor "InvalidFactor.__init__" = true)
    (k_InvalidFactor : PySem.W.keepIn K (.ref f_InvalidFactor) = true)
    (kb_InvalidFactor : PySem.W.subIn K (.ref C_InvalidFactor) (.ref C_AxisTicksError) = some true)
    (nb_InvalidFactor : (C_InvalidFactor == C_AxisTicksError) = false)
    (aC_InvalidEnd : PySem.W.nsIn K mainGlobals "InvalidEnd" = some (some (.ref C_InvalidEnd)))
    (xL_InvalidEnd : K.lookup C_InvalidEnd = some (excClassObj nm_InvalidEnd qn_InvalidEnd C_InvalidEnd N_InvalidEnd bs_InvalidEnd [.ref C_AxisTicksError, .type "ValueError", .type "Exception", .type "BaseException", .type "object"] true sn_InvalidEnd sb_InvalidEnd ab_InvalidEnd co_InvalidEnd dd_InvalidEnd u0_InvalidEnd u1_InvalidEnd u2_InvalidEnd u3_InvalidEnd u5_InvalidEnd "ValueError.__new__"))
    (sa_InvalidEnd : PySem.W.findIn K (.ref C_InvalidEnd) "__setattr__" = some (some (.builtin "object.__setattr__")))
    (ex_InvalidEnd : PySem.W.subIn K (.ref C_InvalidEnd) (.type "BaseException") = some true)
    (ty_InvalidEnd : PySem.W.typeIn K (.ref C_InvalidEnd) = some (.type "type"))
    (kC_InvalidEnd : PySem.W.keepIn K (.ref C_InvalidEnd) = true)
    (ga_InvalidEnd : PySem.W.findIn K (.ref C_InvalidEnd) "__getattribute__" = some (some (.builtin "BaseException.__getattribute__")))
    (gg_InvalidEnd : PySem.W.findIn K (.ref C_InvalidEnd) "__getattr__" = some none)
    (hd_InvalidEnd : PySem.W.hasDictIn K C_InvalidEnd = true)
    (ca_InvalidEnd : PySem.W.findIn K (.ref C_InvalidEnd) "__class__" = some (some (.builtin "object.__class__")))
    (cm_InvalidEnd : PySem.W.mroIn K C_InvalidEnd (.type "object") = some true)
    (kv_InvalidEnd : PySem.W.subIn K (.ref C_InvalidEnd) (.type "ValueError") = some true)
    (in_InvalidEnd : PySem.W.findIn K (.ref C_InvalidEnd) "__init__" = some (some (.ref f_InvalidEnd)))
    (ft_InvalidEnd : PySem.W.typeIn K (.ref f_InvalidEnd) = some (.type "function"))
    (no_InvalidEnd : PySem.W.findIn K (.ref C_InvalidEnd) "value" = some none)
    (l_InvalidEnd : K.lookup f_InvalidEnd = some ⟨oc_InvalidEnd, od_InvalidEnd, .func (PySem.W.fnOf "__init__" "InvalidEnd.__init__" (defArgs s_InvalidEnd_init) (defBody s_InvalidEnd_init) (defScope s_InvalidEnd_init) (.ref T_InvalidEnd) kw_InvalidEnd dc_InvalidEnd pm_InvalidEnd an_InvalidEnd cd_InvalidEnd ct_InvalidEnd), sl_InvalidEnd⟩)
    (lT_InvalidEnd : K.lookup T_InvalidEnd = some ⟨ot_InvalidEnd, oe_InvalidEnd, .seq #[.none] nn_InvalidEnd, sm_InvalidEnd⟩)
    (c_InvalidEnd : PySem.W.codeIn K cd_InvalidEnd "InvalidEnd.__init__" = true)
    (k_InvalidEnd : PySem.W.keepIn K (.ref f_InvalidEnd) = true)
    (kb_InvalidEnd : PySem.W.subIn K (.ref C_InvalidEnd) (.ref C_AxisTicksError) = some true)
    (nb_InvalidEnd : (C_InvalidEnd == C_AxisTicksError) = false)
    (aC_InvalidRules : PySem.W.nsIn K mainGlobals "InvalidRules" = some (some (.ref C_InvalidRules)))
    (xL_InvalidRules : K.lookup C_InvalidRules = some (excClassObj nm_InvalidRules qn_InvalidRules C_InvalidRules N_InvalidRules bs_InvalidRules [.ref C_AxisTicksError, .type "ValueError", .type "Exception", .type "BaseException", .type "object"] true sn_InvalidRules sb_InvalidRules ab_InvalidRules co_InvalidRules dd_InvalidRules u0_InvalidRules u1_InvalidRules u2_InvalidRules u3_InvalidRules u5_InvalidRules "ValueError.__new__"))
    (sa_InvalidRules : PySem.W.findIn K (.ref C_InvalidRules) "__setattr__" = some (some (.builtin "object.__setattr__")))
    (ex_InvalidRules : PySem.W.subIn K (.ref C_InvalidRules) (.type "BaseException") = some true)
    (ty_InvalidRules : PySem.W.typeIn K (.ref C_InvalidRules) = some (.type "type"))
    (kC_InvalidRules : PySem.W.keepIn K (.ref C_InvalidRules) = true)
    (ga_InvalidRules : PySem.W.findIn K (.ref C_InvalidRules) "__getattribute__" = some (some (.builtin "BaseException.__getattribute__")))
    (gg_InvalidRules : PySem.W.findIn K (.ref C_InvalidRules) "__getattr__" = some none)
    (hd_InvalidRules : PySem.W.hasDictIn K C_InvalidRules = true)
    (ca_InvalidRules : PySem.W.findIn K (.ref C_InvalidRules) "__class__" = some (some (.builtin "object.__class__")))
    (cm_InvalidRules : PySem.W.mroIn K C_InvalidRules (.type "object") = some true)
    (kv_InvalidRules : PySem.W.subIn K (.ref C_InvalidRules) (.type "ValueError") = some true)
    (in_InvalidRules : PySem.W.findIn K (.ref C_InvalidRules) "__init__" = some (some (.ref f_InvalidRules)))
    (ft_InvalidRules : PySem.W.typeIn K (.ref f_InvalidRules) = some (.type "function"))
    (no_InvalidRules : PySem.W.findIn K (.ref C_InvalidRules) "value" = some none)
    (l_InvalidRules : K.lookup f_InvalidRules = some ⟨oc_InvalidRules, od_InvalidRules, .func (PySem.W.fnOf "__init__" "InvalidRules.__init__" (defArgs s_InvalidRules_init) (defBody s_InvalidRules_init) (defScope s_InvalidRules_init) (.ref T_InvalidRules) kw_InvalidRules dc_InvalidRules pm_InvalidRules an_InvalidRules cd_InvalidRules ct_InvalidRules), sl_InvalidRules⟩)
    (lT_InvalidRules : K.lookup T_InvalidRules = some ⟨ot_InvalidRules, oe_InvalidRules, .seq #[.none] nn_InvalidRules, sm_InvalidRules⟩)
    (c_InvalidRules : PySem.W.codeIn K cd_InvalidRules "InvalidRules.__init__" = true)
    (k_InvalidRules : PySem.W.keepIn K (.ref f_InvalidRules) = true)
    (kb_InvalidRules : PySem.W.subIn K (.ref C_InvalidRules) (.ref C_AxisTicksError) = some true)
    (nb_InvalidRules : (C_InvalidRules == C_AxisTicksError) = false)
    (q0_1 : PySem.W.subIn K (.ref C_InvalidRule) (.ref C_InvalidRange) = some false)
    (n0_1 : (C_InvalidRule == C_InvalidRange) = false)
    (q0_2 : PySem.W.subIn K (.ref C_InvalidRule) (.ref C_InvalidSet) = some false)
    (n0_2 : (C_InvalidRule == C_InvalidSet) = false)
    (q0_3 : PySem.W.subIn K (.ref C_InvalidRule) (.ref C_InvalidBase) = some false)
    (n0_3 : (C_InvalidRule == C_InvalidBase) = false)
    (q0_4 : PySem.W.subIn K (.ref C_InvalidRule) (.ref C_InvalidNumber) = some false)
    (n0_4 : (C_InvalidRule == C_InvalidNumber) = false)
    (q0_5 : PySem.W.subIn K (.ref C_InvalidRule) (.ref C_InvalidFactor) = some false)
    (n0_5 : (C_InvalidRule == C_InvalidFactor) = false)
    (q0_6 : PySem.W.subIn K (.ref C_InvalidRule) (.ref C_InvalidEnd) = some false)
    (n0_6 : (C_InvalidRule == C_InvalidEnd) = false)
    (q0_7 : PySem.W.subIn K (.ref C_InvalidRule) (.ref C_InvalidRules) = some false)
    (n0_7 : (C_InvalidRule == C_InvalidRules) = false)
    (q1_0 : PySem.W.subIn K (.ref C_InvalidRange) (.ref C_InvalidRule) = some false)
    (n1_0 : (C_InvalidRange == C_InvalidRule) = false)
    (q1_2 : PySem.W.subIn K (.ref C_InvalidRange) (.ref C_InvalidSet) = some false)
    (n1_2 : (C_InvalidRange == C_InvalidSet) = false)
    (q1_3 : PySem.W.subIn K (.ref C_InvalidRange) (.ref C_InvalidBase) = some false)
    (n1_3 : (C_InvalidRange == C_InvalidBase) = false)
    (q1_4 : PySem.W.subIn K (.ref C_InvalidRange) (.ref C_InvalidNumber) = some false)
    (n1_4 : (C_InvalidRange == C_InvalidNumber) = false)
    (q1_5 : PySem.W.subIn K (.ref C_InvalidRange) (.ref C_InvalidFactor) = some false)
    (n1_5 : (C_InvalidRange == C_InvalidFactor) = false)
    (q1_6 : PySem.W.subIn K (.ref C_InvalidRange) (.ref C_InvalidEnd) = some false)
    (n1_6 : (C_InvalidRange == C_InvalidEnd) = false)
    (q1_7 : PySem.W.subIn K (.ref C_InvalidRange) (.ref C_InvalidRules) = some false)
    (n1_7 : (C_InvalidRange == C_InvalidRules) = false)
    (q2_0 : PySem.W.subIn K (.ref C_InvalidSet) (.ref C_InvalidRule) = some false)
    (n2_0 : (C_InvalidSet == C_InvalidRule) = false)
    (q2_1 : PySem.W.subIn K (.ref C_InvalidSet) (.ref C_InvalidRange) = some false)
    (n2_1 : (C_InvalidSet == C_InvalidRange) = false)
    (q2_3 : PySem.W.subIn K (.ref C_InvalidSet) (.ref C_InvalidBase) = some false)
    (n2_3 : (C_InvalidSet == C_InvalidBase) = false)
    (q2_4 : PySem.W.subIn K (.ref C_InvalidSet) (.ref C_InvalidNumber) = some false)
    (n2_4 : (C_InvalidSet == C_InvalidNumber) = false)
    (q2_5 : PySem.W.subIn K (.ref C_InvalidSet) (.ref C_InvalidFactor) = some false)
    (n2_5 : (C_InvalidSet == C_InvalidFactor) = false)
    (q2_6 : PySem.W.subIn K (.ref C_InvalidSet) (.ref C_InvalidEnd) = some false)
    (n2_6 : (C_InvalidSet == C_InvalidEnd) = false)
    (q2_7 : PySem.W.subIn K (.ref C_InvalidSet) (.ref C_InvalidRules) = some false)
    (n2_7 : (C_InvalidSet == C_InvalidRules) = false)
    (q3_0 : PySem.W.subIn K (.ref C_InvalidBase) (.ref C_InvalidRule) = some false)
    (n3_0 : (C_InvalidBase == C_InvalidRule) = false)
    (q3_1 : PySem.W.subIn K (.ref C_InvalidBase) (.ref C_InvalidRange) = some false)
    (n3_1 : (C_InvalidBase == C_InvalidRange) = false)
    (q3_2 : PySem.W.subIn K (.ref C_InvalidBase) (.ref C_InvalidSet) = some false)
    (n3_2 : (C_InvalidBase == C_InvalidSet) = false)
    (q3_4 : PySem.W.subIn K (.ref C_InvalidBase) (.ref C_InvalidNumber) = some false)
    (n3_4 : (C_InvalidBase == C_InvalidNumber) = false)
    (q3_5 : PySem.W.subIn K (.ref C_InvalidBase) (.ref C_InvalidFactor) = some false)
    (n3_5 : (C_InvalidBase == C_InvalidFactor) = false)
    (q3_6 : PySem.W.subIn K (.ref C_InvalidBase) (.ref C_InvalidEnd) = some false)
    (n3_6 : (C_InvalidBase == C_InvalidEnd) = false)
    (q3_7 : PySem.W.subIn K (.ref C_InvalidBase) (.ref C_InvalidRules) = some false)
    (n3_7 : (C_InvalidBase == C_InvalidRules) = false)
    (q4_0 : PySem.W.subIn K (.ref C_InvalidNumber) (.ref C_InvalidRule) = some false)
    (n4_0 : (C_InvalidNumber == C_InvalidRule) = false)
    (q4_1 : PySem.W.subIn K (.ref C_InvalidNumber) (.ref C_InvalidRange) = some false)
    (n4_1 : (C_InvalidNumber == C_InvalidRange) = false)
    (q4_2 : PySem.W.subIn K (.ref C_InvalidNumber) (.ref C_InvalidSet) = some false)
    (n4_2 : (C_InvalidNumber == C_InvalidSet) = false)
    (q4_3 : PySem.W.subIn K (.ref C_InvalidNumber) (.ref C_InvalidBase) = some false)
    (n4_3 : (C_InvalidNumber == C_InvalidBase) = false)
    (q4_5 : PySem.W.subIn K (.ref C_InvalidNumber) (.ref C_InvalidFactor) = some false)
    (n4_5 : (C_InvalidNumber == C_InvalidFactor) = false)
    (q4_6 : PySem.W.subIn K (.ref C_InvalidNumber) (.ref C_InvalidEnd) = some false)
    (n4_6 : (C_InvalidNumber == C_InvalidEnd) = false)
    (q4_7 : PySem.W.subIn K (.ref C_InvalidNumber) (.ref C_InvalidRules) = some false)
    (n4_7 : (C_InvalidNumber == C_InvalidRules) = false)
    (q5_0 : PySem.W.subIn K (.ref C_InvalidFactor) (.ref C_InvalidRule) = some false)
    (n5_0 : (C_InvalidFactor == C_InvalidRule) = false)
    (q5_1 : PySem.W.subIn K (.ref C_InvalidFactor) (.ref C_InvalidRange) = some false)
    (n5_1 : (C_InvalidFactor == C_InvalidRange) = false)
    (q5_2 : PySem.W.subIn K (.ref C_InvalidFactor) (.ref C_InvalidSet) = some false)
    (n5_2 : (C_InvalidFactor == C_InvalidSet) = false)
    (q5_3 : PySem.W.subIn K (.ref C_InvalidFactor) (.ref C_InvalidBase) = some false)
    (n5_3 : (C_InvalidFactor == C_InvalidBase) = false)
    (q5_4 : PySem.W.subIn K (.ref C_InvalidFactor) (.ref C_InvalidNumber) = some false)
    (n5_4 : (C_InvalidFactor == C_InvalidNumber) = false)
    (q5_6 : PySem.W.subIn K (.ref C_InvalidFactor) (.ref C_InvalidEnd) = some false)
    (n5_6 : (C_InvalidFactor == C_InvalidEnd) = false)
    (q5_7 : PySem.W.subIn K (.ref C_InvalidFactor) (.ref C_InvalidRules) = some false)
    (n5_7 : (C_InvalidFactor == C_InvalidRules) = false)
    (q6_0 : PySem.W.subIn K (.ref C_InvalidEnd) (.ref C_InvalidRule) = some false)
    (n6_0 : (C_InvalidEnd == C_InvalidRule) = false)
    (q6_1 : PySem.W.subIn K (.ref C_InvalidEnd) (.ref C_InvalidRange) = some false)
    (n6_1 : (C_InvalidEnd == C_InvalidRange) = false)
    (q6_2 : PySem.W.subIn K (.ref C_InvalidEnd) (.ref C_InvalidSet) = some false)
    (n6_2 : (C_InvalidEnd == C_InvalidSet) = false)
    (q6_3 : PySem.W.subIn K (.ref C_InvalidEnd) (.ref C_InvalidBase) = some false)
    (n6_3 : (C_InvalidEnd == C_InvalidBase) = false)
    (q6_4 : PySem.W.subIn K (.ref C_InvalidEnd) (.ref C_InvalidNumber) = some false)
    (n6_4 : (C_InvalidEnd == C_InvalidNumber) = false)
    (q6_5 : PySem.W.subIn K (.ref C_InvalidEnd) (.ref C_InvalidFactor) = some false)
    (n6_5 : (C_InvalidEnd == C_InvalidFactor) = false)
    (q6_7 : PySem.W.subIn K (.ref C_InvalidEnd) (.ref C_InvalidRules) = some false)
    (n6_7 : (C_InvalidEnd == C_InvalidRules) = false)
    (q7_0 : PySem.W.subIn K (.ref C_InvalidRules) (.ref C_InvalidRule) = some false)
    (n7_0 : (C_InvalidRules == C_InvalidRule) = false)
    (q7_1 : PySem.W.subIn K (.ref C_InvalidRules) (.ref C_InvalidRange) = some false)
    (n7_1 : (C_InvalidRules == C_InvalidRange) = false)
    (q7_2 : PySem.W.subIn K (.ref C_InvalidRules) (.ref C_InvalidSet) = some false)
    (n7_2 : (C_InvalidRules == C_InvalidSet) = false)
    (q7_3 : PySem.W.subIn K (.ref C_InvalidRules) (.ref C_InvalidBase) = some false)
    (n7_3 : (C_InvalidRules == C_InvalidBase) = false)
    (q7_4 : PySem.W.subIn K (.ref C_InvalidRules) (.ref C_InvalidNumber) = some false)
    (n7_4 : (C_InvalidRules == C_InvalidNumber) = false)
    (q7_5 : PySem.W.subIn K (.ref C_InvalidRules) (.ref C_InvalidFactor) = some false)
    (n7_5 : (C_InvalidRules == C_InvalidFactor) = false)
    (q7_6 : PySem.W.subIn K (.ref C_InvalidRules) (.ref C_InvalidEnd) = some false)
    (n7_6 : (C_InvalidRules == C_InvalidEnd) = false)
    (a0 : PySem.W.nsIn K mainGlobals "_law_purse" = some (some (.ref f0)))
    (l0 : K.lookup f0 = some ⟨oc0, od0, .func (PySem.W.fnOf "_law_purse" "_law_purse" (defArgs s_law_purse) (defBody s_law_purse) (defScope s_law_purse) .none kV0 dc0 pm0 an0 cd0 ct0), sl0⟩)
    (c0 : PySem.W.codeIn K cd0 "_law_purse" = true)
    (k0 : PySem.W.keepIn K (.ref f0) = true)
    (a1 : PySem.W.nsIn K mainGlobals "_law_draw" = some (some (.ref f1)))
    (l1 : K.lookup f1 = some ⟨oc1, od1, .func (PySem.W.fnOf "_law_draw" "_law_draw" (defArgs s_law_draw) (defBody s_law_draw) (defScope s_law_draw) .none kV1 dc1 pm1 an1 cd1 ct1), sl1⟩)
    (c1 : PySem.W.codeIn K cd1 "_law_draw" = true)
    (k1 : PySem.W.keepIn K (.ref f1) = true)
    (a2 : PySem.W.nsIn K mainGlobals "_law_pick" = some (some (.ref f2)))
    (l2 : K.lookup f2 = some ⟨oc2, od2, .func (PySem.W.fnOf "_law_pick" "_law_pick" (defArgs s_law_pick) (defBody s_law_pick) (defScope s_law_pick) .none kV2 dc2 pm2 an2 cd2 ct2), sl2⟩)
    (c2 : PySem.W.codeIn K cd2 "_law_pick" = true)
    (k2 : PySem.W.keepIn K (.ref f2) = true)
    (a3 : PySem.W.nsIn K mainGlobals "_law_classes" = some (some (.ref f3)))
    (l3 : K.lookup f3 = some ⟨oc3, od3, .func (PySem.W.fnOf "_law_classes" "_law_classes" (defArgs s_law_classes) (defBody s_law_classes) (defScope s_law_classes) .none kV3 dc3 pm3 an3 cd3 ct3), sl3⟩)
    (c3 : PySem.W.codeIn K cd3 "_law_classes" = true)
    (k3 : PySem.W.keepIn K (.ref f3) = true)
    (a4 : PySem.W.nsIn K mainGlobals "_law_right" = some (some (.ref f4)))
    (l4 : K.lookup f4 = some ⟨oc4, od4, .func (PySem.W.fnOf "_law_right" "_law_right" (defArgs s_law_right) (defBody s_law_right) (defScope s_law_right) .none kV4 dc4 pm4 an4 cd4 ct4), sl4⟩)
    (c4 : PySem.W.codeIn K cd4 "_law_right" = true)
    (k4 : PySem.W.keepIn K (.ref f4) = true)
    (a5 : PySem.W.nsIn K mainGlobals "law" = some (some (.ref f5)))
    (l5 : K.lookup f5 = some ⟨oc5, od5, .func (PySem.W.fnOf "law" "law" (defArgs s_law) (defBody s_law) (defScope s_law) .none kV5 dc5 pm5 an5 cd5 ct5), sl5⟩)
    (c5 : PySem.W.codeIn K cd5 "law" = true)
    (k5 : PySem.W.keepIn K (.ref f5) = true)
    (z_len : PySem.W.nsIn K mainGlobals "len" = some none)
    (z_isinstance : PySem.W.nsIn K mainGlobals "isinstance" = some none)
    (z_all : PySem.W.nsIn K mainGlobals "all" = some none)
    (z_int : PySem.W.nsIn K mainGlobals "int" = some none)
    (z_bool : PySem.W.nsIn K mainGlobals "bool" = some none)
    (z_str : PySem.W.nsIn K mainGlobals "str" = some none)
    (z_tuple : PySem.W.nsIn K mainGlobals "tuple" = some none)
    (z_list : PySem.W.nsIn K mainGlobals "list" = some none)
    (z_range : PySem.W.nsIn K mainGlobals "range" = some none)
    (z_reversed : PySem.W.nsIn K mainGlobals "reversed" = some none)
    (z_zip : PySem.W.nsIn K mainGlobals "zip" = some none)
    (z_max : PySem.W.nsIn K mainGlobals "max" = some none)
    (z_min : PySem.W.nsIn K mainGlobals "min" = some none)
    (z_abs : PySem.W.nsIn K mainGlobals "abs" = some none)
    (z_sorted : PySem.W.nsIn K mainGlobals "sorted" = some none)
    (z_set : PySem.W.nsIn K mainGlobals "set" = some none)
    (z_divmod : PySem.W.nsIn K mainGlobals "divmod" = some none)
    (z_repr : PySem.W.nsIn K mainGlobals "repr" = some none)
    (z_enumerate : PySem.W.nsIn K mainGlobals "enumerate" = some none)
    (z_ValueError : PySem.W.nsIn K mainGlobals "ValueError" = some none) :
    ∃ fd : FuncData, (∀ (s : Shared) (v : Value), BindsTo s fd ⟨[v], []⟩ [("_law_script", v)]) ∧ ∀ base : Heap, K.In base → base.Ns mainGlobals mg → FnG l.prog w K mg base 3 fa fd ["_law_script"] (spLaw K) := by
  have e := hfa.symm.trans (PySem.W.mg_of X G a5)
  cases e
  have F0 := fun_mk (st := s_law_purse) l0 c0 k0
  have b0 := F0.binds (ps := ["_law_script", "_law_at"]) fun _ _ _ _ _ _ us hl => match us, hl with | [_, _], _ => rfl
  have F1 := fun_mk (st := s_law_draw) l1 c1 k1
  have b1 := F1.binds (ps := ["_law_purse_here", "_law_many"]) fun _ _ _ _ _ _ us hl => match us, hl with | [_, _], _ => rfl
  have F2 := fun_mk (st := s_law_pick) l2 c2 k2
  have b2 := F2.binds (ps := ["_law_purse_here", "_law_items"]) fun _ _ _ _ _ _ us hl => match us, hl with | [_, _], _ => rfl
  have F3 := fun_mk (st := s_law_classes) l3 c3 k3
  have b3 := F3.binds (ps := ["_law_error"]) fun _ _ _ _ _ _ us hl => match us, hl with | [_], _ => rfl
  have F4 := fun_mk (st := s_law_right) l4 c4 k4
  have b4 := F4.binds (ps := ["_law_errors", "_law_given"]) fun _ _ _ _ _ _ us hl => match us, hl with | [_, _], _ => rfl
  have F5 := fun_mk (st := s_law) l5 c5 k5
  have b5 := F5.binds (ps := ["_law_script"]) fun _ _ _ _ _ _ us hl => match us, hl with | [_], _ => rfl
  let A : Adr := {
    a_law_purse := f0
    d_law_purse := PySem.W.fnOf "_law_purse" "_law_purse" (defArgs s_law_purse) (defBody s_law_purse) (defScope s_law_purse) .none kV0 dc0 pm0 an0 cd0 ct0
    a_law_draw := f1
    d_law_draw := PySem.W.fnOf "_law_draw" "_law_draw" (defArgs s_law_draw) (defBody s_law_draw) (defScope s_law_draw) .none kV1 dc1 pm1 an1 cd1 ct1
    a_law_pick := f2
    d_law_pick := PySem.W.fnOf "_law_pick" "_law_pick" (defArgs s_law_pick) (defBody s_law_pick) (defScope s_law_pick) .none kV2 dc2 pm2 an2 cd2 ct2
    a_law_classes := f3
    d_law_classes := PySem.W.fnOf "_law_classes" "_law_classes" (defArgs s_law_classes) (defBody s_law_classes) (defScope s_law_classes) .none kV3 dc3 pm3 an3 cd3 ct3
    a_law_right := f4
    d_law_right := PySem.W.fnOf "_law_right" "_law_right" (defArgs s_law_right) (defBody s_law_right) (defScope s_law_right) .none kV4 dc4 pm4 an4 cd4 ct4
    a_law := fa
    d_law := PySem.W.fnOf "law" "law" (defArgs s_law) (defBody s_law) (defScope s_law) .none kV5 dc5 pm5 an5 cd5 ct5
    e_InvalidRule := C_InvalidRule
    i_InvalidRule := f_InvalidRule
    j_InvalidRule := PySem.W.fnOf "__init__" "InvalidRule.__init__" (defArgs s_InvalidRule_init) (defBody s_InvalidRule_init) (defScope s_InvalidRule_init) (.ref T_InvalidRule) kw_InvalidRule dc_InvalidRule pm_InvalidRule an_InvalidRule cd_InvalidRule ct_InvalidRule
    e_InvalidRange := C_InvalidRange
    i_InvalidRange := f_InvalidRange
    j_InvalidRange := PySem.W.fnOf "__init__" "InvalidRange.__init__" (defArgs s_InvalidRange_init) (defBody s_InvalidRange_init) (defScope s_InvalidRange_init) (.ref T_InvalidRange) kw_InvalidRange dc_InvalidRange pm_InvalidRange an_InvalidRange cd_InvalidRange ct_InvalidRange
    e_InvalidSet := C_InvalidSet
    i_InvalidSet := f_InvalidSet
    j_InvalidSet := PySem.W.fnOf "__init__" "InvalidSet.__init__" (defArgs s_InvalidSet_init) (defBody s_InvalidSet_init) (defScope s_InvalidSet_init) (.ref T_InvalidSet) kw_InvalidSet dc_InvalidSet pm_InvalidSet an_InvalidSet cd_InvalidSet ct_InvalidSet
    e_InvalidBase := C_InvalidBase
    i_InvalidBase := f_InvalidBase
    j_InvalidBase := PySem.W.fnOf "__init__" "InvalidBase.__init__" (defArgs s_InvalidBase_init) (defBody s_InvalidBase_init) (defScope s_InvalidBase_init) (.ref T_InvalidBase) kw_InvalidBase dc_InvalidBase pm_InvalidBase an_InvalidBase cd_InvalidBase ct_InvalidBase
    e_InvalidNumber := C_InvalidNumber
    i_InvalidNumber := f_InvalidNumber
    j_InvalidNumber := PySem.W.fnOf "__init__" "InvalidNumber.__init__" (defArgs s_InvalidNumber_init) (defBody s_InvalidNumber_init) (defScope s_InvalidNumber_init) (.ref T_InvalidNumber) kw_InvalidNumber dc_InvalidNumber pm_InvalidNumber an_InvalidNumber cd_InvalidNumber ct_InvalidNumber
    e_InvalidFactor := C_InvalidFactor
    i_InvalidFactor := f_InvalidFactor
    j_InvalidFactor := PySem.W.fnOf "__init__" "InvalidFactor.__init__" (defArgs s_InvalidFactor_init) (defBody s_InvalidFactor_init) (defScope s_InvalidFactor_init) (.ref T_InvalidFactor) kw_InvalidFactor dc_InvalidFactor pm_InvalidFactor an_InvalidFactor cd_InvalidFactor ct_InvalidFactor
    e_InvalidEnd := C_InvalidEnd
    i_InvalidEnd := f_InvalidEnd
    j_InvalidEnd := PySem.W.fnOf "__init__" "InvalidEnd.__init__" (defArgs s_InvalidEnd_init) (defBody s_InvalidEnd_init) (defScope s_InvalidEnd_init) (.ref T_InvalidEnd) kw_InvalidEnd dc_InvalidEnd pm_InvalidEnd an_InvalidEnd cd_InvalidEnd ct_InvalidEnd
    e_InvalidRules := C_InvalidRules
    i_InvalidRules := f_InvalidRules
    j_InvalidRules := PySem.W.fnOf "__init__" "InvalidRules.__init__" (defArgs s_InvalidRules_init) (defBody s_InvalidRules_init) (defScope s_InvalidRules_init) (.ref T_InvalidRules) kw_InvalidRules dc_InvalidRules pm_InvalidRules an_InvalidRules cd_InvalidRules ct_InvalidRules
    e_AxisTicksError := C_AxisTicksError }
  have ox_AxisTicksError : OexC K C_AxisTicksError := ⟨⟨_, _, _, _, _, _, _, _, _, _, _, _, _, _, _, xL_AxisTicksError, by rfl⟩, sa_AxisTicksError, ex_AxisTicksError, ty_AxisTicksError, kC_AxisTicksError⟩
  have as_AxisTicksError : Xask K C_AxisTicksError := ⟨ga_AxisTicksError, gg_AxisTicksError, ex_AxisTicksError, hd_AxisTicksError, ca_AxisTicksError, cn, ct, cm_AxisTicksError⟩
  have ox_InvalidRule : OexC K C_InvalidRule := ⟨⟨_, _, _, _, _, _, _, _, _, _, _, _, _, _, _, xL_InvalidRule, by rfl⟩, sa_InvalidRule, ex_InvalidRule, ty_InvalidRule, kC_InvalidRule⟩
  have as_InvalidRule : Xask K C_InvalidRule := ⟨ga_InvalidRule, gg_InvalidRule, ex_InvalidRule, hd_InvalidRule, ca_InvalidRule, cn, ct, cm_InvalidRule⟩
  have ox_InvalidRange : OexC K C_InvalidRange := ⟨⟨_, _, _, _, _, _, _, _, _, _, _, _, _, _, _, xL_InvalidRange, by rfl⟩, sa_InvalidRange, ex_InvalidRange, ty_InvalidRange, kC_InvalidRange⟩
  have as_InvalidRange : Xask K C_InvalidRange := ⟨ga_InvalidRange, gg_InvalidRange, ex_InvalidRange, hd_InvalidRange, ca_InvalidRange, cn, ct, cm_InvalidRange⟩
  have ox_InvalidSet : OexC K C_InvalidSet := ⟨⟨_, _, _, _, _, _, _, _, _, _, _, _, _, _, _, xL_InvalidSet, by rfl⟩, sa_InvalidSet, ex_InvalidSet, ty_InvalidSet, kC_InvalidSet⟩
  have as_InvalidSet : Xask K C_InvalidSet := ⟨ga_InvalidSet, gg_InvalidSet, ex_InvalidSet, hd_InvalidSet, ca_InvalidSet, cn, ct, cm_InvalidSet⟩
  have ox_InvalidBase : OexC K C_InvalidBase := ⟨⟨_, _, _, _, _, _, _, _, _, _, _, _, _, _, _, xL_InvalidBase, by rfl⟩, sa_InvalidBase, ex_InvalidBase, ty_InvalidBase, kC_InvalidBase⟩
  have as_InvalidBase : Xask K C_InvalidBase := ⟨ga_InvalidBase, gg_InvalidBase, ex_InvalidBase, hd_InvalidBase, ca_InvalidBase, cn, ct, cm_InvalidBase⟩
  have ox_InvalidNumber : OexC K C_InvalidNumber := ⟨⟨_, _, _, _, _, _, _, _, _, _, _, _, _, _, _, xL_InvalidNumber, by rfl⟩, sa_InvalidNumber, ex_InvalidNumber, ty_InvalidNumber, kC_InvalidNumber⟩
  have as_InvalidNumber : Xask K C_InvalidNumber := ⟨ga_InvalidNumber, gg_InvalidNumber, ex_InvalidNumber, hd_InvalidNumber, ca_InvalidNumber, cn, ct, cm_InvalidNumber⟩
  have ox_InvalidFactor : OexC K C_InvalidFactor := ⟨⟨_, _, _, _, _, _, _, _, _, _, _, _, _, _, _, xL_InvalidFactor, by rfl⟩, sa_InvalidFactor, ex_InvalidFactor, ty_InvalidFactor, kC_InvalidFactor⟩
  have as_InvalidFactor : Xask K C_InvalidFactor := ⟨ga_InvalidFactor, gg_InvalidFactor, ex_InvalidFactor, hd_InvalidFactor, ca_InvalidFactor, cn, ct, cm_InvalidFactor⟩
  have ox_InvalidEnd : OexC K C_InvalidEnd := ⟨⟨_, _, _, _, _, _, _, _, _, _, _, _, _, _, _, xL_InvalidEnd, by rfl⟩, sa_InvalidEnd, ex_InvalidEnd, ty_InvalidEnd, kC_InvalidEnd⟩
  have as_InvalidEnd : Xask K C_InvalidEnd := ⟨ga_InvalidEnd, gg_InvalidEnd, ex_InvalidEnd, hd_InvalidEnd, ca_InvalidEnd, cn, ct, cm_InvalidEnd⟩
  have ox_InvalidRules : OexC K C_InvalidRules := ⟨⟨_, _, _, _, _, _, _, _, _, _, _, _, _, _, _, xL_InvalidRules, by rfl⟩, sa_InvalidRules, ex_InvalidRules, ty_InvalidRules, kC_InvalidRules⟩
  have as_InvalidRules : Xask K C_InvalidRules := ⟨ga_InvalidRules, gg_InvalidRules, ex_InvalidRules, hd_InvalidRules, ca_InvalidRules, cn, ct, cm_InvalidRules⟩
  have r0 : ∀ j : Nat, j < 8 → ∃ D, A.cl[j]? = some D ∧ PySem.W.kitOne K (.ref C_InvalidRule) (.ref D) = some (decide (0 = j)) := fun j hj => by
    match j, hj with
    | 0, _ => exact ⟨_, rfl, by unfold PySem.W.kitOne; exact if_pos (beq_self_eq_true _)⟩
    | 1, _ => exact ⟨_, rfl, kit_cc n0_1 hd_InvalidRange ty_InvalidRange q0_1⟩
    | 2, _ => exact ⟨_, rfl, kit_cc n0_2 hd_InvalidSet ty_InvalidSet q0_2⟩
    | 3, _ => exact ⟨_, rfl, kit_cc n0_3 hd_InvalidBase ty_InvalidBase q0_3⟩
    | 4, _ => exact ⟨_, rfl, kit_cc n0_4 hd_InvalidNumber ty_InvalidNumber q0_4⟩
    | 5, _ => exact ⟨_, rfl, kit_cc n0_5 hd_InvalidFactor ty_InvalidFactor q0_5⟩
    | 6, _ => exact ⟨_, rfl, kit_cc n0_6 hd_InvalidEnd ty_InvalidEnd q0_6⟩
    | 7, _ => exact ⟨_, rfl, kit_cc n0_7 hd_InvalidRules ty_InvalidRules q0_7⟩
    | n + 8, hj => omega
  have r1 : ∀ j : Nat, j < 8 → ∃ D, A.cl[j]? = some D ∧ PySem.W.kitOne K (.ref C_InvalidRange) (.ref D) = some (decide (1 = j)) := fun j hj => by
    match j, hj with
    | 0, _ => exact ⟨_, rfl, kit_cc n1_0 hd_InvalidRule ty_InvalidRule q1_0⟩
    | 1, _ => exact ⟨_, rfl, by unfold PySem.W.kitOne; exact if_pos (beq_self_eq_true _)⟩
    | 2, _ => exact ⟨_, rfl, kit_cc n1_2 hd_InvalidSet ty_InvalidSet q1_2⟩
    | 3, _ => exact ⟨_, rfl, kit_cc n1_3 hd_InvalidBase ty_InvalidBase q1_3⟩
    | 4, _ => exact ⟨_, rfl, kit_cc n1_4 hd_InvalidNumber ty_InvalidNumber q1_4⟩
    | 5, _ => exact ⟨_, rfl, kit_cc n1_5 hd_InvalidFactor ty_InvalidFactor q1_5⟩
    | 6, _ => exact ⟨_, rfl, kit_cc n1_6 hd_InvalidEnd ty_InvalidEnd q1_6⟩
    | 7, _ => exact ⟨_, rfl, kit_cc n1_7 hd_InvalidRules ty_InvalidRules q1_7⟩
    | n + 8, hj => omega
  have r2 : ∀ j : Nat, j < 8 → ∃ D, A.cl[j]? = some D ∧ PySem.W.kitOne K (.ref C_InvalidSet) (.ref D) = some (decide (2 = j)) := fun j hj => by
    match j, hj with
    | 0, _ => exact ⟨_, rfl, kit_cc n2_0 hd_InvalidRule ty_InvalidRule q2_0⟩
    | 1, _ => exact ⟨_, rfl, kit_cc n2_1 hd_InvalidRange ty_InvalidRange q2_1⟩
    | 2, _ => exact ⟨_, rfl, by unfold PySem.W.kitOne; exact if_pos (beq_self_eq_true _)⟩
    | 3, _ => exact ⟨_, rfl, kit_cc n2_3 hd_InvalidBase ty_InvalidBase q2_3⟩
    | 4, _ => exact ⟨_, rfl, kit_cc n2_4 hd_InvalidNumber ty_InvalidNumber q2_4⟩
    | 5, _ => exact ⟨_, rfl, kit_cc n2_5 hd_InvalidFactor ty_InvalidFactor q2_5⟩
    | 6, _ => exact ⟨_, rfl, kit_cc n2_6 hd_InvalidEnd ty_InvalidEnd q2_6⟩
    | 7, _ => exact ⟨_, rfl, kit_cc n2_7 hd_InvalidRules ty_InvalidRules q2_7⟩
    | n + 8, hj => omega
  have r3 : ∀ j : Nat, j < 8 → ∃ D, A.cl[j]? = some D ∧ PySem.W.kitOne K (.ref C_InvalidBase) (.ref D) = some (decide (3 = j)) := fun j hj => by
    match j, hj with
    | 0, _ => exact ⟨_, rfl, kit_cc n3_0 hd_InvalidRule ty_InvalidRule q3_0⟩
    | 1, _ => exact ⟨_, rfl, kit_cc n3_1 hd_InvalidRange ty_InvalidRange q3_1⟩
    | 2, _ => exact ⟨_, rfl, kit_cc n3_2 hd_InvalidSet ty_InvalidSet q3_2⟩
    | 3, _ => exact ⟨_, rfl, by unfold PySem.W.kitOne; exact if_pos (beq_self_eq_true _)⟩
    | 4, _ => exact ⟨_, rfl, kit_cc n3_4 hd_InvalidNumber ty_InvalidNumber q3_4⟩
    | 5, _ => exact ⟨_, rfl, kit_cc n3_5 hd_InvalidFactor ty_InvalidFactor q3_5⟩
    | 6, _ => exact ⟨_, rfl, kit_cc n3_6 hd_InvalidEnd ty_InvalidEnd q3_6⟩
    | 7, _ => exact ⟨_, rfl, kit_cc n3_7 hd_InvalidRules ty_InvalidRules q3_7⟩
    | n + 8, hj => omega
  have r4 : ∀ j : Nat, j < 8 → ∃ D, A.cl[j]? = some D ∧ PySem.W.kitOne K (.ref C_InvalidNumber) (.ref D) = some (decide (4 = j)) := fun j hj => by
    match j, hj with
    | 0, _ => exact ⟨_, rfl, kit_cc n4_0 hd_InvalidRule ty_InvalidRule q4_0⟩
    | 1, _ => exact ⟨_, rfl, kit_cc n4_1 hd_InvalidRange ty_InvalidRange q4_1⟩
    | 2, _ => exact ⟨_, rfl, kit_cc n4_2 hd_InvalidSet ty_InvalidSet q4_2⟩
    | 3, _ => exact ⟨_, rfl, kit_cc n4_3 hd_InvalidBase ty_InvalidBase q4_3⟩
    | 4, _ => exact ⟨_, rfl, by unfold PySem.W.kitOne; exact if_pos (beq_self_eq_true _)⟩
    | 5, _ => exact ⟨_, rfl, kit_cc n4_5 hd_InvalidFactor ty_InvalidFactor q4_5⟩
    | 6, _ => exact ⟨_, rfl, kit_cc n4_6 hd_InvalidEnd ty_InvalidEnd q4_6⟩
    | 7, _ => exact ⟨_, rfl, kit_cc n4_7 hd_InvalidRules ty_InvalidRules q4_7⟩
    | n + 8, hj => omega
  have r5 : ∀ j : Nat, j < 8 → ∃ D, A.cl[j]? = some D ∧ PySem.W.kitOne K (.ref C_InvalidFactor) (.ref D) = some (decide (5 = j)) := fun j hj => by
    match j, hj with
    | 0, _ => exact ⟨_, rfl, kit_cc n5_0 hd_InvalidRule ty_InvalidRule q5_0⟩
    | 1, _ => exact ⟨_, rfl, kit_cc n5_1 hd_InvalidRange ty_InvalidRange q5_1⟩
    | 2, _ => exact ⟨_, rfl, kit_cc n5_2 hd_InvalidSet ty_InvalidSet q5_2⟩
    | 3, _ => exact ⟨_, rfl, kit_cc n5_3 hd_InvalidBase ty_InvalidBase q5_3⟩
    | 4, _ => exact ⟨_, rfl, kit_cc n5_4 hd_InvalidNumber ty_InvalidNumber q5_4⟩
    | 5, _ => exact ⟨_, rfl, by unfold PySem.W.kitOne; exact if_pos (beq_self_eq_true _)⟩
    | 6, _ => exact ⟨_, rfl, kit_cc n5_6 hd_InvalidEnd ty_InvalidEnd q5_6⟩
    | 7, _ => exact ⟨_, rfl, kit_cc n5_7 hd_InvalidRules ty_InvalidRules q5_7⟩
    | n + 8, hj => omega
  have r6 : ∀ j : Nat, j < 8 → ∃ D, A.cl[j]? = some D ∧ PySem.W.kitOne K (.ref C_InvalidEnd) (.ref D) = some (decide (6 = j)) := fun j hj => by
    match j, hj with
    | 0, _ => exact ⟨_, rfl, kit_cc n6_0 hd_InvalidRule ty_InvalidRule q6_0⟩
    | 1, _ => exact ⟨_, rfl, kit_cc n6_1 hd_InvalidRange ty_InvalidRange q6_1⟩
    | 2, _ => exact ⟨_, rfl, kit_cc n6_2 hd_InvalidSet ty_InvalidSet q6_2⟩
    | 3, _ => exact ⟨_, rfl, kit_cc n6_3 hd_InvalidBase ty_InvalidBase q6_3⟩
    | 4, _ => exact ⟨_, rfl, kit_cc n6_4 hd_InvalidNumber ty_InvalidNumber q6_4⟩
    | 5, _ => exact ⟨_, rfl, kit_cc n6_5 hd_InvalidFactor ty_InvalidFactor q6_5⟩
    | 6, _ => exact ⟨_, rfl, by unfold PySem.W.kitOne; exact if_pos (beq_self_eq_true _)⟩
    | 7, _ => exact ⟨_, rfl, kit_cc n6_7 hd_InvalidRules ty_InvalidRules q6_7⟩
    | n + 8, hj => omega
  have r7 : ∀ j : Nat, j < 8 → ∃ D, A.cl[j]? = some D ∧ PySem.W.kitOne K (.ref C_InvalidRules) (.ref D) = some (decide (7 = j)) := fun j hj => by
    match j, hj with
    | 0, _ => exact ⟨_, rfl, kit_cc n7_0 hd_InvalidRule ty_InvalidRule q7_0⟩
    | 1, _ => exact ⟨_, rfl, kit_cc n7_1 hd_InvalidRange ty_InvalidRange q7_1⟩
    | 2, _ => exact ⟨_, rfl, kit_cc n7_2 hd_InvalidSet ty_InvalidSet q7_2⟩
    | 3, _ => exact ⟨_, rfl, kit_cc n7_3 hd_InvalidBase ty_InvalidBase q7_3⟩
    | 4, _ => exact ⟨_, rfl, kit_cc n7_4 hd_InvalidNumber ty_InvalidNumber q7_4⟩
    | 5, _ => exact ⟨_, rfl, kit_cc n7_5 hd_InvalidFactor ty_InvalidFactor q7_5⟩
    | 6, _ => exact ⟨_, rfl, kit_cc n7_6 hd_InvalidEnd ty_InvalidEnd q7_6⟩
    | 7, _ => exact ⟨_, rfl, by unfold PySem.W.kitOne; exact if_pos (beq_self_eq_true _)⟩
    | n + 8, hj => omega
  have T : Txt K mg A w := {
    n_len := PySem.W.mg_none_of X G z_len
    n_isinstance := PySem.W.mg_none_of X G z_isinstance
    n_all := PySem.W.mg_none_of X G z_all
    n_int := PySem.W.mg_none_of X G z_int
    n_bool := PySem.W.mg_none_of X G z_bool
    n_str := PySem.W.mg_none_of X G z_str
    n_tuple := PySem.W.mg_none_of X G z_tuple
    n_list := PySem.W.mg_none_of X G z_list
    n_range := PySem.W.mg_none_of X G z_range
    n_reversed := PySem.W.mg_none_of X G z_reversed
    n_zip := PySem.W.mg_none_of X G z_zip
    n_max := PySem.W.mg_none_of X G z_max
    n_min := PySem.W.mg_none_of X G z_min
    n_abs := PySem.W.mg_none_of X G z_abs
    n_sorted := PySem.W.mg_none_of X G z_sorted
    n_set := PySem.W.mg_none_of X G z_set
    n_divmod := PySem.W.mg_none_of X G z_divmod
    n_repr := PySem.W.mg_none_of X G z_repr
    n_enumerate := PySem.W.mg_none_of X G z_enumerate
    n_ValueError := PySem.W.mg_none_of X G z_ValueError
    F_law_purse := F0
    B_law_purse := b0
    m_law_purse := PySem.W.mg_of X G a0
    F_law_draw := F1
    B_law_draw := b1
    m_law_draw := PySem.W.mg_of X G a1
    F_law_pick := F2
    B_law_pick := b2
    m_law_pick := PySem.W.mg_of X G a2
    F_law_classes := F3
    B_law_classes := b3
    m_law_classes := PySem.W.mg_of X G a3
    F_law_right := F4
    B_law_right := b4
    m_law_right := PySem.W.mg_of X G a4
    F_law := F5
    B_law := b5
    m_law := PySem.W.mg_of X G a5
    x_InvalidRule := { mgC := PySem.W.mg_of X G aC_InvalidRule, oex := ox_InvalidRule, ask := as_InvalidRule, ini := in_InvalidRule, fty := ft_InvalidRule, no := no_InvalidRule, F := ⟨⟨_, _, _, _, _, _, _, _, _, _, rfl, l_InvalidRule, c_InvalidRule, .inr ⟨by simp, _, _, [.none], _, rfl, lT_InvalidRule, rfl, .cons rfl .nil⟩, .inl rfl⟩, k_InvalidRule⟩ }
    x_InvalidRange := { mgC := PySem.W.mg_of X G aC_InvalidRange, oex := ox_InvalidRange, ask := as_InvalidRange, ini := in_InvalidRange, fty := ft_InvalidRange, no := no_InvalidRange, F := ⟨⟨_, _, _, _, _, _, _, _, _, _, rfl, l_InvalidRange, c_InvalidRange, .inr ⟨by simp, _, _, [.none], _, rfl, lT_InvalidRange, rfl, .cons rfl .nil⟩, .inl rfl⟩, k_InvalidRange⟩ }
    x_InvalidSet := { mgC := PySem.W.mg_of X G aC_InvalidSet, oex := ox_InvalidSet, ask := as_InvalidSet, ini := in_InvalidSet, fty := ft_InvalidSet, no := no_InvalidSet, F := ⟨⟨_, _, _, _, _, _, _, _, _, _, rfl, l_InvalidSet, c_InvalidSet, .inr ⟨by simp, _, _, [.none], _, rfl, lT_InvalidSet, rfl, .cons rfl .nil⟩, .inl rfl⟩, k_InvalidSet⟩ }
    x_InvalidBase := { mgC := PySem.W.mg_of X G aC_InvalidBase, oex := ox_InvalidBase, ask := as_InvalidBase, ini := in_InvalidBase, fty := ft_InvalidBase, no := no_InvalidBase, F := ⟨⟨_, _, _, _, _, _, _, _, _, _, rfl, l_InvalidBase, c_InvalidBase, .inr ⟨by simp, _, _, [.none], _, rfl, lT_InvalidBase, rfl, .cons rfl .nil⟩, .inl rfl⟩, k_InvalidBase⟩ }
    x_InvalidNumber := { mgC := PySem.W.mg_of X G aC_InvalidNumber, oex := ox_InvalidNumber, ask := as_InvalidNumber, ini := in_InvalidNumber, fty := ft_InvalidNumber, no := no_InvalidNumber, F := ⟨⟨_, _, _, _, _, _, _, _, _, _, rfl, l_InvalidNumber, c_InvalidNumber, .inr ⟨by simp, _, _, [.none], _, rfl, lT_InvalidNumber, rfl, .cons rfl .nil⟩, .inl rfl⟩, k_InvalidNumber⟩ }
    x_InvalidFactor := { mgC := PySem.W.mg_of X G aC_InvalidFactor, oex := ox_InvalidFactor, ask := as_InvalidFactor, ini := in_InvalidFactor, fty := ft_InvalidFactor, no := no_InvalidFactor, F := ⟨⟨_, _, _, _, _, _, _, _, _, _, rfl, l_InvalidFactor, c_InvalidFactor, .inr ⟨by simp, _, _, [.none], _, rfl, lT_InvalidFactor, rfl, .cons rfl .nil⟩, .inl rfl⟩, k_InvalidFactor⟩ }
    x_InvalidEnd := { mgC := PySem.W.mg_of X G aC_InvalidEnd, oex := ox_InvalidEnd, ask := as_InvalidEnd, ini := in_InvalidEnd, fty := ft_InvalidEnd, no := no_InvalidEnd, F := ⟨⟨_, _, _, _, _, _, _, _, _, _, rfl, l_InvalidEnd, c_InvalidEnd, .inr ⟨by simp, _, _, [.none], _, rfl, lT_InvalidEnd, rfl, .cons rfl .nil⟩, .inl rfl⟩, k_InvalidEnd⟩ }
    x_InvalidRules := { mgC := PySem.W.mg_of X G aC_InvalidRules, oex := ox_InvalidRules, ask := as_InvalidRules, ini := in_InvalidRules, fty := ft_InvalidRules, no := no_InvalidRules, F := ⟨⟨_, _, _, _, _, _, _, _, _, _, rfl, l_InvalidRules, c_InvalidRules, .inr ⟨by simp, _, _, [.none], _, rfl, lT_InvalidRules, rfl, .cons rfl .nil⟩, .inl rfl⟩, k_InvalidRules⟩ }
    m_AxisTicksError := PySem.W.mg_of X G aC_AxisTicksError
    x_base := ⟨ox_AxisTicksError, as_AxisTicksError, ib, kit_ve kv_AxisTicksError⟩
    kit := fun i j hi hj => by
      match i, hi with
      | 0, _ => obtain ⟨D, h1, h2⟩ := r0 j hj; exact ⟨_, D, rfl, h1, h2⟩
      | 1, _ => obtain ⟨D, h1, h2⟩ := r1 j hj; exact ⟨_, D, rfl, h1, h2⟩
      | 2, _ => obtain ⟨D, h1, h2⟩ := r2 j hj; exact ⟨_, D, rfl, h1, h2⟩
      | 3, _ => obtain ⟨D, h1, h2⟩ := r3 j hj; exact ⟨_, D, rfl, h1, h2⟩
      | 4, _ => obtain ⟨D, h1, h2⟩ := r4 j hj; exact ⟨_, D, rfl, h1, h2⟩
      | 5, _ => obtain ⟨D, h1, h2⟩ := r5 j hj; exact ⟨_, D, rfl, h1, h2⟩
      | 6, _ => obtain ⟨D, h1, h2⟩ := r6 j hj; exact ⟨_, D, rfl, h1, h2⟩
      | 7, _ => obtain ⟨D, h1, h2⟩ := r7 j hj; exact ⟨_, D, rfl, h1, h2⟩
      | n + 8, hi => omega
    kitA := fun i hi => by
      match i, hi with
      | 0, _ => exact ⟨_, rfl, kit_cc nb_InvalidRule hd_AxisTicksError ty_AxisTicksError kb_InvalidRule, kit_ve kv_InvalidRule, as_InvalidRule, no_InvalidRule⟩
      | 1, _ => exact ⟨_, rfl, kit_cc nb_InvalidRange hd_AxisTicksError ty_AxisTicksError kb_InvalidRange, kit_ve kv_InvalidRange, as_InvalidRange, no_InvalidRange⟩
      | 2, _ => exact ⟨_, rfl, kit_cc nb_InvalidSet hd_AxisTicksError ty_AxisTicksError kb_InvalidSet, kit_ve kv_InvalidSet, as_InvalidSet, no_InvalidSet⟩
      | 3, _ => exact ⟨_, rfl, kit_cc nb_InvalidBase hd_AxisTicksError ty_AxisTicksError kb_InvalidBase, kit_ve kv_InvalidBase, as_InvalidBase, no_InvalidBase⟩
      | 4, _ => exact ⟨_, rfl, kit_cc nb_InvalidNumber hd_AxisTicksError ty_AxisTicksError kb_InvalidNumber, kit_ve kv_InvalidNumber, as_InvalidNumber, no_InvalidNumber⟩
      | 5, _ => exact ⟨_, rfl, kit_cc nb_InvalidFactor hd_AxisTicksError ty_AxisTicksError kb_InvalidFactor, kit_ve kv_InvalidFactor, as_InvalidFactor, no_InvalidFactor⟩
      | 6, _ => exact ⟨_, rfl, kit_cc nb_InvalidEnd hd_AxisTicksError ty_AxisTicksError kb_InvalidEnd, kit_ve kv_InvalidEnd, as_InvalidEnd, no_InvalidEnd⟩
      | 7, _ => exact ⟨_, rfl, kit_cc nb_InvalidRules hd_AxisTicksError ty_AxisTicksError kb_InvalidRules, kit_ve kv_InvalidRules, as_InvalidRules, no_InvalidRules⟩
      | n + 8, hi => omega }
  exact ⟨_, fun s v => .of_eq rfl, fun base _ _ => ok_law (A := A) T⟩
theorem walk {l : PySem.W.OpenLaw} {q : Program} {loose : List Str} {XP : (Str → Option Value) → Heap → Prop} {YP : World → Heap → Prop} {d : DefRec} {K : Params → PySem.W.Frag} (hn : l.most = some 63) (hdf : d.params.defaults = [])
    (hY : ∀ (w : World) (h : Heap), YP w h → (K w.params).In h)
    (F : ∀ (w : World) (mg : Str → Option Value) (fa : Addr) (h : Heap), (K w.params).In h → h.Ns mainGlobals mg → mg d.name = some (.ref fa) →
      ∃ fd : FuncData, (∀ (s : Shared) (u : Value), BindsTo s fd ⟨[u], []⟩ [("_law_script", u)]) ∧ ∀ base : Heap, (K w.params).In base → base.Ns mainGlobals mg → FnG l.prog w (K w.params) mg base 3 fa fd ["_law_script"] (spLaw (K w.params))) :
    PySem.W.WalkO q loose XP YP l.row.toRowW d [] (fun f vs => PySem.call f vs) :=
  walkG (k := 3) (x := "_law_script") (sp := fun w => spLaw (K w.params)) hn hdf ⟨rfl, by decide, by decide⟩ hY F (fun _ _ a ns hl hS => ⟨a, ns, rfl, hS, hl, fun _ => rfl⟩)
end Ax

open PySem PySem.W PyProof.Rows in
set_option maxRecDepth 100000 in
set_option maxHeartbeats 0 in
theorem PySem.Challenge.cw_axisticks_k01_errors_made_holds : PySem.Challenge.rw_axisticks_k01_errors_made.Holds := by
  w_on; o_law; k_head; (case hw => w_witness2)
  k_fill
  refine Ax.walk (l := PySem.Challenge.rw_axisticks_k01_errors_made) rfl rfl (fun w h Y => PySem.W.kIn_of Y) ?F
  case F =>
    intro w mg fa h KX G hmg
    refine' Ax.all_mk KX G hmg ?aC_AxisTicksError ?xL_AxisTicksError ?sa_AxisTicksError ?ex_AxisTicksError ?ty_AxisTicksError ?kC_AxisTicksError ?ga_AxisTicksError ?gg_AxisTicksError ?hd_AxisTicksError ?ca_AxisTicksError ?cm_AxisTicksError ?kv_AxisTicksError ?cn ?ct ?ib ?aC_InvalidRule ?xL_InvalidRule ?sa_InvalidRule ?ex_InvalidRule ?ty_InvalidRule ?kC_InvalidRule ?ga_InvalidRule ?gg_InvalidRule ?hd_InvalidRule ?ca_InvalidRule ?cm_InvalidRule ?kv_InvalidRule ?in_InvalidRule ?ft_InvalidRule ?no_InvalidRule ?l_InvalidRule ?lT_InvalidRule ?c_InvalidRule ?k_InvalidRule ?kb_InvalidRule ?nb_InvalidRule ?aC_InvalidRange ?xL_InvalidRange ?sa_InvalidRange ?ex_InvalidRange ?ty_InvalidRange ?kC_InvalidRange ?ga_InvalidRange ?gg_InvalidRange ?hd_InvalidRange ?ca_InvalidRange ?cm_InvalidRange ?kv_InvalidRange ?in_InvalidRange ?ft_InvalidRange ?no_InvalidRange ?l_InvalidRange ?lT_InvalidRange ?c_InvalidRange ?k_InvalidRange ?kb_InvalidRange ?nb_InvalidRange ?aC_InvalidSet ?xL_InvalidSet ?sa_InvalidSet ?ex_InvalidSet ?ty_InvalidSet ?kC_InvalidSet ?ga_InvalidSet ?gg_InvalidSet ?hd_InvalidSet ?ca_InvalidSet ?cm_InvalidSet ?kv_InvalidSet ?in_InvalidSet ?ft_InvalidSet ?no_InvalidSet ?l_InvalidSet ?lT_InvalidSet ?c_InvalidSet ?k_InvalidSet ?kb_InvalidSet ?nb_InvalidSet ?aC_InvalidBase ?xL_InvalidBase ?sa_InvalidBase ?ex_InvalidBase ?ty_InvalidBase ?kC_InvalidBase ?ga_InvalidBase ?gg_InvalidBase ?hd_InvalidBase ?ca_InvalidBase ?cm_InvalidBase ?kv_InvalidBase ?in_InvalidBase ?ft_InvalidBase ?no_InvalidBase ?l_InvalidBase ?lT_InvalidBase ?c_InvalidBase ?k_InvalidBase ?kb_InvalidBase ?nb_InvalidBase ?aC_InvalidNumber ?xL_InvalidNumber ?sa_InvalidNumber ?ex_InvalidNumber ?ty_InvalidNumber ?kC_InvalidNumber ?ga_InvalidNumber ?gg_InvalidNumber ?hd_InvalidNumber ?ca_InvalidNumber ?cm_InvalidNumber ?kv_InvalidNumber ?in_InvalidNumber ?ft_InvalidNumber ?no_InvalidNumber ?l_InvalidNumber ?lT_InvalidNumber ?c_InvalidNumber ?k_InvalidNumber ?kb_InvalidNumber ?nb_InvalidNumber ?aC_InvalidFactor ?xL_InvalidFactor ?sa_InvalidFactor ?ex_InvalidFactor ?ty_InvalidFactor ?kC_InvalidFactor ?ga_InvalidFactor ?gg_InvalidFactor ?hd_InvalidFactor ?ca_InvalidFactor ?cm_InvalidFactor ?kv_InvalidFactor ?in_InvalidFactor ?ft_InvalidFactor ?no_InvalidFactor ?l_InvalidFactor ?lT_InvalidFactor ?c_InvalidFactor ?k_InvalidFactor ?kb_InvalidFactor ?nb_InvalidFactor ?aC_InvalidEnd ?xL_InvalidEnd ?sa_InvalidEnd ?ex_InvalidEnd ?ty_InvalidEnd ?kC_InvalidEnd ?ga_InvalidEnd ?gg_InvalidEnd ?hd_InvalidEnd ?ca_InvalidEnd ?cm_InvalidEnd ?kv_InvalidEnd ?in_InvalidEnd ?ft_InvalidEnd ?no_InvalidEnd ?l_InvalidEnd ?lT_InvalidEnd ?c_InvalidEnd ?k_InvalidEnd ?kb_InvalidEnd ?nb_InvalidEnd ?aC_InvalidRules ?xL_InvalidRules ?sa_InvalidRules ?ex_InvalidRules ?ty_InvalidRules ?kC_InvalidRules ?ga_InvalidRules ?gg_InvalidRules ?hd_InvalidRules ?ca_InvalidRules ?cm_InvalidRules ?kv_InvalidRules ?in_InvalidRules ?ft_InvalidRules ?no_InvalidRules ?l_InvalidRules ?lT_InvalidRules ?c_InvalidRules ?k_InvalidRules ?kb_InvalidRules ?nb_InvalidRules ?q0_1 ?n0_1 ?q0_2 ?n0_2 ?q0_3 ?n0_3 ?q0_4 ?n0_4 ?q0_5 ?n0_5 ?q0_6 ?n0_6 ?q0_7 ?n0_7 ?q1_0 ?n1_0 ?q1_2 ?n1_2 ?q1_3 ?n1_3 ?q1_4 ?n1_4 ?q1_5 ?n1_5 ?q1_6 ?n1_6 ?q1_7 ?n1_7 ?q2_0 ?n2_0 ?q2_1 ?n2_1 ?q2_3 ?n2_3 ?q2_4 ?n2_4 ?q2_5 ?n2_5 ?q2_6 ?n2_6 ?q2_7 ?n2_7 ?q3_0 ?n3_0 ?q3_1 ?n3_1 ?q3_2 ?n3_2 ?q3_4 ?n3_4 ?q3_5 ?n3_5 ?q3_6 ?n3_6 ?q3_7 ?n3_7 ?q4_0 ?n4_0 ?q4_1 ?n4_1 ?q4_2 ?n4_2 ?q4_3 ?n4_3 ?q4_5 ?n4_5 ?q4_6 ?n4_6 ?q4_7 ?n4_7 ?q5_0 ?n5_0 ?q5_1 ?n5_1 ?q5_2 ?n5_2 ?q5_3 ?n5_3 ?q5_4 ?n5_4 ?q5_6 ?n5_6 ?q5_7 ?n5_7 ?q6_0 ?n6_0 ?q6_1 ?n6_1 ?q6_2 ?n6_2 ?q6_3 ?n6_3 ?q6_4 ?n6_4 ?q6_5 ?n6_5 ?q6_7 ?n6_7 ?q7_0 ?n7_0 ?q7_1 ?n7_1 ?q7_2 ?n7_2 ?q7_3 ?n7_3 ?q7_4 ?n7_4 ?q7_5 ?n7_5 ?q7_6 ?n7_6 ?a0 ?l0 ?c0 ?k0 ?a1 ?l1 ?c1 ?k1 ?a2 ?l2 ?c2 ?k2 ?a3 ?l3 ?c3 ?k3 ?a4 ?l4 ?c4 ?k4 ?a5 ?l5 ?c5 ?k5 ?z_len ?z_isinstance ?z_all ?z_int ?z_bool ?z_str ?z_tuple ?z_list ?z_range ?z_reversed ?z_zip ?z_max ?z_min ?z_abs ?z_sorted ?z_set ?z_divmod ?z_repr ?z_enumerate ?z_ValueError
    (case aC_AxisTicksError => k_is)
    (case aC_InvalidRule => k_is)
    (case aC_InvalidRange => k_is)
    (case aC_InvalidSet => k_is)
    (case aC_InvalidBase => k_is)
    (case aC_InvalidNumber => k_is)
    (case aC_InvalidFactor => k_is)
    (case aC_InvalidEnd => k_is)
    (case aC_InvalidRules => k_is)
    (case xL_AxisTicksError => k_is)
    (case xL_InvalidRule => k_is)
    (case xL_InvalidRange => k_is)
    (case xL_InvalidSet => k_is)
    (case xL_InvalidBase => k_is)
    (case xL_InvalidNumber => k_is)
    (case xL_InvalidFactor => k_is)
    (case xL_InvalidEnd => k_is)
    (case xL_InvalidRules => k_is)
    (case in_InvalidRule => k_is)
    (case in_InvalidRange => k_is)
    (case in_InvalidSet => k_is)
    (case in_InvalidBase => k_is)
    (case in_InvalidNumber => k_is)
    (case in_InvalidFactor => k_is)
    (case in_InvalidEnd => k_is)
    (case in_InvalidRules => k_is)
    (case a0 => k_is)
    (case a1 => k_is)
    (case a2 => k_is)
    (case a3 => k_is)
    (case a4 => k_is)
    (case a5 => k_is)
    (case l_InvalidRule => k_is)
    (case l_InvalidRange => k_is)
    (case l_InvalidSet => k_is)
    (case l_InvalidBase => k_is)
    (case l_InvalidNumber => k_is)
    (case l_InvalidFactor => k_is)
    (case l_InvalidEnd => k_is)
    (case l_InvalidRules => k_is)
    (case l0 => k_is)
    (case l1 => k_is)
    (case l2 => k_is)
    (case l3 => k_is)
    (case l4 => k_is)
    (case l5 => k_is)
    (case lT_InvalidRule => k_is)
    (case lT_InvalidRange => k_is)
    (case lT_InvalidSet => k_is)
    (case lT_InvalidBase => k_is)
    (case lT_InvalidNumber => k_is)
    (case lT_InvalidFactor => k_is)
    (case lT_InvalidEnd => k_is)
    (case lT_InvalidRules => k_is)
    (case sa_AxisTicksError => k_is)
    (case ex_AxisTicksError => k_is)
    (case ty_AxisTicksError => k_is)
    (case kC_AxisTicksError => k_is)
    (case ga_AxisTicksError => k_is)
    (case gg_AxisTicksError => k_is)
    (case hd_AxisTicksError => k_is)
    (case ca_AxisTicksError => k_is)
    (case cm_AxisTicksError => k_is)
    (case kv_AxisTicksError => k_is)
    (case cn => k_is)
    (case ct => k_is)
    (case ib => k_is)
    (case sa_InvalidRule => k_is)
    (case ex_InvalidRule => k_is)
    (case ty_InvalidRule => k_is)
    (case kC_InvalidRule => k_is)
    (case ga_InvalidRule => k_is)
    (case gg_InvalidRule => k_is)
    (case hd_InvalidRule => k_is)
    (case ca_InvalidRule => k_is)
    (case cm_InvalidRule => k_is)
    (case kv_InvalidRule => k_is)
    (case ft_InvalidRule => k_is)
    (case no_InvalidRule => k_is)
    (case c_InvalidRule => k_is)
    (case k_InvalidRule => k_is)
    (case kb_InvalidRule => k_is)
    (case nb_InvalidRule => rfl)
    (case sa_InvalidRange => k_is)
    (case ex_InvalidRange => k_is)
    (case ty_InvalidRange => k_is)
    (case kC_InvalidRange => k_is)
    (case ga_InvalidRange => k_is)
    (case gg_InvalidRange => k_is)
    (case hd_InvalidRange => k_is)
    (case ca_InvalidRange => k_is)
    (case cm_InvalidRange => k_is)
    (case kv_InvalidRange => k_is)
    (case ft_InvalidRange => k_is)
    (case no_InvalidRange => k_is)
    (case c_InvalidRange => k_is)
    (case k_InvalidRange => k_is)
    (case kb_InvalidRange => k_is)
    (case nb_InvalidRange => rfl)
    (case sa_InvalidSet => k_is)
    (case ex_InvalidSet => k_is)
    (case ty_InvalidSet => k_is)
    (case kC_InvalidSet => k_is)
    (case ga_InvalidSet => k_is)
    (case gg_InvalidSet => k_is)
    (case hd_InvalidSet => k_is)
    (case ca_InvalidSet => k_is)
    (case cm_InvalidSet => k_is)
    (case kv_InvalidSet => k_is)
    (case ft_InvalidSet => k_is)
    (case no_InvalidSet => k_is)
    (case c_InvalidSet => k_is)
    (case k_InvalidSet => k_is)
    (case kb_InvalidSet => k_is)
    (case nb_InvalidSet => rfl)
    (case sa_InvalidBase => k_is)
    (case ex_InvalidBase => k_is)
    (case ty_InvalidBase => k_is)
    (case kC_InvalidBase => k_is)
    (case ga_InvalidBase => k_is)
    (case gg_InvalidBase => k_is)
    (case hd_InvalidBase => k_is)
    (case ca_InvalidBase => k_is)
    (case cm_InvalidBase => k_is)
    (case kv_InvalidBase => k_is)
    (case ft_InvalidBase => k_is)
    (case no_InvalidBase => k_is)
    (case c_InvalidBase => k_is)
    (case k_InvalidBase => k_is)
    (case kb_InvalidBase => k_is)
    (case nb_InvalidBase => rfl)
    (case sa_InvalidNumber => k_is)
    (case ex_InvalidNumber => k_is)
    (case ty_InvalidNumber => k_is)
    (case kC_InvalidNumber => k_is)
    (case ga_InvalidNumber => k_is)
    (case gg_InvalidNumber => k_is)
    (case hd_InvalidNumber => k_is)
    (case ca_InvalidNumber => k_is)
    (case cm_InvalidNumber => k_is)
    (case kv_InvalidNumber => k_is)
    (case ft_InvalidNumber => k_is)
    (case no_InvalidNumber => k_is)
    (case c_InvalidNumber => k_is)
    (case k_InvalidNumber => k_is)
    (case kb_InvalidNumber => k_is)
    (case nb_InvalidNumber => rfl)
    (case sa_InvalidFactor => k_is)
    (case ex_InvalidFactor => k_is)
    (case ty_InvalidFactor => k_is)
    (case kC_InvalidFactor => k_is)
    (case ga_InvalidFactor => k_is)
    (case gg_InvalidFactor => k_is)
    (case hd_InvalidFactor => k_is)
    (case ca_InvalidFactor => k_is)
    (case cm_InvalidFactor => k_is)
    (case kv_InvalidFactor => k_is)
    (case ft_InvalidFactor => k_is)
    (case no_InvalidFactor => k_is)
    (case c_InvalidFactor => k_is)
    (case k_InvalidFactor => k_is)
    (case kb_InvalidFactor => k_is)
    (case nb_InvalidFactor => rfl)
    (case sa_InvalidEnd => k_is)
    (case ex_InvalidEnd => k_is)
    (case ty_InvalidEnd => k_is)
    (case kC_InvalidEnd => k_is)
    (case ga_InvalidEnd => k_is)
    (case gg_InvalidEnd => k_is)
    (case hd_InvalidEnd => k_is)
    (case ca_InvalidEnd => k_is)
    (case cm_InvalidEnd => k_is)
    (case kv_InvalidEnd => k_is)
    (case ft_InvalidEnd => k_is)
    (case no_InvalidEnd => k_is)
    (case c_InvalidEnd => k_is)
    (case k_InvalidEnd => k_is)
    (case kb_InvalidEnd => k_is)
    (case nb_InvalidEnd => rfl)
    (case sa_InvalidRules => k_is)
    (case ex_InvalidRules => k_is)
    (case ty_InvalidRules => k_is)
    (case kC_InvalidRules => k_is)
    (case ga_InvalidRules => k_is)
    (case gg_InvalidRules => k_is)
    (case hd_InvalidRules => k_is)
    (case ca_InvalidRules => k_is)
    (case cm_InvalidRules => k_is)
    (case kv_InvalidRules => k_is)
    (case ft_InvalidRules => k_is)
    (case no_InvalidRules => k_is)
    (case c_InvalidRules => k_is)
    (case k_InvalidRules => k_is)
    (case kb_InvalidRules => k_is)
    (case nb_InvalidRules => rfl)
    (case q0_1 => k_is)
    (case n0_1 => rfl)
    (case q0_2 => k_is)
    (case n0_2 => rfl)
    (case q0_3 => k_is)
    (case n0_3 => rfl)
    (case q0_4 => k_is)
    (case n0_4 => rfl)
    (case q0_5 => k_is)
    (case n0_5 => rfl)
    (case q0_6 => k_is)
    (case n0_6 => rfl)
    (case q0_7 => k_is)
    (case n0_7 => rfl)
    (case q1_0 => k_is)
    (case n1_0 => rfl)
    (case q1_2 => k_is)
    (case n1_2 => rfl)
    (case q1_3 => k_is)
    (case n1_3 => rfl)
    (case q1_4 => k_is)
    (case n1_4 => rfl)
    (case q1_5 => k_is)
    (case n1_5 => rfl)
    (case q1_6 => k_is)
    (case n1_6 => rfl)
    (case q1_7 => k_is)
    (case n1_7 => rfl)
    (case q2_0 => k_is)
    (case n2_0 => rfl)
    (case q2_1 => k_is)
    (case n2_1 => rfl)
    (case q2_3 => k_is)
    (case n2_3 => rfl)
    (case q2_4 => k_is)
    (case n2_4 => rfl)
    (case q2_5 => k_is)
    (case n2_5 => rfl)
    (case q2_6 => k_is)
    (case n2_6 => rfl)
    (case q2_7 => k_is)
    (case n2_7 => rfl)
    (case q3_0 => k_is)
    (case n3_0 => rfl)
    (case q3_1 => k_is)
    (case n3_1 => rfl)
    (case q3_2 => k_is)
    (case n3_2 => rfl)
    (case q3_4 => k_is)
    (case n3_4 => rfl)
    (case q3_5 => k_is)
    (case n3_5 => rfl)
    (case q3_6 => k_is)
    (case n3_6 => rfl)
    (case q3_7 => k_is)
    (case n3_7 => rfl)
    (case q4_0 => k_is)
    (case n4_0 => rfl)
    (case q4_1 => k_is)
    (case n4_1 => rfl)
    (case q4_2 => k_is)
    (case n4_2 => rfl)
    (case q4_3 => k_is)
    (case n4_3 => rfl)
    (case q4_5 => k_is)
    (case n4_5 => rfl)
    (case q4_6 => k_is)
    (case n4_6 => rfl)
    (case q4_7 => k_is)
    (case n4_7 => rfl)
    (case q5_0 => k_is)
    (case n5_0 => rfl)
    (case q5_1 => k_is)
    (case n5_1 => rfl)
    (case q5_2 => k_is)
    (case n5_2 => rfl)
    (case q5_3 => k_is)
    (case n5_3 => rfl)
    (case q5_4 => k_is)
    (case n5_4 => rfl)
    (case q5_6 => k_is)
    (case n5_6 => rfl)
    (case q5_7 => k_is)
    (case n5_7 => rfl)
    (case q6_0 => k_is)
    (case n6_0 => rfl)
    (case q6_1 => k_is)
    (case n6_1 => rfl)
    (case q6_2 => k_is)
    (case n6_2 => rfl)
    (case q6_3 => k_is)
    (case n6_3 => rfl)
    (case q6_4 => k_is)
    (case n6_4 => rfl)
    (case q6_5 => k_is)
    (case n6_5 => rfl)
    (case q6_7 => k_is)
    (case n6_7 => rfl)
    (case q7_0 => k_is)
    (case n7_0 => rfl)
    (case q7_1 => k_is)
    (case n7_1 => rfl)
    (case q7_2 => k_is)
    (case n7_2 => rfl)
    (case q7_3 => k_is)
    (case n7_3 => rfl)
    (case q7_4 => k_is)
    (case n7_4 => rfl)
    (case q7_5 => k_is)
    (case n7_5 => rfl)
    (case q7_6 => k_is)
    (case n7_6 => rfl)
    (case c0 => k_is)
    (case k0 => k_is)
    (case c1 => k_is)
    (case k1 => k_is)
    (case c2 => k_is)
    (case k2 => k_is)
    (case c3 => k_is)
    (case k3 => k_is)
    (case c4 => k_is)
    (case k4 => k_is)
    (case c5 => k_is)
    (case k5 => k_is)
    (case z_len => k_is)
    (case z_isinstance => k_is)
    (case z_all => k_is)
    (case z_int => k_is)
    (case z_bool => k_is)
    (case z_str => k_is)
    (case z_tuple => k_is)
    (case z_list => k_is)
    (case z_range => k_is)
    (case z_reversed => k_is)
    (case z_zip => k_is)
    (case z_max => k_is)
    (case z_min => k_is)
    (case z_abs => k_is)
    (case z_sorted => k_is)
    (case z_set => k_is)
    (case z_divmod => k_is)
    (case z_repr => k_is)
    (case z_enumerate => k_is)
    (case z_ValueError => k_is)


