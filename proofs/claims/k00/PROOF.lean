import PyProof.Rows.All
import Wide.All
import OpenK.AllK
import Wide.FinOn
import PyProof.EqAt
import PyProof.EqKinds
import PyProof.TupleCall
import KE.KExcSuper
import HandS.ForExc
import HandS.ExcSuper
import HandS.ForMost
import PyProof.ReprRoads
import PyProof.ReprBulk
import HandS.Wide
import HandS.Flow
import HandS.Conv
import PySem.Challenge.RW_oncecrossed_k00_errors_by_position_and_n
import HandS.Style
import KE.KExcIs
import HandS.TryMany
import HandS.ExcField
import HandS.IsInst
import HandS.ExcValue
import HandS.Defaults
import HandS.ExcIs
import HandS.Walk
set_option Elab.async false
set_option linter.all false
set_option maxRecDepth 100000
set_option maxHeartbeats 4000000
/-! Own exceptions over WebError(Exception) whose making says super().__init__(text) and keeps one field, at the machine's level. -/
namespace PySem.EX
open PySem PySem.W PySem.Calls PyProof.Rows Builtin Builtin.ObjectAttr

/-- the mro behind the own classes -/
abbrev tailE : List Value := [.type "Exception", .type "BaseException", .type "object"]
/-- the text of such a class's making: its one parameter f, what it says, the places -/
def aA (f : Str) (p1 p2 : Pos) : Arguments :=
  { posonlyargs := [], args := [⟨"self", none, p1⟩, ⟨f, none, p2⟩], vararg := none, kwonlyargs := [], kw_defaults := [], kwarg := none, defaults := [] }
def aS (f : Str) : Scope :=
  { kind := .function, names := [("self", .local), (f, .local), ("__class__", .free), ("super", .globalImplicit)], isGenerator := false, isCoroutine := false, more := [] }
def sSay (txt : Str) (k : Nat) (q1 q2 q3 q4 q5 q6 : Pos) : Stmt :=
  .Expr (.Call (.Attribute (.Call (.Name "super" q1) [] [] q2) "__init__" q3) [.Constant (.str txt) k q4] [] q5) q6
def sKeep (f : Str) (q1 q2 q3 q4 : Pos) : Stmt := .Assign [.Attribute (.Name "self" q1) f q2] (.Name f q3) q4

/-- what the written part says of the class at C -/
structure ClsT (P : Program) (K : Frag) (C : Addr) : Prop where
  ex : excInitIn K C tailE "Exception.__new__" = true
  ov : excOver K C tailE = true
  sa : findIn K (.ref C) "__setattr__" = some (some (.builtin "object.__setattr__"))
  hd : hasDictIn K C = true
  su : ks_superIn K C C "__init__" = some (some (.builtin "Exception.__init__"))
  sE : subIn K (.ref C) (.type "Exception") = some true
  mr : mroIn K C (.ref C) = some true
  op : nsIn K cStatics "thirdparty.any" = some none
  kp : keepIn K (.ref C) = true
  file : (P.main.scope.names.lookup ("super" : Str)).isSome = false

/-- the def at fI is this class's making -/
structure IniT (P : Program) (K : Frag) (C fI : Addr) (args : Arguments) (body : List Stmt) (sc : Scope) : Prop where
  fi : findIn K (.ref C) "__init__" = some (some (.ref fI))
  ty : typeIn K (.ref fI) = some (.type "function")
  fn : ∃ (oc : Value) (od : Option Addr) (qual : Str) (dV kV doc pm : Value) (an : Option Addr) (cda : Addr) (ct : Value) (osl : Array (Option Value)) (cc : Addr),
    K.lookup fI = some ⟨oc, od, .func (ksFn "__init__" qual args body sc .none .none doc pm an (.ref cda) ct cc), osl⟩ ∧ codeIn K (.ref cda) qual = true ∧
    (∃ ccl cdd vs ccs file tf, K.lookup cda = some ⟨ccl, cdd, .fields vs, ccs⟩ ∧ vs[2]? = some (.str file tf) ∧ ((P.main.file : Str) == file) = true) ∧
    (∃ cl cld csl, K.lookup cc = some ⟨cl, cld, .cell (some (.ref C)), csl⟩)

section
variable {prog : Program} {w : World} {A : Around} {E : Value → Shared → Prop} {s : Shared} {K : Frag} {mg mb : Str → Option Value} {C fI : Addr}

/-- such a def's scope, its names ns -/
abbrev scp (ns : List (Str × NameKind)) : Scope := { kind := .function, names := ns, isGenerator := false, isCoroutine := false, more := [] }
theorem say {ns : List (Str × NameKind)} {L f cc cda : Addr} {m : Str → Option Value} {q : Str} {x t0 : Addr} {txt : Str} {n : Nat} {q1 q2 q3 q4 q5 q6 : Pos} {fd : FuncData} {of : Obj} {ar : Arg} {body : List Stmt} {Q : Flow → Shared → Prop}
    (T : ClsT prog K C) (X : K.In s.heap) (G : s.heap.Ns mainGlobals mg) (hs : mg "super" = none) (B : s.heap.Ns builtinsNs mb) (hb : mb "super" = some (.type "super"))
    (hl : s.heap.Ns L m) (hv : m ar.arg = some (.ref x)) (hx : s.heap.get? x = some (HandSPX.excO C t0)) (hnC : x ≠ C)
    (hf : s.heap.get? f = some of) (hfd : of.data = .func fd) (hp : (fd.params.posonlyargs ++ fd.params.args).head? = some ar)
    (hcode : ∃ ccl cdd vs ccs file tf, K.lookup cda = some ⟨ccl, cdd, .fields vs, ccs⟩ ∧ vs[2]? = some (.str file tf) ∧ ((prog.main.file : Str) == file) = true)
    (hcell : ∃ cl cld csl, K.lookup cc = some ⟨cl, cld, .cell (some (.ref C)), csl⟩)
    (hks : ns.lookup ("super" : Str) = some .globalImplicit) (hkc : ns.lookup ("__class__" : Str) = some .free) (hka : ns.lookup ar.arg = some .local)
    (hpos : (q3.endLine == q5.line) = true)
    (h : ∀ h' tk t1, (∀ b o, b ≠ x → s.heap.get? b = some o → h'.get? b = some o) → h'.get? x = some (HandSPX.excO C t1) → Q .next { s with heap := h', toks := tk }) :
    _root_.PySem.wpAt (model prog w) A (.func body (ksEnv q (scp ns) L f (.ref cda) cc)) (exec (sSay txt n q1 q2 q3 q4 q5 q6) (ksEnv q (scp ns) L f (.ref cda) cc)) Q E s := by
  obtain ⟨nm, N, qn, bs, bm, hdct, sn, sub, ab, col, dd, k0, k1, k2, k3, k5, hC, hT⟩ := excInit_of X T.ex
  obtain ⟨ccl, cdd, vs, ccs, file, tf, hc1, hc2, hc3⟩ := hcode
  obtain ⟨cl, cld, csl, hcc⟩ := hcell
  have I : InstAt s.heap x (HandSPX.excO C t0) C none := ⟨hx, rfl, rfl, trivial⟩
  obtain ⟨hp0, g, d, t, os⟩ := s
  unfold sSay
  refine ks_wpAt_Expr_any ?_
  refine ks_wpAt_MethodCall (pl := do return (← importBound (.Call (.Name "super" q1) [] [] q2) (ksEnv q (scp ns) L f (.ref cda) cc)).getD true) ?_ (by
    rw [arm_eval_Call]
    unfold methodCall methodCallPos calleeOf
    rw [show (methodCallForm ([Expr.Constant (Const.str txt) n q4].length + ([] : List Keyword).length) (backTo q5 (starEach [Expr.Constant (Const.str txt) n q4] (ksEnv q (scp ns) L f (.ref cda) cc))) (backToKw q5 (keywordEach [] (ksEnv q (scp ns) L f (.ref cda) cc)))) = true from rfl, hpos]
    simp only [Bool.not_true, Bool.false_or, if_true, pure_bind]
    rfl)
  refine ks_wpAt_super_base (env := ksEnv q (scp ns) L f (.ref cda) cc) hks hkc rfl rfl hf hfd hp rfl (X _ _ hc1) rfl hc2 hc3 T.file ?_
  refine ks_loadName_global rfl hks (loadGlobal_builtin (env := ksEnv q (scp ns) L f (.ref cda) cc) G hs B hb ⟨rfl, ?_⟩)
  refine wpAny_loadName_free rfl hkc rfl ⟨_, X _ _ hcc, rfl⟩ ?_
  refine wpAny_loadName_local rfl hka hl hv ?_
  refine ks_wpAny_isType_cls hC rfl ⟨rfl, ?_⟩
  refine ks_wpAny_call_super hC rfl hx rfl (fun c z => nomatch z) (looks_mroIn X T.mr) (fun h1 e1 k1 => ?_)
  have X1 : K.In h1 := X.keeps k1
  have I1 : InstAt h1 x (HandSPX.excO C t0) C none := ⟨k1 _ _ hx, rfl, rfl, trivial⟩
  have su := T.su
  unfold ks_superIn at su
  cases hc : clsIn K C with
  | none => rw [hc] at su; cases su
  | some cd =>
    rw [hc] at su
    refine PySem.ESX.getMethod_super e1 (looks_opaque X1 T.op) (l₀ := cd.mro) (fun A Q E s k z => wpAny_bind ((looks_clsIn X1 hc) A _ E s k (wpAny_pure z))) rfl X1 su hnC rfl (I1.type.andThen (looks_subIn X1 T.sE)) ?_
    refine PySem.ESX.callWith_bound (x := x) ?_
    show wpAny _ _ (spliced ((false, eval (.Constant (.str txt) n q4) (ksEnv q (scp ns) L f (.ref cda) cc)) :: [])) _ _ _
    refine spliced_cons (Constant_str (spliced_nil ⟨Heap.get?_push_size h1 rfl, ?_⟩))
    have kb : ∀ b o, hp0.get? b = some o → (h1.push (ESX.bw x)).get? b = some o := fun b o z => Heap.get?_push_of_some _ (k1 b o z)
    refine PySem.ESX.call_bw (C := C) (e := x) (kb _ _ hC) (kb _ _ hx) (Heap.get?_push_size h1 rfl) (by rw [sizeLine_eq]; exact (by decide : 1 ≤ 16777216)) fun h' t1 kk hx' => ?_
    exact h h' _ t1 (fun b o hb z => kk b o hb (kb b o z)) hx'

/-- self.f = v, the first field of an exception that has none -/
theorem keep {env : Env} {m : Str → Option Value} {f : Str} {x t0 : Addr} {v : Value} {q1 q2 q3 q4 : Pos} {Q : Flow → Shared → Prop}
    (T : ClsT prog K C) (X : K.In s.heap) (hno : findIn K (.ref C) f = some none) (hx : s.heap.get? x = some (HandSPX.excO C t0))
    (hl : s.heap.Ns env.locals m) (hf : m f = some v) (hs : m "self" = some (.ref x)) (hk : env.scope.kind = .function) (lf : env.kindOf f = some .local) (ls : env.kindOf "self" = some .local) (hd : (f == ("__debug__" : Str)) = false)
    (hsw : swapsWith (.Name f q3) (some (.Attribute (.Name "self" q1) f q2)) q4.line env = pure false)
    (h : ∀ h' tk dx, (∀ b o, b ≠ x → s.heap.get? b = some o → h'.get? b = some o) → s.heap.objs.size ≤ dx → dx ≠ x →
      h'.get? x = some { cls := .ref C, dict := some dx, data := .fields #[.ref t0, .none, .none, .none, .bool false, .none] } → h'.Ns1 dx (fun y => if y = f then some v else none) → Q .next { s with heap := h', toks := tk }) :
    wpAny (model prog w) A (exec (sKeep f q1 q2 q3 q4) env) Q E s := by
  unfold sKeep
  refine plainObj_wpAny_Assign_Attribute ?_ hsw
  refine wpAny_Name (wpAny_loadName_local hk lf hl hf ?_) hd
  refine wpAny_Name (wpAny_loadName_local hk ls hl hs ?_)
  refine set_plain X (ox := HandSPX.excO C t0) (od := none) ⟨hx, rfl, rfl, trivial⟩ T.sa ?_
  obtain ⟨cd, hc, hd'⟩ := any_some T.hd
  have ht : takerIn K C f = some none := by unfold takerIn; rw [hno] <;> rfl
  refine osa_openX (s := { s with toks := s.toks + 1 }) (od := none) F.store_Exception X ⟨hx, rfl, rfl, trivial⟩ T.ov ht fun b => ?_
  have hxs : x ≠ s.heap.objs.size := Nat.ne_of_lt (Heap.lt_size hx)
  refine wpAny_bind (wpAny_pure (wpAny_bind (instanceDict_exc (t := t0) (c2 := .none) hx (looks_clsIn X hc) hd' ?_)))
  show wpAny _ _ (storeInDict s.heap.objs.size (.str f s.toks) f v) _ _ _
  refine HandSPX.store_in_new ⟨_, #[], _, (Heap.get?_update_ne _ _ _ _ hxs.symm).trans (Heap.get?_push_size _ rfl), rfl, fun e he => absurd he (by simp), fun _ => rfl⟩ fun h' tk' hn' hs' => ?_
  have e1 : (s.heap.push (dictOf [] 0)).get? x = some (HandSPX.excO C t0) := Heap.get?_push_of_some _ hx
  refine h h' tk' s.heap.objs.size (fun b o hb ho => ?_) (Nat.le_refl _) hxs.symm ?_ hn'
  · exact (hs'.2 b (Nat.ne_of_lt (Heap.lt_size ho))).trans ((Heap.get?_update_ne _ _ _ _ hb).trans (Heap.get?_push_of_some _ ho))
  · exact (hs'.2 x hxs).trans (Heap.get?_update_self _ e1 rfl)
end
end PySem.EX

set_option Elab.async false
set_option linter.all false
set_option maxRecDepth 100000
set_option maxHeartbeats 4000000
/-! An own exception class called, by position and by name. -/
namespace PySem.EX
open PySem PySem.W PySem.Calls PyProof.Rows Builtin Builtin.ObjectAttr PySem.HandSPX
section
variable {prog : Program} {w : World} {M : Model} {A : Around} {E : Value → Shared → Prop} {R : Result → Shared → Prop} {h : Heap} {g : Array GenState} {d : Drawn} {t : Nat} {os : OsState}
variable {nm q : Str} {C N : Addr} {bs bm bmB : List Value} {hdct : Bool} {sn : List Str} {sub : List Value} {ab : Bool} {col : Option Bool} {dd : Option Addr} {k0 k1 k2 k3 k5 : Option Value} {B newId initId : String}

theorem chk_new (F : ExcBaseFacts B newId initId bmB) (hT : ∀ X : String, bm.contains (.type X) = bmB.contains (.type X)) {rest : List Value} {kw : List (Str × Value)} {Q : Unit → Shared → Prop}
    (hC : h.get? C = some (excClassObj nm q C N bs bm hdct sn sub ab col dd k0 k1 k2 k3 k5 newId)) (hq : Q () ⟨h, g, d, t, os⟩) : wpAny M A (checkBuiltinCall newId ⟨.ref C :: rest, kw⟩) Q E ⟨h, g, d, t, os⟩ := by
  have e1 : (Value.ref C :: bm).contains (.type B) = true := by rw [List.contains_cons, hT, F.hasB, Bool.or_true]
  have e2 := F.noStar
  simp only [checkBuiltinCall, F.newKind, F.newSplit, F.newRow]
  repeat (first
    | refine wpAny_loadPart_at hC ?_
    | (refine wpAny_isSubtype_exc hC ?_; rw [e1])
    | refine wpAny_staticBase_exc hC ?_
    | refine wpAny_madeBy_exc hC ?_
    | simp only [bne_self_eq_false, Bool.false_eq_true, if_false]
    | wp_step)
  all_goals exact hq

theorem mk_new (F : ExcBaseFacts B newId initId bmB) (hT : ∀ X : String, bm.contains (.type X) = bmB.contains (.type X)) {rest : List Value} {kw : List (Str × Value)} (hz : rest.length ≤ sizeLine)
    (hC : h.get? C = some (excClassObj nm q C N bs bm hdct sn sub ab col dd k0 k1 k2 k3 k5 newId))
    (hq : R (.ok (.ret (.ref (h.objs.size + 1)))) ⟨(h.push (kdv_tup rest)).push (excO C h.objs.size), g, d, t, os⟩) :
    codeAny (model prog w) A (.builtin newId ⟨.ref C :: rest, kw⟩) R ⟨h, g, d, t, os⟩ := by
  have e0 := F.ends
  have e1 : (Value.ref C :: bm).contains (.type B) = true := by rw [List.contains_cons, hT, F.hasB, Bool.or_true]
  have e2 : (Value.ref C :: bm).contains (.type "AttributeError") = false := by rw [List.contains_cons, hT, F.noAttr] <;> rfl
  have e3 : (Value.ref C :: bm).contains (.type "NameError") = false := by rw [List.contains_cons, hT, F.noName] <;> rfl
  refine codeAny_builtinAt F.entry (show _root_.PySem.wpAt _ _ _ (Builtin.«BaseException.__new__» _) _ _ _ from ?_)
  unfold Builtin.«BaseException.__new__»
  refine wpAt_bind (show _root_.PySem.wpAt _ _ _ (stack >>= _) _ _ _ from wpAt_bind (wpAt_stack fun _ _ => wpAt_of_wpAny ?_))
  wp_walk
  refine wpAt_of_wpAny ?_; rw [F.owner]
  repeat (first
    | with_reducible refine wpAny_madeHere_exc F.canon hC ?_
    | with_reducible refine wpAny_loadPart_at hC ?_
    | (with_reducible refine wpAny_isSubtype_exc hC ?_
       first | rw [e1] | rw [e2] | rw [e3])
    | wp_step)
  show R _ _; rw [Heap.size_push]; exact hq

theorem mk_type (F : ExcBaseFacts B newId initId bmB) (hT : ∀ X : String, bm.contains (.type X) = bmB.contains (.type X)) {rest : List Value} {kw : List (Str × Value)} {fI : Addr} {Q : Fin → Shared → Prop} (hz : rest.length ≤ sizeLine)
    (hC : h.get? C = some (excClassObj nm q C N bs bm hdct sn sub ab col dd k0 k1 k2 k3 k5 newId))
    (hi : W.Looks (model prog w) h (typeLookup (.ref C) "__init__") (some (.ref fI))) (hb : ∀ self, W.Looks (model prog w) h (bindSpecial (.ref fI) self) (.ref fI, [self]))
    (hq : codeAny (model prog w) A (.call (.ref fI) ⟨.ref (h.objs.size + 1) :: rest, kw⟩)
      (fun r s' => match r with | .ok (.ret v) => v = .none ∧ Q (.done (.ret (.ref (h.objs.size + 1)))) s' | .ok _ => False | .error e => E e s')
      ⟨(h.push (kdv_tup rest)).push (excO C h.objs.size), g, d, t, os⟩) :
    wpAny (model prog w) A (Builtin.«type.__call__» ⟨.ref C :: rest, kw⟩) Q E ⟨h, g, d, t, os⟩ := by
  repeat (first
    | with_reducible refine wpAny_loadPart_at hC ?_
    | with_reducible refine wpAny_madeBy_exc hC ?_
    | wp_step)
  refine codeAny_call_builtin_code (Code.quiet_builtin _ F.quiet) (chk_new F hT hC (mk_new F hT hz hC (show wpAny _ _ _ _ _ _ from ?_)))
  have kk : ∀ b o, h.get? b = some o → ((h.push (kdv_tup rest)).push (excO C h.objs.size)).get? b = some o := fun b o e => Heap.get?_push_of_some _ (Heap.get?_push_of_some _ e)
  have c1 := kk _ _ hC
  have c2 : ((h.push (kdv_tup rest)).push (excO C h.objs.size)).get? (h.objs.size + 1) = some (excO C h.objs.size) := by heap_get
  have c3 : (Value.ref C :: bm).contains (.ref C) = true := by simp
  unfold isInstance
  repeat (first
    | with_reducible refine wpAny_loadPart_at c2 ?_
    | (with_reducible refine wpAny_isSubtype_exc c1 ?_
       rw [c3])
    | wp_step)
  refine (show wpAny _ _ (typeLookup (.ref C) _) _ _ _ from (hi.keeps kk).at (wpAny_holding (wpAny_bind (((hb (.ref (h.objs.size + 1))).keeps kk).at ?_))))
  refine wpAny_bind (wpAny_call (codeAny_mono hq fun r s' z => ?_))
  cases r with
  | error e => exact z
  | ok fl =>
    cases fl with
    | ret v =>
      obtain ⟨rfl, z⟩ := z
      first | exact wpAny_pure (wpAny_pure z) | (wp_walk; exact z)
    | next => exact z.elim
    | brk => exact z.elim
    | cont => exact z.elim

theorem chk_type {rest : List Value} {kw : List (Str × Value)} {Q : Unit → Shared → Prop} (hC : h.get? C = some (excClassObj nm q C N bs bm hdct sn sub ab col dd k0 k1 k2 k3 k5 newId)) (hq : Q () ⟨h, g, d, t, os⟩) :
    wpAny M A (checkBuiltinCall "type.__call__" ⟨.ref C :: rest, kw⟩) Q E ⟨h, g, d, t, os⟩ := by
  have e1 := tc_sub
  have e2 : (⟨h, g, d, t, os⟩ : Shared).TypeIs (.ref C) "type" := ⟨_, hC, rfl⟩
  simp only [checkBuiltinCall, tc_kind, tc_split]
  repeat (any_goals (first
    | assumption
    | with_reducible refine wpAny_loadPart_at hC ?_
    | with_reducible refine wpAny_onRaise ?_
    | with_reducible refine wpAny_map ?_
    | wp_step))

theorem mk_call (F : ExcBaseFacts B newId initId bmB) (hT : ∀ X : String, bm.contains (.type X) = bmB.contains (.type X)) {rest : List Value} {kw : List (Str × Value)} {fI : Addr} (hz : rest.length ≤ sizeLine)
    (hC : h.get? C = some (excClassObj nm q C N bs bm hdct sn sub ab col dd k0 k1 k2 k3 k5 newId))
    (hi : W.Looks (model prog w) h (typeLookup (.ref C) "__init__") (some (.ref fI))) (hb : ∀ self, W.Looks (model prog w) h (bindSpecial (.ref fI) self) (.ref fI, [self]))
    (hq : codeAny (model prog w) (A.under (.builtin "type.__call__" ⟨.ref C :: rest, kw⟩)) (.call (.ref fI) ⟨.ref (h.objs.size + 1) :: rest, kw⟩) (W.InitBack (h.objs.size + 1) R)
      ⟨(h.push (kdv_tup rest)).push (excO C h.objs.size), g, d, t, os⟩) :
    codeAny (model prog w) A (.call (.ref C) ⟨rest, kw⟩) R ⟨h, g, d, t, os⟩ := by
  have e1 := tc_lookup
  have e2 := tc_bind (.ref C)
  have e3 : (⟨h, g, d, t, os⟩ : Shared).TypeIs (.ref C) "type" := ⟨_, hC, rfl⟩
  refine codeAny_of_tree (show wpAny _ _ (callAny (.ref C) _) _ _ _ from ?_)
  repeat (any_goals (first
    | assumption
    | with_reducible refine wpAny_loadPart_at hC ?_
    | wp_step))
  refine ⟨rfl, codeAny_call_builtin_at (Code.quiet_builtin _ (by decide +kernel)) entry_typeCall ?_⟩
  refine chk_type hC (mk_type F hT hz hC hi hb (codeAny_mono hq fun r s' z => ?_))
  cases r with
  | error e => exact z
  | ok fl => cases fl <;> exact z
end
end PySem.EX

set_option Elab.async false
set_option linter.all false
set_option maxRecDepth 100000
set_option maxHeartbeats 4000000
/-! An own exception made: what stands behind it. -/
namespace PySem.EX
open PySem PySem.W PySem.Calls PyProof.Rows Builtin Builtin.ObjectAttr PySem.HandSPX

/-- the names of a making with the parameter f, of one without -/
abbrev ns1 (f : Str) : List (Str × NameKind) := [("self", .local), (f, .local), ("__class__", .free), ("super", .globalImplicit)]
abbrev ns0 : List (Str × NameKind) := [("self", .local), ("__class__", .free), ("super", .globalImplicit)]
abbrev aA0 (p1 : Pos) : Arguments := { posonlyargs := [], args := [⟨"self", none, p1⟩], vararg := none, kwonlyargs := [], kw_defaults := [], kwarg := none, defaults := [] }
/-- the six names of parameters that the errors have -/
def fNames : List Str := ["thing", "number", "at", "pairing", "certificate", "place"]

/-- a made error with a field, one without -/
structure Made1 (h h' : Heap) (e C d : Addr) (f : Str) (v : Value) : Prop where
  keep : ∀ b o, h.get? b = some o → h'.get? b = some o
  new : h.objs.size ≤ e
  obj : ∃ t, h'.get? e = some { cls := .ref C, dict := some d, data := .fields #[.ref t, .none, .none, .none, .bool false, .none] }
  dbig : h.objs.size ≤ d
  dne : d ≠ e
  ns : h'.Ns1 d (fun y => if y = f then some v else none)
structure Made0 (h h' : Heap) (e C : Addr) : Prop where
  keep : ∀ b o, h.get? b = some o → h'.get? b = some o
  new : h.objs.size ≤ e
  obj : ∃ t, h'.get? e = some (excO C t)

/-- the making's def, as it stands behind the top -/
structure Fn1 (P : Program) (K : Frag) (C fI : Addr) (f : Str) : Prop where
  fi : findIn K (.ref C) "__init__" = some (some (.ref fI))
  ty : typeIn K (.ref fI) = some (.type "function")
  no : findIn K (.ref C) f = some none
  fn : ∃ (oc : Value) (od : Option Addr) (qual txt : Str) (doc pm : Value) (an : Option Addr) (cda : Addr) (ct : Value) (osl : Array (Option Value)) (cc : Addr) (p1 p2 q1 q2 q3 q4 q5 q6 r1 r2 r3 r4 : Pos),
    K.lookup fI = some ⟨oc, od, .func (ksFn "__init__" qual (aA f p1 p2) [sSay txt 0 q1 q2 q3 q4 q5 q6, sKeep f r1 r2 r3 r4] (scp (ns1 f)) .none .none doc pm an (.ref cda) ct cc), osl⟩ ∧ codeIn K (.ref cda) qual = true ∧ (q3.endLine == q5.line) = true ∧
    (∃ ccl cdd vs ccs file tf, K.lookup cda = some ⟨ccl, cdd, .fields vs, ccs⟩ ∧ vs[2]? = some (.str file tf) ∧ ((P.main.file : Str) == file) = true) ∧
    (∃ cl cld csl, K.lookup cc = some ⟨cl, cld, .cell (some (.ref C)), csl⟩)
structure Fn0 (P : Program) (K : Frag) (C fI : Addr) : Prop where
  fi : findIn K (.ref C) "__init__" = some (some (.ref fI))
  ty : typeIn K (.ref fI) = some (.type "function")
  fn : ∃ (oc : Value) (od : Option Addr) (qual txt : Str) (doc pm : Value) (an : Option Addr) (cda : Addr) (ct : Value) (osl : Array (Option Value)) (cc : Addr) (p1 q1 q2 q3 q4 q5 q6 : Pos),
    K.lookup fI = some ⟨oc, od, .func (ksFn "__init__" qual (aA0 p1) [sSay txt 0 q1 q2 q3 q4 q5 q6] (scp ns0) .none .none doc pm an (.ref cda) ct cc), osl⟩ ∧ codeIn K (.ref cda) qual = true ∧ (q3.endLine == q5.line) = true ∧
    (∃ ccl cdd vs ccs file tf, K.lookup cda = some ⟨ccl, cdd, .fields vs, ccs⟩ ∧ vs[2]? = some (.str file tf) ∧ ((P.main.file : Str) == file) = true) ∧
    (∃ cl cld csl, K.lookup cc = some ⟨cl, cld, .cell (some (.ref C)), csl⟩)

section
variable {prog : Program} {w : World} {A : Around} {R : Result → Shared → Prop} {s : Shared} {K : Frag} {mg mb : Str → Option Value} {C fI : Addr} {f : Str}

theorem init1 (T : ClsT prog K C) (F1 : Fn1 prog K C fI f) (hf : f ∈ fNames) {args : Args} {x t0 : Addr} {v : Value} (X : K.In s.heap) (hlim : s.heap.NoLimit) (G : s.heap.Ns mainGlobals mg) (hs : mg "super" = none) (B : s.heap.Ns builtinsNs mb) (hb : mb "super" = some (.type "super"))
    (ha : args = ⟨[.ref x, v], []⟩ ∨ args = ⟨[.ref x], [(f, v)]⟩) (hx : s.heap.get? x = some (excO C t0)) (hnx : K.lookup x = none) (hnC : x ≠ C) (hroom : A.depth < recursionLimit)
    (hq : ∀ h' tk dx t1, (∀ b o, b ≠ x → s.heap.get? b = some o → h'.get? b = some o) → s.heap.objs.size ≤ dx → dx ≠ x → h'.get? x = some { cls := .ref C, dict := some dx, data := .fields #[.ref t1, .none, .none, .none, .bool false, .none] } →
      h'.Ns1 dx (fun y => if y = f then some v else none) → R (.ok (.ret .none)) { s with heap := h', toks := tk }) :
    codeAny (model prog w) A (.call (.ref fI) args) R s := by
  obtain ⟨oc, od, qual, txt, doc, pm, an, cda, ct, osl, cc, p1, p2, q1, q2, q3, q4, q5, q6, r1, r2, r3, r4, ho, hcd, hpos, hcode, hcell⟩ := F1.fn
  have hfs : (("self" : Str) == f) = false ∧ (f == ("self" : Str)) = false ∧ (f == ("__debug__" : Str)) = false := by
    simp only [fNames, List.mem_cons, List.not_mem_nil, or_false] at hf
    rcases hf with rfl | rfl | rfl | rfl | rfl | rfl <;> decide +kernel
  have hbind : BindsTo s (ksFn "__init__" qual (aA f p1 p2) [sSay txt 0 q1 q2 q3 q4 q5 q6, sKeep f r1 r2 r3 r4] (scp (ns1 f)) .none .none doc pm an (.ref cda) ct cc) args [("self", .ref x), (f, v)] := by
    refine BindsTo.of_eq ?_
    simp only [fNames, List.mem_cons, List.not_mem_nil, or_false] at hf
    rcases ha with rfl | rfl <;> rcases hf with rfl | rfl | rfl | rfl | rfl | rfl <;> rfl
  have lf : (ns1 f).lookup f = some .local := by simp [ns1, List.lookup, hfs.2.1]
  have lk : (ns1 f).lookup ("super" : Str) = some .globalImplicit ∧ (ns1 f).lookup ("__class__" : Str) = some .free := by
    simp only [fNames, List.mem_cons, List.not_mem_nil, or_false] at hf
    rcases hf with rfl | rfl | rfl | rfl | rfl | rfl <;> exact ⟨rfl, rfl⟩
  refine ks_codeAny_call_defAt hroom (X _ _ ho) rfl hlim (codeRec_of X hcd) rfl hbind ?_ ?_ (fun h₁ hns hk₁ => ?_) rfl rfl rfl
  · intro y hy
    simp only [ns1, List.mem_cons, List.not_mem_nil, or_false] at hy
    rcases hy with rfl | rfl | rfl | rfl <;> exact fun z => nomatch z
  · intro y hy
    simp only [List.mem_cons, List.not_mem_nil, or_false] at hy
    rcases hy with rfl | rfl
    · rfl
    · exact lf
  have m1 : ([(("self" : Str), Value.ref x), (f, v)]).reverse.lookup ("self" : Str) = some (Value.ref x) := by simp [List.lookup, hfs.1]
  have m2 : ([(("self" : Str), Value.ref x), (f, v)]).reverse.lookup f = some v := by simp [List.lookup]
  show _root_.PySem.wpAt _ _ (.func _ (ksEnv qual (scp (ns1 f)) s.heap.objs.size fI (.ref cda) cc)) (execs _ (ksEnv qual (scp (ns1 f)) s.heap.objs.size fI (.ref cda) cc)) _ _ _
  refine ks_wpAt_execs_cons ?_
  have hL : s.heap.objs.size ≠ x := Nat.ne_of_gt (Heap.lt_size hx)
  refine say (s := { s with heap := h₁, toks := s.toks + 2 }) (ar := ⟨"self", none, p1⟩) T (X.keeps hk₁) (G.keeps hk₁) hs (B.keeps hk₁) hb hns m1 (hk₁ _ _ hx) hnC (hk₁ _ _ (X _ _ ho)) rfl rfl hcode hcell lk.1 lk.2 rfl hpos fun h₂ tk₂ t1 k2 hx2 => ?_
  have X2 : K.In h₂ := fun a o e => k2 a o (fun z => by rw [z, hnx] at e; cases e) (X.keeps hk₁ a o e)
  have hns2 : h₂.Ns s.heap.objs.size (fun y => ([(("self" : Str), Value.ref x), (f, v)]).reverse.lookup y) := by
    obtain ⟨o, es, ep, e, r⟩ := hns
    exact ⟨o, es, ep, k2 _ _ hL e, r⟩
  refine wpAt_of_wpAny (wpAny_execs_cons ?_)
  refine keep (s := { s with heap := h₂, toks := tk₂ }) (env := ksEnv qual (scp (ns1 f)) s.heap.objs.size fI (.ref cda) cc) T X2 F1.no hx2 hns2 m2 m1 rfl lf rfl hfs.2.2 ?_ fun h₃ tk₃ dx k3 dn dne hx3 hn3 => ?_
  · simp only [fNames, List.mem_cons, List.not_mem_nil, or_false] at hf
    rcases hf with rfl | rfl | rfl | rfl | rfl | rfl <;> rfl
  have z1 : s.heap.objs.size < h₂.objs.size := by
    obtain ⟨o, es, ep, e, r⟩ := hns2
    exact Heap.lt_size e
  exact wpAny_execs_nil (hq h₃ tk₃ dx t1 (fun b o hb e => k3 b o hb (k2 b o hb (hk₁ b o e))) (Nat.le_of_lt (Nat.lt_of_lt_of_le z1 dn)) dne hx3 hn3)

theorem init0 (T : ClsT prog K C) (F0 : Fn0 prog K C fI) {x t0 : Addr} (X : K.In s.heap) (hlim : s.heap.NoLimit) (G : s.heap.Ns mainGlobals mg) (hs : mg "super" = none) (B : s.heap.Ns builtinsNs mb) (hb : mb "super" = some (.type "super"))
    (hx : s.heap.get? x = some (excO C t0)) (hnC : x ≠ C) (hroom : A.depth < recursionLimit)
    (hq : ∀ h' tk t1, (∀ b o, b ≠ x → s.heap.get? b = some o → h'.get? b = some o) → h'.get? x = some (excO C t1) → R (.ok (.ret .none)) { s with heap := h', toks := tk }) :
    codeAny (model prog w) A (.call (.ref fI) ⟨[.ref x], []⟩) R s := by
  obtain ⟨oc, od, qual, txt, doc, pm, an, cda, ct, osl, cc, p1, q1, q2, q3, q4, q5, q6, ho, hcd, hpos, hcode, hcell⟩ := F0.fn
  refine ks_codeAny_call_defAt (binds := [("self", .ref x)]) hroom (X _ _ ho) rfl hlim (codeRec_of X hcd) rfl (BindsTo.of_eq rfl) (show ∀ y ∈ ns0, y.2 ≠ NameKind.cell by decide) ?_ (fun h₁ hns hk₁ => ?_) rfl rfl rfl
  · intro y hy
    simp only [List.mem_cons, List.not_mem_nil, or_false] at hy
    subst hy
    rfl
  show _root_.PySem.wpAt _ _ (.func _ (ksEnv qual (scp ns0) s.heap.objs.size fI (.ref cda) cc)) (execs _ (ksEnv qual (scp ns0) s.heap.objs.size fI (.ref cda) cc)) _ _ _
  refine ks_wpAt_execs_cons ?_
  refine say (s := { s with heap := h₁, toks := s.toks + 1 }) (ar := ⟨"self", none, p1⟩) T (X.keeps hk₁) (G.keeps hk₁) hs (B.keeps hk₁) hb hns (by rfl) (hk₁ _ _ hx) hnC (hk₁ _ _ (X _ _ ho)) rfl rfl hcode hcell rfl rfl rfl hpos fun h₂ tk₂ t1 k2 hx2 => ?_
  exact wpAt_of_wpAny (wpAny_execs_nil (hq h₂ tk₂ t1 (fun b o hb e => k2 b o hb (hk₁ b o e)) hx2))

theorem one_le (v : Value) : [v].length ≤ sizeLine := by rw [sizeLine_eq]; exact (by decide : 1 ≤ 16777216)

theorem made1 (T : ClsT prog K C) (F1 : Fn1 prog K C fI f) (hf : f ∈ fNames) {rest : List Value} {kw : List (Str × Value)} {v : Value} (X : K.In s.heap) (hlim : s.heap.NoLimit) (G : s.heap.Ns mainGlobals mg) (hs : mg "super" = none) (B : s.heap.Ns builtinsNs mb) (hb : mb "super" = some (.type "super"))
    (ha : (rest = [v] ∧ kw = []) ∨ (rest = [] ∧ kw = [(f, v)])) (hroom : A.depth + 1 < recursionLimit)
    (hq : ∀ h' tk e d, Made1 s.heap h' e C d f v → R (.ok (.ret (.ref e))) { s with heap := h', toks := tk }) : codeAny (model prog w) A (.call (.ref C) ⟨rest, kw⟩) R s := by
  obtain ⟨nm, N, qn, bs, bm, hdct, sn, sub, ab, col, dd, k0, k1, k2, k3, k5, hC, hT⟩ := excInit_of X T.ex
  obtain ⟨hp, g, dr, tk, os⟩ := s
  have kk : ∀ b o, hp.get? b = some o → ((hp.push (kdv_tup rest)).push (excO C hp.objs.size)).get? b = some o := fun b o e => Heap.get?_push_of_some _ (Heap.get?_push_of_some _ e)
  have hget : ((hp.push (kdv_tup rest)).push (excO C hp.objs.size)).get? (hp.objs.size + 1) = some (excO C hp.objs.size) := by heap_get
  have hnx : K.lookup (hp.objs.size + 1) = none := by
    cases e : K.lookup (hp.objs.size + 1) with
    | none => rfl
    | some o => exact absurd (Nat.lt_of_succ_lt (Heap.lt_size (show hp.get? (hp.objs.size + 1) = some o from X _ _ e))) (Nat.lt_irrefl _)
  have hnC : hp.objs.size + 1 ≠ C := fun z => absurd (Nat.lt_of_succ_lt (Heap.lt_size (show hp.get? (hp.objs.size + 1) = some _ from z ▸ hC))) (Nat.lt_irrefl _)
  have hz : rest.length ≤ sizeLine := by
    rcases ha with ⟨rfl, _⟩ | ⟨rfl, _⟩
    · exact one_le v
    · exact Nat.zero_le _
  refine mk_call F.excBase_Exception hT hz hC (looks_findIn X F1.fi) (fun self => bind_fn X self F1.ty) ?_
  refine init1 (s := ⟨(hp.push (kdv_tup rest)).push (excO C hp.objs.size), g, dr, tk, os⟩) T F1 hf (X.keeps kk) (hlim.keeps kk) (G.keeps kk) hs (B.keeps kk) hb (v := v) ?_ hget hnx hnC (show A.depth + 1 < recursionLimit from hroom) fun h' tk' dx t1 k' dn dne hx hns => ?_
  · rcases ha with ⟨rfl, rfl⟩ | ⟨rfl, rfl⟩
    · exact .inl rfl
    · exact .inr rfl
  · have z : hp.objs.size + 1 + 1 ≤ dx := by
      have q := dn
      dsimp only at q
      rw [Heap.size_push, Heap.size_push] at q
      exact q
    exact ⟨rfl, hq h' tk' (hp.objs.size + 1) dx ⟨fun b o e => k' b o (Nat.ne_of_lt (Nat.lt_succ_of_lt (Heap.lt_size e))) (kk b o e), Nat.le_succ _, ⟨t1, hx⟩, (show hp.objs.size ≤ dx by omega), dne, hns⟩⟩

theorem made0 (T : ClsT prog K C) (F0 : Fn0 prog K C fI) (X : K.In s.heap) (hlim : s.heap.NoLimit) (G : s.heap.Ns mainGlobals mg) (hs : mg "super" = none) (B : s.heap.Ns builtinsNs mb) (hb : mb "super" = some (.type "super"))
    (hroom : A.depth + 1 < recursionLimit) (hq : ∀ h' tk e, Made0 s.heap h' e C → R (.ok (.ret (.ref e))) { s with heap := h', toks := tk }) : codeAny (model prog w) A (.call (.ref C) ⟨[], []⟩) R s := by
  obtain ⟨nm, N, qn, bs, bm, hdct, sn, sub, ab, col, dd, k0, k1, k2, k3, k5, hC, hT⟩ := excInit_of X T.ex
  obtain ⟨hp, g, dr, tk, os⟩ := s
  have kk : ∀ b o, hp.get? b = some o → ((hp.push (kdv_tup [])).push (excO C hp.objs.size)).get? b = some o := fun b o e => Heap.get?_push_of_some _ (Heap.get?_push_of_some _ e)
  have hget : ((hp.push (kdv_tup [])).push (excO C hp.objs.size)).get? (hp.objs.size + 1) = some (excO C hp.objs.size) := by heap_get
  have hnC : hp.objs.size + 1 ≠ C := fun z => absurd (Nat.lt_of_succ_lt (Heap.lt_size (show hp.get? (hp.objs.size + 1) = some _ from z ▸ hC))) (Nat.lt_irrefl _)
  refine mk_call F.excBase_Exception hT (Nat.zero_le _) hC (looks_findIn X F0.fi) (fun self => bind_fn X self F0.ty) ?_
  refine init0 (s := ⟨(hp.push (kdv_tup [])).push (excO C hp.objs.size), g, dr, tk, os⟩) T F0 (X.keeps kk) (hlim.keeps kk) (G.keeps kk) hs (B.keeps kk) hb hget hnC (show A.depth + 1 < recursionLimit from hroom) fun h' tk' t1 k' hx => ?_
  exact ⟨rfl, hq h' tk' (hp.objs.size + 1) ⟨fun b o e => k' b o (Nat.ne_of_lt (Nat.lt_succ_of_lt (Heap.lt_size e))) (kk b o e), Nat.le_succ _, ⟨t1, hx⟩⟩⟩
end
end PySem.EX

set_option Elab.async false
set_option linter.all false
set_option maxRecDepth 100000
set_option maxHeartbeats 4000000
/-! Data of any depth over the tracked heap, dicts among them; their texts by repr. -/
namespace K0
open PySem PySem.Spec PyProof.Rows L2

def kD : Key → PyData
  | .inl i => .int i
  | .inr x => .str x
/-- v is the datum d in H, all its objects such as T says -/
inductive DV (H : Hp) (T : Addr → Prop) : V → PyData → Prop
  | non : DV H T .non .none
  | bl (b : Bool) : DV H T (.bl b) (.bool b)
  | int (i : Int) : DV H T (.int i) (.int i)
  | str (x : Str) : DV H T (.str x) (.str x)
  | lst {a : Addr} {xs : List V} {ds : List PyData} (t : T a) (e : H a = some (.lst xs)) (l : xs.length = ds.length) (h : ∀ (i : Nat) (v : V) (d : PyData), xs[i]? = some v → ds[i]? = some d → DV H T v d) : DV H T (.ref a) (.list ds)
  | tup {a : Addr} {xs : List V} {ds : List PyData} (t : T a) (e : H a = some (.tup xs)) (l : xs.length = ds.length) (h : ∀ (i : Nat) (v : V) (d : PyData), xs[i]? = some v → ds[i]? = some d → DV H T v d) : DV H T (.ref a) (.tuple ds)
  | dct {a : Addr} {kvs : List (Key × V)} {ds : List PyData} (t : T a) (e : H a = some (.dK kvs)) (l : kvs.length = ds.length) (h : ∀ (i : Nat) (v : V) (d : PyData), (kvs.map (·.2))[i]? = some v → ds[i]? = some d → DV H T v d) :
      DV H T (.ref a) (.dict ((kvs.map fun p => kD p.1).zip ds))
theorem DV.mono {H H' : Hp} {T T' : Addr → Prop} {v : V} {d : PyData} (h : DV H T v d) (s : ∀ a o, T a → H a = some o → T' a ∧ H' a = some o) : DV H' T' v d := by
  induction h with
  | non => exact .non
  | bl b => exact .bl b
  | int i => exact .int i
  | str x => exact .str x
  | lst t e l _ ih => exact .lst (s _ _ t e).1 (s _ _ t e).2 l ih
  | tup t e l _ ih => exact .tup (s _ _ t e).1 (s _ _ t e).2 l ih
  | dct t e l _ ih => exact .dct (s _ _ t e).1 (s _ _ t e).2 l ih
/-- anywhere -/
abbrev Any : Addr → Prop := fun _ => True
theorem DV.any {H : Hp} {T : Addr → Prop} {v : V} {d : PyData} (h : DV H T v d) : DV H Any v d := h.mono fun _ _ _ e => ⟨trivial, e⟩
theorem DV.same {H H' : Hp} {T : Addr → Prop} {v : V} {d : PyData} (h : DV H T v d) (s : Same H H') : DV H' T v d := h.mono fun a o t e => ⟨t, s a o e⟩

/-- items of one kind, point by point -/
theorem readsAll_of {h : Heap} {T : Addr → Prop} : ∀ {xs : List V} {us : List Value} {ds : List PyData}, Vals xs us → xs.length = ds.length →
    (∀ (i : Nat) (v : V) (d : PyData) (u : Value), xs[i]? = some v → ds[i]? = some d → RelV v u → ∃ as, Reads h u d as ∧ ∀ a ∈ as, T a) → ∃ as, ReadsAll h us ds as ∧ ∀ a ∈ as, T a
  | _, _, [], .nil, _, _ => ⟨[], .nil, fun _ z => nomatch z⟩
  | _, _, _ :: _, .nil, l, _ => nomatch l
  | _, _, [], .cons _ _, l, _ => nomatch l
  | _, _, d :: ds, .cons r t, l, f => by
    obtain ⟨as, h1, t1⟩ := f 0 _ _ _ rfl rfl r
    obtain ⟨bs, h2, t2⟩ := readsAll_of (ds := ds) t (Nat.succ.inj l) fun i v e u e1 e2 r' => f (i + 1) v e u (by simpa using e1) (by simpa using e2) r'
    exact ⟨as ++ bs, .cons h1 h2, fun a z => (List.mem_append.mp z).elim (t1 a) (t2 a)⟩

theorem keys_reads {P : Program} {w : World} {h : Heap} {T : Addr → Prop} : ∀ {es : List DictEntry} {vs : List (Key × Value)}, Pairs (mixKind P w) es vs → ∃ as, ReadsAll h (es.map (·.key)) (vs.map fun p => kD p.1) as ∧ ∀ a ∈ as, T a
  | _, _, .nil => ⟨[], .nil, fun _ z => nomatch z⟩
  | _, _, .cons (e := e) (kv := kv) k _ t => by
    obtain ⟨bs, h2, t2⟩ := keys_reads (h := h) (T := T) t
    rcases keyIs_shape (show keyIs kv.1 e.key = true from k) with ⟨i, tk, e1, e2⟩ | ⟨x, tk, e1, e2⟩
    · refine ⟨[] ++ bs, ?_, fun a z => t2 a (by simpa using z)⟩
      show ReadsAll h (e.key :: _) (kD kv.1 :: _) _
      rw [e1, e2]
      exact .cons (.int i tk) h2
    · refine ⟨[] ++ bs, ?_, fun a z => t2 a (by simpa using z)⟩
      show ReadsAll h (e.key :: _) (kD kv.1 :: _) _
      rw [e1, e2]
      exact .cons (.str x tk) h2
theorem vals_of_pairs {P : Program} {w : World} : ∀ {es : List DictEntry} {vs : List (Key × Value)}, Pairs (mixKind P w) es vs → es.map (·.val) = vs.map (·.2)
  | _, _, .nil => rfl
  | _, _, .cons _ e t => by rw [List.map_cons, List.map_cons, e, vals_of_pairs t]
theorem kv_keys : ∀ {kvs : List (Key × V)} {vs : List (Key × Value)}, KV kvs vs → (vs.map fun p => kD p.1) = kvs.map fun p => kD p.1
  | _, _, .nil => rfl
  | _, _, .cons r t => by rw [List.map_cons, List.map_cons, r.1, kv_keys t]
theorem kv_vals : ∀ {kvs : List (Key × V)} {vs : List (Key × Value)}, KV kvs vs → Vals (kvs.map (·.2)) (vs.map (·.2))
  | _, _, .nil => .nil
  | _, _, .cons r t => .cons r.2 (kv_vals t)

theorem DV.reads {P : Program} {w : World} {H : Hp} {h : Heap} (ok : HOk P w H h) {T : Addr → Prop} {v : V} {d : PyData} (D : DV H T v d) : ∀ {u : Value}, RelV v u → ∃ as, Reads h u d as ∧ ∀ a ∈ as, ∃ o, H a = some o := by
  induction D with
  | non => intro u r; cases r; exact ⟨_, .none, fun _ z => nomatch z⟩
  | bl b => intro u r; cases r; exact ⟨_, .bool b, fun _ z => nomatch z⟩
  | int i => intro u r; obtain ⟨t, rfl⟩ := r; exact ⟨_, .int i t, fun _ z => nomatch z⟩
  | str x => intro u r; obtain ⟨t, rfl⟩ := r; exact ⟨_, .str x t, fun _ z => nomatch z⟩
  | lst _ e l _ ih =>
    intro u r
    cases r
    obtain ⟨_, its, n, rv, he⟩ := ok _ _ e
    obtain ⟨as, h1, t1⟩ := readsAll_of rv l fun i v d u e1 e2 r' => ih i v d e1 e2 r'
    refine ⟨_, .list he rfl rfl (by simpa using h1), fun a z => ?_⟩
    rcases List.mem_cons.mp z with rfl | z
    · exact ⟨_, e⟩
    · exact t1 a z
  | tup _ e l _ ih =>
    intro u r
    cases r
    obtain ⟨_, its, rv, o, h1, h2, n, h3⟩ := ok _ _ e
    obtain ⟨as, g1, t1⟩ := readsAll_of rv l fun i v d u e1 e2 r' => ih i v d e1 e2 r'
    exact ⟨as, .tuple h1 h2 h3 (by simpa using g1), t1⟩
  | @dct a kvs ds _ e l _ ih =>
    intro u r
    cases r
    obtain ⟨_, _, vs, rv, o, es, ep, h1, h2, h3, _, h5, _⟩ := ok _ _ e
    obtain ⟨as, k1, t1⟩ := keys_reads (h := h) (T := fun a => ∃ o, H a = some o) h5
    obtain ⟨bs, v1, t2⟩ := readsAll_of (h := h) (T := fun a => ∃ o, H a = some o) (ds := ds) (kv_vals rv) (by rw [List.length_map]; exact l) fun i v d u e1 e2 r' => ih i v d e1 e2 r'
    rw [kv_keys rv] at k1
    rw [← vals_of_pairs h5] at v1
    have z1 : (((kvs.map fun p => kD p.1).zip ds).map (·.1)) = kvs.map fun p => kD p.1 := List.map_fst_zip (by rw [List.length_map]; omega)
    have z2 : (((kvs.map fun p => kD p.1).zip ds).map (·.2)) = ds := List.map_snd_zip (by rw [List.length_map]; omega)
    refine ⟨_, .dict h1 h2.1 h3 (by rw [z1]; exact k1) (by rw [z2]; exact v1), fun c z => ?_⟩
    rcases List.mem_append.mp z with z | z
    · rcases List.mem_cons.mp z with rfl | z
      · exact ⟨_, e⟩
      · exact t1 c z
    · exact t2 c z

/-- what repr can tell -/
structure Fit (d : PyData) : Prop where
  sh : d.showable = true
  dp : d.depth ≤ 60
  sz : d.shown.length ≤ sizeLine

/-! ### repr: the texts of tracked data, item by item. The looks at a dict want to know that it isn't the modules' own: a tracked dict says so itself -/
section
variable {P : Program} {w : World} {H : Hp} {h : Heap}
/-- the text of one datum may be asked -/
abbrev Tells (P : Program) (w : World) (h : Heap) (u : Value) (d : PyData) : Prop := ∃ bs, ReadAtMost h d.depth bs ∧ ReprK P w bs h d.depth u d.shown
theorem tells_all : ∀ {xs : List V} {us : List Value} {ds : List PyData}, Vals xs us → xs.length = ds.length → PyData.showableAll ds = true → (∀ t ∈ PyData.shownAll ds, t.length ≤ sizeLine) →
    (∀ (i : Nat) (v : V) (d : PyData) (u : Value), xs[i]? = some v → ds[i]? = some d → RelV v u → d.showable = true → d.shown.length ≤ sizeLine → Tells P w h u d) →
    ∃ bs, ReadAtMost h (PyData.depthAll ds) bs ∧ ReprAllK P w bs h (PyData.depthAll ds) us (PyData.shownAll ds)
  | _, _, [], .nil, _, _, _, _ => ⟨[], (fun _ z => nomatch z), by simp only [PyData.shownAll]; exact .nil⟩
  | _, _, _ :: _, .nil, l, _, _, _ => nomatch l
  | _, _, [], .cons _ _, l, _, _, _ => nomatch l
  | _, _, d :: ds, .cons r t, l, hs, hz, f => by
    simp only [PyData.showableAll, Bool.and_eq_true] at hs
    simp only [PyData.shownAll, List.mem_cons] at hz
    obtain ⟨b1, q1, k1⟩ := f 0 _ _ _ rfl rfl r hs.1 (hz _ (.inl rfl))
    obtain ⟨b2, q2, k2⟩ := tells_all (ds := ds) t (Nat.succ.inj l) hs.2 (fun t z => hz t (.inr z)) fun i v e u e1 e2 => f (i + 1) v e u (by simpa using e1) (by simpa using e2)
    have m1 : d.depth ≤ PyData.depthAll (d :: ds) := by simp only [PyData.depthAll]; omega
    have m2 : PyData.depthAll ds ≤ PyData.depthAll (d :: ds) := by simp only [PyData.depthAll]; omega
    refine ⟨b1 ++ b2, (q1.mono m1).append (q2.mono m2), ?_⟩
    simp only [PyData.shownAll]
    exact .cons ((k1.more fun b z => List.mem_append_left _ z).level_le m1) (k2.more_le (fun b z => List.mem_append_right _ z) m2)
/-- the keys of a dict are ints and texts -/
theorem tells_keys {P : Program} {w : World} {h : Heap} : ∀ {es : List DictEntry} {vs : List (Key × Value)}, Pairs (mixKind P w) es vs → PyData.showableAll (vs.map fun p => kD p.1) = true → (∀ t ∈ PyData.shownAll (vs.map fun p => kD p.1), t.length ≤ sizeLine) →
    ReprAllK P w [] h 0 (es.map (·.key)) (PyData.shownAll (vs.map fun p => kD p.1))
  | _, _, .nil, _, _ => by simp only [List.map_nil, PyData.shownAll]; exact .nil
  | _, _, .cons (e := e) (kv := kv) k _ t, hs, hz => by
    simp only [List.map_cons, PyData.showableAll, Bool.and_eq_true] at hs
    simp only [List.map_cons, PyData.shownAll, List.mem_cons] at hz
    have ih := tells_keys (P := P) (w := w) (h := h) t hs.2 fun t z => hz t (.inr z)
    simp only [List.map_cons, PyData.shownAll]
    refine .cons ?_ ih
    rcases keyIs_shape (show keyIs kv.1 e.key = true from k) with ⟨i, tk, e1, e2⟩ | ⟨x, tk, e1, e2⟩
    · have a := hs.1
      rw [e1] at a ⊢
      rw [e2]
      simp only [kD, PyData.shown]
      exact .of_is (ReprIs.int tk (by simpa [kD, PyData.showable] using a)) _ _ _
    · have a := hz _ (.inl rfl)
      rw [e1] at a ⊢
      rw [e2]
      simp only [kD, PyData.shown] at a ⊢
      exact .of_is (ReprIs.str x tk a) _ _ _
theorem DV.tells (ok : HOk P w H h) {T : Addr → Prop} {v : V} {d : PyData} (D : DV H T v d) : ∀ {u : Value}, RelV v u → d.showable = true → d.shown.length ≤ sizeLine → Tells P w h u d := by
  induction D with
  | non => intro u r _ _; cases r; exact ⟨[], (fun _ z => nomatch z), by simp only [PyData.shown]; exact .of_is ReprIs.none _ _ _⟩
  | bl b => intro u r _ _; cases r; exact ⟨[], (fun _ z => nomatch z), by simp only [PyData.shown]; exact .of_is (ReprIs.bool b) _ _ _⟩
  | int i => intro u r hs _; obtain ⟨t, rfl⟩ := r; exact ⟨[], (fun _ z => nomatch z), by simp only [PyData.shown]; exact .of_is (ReprIs.int t (by simpa [PyData.showable] using hs)) _ _ _⟩
  | str x => intro u r _ hz; obtain ⟨t, rfl⟩ := r; exact ⟨[], (fun _ z => nomatch z), by simp only [PyData.shown] at hz ⊢; exact .of_is (ReprIs.str x t hz) _ _ _⟩
  | @lst a xs ds t0 e l g ih =>
    intro u r hs hz
    obtain ⟨as, R, _⟩ := (DV.lst t0 e l g).reads ok r
    cases r
    obtain ⟨_, its, n, rv, he⟩ := ok _ _ e
    simp only [PyData.shown] at hz
    obtain ⟨bs, hb, hk⟩ := tells_all rv l (by simpa [PyData.showable] using hs) (fun t z => Nat.le_trans (listText_mem_le z) hz) fun i v d u e1 e2 r' => ih i v d e1 e2 r'
    have na : a ∉ bs := not_mem_of_deeper R (by simp only [PyData.depth]; omega) hb
    refine ⟨a :: bs, ReadAtMost.cons R (by simp only [PyData.depth]; omega) hb, ?_⟩
    simp only [PyData.depth, PyData.shown]
    cases its with
    | nil =>
      have e0 := hk.length_eq
      cases ds with
      | nil => simp only [PyData.shownAll, listText_nil]; exact ReprK.listEmpty he rfl rfl
      | cons d ds => simp [PyData.shownAll] at e0
    | cons x rest => exact ReprK.list he rfl rfl na (by simpa using hk.length_eq) fun i y z => hk.item i y (by simpa using z)
  | @tup a xs ds t0 e l g ih =>
    intro u r hs hz
    obtain ⟨as, R, _⟩ := (DV.tup t0 e l g).reads ok r
    cases r
    obtain ⟨_, its, rv, o, h1, h2, n, h3⟩ := ok _ _ e
    simp only [PyData.shown] at hz
    obtain ⟨bs, hb, hk⟩ := tells_all rv l (by simpa [PyData.showable] using hs) (fun t z => Nat.le_trans (tupleText_mem_le z) hz) fun i v d u e1 e2 r' => ih i v d e1 e2 r'
    have na : a ∉ bs := not_mem_of_deeper R (by simp only [PyData.depth]; omega) hb
    refine ⟨a :: bs, ReadAtMost.cons R (by simp only [PyData.depth]; omega) hb, ?_⟩
    simp only [PyData.depth, PyData.shown]
    exact ReprK.tuple h1 h2 h3 na (by simpa using hk)
  | @dct a kvs ds t0 e l g ih =>
    intro u r hs hz
    obtain ⟨as, R, _⟩ := (DV.dct t0 e l g).reads ok r
    cases r
    obtain ⟨_, lo, vs, rv, o, es, ep, h1, h2, h3, _, h5, _⟩ := ok _ _ e
    simp only [PyData.shown] at hz
    obtain ⟨s1, s2⟩ := PyData.showableKv_split _ (by simpa [PyData.showable] using hs)
    have z1 : (((kvs.map fun p => kD p.1).zip ds).map (·.1)) = kvs.map fun p => kD p.1 := List.map_fst_zip (by rw [List.length_map]; omega)
    have z2 : (((kvs.map fun p => kD p.1).zip ds).map (·.2)) = ds := List.map_snd_zip (by rw [List.length_map]; omega)
    have k1 := tells_keys (P := P) (w := w) (h := h) h5 (by rw [kv_keys rv, ← z1]; exact s1) (fun t z => by
      rw [kv_keys rv, ← z1] at z
      obtain ⟨p, hp, hl⟩ := PyData.shownKv_key_le _ t z
      exact Nat.le_trans hl (Nat.le_trans (dictText_mem_le hp) hz))
    obtain ⟨b2, hb2, k2⟩ := tells_all (P := P) (w := w) (h := h) (ds := ds) (kv_vals rv) (by rw [List.length_map]; exact l) (by rw [← z2]; exact s2) (fun t z => by
      rw [← z2] at z
      obtain ⟨p, hp, hl⟩ := PyData.shownKv_val_le _ t z
      exact Nat.le_trans hl (Nat.le_trans (dictText_mem_le hp) hz)) fun i v d u e1 e2 r' => ih i v d e1 e2 r'
    rw [← vals_of_pairs h5] at k2
    rw [kv_keys rv, ← z1] at k1
    have d2 : PyData.depthAll ds ≤ PyData.depthKv ((kvs.map fun p => kD p.1).zip ds) := by
      have q := PyData.depthAll_vals_le ((kvs.map fun p => kD p.1).zip ds)
      rw [z2] at q
      exact q
    have hb := hb2.mono d2
    have na : a ∉ b2 := not_mem_of_deeper R (by simp only [PyData.depth]; omega) hb
    refine ⟨a :: b2, ReadAtMost.cons R (by simp only [PyData.depth]; omega) hb, ?_⟩
    simp only [PyData.depth, PyData.shown, PyData.shownKv_eq]
    rw [z2]
    exact ReprK.dict h1 h2.1 h3 lo na (ReprEntriesK.of_two es.toList _ _ (k1.more_le (fun b z => absurd z List.not_mem_nil) (Nat.zero_le _)) (k2.more_le (fun b z => z) d2))
end

/-- repr(x), x a list, a tuple or a dict -/
def rRepr : List V → Hp → VK → Prop := fun xs H Q => ∃ a d, xs = [.ref a] ∧ DV H Any (.ref a) d ∧ Fit d ∧ (∀ kvs, d ≠ .dict kvs) ∧ Q (.str d.shown) H
theorem call_repr {X : Cx} (hg : X.A.guards = some []) (hu : X.A.units + 64 < cLine) : CallR X (.builtin "repr") rRepr := by
  intro pins s σ H xs us Q I r h
  obtain ⟨a, d, rfl, D, F, nd, q⟩ := h
  obtain ⟨u, rfl, ru⟩ := vals1 r
  cases ru
  have fin : ∀ (h' : Heap) (u : Tok) (tk : Nat), (∀ b o, s.heap.get? b = some o → h'.get? b = some o) → EP X pins σ Q (.str d.shown u) { s with heap := h', toks := tk } := fun h' u tk k => ⟨.str d.shown, H, I.kept (t' := tk) k, ⟨u, rfl⟩, q⟩
  have hF := F.sz
  have hS := F.sh
  have hD := F.dp
  cases D with
  | @lst _ xs ds t0 e l g =>
    obtain ⟨as, R, _⟩ := (DV.lst t0 e l g).reads I.hok rfl
    obtain ⟨_, its, n, rv, he⟩ := I.hok _ _ e
    simp only [PyData.shown] at hF fin
    obtain ⟨bs, hb, hk⟩ := tells_all (P := X.prog) (w := X.w) (h := s.heap) rv l (by simpa [PyData.showable] using hS) (fun t z => Nat.le_trans (listText_mem_le z) hF) fun i v d u e1 e2 r' => (g i v d e1 e2).tells I.hok r'
    have na : a ∉ bs := not_mem_of_deeper R (by simp only [PyData.depth]; omega) hb
    simp only [PyData.depth] at hD
    refine call_repr_slot (by omega) ⟨_, he, rfl⟩ PySem.F.slot_list_repr.toG ?_
    cases its with
    | nil =>
      have e0 := hk.length_eq
      cases ds with
      | nil =>
        simp only [PyData.shownAll, listText_nil] at fin
        exact call_list_repr_empty ⟨_, he, rfl⟩ he rfl ⟨_, _, rfl, fin s.heap _ _ fun _ _ z => z⟩
      | cons d ds => simp [PyData.shownAll] at e0
    | cons x rest => exact call_list_reprK he rfl rfl na (by simpa using hk.length_eq) (fun i y z => hk.item i y (by simpa using z)) hg (fun b _ => Clear.nil b) (by show X.A.units + 1 + _ < cLine; omega) (fun _ _ z => z) (fun h' u tk k => ⟨_, _, rfl, fin h' u tk k⟩) hF
  | @tup _ xs ds t0 e l g =>
    obtain ⟨as, R, _⟩ := (DV.tup t0 e l g).reads I.hok rfl
    obtain ⟨_, its, rv, o, h1, h2, n, h3⟩ := I.hok _ _ e
    simp only [PyData.shown] at hF fin
    obtain ⟨bs, hb, hk⟩ := tells_all (P := X.prog) (w := X.w) (h := s.heap) rv l (by simpa [PyData.showable] using hS) (fun t z => Nat.le_trans (tupleText_mem_le z) hF) fun i v d u e1 e2 r' => (g i v d e1 e2).tells I.hok r'
    have na : a ∉ bs := not_mem_of_deeper R (by simp only [PyData.depth]; omega) hb
    simp only [PyData.depth] at hD
    refine call_repr_slot (by omega) ⟨_, h1, h2⟩ PySem.F.slot_tuple_repr ?_
    exact call_tuple_reprK h1 h2 h3 na (by simpa using hk) hg (fun b _ => Clear.nil b) (by show X.A.units + 1 + _ < cLine; omega) (fun _ _ z => z) (fun h' u tk k => ⟨_, _, rfl, fin h' u tk k⟩) hF
  | @dct _ kvs ds t0 e l g => exact absurd rfl (nd _)

/-! ### the sizes -/
/-- how much the data of one depth may hold -/
def bb : Nat → Nat
  | 0 => 20
  | k + 1 => 4 * bb k
theorem bb_le (k : Nat) : 20 ≤ bb k := by
  induction k with
  | zero => exact Nat.le_refl _
  | succ k ih => show 20 ≤ 4 * bb k; omega
structure Tame (k : Nat) (d : PyData) : Prop where
  sh : d.showable = true
  lv : d.leavesShort 200 = true
  dp : d.depth ≤ 2 * k + 2
  bk : d.bulk ≤ bb k
theorem Tame.up {k : Nat} {d : PyData} (t : Tame k d) : Tame (k + 1) d := ⟨t.sh, t.lv, by have := t.dp; omega, by have := t.bk; have := bb_le k; show _ ≤ 4 * bb k; omega⟩

theorem all_of {k : Nat} : ∀ {ds : List PyData}, (∀ d ∈ ds, Tame k d) → PyData.showableAll ds = true ∧ PyData.leavesShortAll 200 ds = true ∧ PyData.depthAll ds ≤ 2 * k + 2 ∧ PyData.bulkAll ds ≤ ds.length * (bb k + 1)
  | [], _ => ⟨by simp only [PyData.showableAll], by simp only [PyData.leavesShortAll], by simp only [PyData.depthAll]; omega, by simp only [PyData.bulkAll]; omega⟩
  | d :: ds, h => by
    obtain ⟨h1, h2, h3, h4⟩ := all_of (ds := ds) fun e z => h e (List.mem_cons_of_mem _ z)
    have t := h d (List.mem_cons_self ..)
    refine ⟨by simp only [PyData.showableAll, t.sh, h1, Bool.and_self], by simp only [PyData.leavesShortAll, t.lv, h2, Bool.and_self], ?_, ?_⟩
    · have := t.dp
      simp only [PyData.depthAll]
      omega
    · have := t.bk
      simp only [PyData.bulkAll, List.length_cons, Nat.add_mul, Nat.one_mul]
      omega
theorem fit_of {d : PyData} (h1 : d.showable = true) (h2 : d.leavesShort 200 = true) (h3 : d.depth ≤ 60) (h4 : d.bulk ≤ 60000) : Fit d := ⟨h1, h3, by
  have := PyData.shown_le_bulk 200 (by decide) d h2
  rw [sizeLine_eq]
  omega⟩
theorem tame_list {k : Nat} {ds : List PyData} (h : ∀ d ∈ ds, Tame k d) (l : ds.length ≤ 3) : Tame (k + 1) (.list ds) := by
  obtain ⟨h1, h2, h3, h4⟩ := all_of h
  have := bb_le k
  have q : ds.length * (bb k + 1) ≤ 3 * (bb k + 1) := Nat.mul_le_mul_right _ l
  exact ⟨by simp only [PyData.showable, h1], by simp only [PyData.leavesShort, h2], by simp only [PyData.depth]; omega, by simp only [PyData.bulk]; show _ ≤ 4 * bb k; omega⟩
theorem tame_tuple {k : Nat} {ds : List PyData} (h : ∀ d ∈ ds, Tame k d) (l : ds.length ≤ 3) : Tame (k + 1) (.tuple ds) := by
  obtain ⟨h1, h2, h3, h4⟩ := all_of h
  have := bb_le k
  have q : ds.length * (bb k + 1) ≤ 3 * (bb k + 1) := Nat.mul_le_mul_right _ l
  exact ⟨by simp only [PyData.showable, h1], by simp only [PyData.leavesShort, h2], by simp only [PyData.depth]; omega, by simp only [PyData.bulk]; show _ ≤ 4 * bb k; omega⟩
/-- a number of items, as a datum -/
theorem small_int {n : Nat} (h : n ≤ 3) : PyData.showable (.int n) = true ∧ PyData.leavesShort 200 (.int n) = true := by
  have : n = 0 ∨ n = 1 ∨ n = 2 ∨ n = 3 := by omega
  rcases this with rfl | rfl | rfl | rfl <;> decide +kernel
theorem tame_dict {k : Nat} {ds : List PyData} (h : ∀ d ∈ ds, Tame k d) (l : ds.length ≤ 3) : Tame (k + 1) (.dict [(.str "key", .list ds), (.int 1, .int ds.length)]) := by
  obtain ⟨h1, h2, h3, h4⟩ := all_of h
  have := bb_le k
  have q : ds.length * (bb k + 1) ≤ 3 * (bb k + 1) := Nat.mul_le_mul_right _ l
  have e1 : PyData.showable (.int 1) = true := by decide +kernel
  have e2 : PyData.leavesShort 200 (.int 1) = true := by decide +kernel
  have e3 : PyData.leavesShort 200 (.str "key") = true := by decide +kernel
  have e4 : PyData.bulk (.str "key") = 3 := by decide +kernel
  obtain ⟨e5, e6⟩ := small_int l
  refine ⟨?_, ?_, ?_, ?_⟩
  · simp only [PyData.showable, PyData.showableKv, h1, Bool.and_true, Bool.true_and] at e1 e5 ⊢
    rw [e1, e5] <;> rfl
  · simp only [PyData.leavesShort, PyData.leavesShortKv, h2, Bool.and_true, Bool.true_and] at e2 e3 e6 ⊢
    rw [e2, e3, e6] <;> rfl
  · simp only [PyData.depth, PyData.depthKv]
    omega
  · simp only [PyData.bulk] at e4
    simp only [PyData.bulk, PyData.bulkKv]
    show _ ≤ 4 * bb k
    omega
theorem tame0 {d : PyData} (h : d = .list [] ∨ d = .tuple [] ∨ d = .dict [(.str "key", .list []), (.int 1, .int 0)]) (k : Nat) : Tame k d := by
  have t : Tame 0 d := by
    rcases h with rfl | rfl | rfl
    · exact ⟨by decide +kernel, by decide +kernel, by decide +kernel, by decide +kernel⟩
    · exact ⟨by decide +kernel, by decide +kernel, by decide +kernel, by decide +kernel⟩
    · exact ⟨by decide +kernel, by decide +kernel, by decide +kernel, by decide +kernel⟩
  induction k with
  | zero => exact t
  | succ k ih => exact ih.up
/-- as many times the same, in a list -/
theorem fit_many {k n : Nat} {d : PyData} (t : Tame k d) (h : n * (bb k + 1) ≤ 60000) (hk : k ≤ 20) : Fit (.list (List.replicate n d)) := by
  obtain ⟨h1, h2, h3, h4⟩ := all_of (k := k) (ds := List.replicate n d) fun e z => by rw [(List.mem_replicate.mp z).2]; exact t
  rw [List.length_replicate] at h4
  exact fit_of (by simp only [PyData.showable, h1]) (by simp only [PyData.leavesShort, h2]) (by simp only [PyData.depth]; omega) (by simp only [PyData.bulk]; omega)
end K0

set_option Elab.async false
set_option linter.all false
set_option maxRecDepth 100000
set_option maxHeartbeats 4000000
/-! The deck of the draws. -/
namespace K0
open PySem PySem.Spec PyProof.Rows L2

def top (i : Nat) : Stmt := PySem.Challenge.pw_oncecrossed_k00_errors_by_position_and_n.main.body.getD i (.Pass ⟨0, 0, 0, 0⟩)
abbrev sDeck : Stmt := top 31
abbrev sDraw : Stmt := top 32
abbrev sPick : Stmt := top 33
abbrev sAny : Stmt := top 34

/-- the deck's dict -/
def dkv (c : Addr) (m n : Int) : List (Key × V) := [(.inr "cells", .ref c), (.inr "mixed", .int m), (.inr "draws", .int n)]
theorem nCM : ¬ (Sum.inr ("cells" : Str) : Key) = Sum.inr ("mixed" : Str) := by decide +kernel
theorem nCD : ¬ (Sum.inr ("cells" : Str) : Key) = Sum.inr ("draws" : Str) := by decide +kernel
theorem nMD : ¬ (Sum.inr ("mixed" : Str) : Key) = Sum.inr ("draws" : Str) := by decide +kernel
theorem v_cells {c : Addr} {m n : Int} : valV (dkv c m n) (Sum.inr "cells") = some (.ref c) := valV_pos rfl
theorem v_mixed {c : Addr} {m n : Int} : valV (dkv c m n) (Sum.inr "mixed") = some (.int m) := (valV_neg nCM).trans (valV_pos rfl)
theorem v_draws {c : Addr} {m n : Int} : valV (dkv c m n) (Sum.inr "draws") = some (.int n) := (valV_neg nCD).trans ((valV_neg nMD).trans (valV_pos rfl))
theorem p_draws {c : Addr} {m n k : Int} : putK (dkv c m n) (Sum.inr "draws") (.int k) = dkv c m k := by
  have e : ((dkv c m n).any fun kv => decide (kv.1 = Sum.inr ("draws" : Str))) = true := by rw [valV_any, v_draws] <;> rfl
  unfold putK
  rw [if_pos e]
  show [_, _, _] = [_, _, _]
  simp only [if_neg nCD, if_neg nMD, if_true]

/-- a deck stands at p, its cells at c -/
structure Deck (H : Hp) (p c : Addr) : Prop where
  ex : ∃ (xs : List Int) (m n : Int), H p = some (.dK (dkv c m n)) ∧ H c = some (.lst (xs.map V.int)) ∧ xs.length ≤ 63
/-- all but the deck is kept -/
def Kp (p c : Addr) (H H' : Hp) : Prop := ∀ b o, b ≠ p → b ≠ c → H b = some o → H' b = some o
theorem Kp.trans {p c : Addr} {H H1 H2 : Hp} (a : Kp p c H H1) (b : Kp p c H1 H2) : Kp p c H H2 := fun d o h1 h2 h => b d o h1 h2 (a d o h1 h2 h)
theorem kp_put {p c b : Addr} {H : Hp} {o : HO} (hb : b = p ∨ b = c) : Kp p c H (upd H b o) := fun a u h1 h2 h => by
  rw [upd_ne (fun z => hb.elim (fun y => h1 (z.trans y)) fun y => h2 (z.trans y))]
  exact h
theorem kp_new {p c l : Addr} {H : Hp} {o : HO} (hl : H l = none) : Kp p c H (upd H l o) := fun a u _ _ h => by
  rw [upd_ne (ne_of_none h hl)]
  exact h
theorem Deck.new {p c l : Addr} {H : Hp} {o : HO} (D : Deck H p c) (hl : H l = none) : Deck (upd H l o) p c := by
  obtain ⟨xs, m, n, h1, h2, h3⟩ := D.ex
  exact ⟨xs, m, n, by rw [upd_ne (ne_of_none h1 hl)]; exact h1, by rw [upd_ne (ne_of_none h2 hl)]; exact h2, h3⟩
theorem Deck.put {p c b : Addr} {H : Hp} {o : HO} (D : Deck H p c) (h1 : b ≠ p) (h2 : b ≠ c) : Deck (upd H b o) p c := by
  obtain ⟨xs, m, n, e1, e2, e3⟩ := D.ex
  exact ⟨xs, m, n, by rw [upd_ne h1.symm]; exact e1, by rw [upd_ne h2.symm]; exact e2, e3⟩

/-- draw: a number below n, from the deck -/
def spDraw : Sp := fun vs H Q _ => ∃ (p c : Addr) (n : Int), vs = [.ref p, .int n] ∧ Deck H p c ∧ 1 ≤ n ∧ n < 1000000 ∧ ∀ (r : Int) (H' : Hp), 0 ≤ r → r < n → Deck H' p c → Kp p c H H' → Q (.int r) H'

structure Bi (mg : Str → Option Value) : Prop where
  int : mg "int" = none
  max : mg "max" = none
  len : mg "len" = none
  list : mg "list" = none
  range : mg "range" = none
  tuple : mg "tuple" = none

theorem ints_last {xs : List Int} (h : xs ≠ []) : ∃ z, (xs.map V.int)[(xs.map V.int).length - 1]? = some (V.int z) ∧ (xs.map V.int).dropLast = xs.dropLast.map V.int := by
  refine ⟨xs.getLast h, ?_, ?_⟩
  · rw [List.length_map, List.getElem?_map]
    have := List.getLast?_eq_getElem? (l := xs)
    rw [← this, List.getLast?_eq_some_getLast h] <;> rfl
  · rw [List.map_dropLast]
theorem ints_dp {K : PySem.W.Frag} {H : Hp} : ∀ xs : List Int, DpAll K H (xs.map V.int) (xs.map PyData.int)
  | [] => .nil
  | x :: xs => .cons (.int x) (ints_dp xs)
theorem ints_shaped (xs : List Int) : SeqAt.shaped (.list (xs.map PyData.int)) = true := by
  have h : ∀ ys : List Int, PyData.canLayAll0 (ys.map PyData.int) = true ∧ PyData.depthAll (ys.map PyData.int) = 0 := fun ys => by
    induction ys with
    | nil => exact ⟨by simp [PyData.canLayAll0], by simp [PyData.depthAll]⟩
    | cons y ys ih => exact ⟨by simp [PyData.canLayAll0, PyData.canLay0, ih.1], by simp [PyData.depthAll, PyData.depth, ih.2]⟩
  show (PyData.canLay0 _ && decide (PyData.depth _ ≤ 64)) = true
  rw [Bool.and_eq_true]
  exact ⟨by simp only [PyData.canLay0]; exact (h xs).1, decide_eq_true (by simp only [PyData.depth, (h xs).2]; omega)⟩
/-- what was tracked is tracked -/
theorem Kp.dom {p c : Addr} {H H' : Hp} (k : Kp p c H H') (D : Deck H' p c) {b : Addr} (h : H' b = none) : H b = none := by
  obtain ⟨xs, m, n, e1, e2, _⟩ := D.ex
  cases e : H b with
  | none => rfl
  | some o => rw [k b o (ne_of_none e1 h).symm (ne_of_none e2 h).symm e] at h; cases h
theorem Deck.inp {H : Hp} {p c : Addr} (D : Deck H p c) {b : Addr} (h : H b = none) : b ≠ p ∧ b ≠ c := by
  obtain ⟨xs, m, n, e1, e2, _⟩ := D.ex
  exact ⟨(ne_of_none e1 h).symm, (ne_of_none e2 h).symm⟩
theorem fmod_in {a b : Int} (h : 0 < b) : 0 ≤ a.fmod b ∧ a.fmod b < b := ⟨Int.fmod_nonneg_of_pos a h, Int.fmod_lt_of_pos a h⟩

section
variable {P : Program} {w : World} {K : PySem.W.Frag} {mg : Str → Option Value} {base : Heap}
theorem scDraw : FnScope ["_law_deck_here", "_law_many", "_law_number", "_law_cell"] ["_law_deck_here", "_law_many"] (defScope sDraw) := ⟨rfl, rfl, rfl, by decide +kernel, rfl, by decide +kernel, by decide +kernel⟩
theorem ok_draw {f : Addr} {fd : FuncData} (F : Fun K "_law_draw" "_law_draw" sDraw f fd) (T : Bi mg) : FnOk P w K mg base CX0 1 f fd ["_law_deck_here", "_law_many"] spDraw := by
  refine F.ok scDraw (fun vs H Q E h => ?_) (fun cdv A outer s H vs Q E hr h => ?_)
  · obtain ⟨p, c, n, rfl, _⟩ := h
    rfl
  · obtain ⟨p, c, n, rfl, D, n1, n2, k⟩ := h
    have hu := hu_of hr
    have hu6 : A.units + 3 + 64 < cLine := by have := hr.un; have e : (A.deeper (envOfC "_law_draw" (defScope sDraw) s.heap.objs.size f cdv)).units = A.units + 3 := rfl; omega
    obtain ⟨xs, m, j, h1, h2, h3⟩ := D.ex
    have npc : p ≠ c := ne_of h1 h2 (by intro z; cases z)
    refine ⟨_, pss_cons (ps_dput hu (pv 0) pe_str (pe_op op_add (pe_dget hu (pv 0) pe_str (fun _ _ => rfl)) pe_int) rfl)
      <| pss_cons (ps_set (i := 2) scDraw.nd rfl (.inl rfl) (pe_op op_add (pe_dget hu (pv 0) pe_str (fun _ _ => rfl)) (pe_op op_mul pe_int (pe_dget hu (pv 0) pe_str (fun _ _ => rfl)))))
      <| pss_cons (ps_if (pt_cmpR (op_neD hu6) (pe_dget hu (pv 0) pe_str (fun _ _ => rfl)) (pe_lst pa_nil) (nomark _))
          (pss_cons (ps_set (i := 3) scDraw.nd rfl (.inl rfl) (pe_bm0 PySem.F.plainAttrs_list PySem.F.slot_list_pop PySem.F.type_list_pop mt_pop (pe_dget hu (pv 0) pe_str (fun _ _ => rfl))))
          <| pss_cons (ps_if (pt_cmpR op_ge (pv 3) (pe_op op_pow pe_int pe_int) (nomark _))
              (pss_cons (ps_expr (pe_bm PySem.F.plainAttrs_list PySem.F.slot_list_append PySem.F.type_list_append mt_append (pe_dget hu (pv 0) pe_str (fun _ _ => rfl))
                (pa_cons (pe_op op_fdivN (pv 3) (pe_callB (call_max2 rfl) (by rfl) T.max (by decide +kernel) (pa_cons pe_int (pa_cons (pv 1) pa_nil)))) pa_nil)))
              <| pss_one (ps_ret (pe_op op_modN (pe_callTy call_int1 (by rfl) T.int (by decide +kernel) (pa_cons (pv 3) pa_nil)) (pv 1)))) pss_nil)
          <| pss_one (ps_set (i := 2) scDraw.nd rfl (.inl rfl) (pe_op op_add (pv 2) (pe_op op_modN (pe_callTy call_int1 (by rfl) T.int (by decide +kernel) (pa_cons (pv 3) pa_nil)) pe_int)))) pss_nil)
      <| pss_cons (ps_set (i := 2) scDraw.nd rfl (.inl rfl) (pe_op op_modN (pe_callTy call_int1 (by rfl) T.int (by decide +kernel) (pa_cons (pe_op op_add (pe_op op_mul (pv 2) pe_int) pe_int) pa_nil)) pe_int))
      <| pss_cons (ps_set (i := 2) scDraw.nd rfl (.inl rfl) (pe_op op_modN (pe_callTy call_int1 (by rfl) T.int (by decide +kernel) (pa_cons (pe_op op_add (pe_op op_add (pe_op op_mul (pv 2) (pv 2)) (pe_op op_mul pe_int (pe_dget hu (pv 0) pe_str (fun _ _ => rfl)))) pe_int) pa_nil)) pe_int))
      <| pss_cons (ps_set (i := 2) scDraw.nd rfl (.inl rfl) (pe_op op_modN (pe_callTy call_int1 (by rfl) T.int (by decide +kernel) (pa_cons (pe_op op_mul (pv 2) pe_int) pa_nil)) pe_int))
      <| pss_one (ps_ret (pe_op op_modN (pe_callTy call_int1 (by rfl) T.int (by decide +kernel) (pa_cons (pe_op op_fdivN (pv 2) pe_int) pa_nil)) (pv 1))), ?_⟩
    have g1 : DGet H p (.str "draws") (some (.int j)) := v_draws ▸ DGet.k (k := Sum.inr "draws") h1
    have q1 : DPut H p (.str "draws") (.int (j + 1)) (upd H p (.dK (dkv c m (j + 1)))) := by
      have z := DPut.k (k := Sum.inr "draws") (v := .int (j + 1)) h1 (show (3 : Nat) < sizeLine by rw [sizeLine_eq]; decide)
      rw [p_draws] at z
      exact z
    refine ⟨_, rfl, p, _, rfl, g1, _, _, rfl, rfl, _, rfl, p, _, rfl, q1, ?_⟩
    generalize hH1 : upd H p (.dK (dkv c m (j + 1))) = H1
    have e1 : H1 p = some (.dK (dkv c m (j + 1))) := by rw [← hH1]; exact upd_same
    have e2 : H1 c = some (.lst (xs.map V.int)) := by rw [← hH1, upd_ne npc.symm]; exact h2
    have K1 : Kp p c H H1 := by rw [← hH1]; exact kp_put (.inl rfl)
    have D1 : Deck H1 p c := ⟨xs, m, j + 1, e1, e2, h3⟩
    have gm : DGet H1 p (.str "mixed") (some (.int m)) := v_mixed ▸ DGet.k (k := Sum.inr "mixed") e1
    have gd : ∀ {H' : Hp}, H' p = some (.dK (dkv c m (j + 1))) → DGet H' p (.str "draws") (some (.int (j + 1))) := fun e => v_draws ▸ DGet.k (k := Sum.inr "draws") e
    have gc : ∀ {H' : Hp}, H' p = some (.dK (dkv c m (j + 1))) → DGet H' p (.str "cells") (some (.ref c)) := fun e => v_cells ▸ DGet.k (k := Sum.inr "cells") e
    refine ⟨_, rfl, p, _, rfl, gm, _, rfl, p, _, rfl, gd e1, _, _, rfl, rfl, .inl ⟨by decide, by decide⟩, _, _, rfl, rfl, ?_⟩
    refine ⟨_, rfl, p, _, rfl, gc e1, (by show 0 ≤ sizeLine; exact Nat.zero_le _), fun l hl => ?_⟩
    have e1l : (upd H1 l (.lst [])) p = some (.dK (dkv c m (j + 1))) := by rw [upd_ne (ne_of_none e1 hl)]; exact e1
    have e2l : (upd H1 l (.lst [])) c = some (.lst (xs.map V.int)) := by rw [upd_ne (ne_of_none e2 hl)]; exact e2
    have K2 : Kp p c H (upd H1 l (.lst [])) := K1.trans (kp_new hl)
    refine ⟨.list (xs.map PyData.int), .list [], Dp.lst (SqL.of e2l) (ints_dp xs), Dp.lst (SqL.of upd_same) .nil, ints_shaped xs, by decide, _, rfl, ?_⟩
    by_cases hx : xs = []
    · subst hx
      refine iteF ?_
      refine ⟨_, rfl, _, _, rfl, rfl, .inr ⟨by decide, by decide⟩, _, _, rfl, rfl, .inl ⟨_, rfl, _, _, rfl, rfl, (by show ¬ ((_ : Int) = 0); decide), ?_⟩⟩
      refine ⟨_, rfl, _, rfl, _, _, rfl, rfl, .inl ⟨Int.lt_of_lt_of_le (by decide) (fmod_in (by decide)).1, Int.lt_trans (fmod_in (by decide)).2 (by decide)⟩, _, rfl, p, _, rfl, gd e1l, _, _, rfl, rfl, .inl ⟨by decide, by decide⟩, _, _, rfl, rfl, _, _, rfl, rfl, .inl ⟨_, rfl, _, _, rfl, rfl, (by show ¬ ((_ : Int) = 0); decide), ?_⟩⟩
      refine ⟨_, rfl, _, _, rfl, rfl, .inr ⟨by decide, by decide⟩, .inl ⟨_, rfl, _, _, rfl, rfl, (by show ¬ ((_ : Int) = 0); decide), ?_⟩⟩
      exact ⟨_, rfl, _, _, rfl, rfl, ⟨by decide, by decide⟩, .inl ⟨_, rfl, _, rfl, _, _, rfl, rfl, by omega, k _ _ (fmod_in (by omega)).1 (fmod_in (by omega)).2 (D1.new hl) K2⟩⟩
    · have ev : PyData.eqv (.list (xs.map PyData.int)) (.list []) = false := by
        cases xs with
        | nil => exact absurd rfl hx
        | cons a r => simp [PyData.eqv, PyData.eqvAll]
      rw [ev]
      refine iteT ?_
      obtain ⟨z, z1, z2⟩ := ints_last hx
      refine ⟨_, rfl, p, _, rfl, gc e1l, .inl ⟨rfl, _, SqL.of e2l⟩, c, _, _, rfl, rfl, e2l, z1, ?_⟩
      rw [z2]
      generalize hH3 : upd (upd H1 l (.lst [])) c (.lst (xs.dropLast.map V.int)) = H3
      have e13 : H3 p = some (.dK (dkv c m (j + 1))) := by rw [← hH3, upd_ne npc]; exact e1l
      have e23 : H3 c = some (.lst (xs.dropLast.map V.int)) := by rw [← hH3]; exact upd_same
      have K3 : Kp p c H H3 := by rw [← hH3]; exact K2.trans (kp_put (.inr rfl))
      have l3 : xs.dropLast.length ≤ 62 := by rw [List.length_dropLast]; omega
      have D3 : Deck H3 p c := ⟨xs.dropLast, m, j + 1, e13, e23, by omega⟩
      refine ⟨_, rfl, _, _, rfl, rfl, ⟨by decide, by decide, by decide⟩, _, _, rfl, rfl, _, rfl, ?_⟩
      refine ite2 (fun _ => ?_) (fun _ => ?_)
      · refine ⟨_, rfl, p, _, rfl, gc e13, .inl ⟨rfl, _, SqL.of e23⟩, _, rfl, _, rfl, _, _, rfl, _, _, rfl, rfl, ⟨?_, ?_⟩, c, _, _, rfl, rfl, e23, ?_, ?_⟩
        · split <;> omega
        · split <;> omega
        · rw [List.length_map, sizeLine_eq]; omega
        · have D4 : Deck (upd H3 c (.lst (xs.dropLast.map V.int ++ [V.int (z.fdiv (if n > 2 then n else 2))]))) p c :=
            ⟨xs.dropLast ++ [z.fdiv (if n > 2 then n else 2)], m, j + 1, by rw [upd_ne npc]; exact e13, by rw [upd_same, List.map_append] <;> rfl, by rw [List.length_append]; show _ + 1 ≤ 63; omega⟩
          exact ⟨_, rfl, .inl ⟨_, rfl, _, rfl, _, _, rfl, rfl, by omega, k _ _ (fmod_in (by omega)).1 (fmod_in (by omega)).2 D4 (K3.trans (kp_put (.inr rfl)))⟩⟩
      · refine ⟨_, rfl, _, rfl, .inl ⟨_, rfl, _, _, rfl, rfl, (by show ¬ ((_ : Int) = 0); decide), _, _, rfl, rfl, ?_⟩⟩
        refine ⟨_, rfl, _, _, rfl, rfl, .inr ⟨by decide, by decide⟩, _, _, rfl, rfl, .inl ⟨_, rfl, _, _, rfl, rfl, (by show ¬ ((_ : Int) = 0); decide), ?_⟩⟩
        refine ⟨_, rfl, _, rfl, _, _, rfl, rfl, .inl ⟨Int.lt_of_lt_of_le (by decide) (fmod_in (by decide)).1, Int.lt_trans (fmod_in (by decide)).2 (by decide)⟩, _, rfl, p, _, rfl, gd e13, _, _, rfl, rfl, .inl ⟨by decide, by decide⟩, _, _, rfl, rfl, _, _, rfl, rfl, .inl ⟨_, rfl, _, _, rfl, rfl, (by show ¬ ((_ : Int) = 0); decide), ?_⟩⟩
        refine ⟨_, rfl, _, _, rfl, rfl, .inr ⟨by decide, by decide⟩, .inl ⟨_, rfl, _, _, rfl, rfl, (by show ¬ ((_ : Int) = 0); decide), ?_⟩⟩
        exact ⟨_, rfl, _, _, rfl, rfl, ⟨by decide, by decide⟩, .inl ⟨_, rfl, _, rfl, _, _, rfl, rfl, by omega, k _ _ (fmod_in (by omega)).1 (fmod_in (by omega)).2 D3 K3⟩⟩

/-- a def of the text that others call -/
structure Dn (P : Program) (w : World) (K : PySem.W.Frag) (mg : Str → Option Value) (base : Heap) (name : Str) (k : Nat) (ps : List Str) (sp : Sp) (f : Addr) (fd : FuncData) : Prop where
  g : mg name = some (.ref f)
  kp : PySem.W.keepIn K (.ref f) = true
  b : Binds K fd ps []
  ok : FnOk P w K mg base CX0 k f fd ps sp

/-- pick: an item of a list that stands beside the deck -/
def spPick : Sp := fun vs H Q _ => ∃ (p c l : Addr) (xs : List V), vs = [.ref p, .ref l] ∧ Deck H p c ∧ H l = some (.lst xs) ∧ l ≠ p ∧ l ≠ c ∧ 1 ≤ xs.length ∧ xs.length < 1000 ∧
  ∀ (i : Nat) (v : V) (H' : Hp), xs[i]? = some v → Deck H' p c → Kp p c H H' → Q v H'
theorem scPick : FnScope ["_law_deck_here", "_law_some"] ["_law_deck_here", "_law_some"] (defScope sPick) := ⟨rfl, rfl, rfl, by decide +kernel, rfl, by decide +kernel, by decide +kernel⟩
theorem ok_pick {f fD : Addr} {fd fdD : FuncData} (F : Fun K "_law_pick" "_law_pick" sPick f fd) (T : Bi mg) (G : Dn P w K mg base "_law_draw" 1 ["_law_deck_here", "_law_many"] spDraw fD fdD) :
    FnOk P w K mg base CX0 2 f fd ["_law_deck_here", "_law_some"] spPick := by
  refine F.ok scPick (fun vs H Q E h => ?_) (fun cdv A outer s H vs Q E hr h => ?_)
  · obtain ⟨p, c, l, xs, rfl, _⟩ := h
    rfl
  · obtain ⟨p, c, l, xs, rfl, D, hl, lp, lc, n1, n2, k⟩ := h
    refine ⟨_, pss_one (ps_ret (pe_ix ix_list (pv 1) (pe_call G.ok hr rfl G.g G.kp G.b .nil pass0
      (pa_cons (pv 0) (pa_cons (pe_callB call_len_seq (by rfl) T.len PySem.boot_len (pa_cons (pv 1) pa_nil)) pa_nil))) (fun _ _ => rfl))), ?_⟩
    refine ⟨_, rfl, _, rfl, _, rfl, l, _, rfl, .inl (SqL.of hl), p, c, _, rfl, D, by omega, by omega, fun r H' r0 r1 D' K' => ?_⟩
    have hl' := K' l _ lp lc hl
    obtain ⟨i, rfl⟩ : ∃ i : Nat, r = i := ⟨r.toNat, by omega⟩
    have hi : i < xs.length := by omega
    exact ⟨l, _, _, _, rfl, rfl, SqL.of hl', atI_nat (List.getElem?_eq_getElem hi), k i _ H' (List.getElem?_eq_getElem hi) D' K'⟩
end
end K0

set_option Elab.async false
set_option linter.all false
set_option maxRecDepth 100000
set_option maxHeartbeats 4000000
/-! The deck made; any value. -/
namespace K0
open PySem PySem.Spec PyProof.Rows L2

theorem cut63 (ns : List Int) : cutV (ns.map V.int) none (some 63) = (ns.take 63).map V.int := by
  unfold cutV
  rw [HT.sIx_none, show (some (63 : Int)) = some ((63 : Nat) : Int) from rfl, HT.sIx_nat, List.drop_zero, Nat.sub_zero, List.length_map, List.map_take]
  by_cases h : 63 ≤ ns.length
  · rw [Nat.min_eq_left h]
  · rw [Nat.min_eq_right (by omega), List.take_of_length_le (by rw [List.length_map]; exact Nat.le_refl _), List.take_of_length_le (by rw [List.length_map]; omega)]
theorem deck_kvs {c : Addr} {m : Int} : mergeK [] [(Sum.inr ("cells" : Str), V.ref c), (Sum.inr ("mixed" : Str), V.int m), (Sum.inr ("draws" : Str), V.int 0)] = dkv c m 0 := by
  have e1 : putK ([] : List (Key × V)) (Sum.inr ("cells" : Str)) (V.ref c) = [(Sum.inr ("cells" : Str), V.ref c)] := putK_new _ rfl
  have e2 : putK [(Sum.inr ("cells" : Str), V.ref c)] (Sum.inr ("mixed" : Str) : Key) (V.int m) = [(Sum.inr ("cells" : Str), V.ref c)] ++ [(Sum.inr ("mixed" : Str), V.int m)] := putK_new _ ((valV_neg nCM).trans rfl)
  have e3 : putK ([(Sum.inr ("cells" : Str), V.ref c)] ++ [(Sum.inr ("mixed" : Str), V.int m)]) (Sum.inr ("draws" : Str) : Key) (V.int 0) = ([(Sum.inr ("cells" : Str), V.ref c)] ++ [(Sum.inr ("mixed" : Str), V.int m)]) ++ [(Sum.inr ("draws" : Str), V.int 0)] :=
    putK_new _ ((valV_neg nCD).trans ((valV_neg nMD).trans rfl))
  unfold mergeK
  simp only [List.foldl_cons, List.foldl_nil]
  rw [e1, e2, e3]
  rfl
theorem int_of {ns : List Int} {i : Nat} {y : V} (h : (ns.map V.int)[i]? = some y) : ∃ z, y = V.int z := by
  rw [List.getElem?_map] at h
  cases e : ns[i]? with
  | none => rw [e] at h; cases h
  | some z => rw [e] at h; exact ⟨z, (Option.some.inj h).symm⟩

/-- the deck of a script -/
def spDeck (K : PySem.W.Frag) : Sp := fun vs H Q _ => ∃ (a : Addr) (ns : List Int), vs = [.ref a] ∧ SqL K H a (ns.map V.int) ∧ ∀ (p c : Addr) (H' : Hp), Deck H' p c → Same H H' → H p = none → H c = none → Q (.ref p) H'
section
variable {P : Program} {w : World} {K : PySem.W.Frag} {mg : Str → Option Value} {base : Heap}
theorem scDeck : FnScope ["_law_script", "_law_mixed", "_law_cell"] ["_law_script"] (defScope sDeck) := ⟨rfl, rfl, rfl, by decide +kernel, rfl, by decide +kernel, by decide +kernel⟩
theorem same_new {H : Hp} {l : Addr} {o : HO} (h : H l = none) : Same H (upd H l o) := fun b u e => by rw [upd_ne (ne_of_none e h)]; exact e
theorem ok_deck {f : Addr} {fd : FuncData} (F : Fun K "_law_deck" "_law_deck" sDeck f fd) (T : Bi mg) : FnOk P w K mg base CX0 1 f fd ["_law_script"] (spDeck K) := by
  refine F.ok scDeck (fun vs H Q E h => ?_) (fun cdv A outer s H vs Q E hr h => ?_)
  · obtain ⟨a, ns, rfl, _⟩ := h
    rfl
  · obtain ⟨a, ns, rfl, hS, k⟩ := h
    refine ⟨_, pss_cons (ps_set (i := 1) scDeck.nd rfl (.inl rfl) pe_int)
      <| pss_cons (ps_for PassesOwn.never rfl (pi_list (pe_slice sl_list (pv 0) po_none (po_some pe_int))) (pg_name (i := 2) scDeck.nd rfl (.inl rfl))
          (pss_one (ps_set (i := 1) scDeck.nd rfl (.inl rfl) (pe_op op_modN (pe_callTy call_int1 (by rfl) T.int (by decide +kernel) (pa_cons (pe_op op_add (pe_op op_add (pe_op op_mul (pv 1) pe_int)
            (pe_op op_modN (pe_callTy call_int1 (by rfl) T.int (by decide +kernel) (pa_cons (pv 2) pa_nil)) pe_int)) pe_int) pa_nil)) pe_int))))
      <| pss_one (ps_ret (pe_disp (pps_cons pe_str (pe_revL (pe_callTy call_list_of (by rfl) T.list (by decide +kernel) (pa_cons (pe_slice sl_list (pv 0) po_none (po_some pe_int)) pa_nil)))
          (pps_cons pe_str (pv 1) (pps_cons pe_str pe_int pps_nil))) rfl rfl (fun z => nomatch z) (by decide))), ?_⟩
    refine ⟨_, rfl, _, rfl, a, _, rfl, hS, fun p0 hp0 => ?_⟩
    rw [cut63]
    have s0 : Same H (upd H p0 (.lst ((ns.take 63).map V.int))) := same_new hp0
    refine ⟨p0, rfl, ⟨_, SqL.of upd_same⟩, for_list (K := K) (a := p0) (xs := (ns.take 63).map V.int) (fun i σ H2 => ∃ (m : Int) (v : Option V), σ = [some (.ref a), some (.int m), v] ∧ H2 = upd H p0 (.lst ((ns.take 63).map V.int)))
      ⟨_, none, rfl, rfl⟩ (fun i σ H2 _ ⟨_, _, _, e⟩ => by rw [e]; exact SqL.of upd_same) ?_ ?_⟩
    · rintro i y σ H2 hi ⟨m, v, rfl, rfl⟩
      obtain ⟨z, rfl⟩ := int_of hi
      exact ⟨_, rfl, _, _, rfl, rfl, .inr ⟨by decide, by decide⟩, _, rfl, .inl ⟨_, rfl, _, _, rfl, rfl, (by show ¬ ((_ : Int) = 0); decide), _, _, rfl, rfl, _, _, rfl, rfl, .inl ⟨_, rfl, _, _, rfl, rfl, (by show ¬ ((_ : Int) = 0); decide), _, _, rfl, rfl⟩⟩⟩
    · rintro σ H2 ⟨m, v, rfl, rfl⟩
      intro p hp
      have s1 : Same H (upd (upd H p0 (.lst ((ns.take 63).map V.int))) p (.dK [])) := s0.trans (same_new hp)
      refine ⟨_, rfl, _, rfl, a, _, rfl, s1.seq hS, fun p1 hp1 => ?_⟩
      rw [cut63]
      refine ⟨p1, _, rfl, .inl (SqL.of upd_same), fun l hl => ⟨l, _, rfl, SqL.of upd_same, fun c hc => ?_⟩⟩
      have s2 := ((s1.trans (same_new (o := .lst ((ns.take 63).map V.int)) hp1)).trans (same_new (o := .lst ((ns.take 63).map V.int)) hl)).trans (same_new (o := .lst ((ns.take 63).map V.int).reverse) hc)
      have np1 : p ≠ p1 := ne_of_none upd_same hp1
      have npl : p ≠ l := ne_of_none (o := .dK []) (by rw [upd_ne np1]; exact upd_same) hl
      have npc : p ≠ c := ne_of_none (o := .dK []) (by rw [upd_ne npl, upd_ne np1]; exact upd_same) hc
      refine ⟨_, rfl, ?_, [(Sum.inr ("cells" : Str), V.ref c), (Sum.inr ("mixed" : Str), V.int m), (Sum.inr ("draws" : Str), V.int 0)], rfl, (by show 3 ≤ 15; decide), ?_⟩
      · rw [upd_ne npc, upd_ne npl, upd_ne np1]
        exact upd_same
      · rw [deck_kvs]
        have hpH : H p = none := s0.free hp
        have hcH : H c = none := by
          have z := hc
          rw [upd_ne (ne_of_none upd_same hc).symm] at z
          exact ((s1.trans (same_new (o := .lst ((ns.take 63).map V.int)) hp1))).free z
        refine k p c _ ⟨(ns.take 63).reverse, m, 0, upd_same, ?_, ?_⟩ (fun b o e => ?_) hpH hcH
        · rw [upd_ne npc.symm, upd_same, List.map_reverse]
        · rw [List.length_reverse, List.length_take]; omega
        · rw [upd_ne (ne_of_none e hpH)]
          exact s2 b o e

theorem int_mem {ns : List Int} {i : Nat} {v : V} (h : (ns.map V.int)[i]? = some v) : ∃ z, z ∈ ns ∧ v = V.int z := by
  obtain ⟨z, h1, h2⟩ := List.mem_map.mp (List.mem_of_getElem? h)
  exact ⟨z, h1, h2.symm⟩
theorem str_mem {ns : List Str} {i : Nat} {v : V} (h : (ns.map V.str)[i]? = some v) : ∃ z, z ∈ ns ∧ v = V.str z := by
  obtain ⟨z, h1, h2⟩ := List.mem_map.mp (List.mem_of_getElem? h)
  exact ⟨z, h1, h2.symm⟩
theorem tame_plain {d : PyData} (h : (∃ b, d = .bool b) ∨ d = .none) (k : Nat) : Tame k d := by
  rcases h with ⟨b, rfl⟩ | rfl <;> exact ⟨by simp only [PyData.showable], by simp only [PyData.leavesShort], by simp only [PyData.depth]; omega, by simp only [PyData.bulk]; omega⟩
theorem items_snoc {R : V → PyData → Prop} {xs : List V} {ds : List PyData} {v : V} {d : PyData} (l : xs.length = ds.length) (h : ∀ (j : Nat) (a : V) (b : PyData), xs[j]? = some a → ds[j]? = some b → R a b) (r : R v d) :
    ∀ (j : Nat) (a : V) (b : PyData), (xs ++ [v])[j]? = some a → (ds ++ [d])[j]? = some b → R a b := fun j a b q1 q2 => by
  by_cases hj : j < xs.length
  · rw [List.getElem?_append_left hj] at q1
    rw [List.getElem?_append_left (by omega)] at q2
    exact h j a b q1 q2
  · rw [List.getElem?_append_right (by omega)] at q1
    rw [List.getElem?_append_right (by omega)] at q2
    have z : j - xs.length = 0 := by
      cases e : j - xs.length with
      | zero => rfl
      | succ n => rw [e] at q1; simp at q1
    rw [z] at q1
    rw [show j - ds.length = 0 by omega] at q2
    cases q1
    cases q2
    exact r
theorem dict_kvs {l : Addr} {n : Int} : mergeK [] [(Sum.inr ("key" : Str), V.ref l), (Sum.inl 1, V.int n)] = [(Sum.inr ("key" : Str), V.ref l), (Sum.inl 1, V.int n)] := by
  have e1 : putK ([] : List (Key × V)) (Sum.inr ("key" : Str)) (V.ref l) = [(Sum.inr ("key" : Str), V.ref l)] := putK_new _ rfl
  have e2 : putK [(Sum.inr ("key" : Str), V.ref l)] (Sum.inl 1 : Key) (V.int n) = [(Sum.inr ("key" : Str), V.ref l)] ++ [(Sum.inl 1, V.int n)] := putK_new _ ((valV_neg (p := (Sum.inr ("key" : Str), V.ref l)) (r := []) (fun z : (Sum.inr ("key" : Str) : Key) = Sum.inl 1 => by cases z)).trans rfl)
  unfold mergeK
  simp only [List.foldl_cons, List.foldl_nil]
  rw [e1, e2]
  rfl
/-- any value, at a depth below d -/
def spAny (d : Nat) : Sp := fun vs H Q _ => ∃ (p c : Addr) (k : Nat), vs = [.ref p, .int k] ∧ k < d ∧ Deck H p c ∧
  ∀ (v : V) (e : PyData) (H' : Hp), Tame k e → DV H' (fun a => H a = none) v e → Deck H' p c → Kp p c H H' → Q v H'
abbrev nAny : List Str := ["_law_deck_here", "_law_deep", "_law_way", "_law_some", "_law_turn"]
theorem scAny : FnScope nAny ["_law_deck_here", "_law_deep"] (defScope sAny) := ⟨rfl, rfl, rfl, by decide +kernel, rfl, by decide +kernel, by decide +kernel⟩

/-- the menus -/
def menuI : List Int := [0, 1, -1, 2, 7, 12, 13, 40, 10 ^ 49 * 10 ^ 50, -(10 ^ 20)]
def menuS : List Str := ["", "a", "(0, 1)", "places 2\n0 1", "~", "lot", "True", "0"]
theorem int_tame : ∀ i ∈ menuI, PyData.showable (.int i) = true ∧ PyData.leavesShort 200 (.int i) = true := by decide +kernel
theorem str_tame : ∀ x ∈ menuS, PyData.leavesShort 200 (.str x) = true ∧ x.cps.size ≤ 12 := by decide +kernel
theorem tame_int {i : Int} (h : i ∈ menuI) (k : Nat) : Tame k (.int i) := ⟨(int_tame i h).1, (int_tame i h).2, by simp only [PyData.depth]; omega, by simp only [PyData.bulk]; omega⟩
theorem tame_str {x : Str} (h : x ∈ menuS) (k : Nat) : Tame k (.str x) := ⟨by simp only [PyData.showable], (str_tame x h).1, by simp only [PyData.depth]; omega, by
  have := (str_tame x h).2
  have := bb_le k
  simp only [PyData.bulk]; omega⟩

theorem ok_any {f fD fP : Addr} {fd fdD fdP : FuncData} (F : Fun K "_law_any" "_law_any" sAny f fd) (mf : mg "_law_any" = some (.ref f)) (bf : Binds K fd ["_law_deck_here", "_law_deep"] []) (T : Bi mg)
    (GD : Dn P w K mg base "_law_draw" 1 ["_law_deck_here", "_law_many"] spDraw fD fdD) (GP : Dn P w K mg base "_law_pick" 2 ["_law_deck_here", "_law_some"] spPick fP fdP) :
    ∀ d : Nat, FnOk P w K mg base CX0 (d + 2) f fd ["_law_deck_here", "_law_deep"] (spAny d) := by
  intro d
  induction d with
  | zero => exact ⟨fun vs H Q E ⟨p, c, k, _, hk, _⟩ => absurd hk (Nat.not_lt_zero _), fun A outer s H args us vs Q E _ _ _ _ ⟨p, c, k, _, hk, _⟩ => absurd hk (Nat.not_lt_zero _)⟩
  | succ d ih =>
    refine F.ok scAny (fun vs H Q E h => ?_) (fun cdv A outer s H vs Q E hr h => ?_)
    · obtain ⟨p, c, k, rfl, _⟩ := h
      rfl
    · obtain ⟨p, c, dk, rfl, hdk, D, k⟩ := h
      have hr1 : Room 1 (A.deeper (envOfC "_law_any" (defScope sAny) s.heap.objs.size f cdv)) := hr.mono (by omega)
      have hr2 : Room 2 (A.deeper (envOfC "_law_any" (defScope sAny) s.heap.objs.size f cdv)) := hr.mono (by omega)
      refine ⟨_, pss_cons (ps_set (i := 2) scAny.nd rfl (.inl rfl) (pe_call GD.ok hr1 rfl GD.g GD.kp GD.b .nil pass0 (pa_cons (pv 0) (pa_cons pe_int pa_nil))))
        <| pss_cons (ps_if (pt_cmpR op_lt (pv 2) pe_int (nomark _)) (pss_one (ps_ret (pe_call GP.ok hr2 rfl GP.g GP.kp GP.b .nil pass0 (pa_cons (pv 0) (pa_cons (pe_lst
            (pa_cons pe_int (pa_cons pe_int (pa_cons (pe_un un_neg pe_int) (pa_cons pe_int (pa_cons pe_int (pa_cons pe_int (pa_cons pe_int (pa_cons pe_int (pa_cons (pe_op op_mulW (pe_op op_pow pe_int pe_int) (pe_op op_pow pe_int pe_int))
            (pa_cons (pe_un un_neg (pe_op op_pow pe_int pe_int)) pa_nil))))))))))) pa_nil))))) pss_nil)
        <| pss_cons (ps_if (pt_cmpR op_lt (pv 2) pe_int (nomark _)) (pss_one (ps_ret (pe_call GP.ok hr2 rfl GP.g GP.kp GP.b .nil pass0 (pa_cons (pv 0) (pa_cons (pe_lst
            (pa_cons pe_str (pa_cons pe_str (pa_cons pe_str (pa_cons pe_str (pa_cons pe_str (pa_cons pe_str (pa_cons pe_str (pa_cons pe_str pa_nil))))))))) pa_nil))))) pss_nil)
        <| pss_cons (ps_if (pt_cmpR op_eq (pv 2) pe_int (nomark _)) (pss_one (ps_ret (pe_call GP.ok hr2 rfl GP.g GP.kp GP.b .nil pass0 (pa_cons (pv 0) (pa_cons (pe_lst (pa_cons pe_bl (pa_cons pe_bl (pa_cons pe_non pa_nil)))) pa_nil))))) pss_nil)
        <| pss_cons (ps_set (i := 3) scAny.nd rfl (.inl rfl) (pe_ifExp (pt_cmpR op_gt (pv 1) pe_int (nomark _))
            (pe_lc (own := [("_law_turn", 4)]) (g := gName 4) (tt := tYes) rfl scAny.nd (pi_range1 rfl T.range (pa_cons (pe_call GD.ok hr1 rfl GD.g GD.kp GD.b .nil pass0 (pa_cons (pv 0) (pa_cons pe_int pa_nil))) pa_nil))
              (blkOk_by (N := nAny) (sc := defScope sAny) (by decide +kernel)) (fun _ _ _ _ _ => pg_name (i := 4) scAny.nd rfl (Or.inl rfl)) (fun _ _ _ _ _ => pts_nil)
              (fun _ _ _ _ _ => pe_call ih hr rfl mf F.kp bf .nil pass0 (pa_cons (pv 0) (pa_cons (pe_op op_sub (pv 1) pe_int) pa_nil))))
            (pe_lst pa_nil)))
        <| pss_cons (ps_if (pt_cmpR op_eq (pv 2) pe_int (nomark _)) (pss_one (ps_ret (pv 3))) pss_nil)
        <| pss_one (ps_ret (pe_ifExp (pt_cmpR op_eq (pv 2) pe_int (nomark _)) (pe_disp (pps_cons pe_str (pv 3) (pps_cons pe_int (pe_callB call_len_seq (by rfl) T.len PySem.boot_len (pa_cons (pv 3) pa_nil)) pps_nil)) rfl rfl (fun z => nomatch z) (by decide))
            (pe_callTy call_tuple_of (by rfl) T.tuple (by decide +kernel) (pa_cons (pv 3) pa_nil)))), ?_⟩
      have cp : ∀ {a : Int} {n : Nat}, n ≤ 1000 → a.natAbs < 2 ^ 64 → CPow a (n : Int) := fun h1 h2 => ⟨Int.natCast_nonneg _, by omega, h2⟩
      refine ⟨_, rfl, p, c, _, rfl, D, by decide, by decide, fun way H1 w0 w1 D1 K1 => ?_⟩
      refine ⟨_, rfl, _, _, rfl, rfl, _, rfl, ite2 (fun _ => ?_) (fun _ => ?_)⟩
      · refine ⟨_, rfl, _, rfl, _, _, rfl, rfl, cp (n := 49) (by decide) (by decide), _, _, rfl, rfl, cp (n := 50) (by decide) (by decide), _, _, rfl, rfl, ?_, _, _, rfl, rfl, cp (n := 20) (by decide) (by decide), _, rfl, ?_, fun l hl => ?_⟩
        · show CMulW (10 ^ 49) (10 ^ 50)
          unfold CMulW
          decide +kernel
        · show 10 ≤ sizeLine; rw [sizeLine_eq]; decide
        · obtain ⟨lp, lc⟩ := D1.inp hl
          refine ⟨p, c, l, _, rfl, D1.new hl, upd_same, lp, lc, (by show 1 ≤ 10; decide), (by show 10 < 1000; decide), fun i v H' e D' K' => ?_⟩
          obtain ⟨z, hz, rfl⟩ := int_mem (ns := menuI) e
          exact k _ _ H' (tame_int hz _) (.int z) D' (K1.trans ((kp_new hl).trans K'))
      refine ⟨_, rfl, _, _, rfl, rfl, _, rfl, ite2 (fun _ => ?_) (fun _ => ?_)⟩
      · refine ⟨_, rfl, ?_, fun l hl => ?_⟩
        · show 8 ≤ sizeLine; rw [sizeLine_eq]; decide
        · obtain ⟨lp, lc⟩ := D1.inp hl
          refine ⟨p, c, l, _, rfl, D1.new hl, upd_same, lp, lc, (by show 1 ≤ 8; decide), (by show 8 < 1000; decide), fun i v H' e D' K' => ?_⟩
          obtain ⟨z, hz, rfl⟩ := str_mem (ns := menuS) e
          exact k _ _ H' (tame_str hz _) (.str z) D' (K1.trans ((kp_new hl).trans K'))
      refine ⟨_, rfl, rfl, _, rfl, ite2 (fun _ => ?_) (fun _ => ?_)⟩
      · refine ⟨_, rfl, ?_, fun l hl => ?_⟩
        · show 3 ≤ sizeLine; rw [sizeLine_eq]; decide
        · obtain ⟨lp, lc⟩ := D1.inp hl
          refine ⟨p, c, l, _, rfl, D1.new hl, upd_same, lp, lc, (by show 1 ≤ 3; decide), (by show 3 < 1000; decide), fun i v H' e D' K' => ?_⟩
          have hv : v = .bl true ∨ v = .bl false ∨ v = .non := by
            have q := List.mem_of_getElem? e
            simpa using q
          rcases hv with rfl | rfl | rfl
          · exact k _ (.bool true) H' (tame_plain (.inl ⟨_, rfl⟩) _) (.bl true) D' (K1.trans ((kp_new hl).trans K'))
          · exact k _ (.bool false) H' (tame_plain (.inl ⟨_, rfl⟩) _) (.bl false) D' (K1.trans ((kp_new hl).trans K'))
          · exact k _ .none H' (tame_plain (.inr rfl) _) .non D' (K1.trans ((kp_new hl).trans K'))
      refine ⟨_, rfl, _, _, rfl, rfl, _, rfl, ite2 (fun hgt => ?_) (fun hgt => ?_)⟩
      · have hk1 : 1 ≤ dk := by have := of_decide_eq_true hgt; omega
        refine ⟨_, rfl, p, c, _, rfl, D1, by decide, by decide, fun r H2 r0 r1 D2 K2 => ⟨_, rfl, by omega, by omega, fun l hl => ?_⟩⟩
        have K02 : Kp p c H H2 := K1.trans K2
        obtain ⟨lp, lc⟩ := D2.inp hl
        have hlH : H l = none := K02.dom D2 hl
        refine lc_range (n := r.toNat) (fun i H3 => ∃ (xs : List V) (ds : List PyData), H3 l = some (.lst xs) ∧ xs.length = i ∧ ds.length = i ∧ (∀ d ∈ ds, Tame (dk - 1) d) ∧ Deck H3 p c ∧ Kp p c H H3 ∧
            ∀ (j : Nat) (v : V) (d : PyData), xs[j]? = some v → ds[j]? = some d → DV H3 (fun a => H a = none ∧ a ≠ l) v d)
          ⟨[], [], upd_same, rfl, rfl, (fun _ z => nomatch z), D2.new hl, K02.trans (kp_new hl), fun j v d z => by simp at z⟩ ?_ ?_
        · rintro i H3 hi ⟨xs, ds, e1, e2, e3, e4, D3, K3, e5⟩
          refine ⟨rfl, ?_⟩
          unfold tYes
          refine iteT ?_
          refine ⟨_, rfl, _, rfl, _, _, rfl, rfl, p, c, dk - 1, ?_, by omega, D3, fun v e H4 t dv D4 K4 => ?_⟩
          · show [V.ref p, V.int ((dk : Int) - 1)] = [V.ref p, V.int ((dk - 1 : Nat) : Int)]
            rw [show ((dk : Int) - 1) = ((dk - 1 : Nat) : Int) by omega]
          · have e1' := K4 l _ lp lc e1
            refine ⟨xs, e1', by rw [e2, sizeLine_eq]; omega, xs ++ [v], ds ++ [e], upd_same, by rw [List.length_append, e2]; rfl, by rw [List.length_append, e3]; rfl, fun d' z => ?_, D4.put lp lc, fun b o h1 h2 q => ?_, items_snoc (e2.trans e3.symm) (fun j a b q1 q2 => ?_) ?_⟩
            · rcases List.mem_append.mp z with z | z
              · exact e4 _ z
              · rw [List.mem_singleton.mp z]; exact t
            · rw [upd_ne (ne_of_none q hlH)]
              exact K4 b o h1 h2 (K3 b o h1 h2 q)
            · refine (e5 j a b q1 q2).mono fun x o t' z => ⟨t', ?_⟩
              obtain ⟨x1, x2⟩ := D.inp t'.1
              rw [upd_ne t'.2]
              exact K4 x o x1 x2 z
            · refine dv.mono fun x o t' z => ?_
              have nx : x ≠ l := (ne_of_none e1 t').symm
              exact ⟨⟨K3.dom D3 t', nx⟩, by rw [upd_ne nx]; exact z⟩
        · rintro H3 ⟨xs, ds, e1, e2, e3, e4, D3, K3, e5⟩
          have tm : ∀ d, (d = .list ds ∨ d = .tuple ds ∨ d = .dict [(.str "key", .list ds), (.int 1, .int ds.length)]) → Tame dk d := fun d z => by
            obtain ⟨j, rfl⟩ : ∃ j, dk = j + 1 := ⟨dk - 1, by omega⟩
            have e4' : ∀ d ∈ ds, Tame j d := e4
            rcases z with rfl | rfl | rfl
            · exact tame_list e4' (by omega)
            · exact tame_tuple e4' (by omega)
            · exact tame_dict e4' (by omega)
          refine ⟨_, rfl, rfl, _, rfl, ite2 (fun _ => ?_) (fun _ => ?_)⟩
          · exact ⟨_, rfl, k (.ref l) (.list ds) H3 (tm _ (.inl rfl)) (.lst hlH e1 (e2.trans e3.symm) fun j v d q1 q2 => (e5 j v d q1 q2).mono fun a o t q => ⟨t.1, q⟩) D3 K3⟩
          refine ⟨_, rfl, rfl, _, rfl, ite2 (fun _ => ?_) (fun _ => ?_)⟩
          · intro q hq
            have nlq : l ≠ q := ne_of_none e1 hq
            have e1q : (upd H3 q (.dK [])) l = some (.lst xs) := by rw [upd_ne nlq]; exact e1
            refine ⟨_, rfl, _, rfl, l, _, rfl, .inl (SqL.of e1q), upd_same, [(Sum.inr ("key" : Str), V.ref l), (Sum.inl 1, V.int xs.length)], rfl, (by show 2 ≤ 15; decide), ?_⟩
            rw [upd_upd, dict_kvs]
            have hqH : H q = none := K3.dom D3 hq
            obtain ⟨qp, qc⟩ := D3.inp hq
            refine k (.ref q) (.dict [(.str "key", .list ds), (.int 1, .int ds.length)]) _ (tm _ (.inr (.inr rfl))) ?_ (D3.new hq) (K3.trans (kp_new hq))
            refine DV.dct (kvs := [(Sum.inr ("key" : Str), V.ref l), (Sum.inl 1, V.int xs.length)]) (ds := [.list ds, .int ds.length]) hqH upd_same rfl fun j v d q1 q2 => ?_
            match j, q1, q2 with
            | 0, q1, q2 =>
              cases q1
              cases q2
              exact .lst hlH (by rw [upd_ne nlq]; exact e1) (e2.trans e3.symm) fun j v d q1 q2 => (e5 j v d q1 q2).mono fun a o t z => ⟨t.1, by rw [upd_ne (ne_of_none z hq)]; exact z⟩
            | 1, q1, q2 =>
              cases q1
              cases q2
              rw [e2, e3]
              exact .int _
            | j + 2, q1, q2 => simp at q1
          · refine ⟨_, rfl, l, _, rfl, .inl ⟨SqL.of e1, fun t ht => ?_⟩⟩
            exact k (.ref t) (.tuple ds) _ (tm _ (.inr (.inl rfl))) (.tup (K3.dom D3 ht) upd_same (e2.trans e3.symm) fun j v d q1 q2 => (e5 j v d q1 q2).mono fun a o t' z => ⟨t'.1, by rw [upd_ne (ne_of_none z ht)]; exact z⟩) (D3.new ht) (K3.trans (kp_new ht))
      · refine ⟨Nat.zero_le _, fun l hl => ?_⟩
        have hlH : H l = none := K1.dom D1 hl
        obtain ⟨xs, hxs⟩ : ∃ xs : List V, xs = [] := ⟨_, rfl⟩
        obtain ⟨ds, hds⟩ : ∃ ds : List PyData, ds = [] := ⟨_, rfl⟩
        generalize hH3 : upd H1 l (.lst []) = H3
        have e1 : H3 l = some (.lst xs) := by rw [← hH3, hxs]; exact upd_same
        have D3 : Deck H3 p c := by rw [← hH3]; exact D1.new hl
        have K3 : Kp p c H H3 := by rw [← hH3]; exact K1.trans (kp_new hl)
        have e2 : xs.length = 0 := by rw [hxs]; rfl
        have e3 : ds.length = 0 := by rw [hds]; rfl
        have e5 : ∀ (j : Nat) (v : V) (d : PyData), xs[j]? = some v → ds[j]? = some d → DV H3 (fun a => H a = none ∧ a ≠ l) v d := fun j v d z => by rw [hxs] at z; simp at z
        have tm : ∀ d, (d = .list ds ∨ d = .tuple ds ∨ d = .dict [(.str "key", .list ds), (.int 1, .int ds.length)]) → Tame dk d := fun d z => by
          rw [hds] at z
          exact tame0 (by simpa using z) dk
        refine ⟨_, rfl, rfl, _, rfl, ite2 (fun _ => ?_) (fun _ => ?_)⟩
        · exact ⟨_, rfl, k (.ref l) (.list ds) H3 (tm _ (.inl rfl)) (.lst hlH e1 (e2.trans e3.symm) fun j v d q1 q2 => (e5 j v d q1 q2).mono fun a o t q => ⟨t.1, q⟩) D3 K3⟩
        refine ⟨_, rfl, rfl, _, rfl, ite2 (fun _ => ?_) (fun _ => ?_)⟩
        · intro q hq
          have nlq : l ≠ q := ne_of_none e1 hq
          have e1q : (upd H3 q (.dK [])) l = some (.lst xs) := by rw [upd_ne nlq]; exact e1
          refine ⟨_, rfl, _, rfl, l, _, rfl, .inl (SqL.of e1q), upd_same, [(Sum.inr ("key" : Str), V.ref l), (Sum.inl 1, V.int xs.length)], rfl, (by show 2 ≤ 15; decide), ?_⟩
          rw [upd_upd, dict_kvs]
          have hqH : H q = none := K3.dom D3 hq
          obtain ⟨qp, qc⟩ := D3.inp hq
          refine k (.ref q) (.dict [(.str "key", .list ds), (.int 1, .int ds.length)]) _ (tm _ (.inr (.inr rfl))) ?_ (D3.new hq) (K3.trans (kp_new hq))
          refine DV.dct (kvs := [(Sum.inr ("key" : Str), V.ref l), (Sum.inl 1, V.int xs.length)]) (ds := [.list ds, .int ds.length]) hqH upd_same rfl fun j v d q1 q2 => ?_
          match j, q1, q2 with
          | 0, q1, q2 =>
            cases q1
            cases q2
            exact .lst hlH (by rw [upd_ne nlq]; exact e1) (e2.trans e3.symm) fun j v d q1 q2 => (e5 j v d q1 q2).mono fun a o t z => ⟨t.1, by rw [upd_ne (ne_of_none z hq)]; exact z⟩
          | 1, q1, q2 =>
            cases q1
            cases q2
            rw [e2, e3]
            exact .int _
          | j + 2, q1, q2 => simp at q1
        · refine ⟨_, rfl, l, _, rfl, .inl ⟨SqL.of e1, fun t ht => ?_⟩⟩
          exact k (.ref t) (.tuple ds) _ (tm _ (.inr (.inl rfl))) (.tup (K3.dom D3 ht) upd_same (e2.trans e3.symm) fun j v d q1 q2 => (e5 j v d q1 q2).mono fun a o t' z => ⟨t'.1, by rw [upd_ne (ne_of_none z ht)]; exact z⟩) (D3.new ht) (K3.trans (kp_new ht))
end
end K0

set_option Elab.async false
set_option linter.all false
set_option maxRecDepth 100000
set_option maxHeartbeats 4000000
/-! Own errors over the tracked heap: made, read, asked for their class, raised. -/
namespace K0
open PySem PySem.Spec L2
open PyProof.Rows hiding St

abbrev exOb (C : Addr) (d : Option Addr) (t : Addr) : Obj := { cls := .ref C, dict := d, data := .fields #[.ref t, .none, .none, .none, .bool false, .none] }
/-- an error as a value: its class at C, its own dict d -/
def ExV (C : Addr) (d : Option Addr) (a : Addr) : HO := .ext fun h => ∃ t, h.get? a = some (exOb C d t)
theorem exv_ok {P : Program} {w : World} {H : Hp} {h : Heap} {a C t : Addr} {d : Option Addr} (e : h.get? a = some (exOb C d t)) : ObjOk P w H h a (ExV C d a) :=
  ⟨⟨t, e⟩, ⟨_, e⟩, fun _ _ ⟨t, q⟩ k => ⟨t, k _ q⟩⟩

/-- what the written part says of an own error's class -/
structure ErrC (P : Program) (K : PySem.W.Frag) (C : Addr) : Prop where
  cl : PySem.EX.ClsT P K C
  ga : PySem.W.findIn K (.ref C) "__getattribute__" = some (some (.builtin "BaseException.__getattribute__"))
  gg : PySem.W.findIn K (.ref C) "__getattr__" = some none
  eB : PySem.W.subIn K (.ref C) (.type "BaseException") = some true
  tC : PySem.W.typeIn K (.ref C) = some (.type "type")
  ha : PySem.W.findIn K (.ref C) "__class__" = some (some (.builtin "object.__class__"))
  hn : PySem.W.specialIn K (.builtin "object.__class__") "__get__" = some (some (.builtin "getset_descriptor.__get__"))
  ht : PySem.W.takesIn K (.builtin "object.__class__") = some true
  hm : PySem.W.mroIn K C (.type "object") = some true
theorem ErrC.xf {P : Program} {K : PySem.W.Frag} {C : Addr} (E : ErrC P K C) : XfC K C := ⟨E.ga, E.gg, E.eB, E.cl.hd⟩

section
variable {X : Cx} {C fI : Addr} {f x : Str} {k : Nat}
/-- the call of the class by position or by name, at the machine -/
theorem run_made1 {pins : List (Addr × Obj)} {σ : St} {H1 : Hp} {s1 : Shared} {v : V} {u : Value} {us : List Value} {kw : List (Str × Value)} {R : Value → Shared → Prop} (T : ErrC X.prog X.K C) (F1 : PySem.EX.Fn1 X.prog X.K C fI f) (hf : f ∈ PySem.EX.fNames) (hs : X.mg "super" = none) (hr : Room k X.A)
    (I1 : Inv X pins σ H1 s1) (rv : RelV v u) (ha : (us = [u] ∧ kw = []) ∨ (us = [] ∧ kw = [(f, u)]))
    (h : ∀ (a d t : Addr) (G : Heap) (h' : Heap) (tk : Nat), H1 a = none → H1 d = none → d ≠ a → Inv X pins σ (upd H1 d (.xd [(f, v)])) { s1 with heap := G, toks := tk } → (∀ b o, G.get? b = some o → h'.get? b = some o) → G.get? a = none → h'.get? a = some (exOb C (some d) t) → R (.ref a) { s1 with heap := h', toks := tk }) :
    wpAny (model X.prog X.w) X.A (call (.ref C) us kw) R X.xe s1 := by
  have hlim := I1.nolimit
  have hX := I1.kIn
  have hG : s1.heap.Ns mainGlobals X.mg := I1.mod.glob.keeps I1.bk
  obtain ⟨mb, hB, hBB⟩ := I1.mod.blt
  have hb : mb "super" = some (.type "super") := (hBB _ (by decide)).trans (by decide +kernel)
  have hB' : s1.heap.Ns builtinsNs mb := hB.keeps I1.bk
  refine wpAny_call (PySem.EX.made1 T.cl F1 hf hX hlim hG hs hB' hb ha (by have := hr.dp; omega) fun h' tk e d M => ?_)
  obtain ⟨t, ht⟩ := M.obj
  obtain ⟨G, g1, g2⟩ := restrict h' fun b => decide (b ≠ e)
  have gk : ∀ b, b ≠ e → G.get? b = h'.get? b := fun b hb => g1 b (decide_eq_true hb)
  have ge : G.get? e = none := g2 e (by simp)
  have old : ∀ b o, s1.heap.get? b = some o → G.get? b = some o := fun b o q => (gk b (Nat.ne_of_lt (Nat.lt_of_lt_of_le (Heap.lt_size q) M.new))).trans (M.keep b o q)
  have ob : ObjOk X.prog X.w (upd H1 d (.xd [(f, v)])) G d (.xd [(f, v)]) := ⟨_, M.ns.at (fun o q => (gk d M.dne).trans q), fun g => by
    by_cases hw : g = f
    · subst hw
      rw [if_pos rfl, show List.lookup g [(g, v)] = some v by simp [List.lookup]]
      exact rv
    · have qw : (g == f) = false := by simpa using hw
      rw [if_neg hw, show List.lookup g [(f, v)] = none by simp [List.lookup, qw]]
      trivial⟩
  have J : Inv X pins σ (upd H1 d (.xd [(f, v)])) { s1 with heap := G, toks := tk } := I1.laid (t' := tk) old M.dbig ob
  exact h e d t G h' tk (I1.hok.fresh M.new) (I1.hok.fresh M.dbig) M.dne J (fun b o q => by
    by_cases hb : b = e
    · rw [hb, ge] at q; cases q
    · exact (gk b hb).symm.trans q) ge ht

/-- X(e) -/
def tMk1 (C : Addr) (f : Str) (ta : TA) : TE := fun σ H Q => ta σ H fun vs H1 => ∃ v, vs = [v] ∧ ∀ a d, H1 a = none → H1 d = none → d ≠ a → Q (.ref a) (upd (upd H1 d (.xd [(f, v)])) a (ExV C (some d) a))
def tMkX1 (C : Addr) (f : Str) (ta : TA) : St → Hp → XK → Prop := fun σ H Q => ta σ H fun vs H1 => ∃ v, vs = [v] ∧ ∀ d, H1 d = none → Q (.ref C) (some d) (upd H1 d (.xd [(f, v)]))
theorem fin1 {pins : List (Addr × Obj)} {σ : St} {H1 : Hp} {s1 : Shared} {v : V} {Q : VK} {a d t : Addr} {G h' : Heap} {tk : Nat} (na : H1 a = none) (nd : d ≠ a) (J : Inv X pins σ (upd H1 d (.xd [(f, v)])) { s1 with heap := G, toks := tk })
    (k : ∀ b o, G.get? b = some o → h'.get? b = some o) (ga : G.get? a = none) (ha : h'.get? a = some (exOb C (some d) t)) (q : Q (.ref a) (upd (upd H1 d (.xd [(f, v)])) a (ExV C (some d) a))) : EP X pins σ Q (.ref a) { s1 with heap := h', toks := tk } :=
  ⟨.ref a, _, J.laidN (t' := tk) k ga (by rw [upd_ne nd.symm]; exact na) (exv_ok ha), rfl, q⟩
theorem finX {pins : List (Addr × Obj)} {σ : St} {H1 : Hp} {s1 : Shared} {v : V} {Q : XK} {a d t : Addr} {G h' : Heap} {tk : Nat} (T : ErrC X.prog X.K C) (bare : AllBare s1.gens) (na : H1 a = none) (nd : d ≠ a) (J : Inv X pins σ (upd H1 d (.xd [(f, v)])) { s1 with heap := G, toks := tk })
    (k : ∀ b o, G.get? b = some o → h'.get? b = some o) (ga : G.get? a = none) (ha : h'.get? a = some (exOb C (some d) t)) (q : Q (.ref C) (some d) (upd H1 d (.xd [(f, v)]))) : MkP X pins σ Q (.ref a) { s1 with heap := h', toks := tk } :=
  ⟨a, _, _, { s1 with heap := G, toks := tk }, _, .ref C, some d, rfl, J, k, ga, ha, ⟨rfl, rfl⟩, rfl, rfl, by rw [upd_ne nd.symm]; exact na, rfl, bare, raises_own T.eB T.tC, q⟩

section
variable {e : Expr} {ta : TA} {p pos : Pos} (T : ErrC X.prog X.K C) (F1 : PySem.EX.Fn1 X.prog X.K C fI f) (hf : f ∈ PySem.EX.fNames) (hs : X.mg "super" = none) (hr : Room k X.A) (hm : X.mg x = some (.ref C))
include T F1 hf hs hr hm
theorem pe_mk1 (ha : PA X [e] ta) (hg : Gl X x := by rfl) (he : starEach [e] X.env = (false, eval e X.env) :: starEach [] X.env := by rfl) (hpl : (backTo pos (starEach [] X.env)).any (·.1) = false := by rfl) (hdb : (x == ("__debug__" : Str)) = false := by decide) :
    PE X (.Call (.Name x p) [e] [] pos) (tMk1 C f ta) := by
  refine ⟨fun pins s σ H Q I h => ?_⟩
  refine wpAny_Call_Name_kw (ld_glob I hg hm ?_ hdb)
  refine PySem.W.callWith_K (h₀ := X.base) I.ok.mod.kin T.cl.kp (thn (ha.run pos pins s σ H _ I h) fun us s1 hh => ?_) he hpl
  obtain ⟨vs, H1, I1, r1, v, rfl, q1⟩ := hh
  obtain ⟨u, rfl, ru⟩ := vals1 r1
  exact ⟨I1.kIn, run_made1 T F1 hf hs hr I1 ru (.inl ⟨rfl, rfl⟩) fun a d t G h' tk na nd dne J k ga ha' => fin1 na dne J k ga ha' (q1 a d na nd dne)⟩
theorem pmk1 (ha : PA X [e] ta) (hg : Gl X x := by rfl) (he : starEach [e] X.env = (false, eval e X.env) :: starEach [] X.env := by rfl) (hpl : (backTo pos (starEach [] X.env)).any (·.1) = false := by rfl) (hdb : (x == ("__debug__" : Str)) = false := by decide) :
    PMk X (.Call (.Name x p) [e] [] pos) (tMkX1 C f ta) := by
  intro pins s σ H Q I h
  refine wpAny_Call_Name_kw (ld_glob I hg hm ?_ hdb)
  refine PySem.W.callWith_K (h₀ := X.base) I.ok.mod.kin T.cl.kp (thn (ha.run pos pins s σ H _ I h) fun us s1 hh => ?_) he hpl
  obtain ⟨vs, H1, I1, r1, v, rfl, q1⟩ := hh
  obtain ⟨u, rfl, ru⟩ := vals1 r1
  exact ⟨I1.kIn, run_made1 T F1 hf hs hr I1 ru (.inl ⟨rfl, rfl⟩) fun a d t G h' tk na nd dne J k ga ha' => finX T I1.bare na dne J k ga ha' (q1 d nd)⟩
theorem pe_mkK {kws : List Keyword} (ha : PK X kws ta) (hks : (backToKw pos (keywordEach kws X.env)).filterMap (·.1) = [f] := by rfl) (hall : (backToKw pos (keywordEach kws X.env)).all (·.1.isSome) = true := by rfl) (hg : Gl X x := by rfl)
    (hpl : ((backTo pos (starEach [] X.env)).any (·.1) || (backToKw pos (keywordEach kws X.env)).any (·.1.isNone)) = false := by rfl) (hdb : (x == ("__debug__" : Str)) = false := by decide) :
    PE X (.Call (.Name x p) [] kws pos) (tMk1 C f ta) := by
  refine ⟨fun pins s σ H Q I h => ?_⟩
  refine wpAny_Call_Name_kw (ld_glob I hg hm ?_ hdb)
  refine PySem.W.callWith_KW0 (h₀ := X.base) I.ok.mod.kin T.cl.kp hall (thn (ha.run pos pins s σ H _ I h) fun us s1 hh => ?_) hpl
  obtain ⟨vs, H1, I1, r1, v, rfl, q1⟩ := hh
  obtain ⟨u, rfl, ru⟩ := vals1 r1
  rw [hks]
  exact ⟨I1.kIn, run_made1 T F1 hf hs hr I1 ru (.inr ⟨rfl, rfl⟩) fun a d t G h' tk na nd dne J k ga ha' => fin1 na dne J k ga ha' (q1 a d na nd dne)⟩
theorem pmkK {kws : List Keyword} (ha : PK X kws ta) (hks : (backToKw pos (keywordEach kws X.env)).filterMap (·.1) = [f] := by rfl) (hall : (backToKw pos (keywordEach kws X.env)).all (·.1.isSome) = true := by rfl) (hg : Gl X x := by rfl)
    (hpl : ((backTo pos (starEach [] X.env)).any (·.1) || (backToKw pos (keywordEach kws X.env)).any (·.1.isNone)) = false := by rfl) (hdb : (x == ("__debug__" : Str)) = false := by decide) :
    PMk X (.Call (.Name x p) [] kws pos) (tMkX1 C f ta) := by
  intro pins s σ H Q I h
  refine wpAny_Call_Name_kw (ld_glob I hg hm ?_ hdb)
  refine PySem.W.callWith_KW0 (h₀ := X.base) I.ok.mod.kin T.cl.kp hall (thn (ha.run pos pins s σ H _ I h) fun us s1 hh => ?_) hpl
  obtain ⟨vs, H1, I1, r1, v, rfl, q1⟩ := hh
  obtain ⟨u, rfl, ru⟩ := vals1 r1
  rw [hks]
  exact ⟨I1.kIn, run_made1 T F1 hf hs hr I1 ru (.inr ⟨rfl, rfl⟩) fun a d t G h' tk na nd dne J k ga ha' => finX T I1.bare na dne J k ga ha' (q1 d nd)⟩
end
end
end K0

set_option Elab.async false
set_option linter.all false
set_option maxRecDepth 100000
set_option maxHeartbeats 4000000
/-! Own errors: those without a field; fields read; isinstance. -/
namespace K0
open PySem PySem.Spec L2
open PyProof.Rows hiding St

section
variable {X : Cx} {C fI : Addr} {f x : Str} {k : Nat}
theorem run_made0 {pins : List (Addr × Obj)} {σ : St} {H1 : Hp} {s1 : Shared} {R : Value → Shared → Prop} (T : ErrC X.prog X.K C) (F0 : PySem.EX.Fn0 X.prog X.K C fI) (hs : X.mg "super" = none) (hr : Room k X.A) (I1 : Inv X pins σ H1 s1)
    (h : ∀ (a t : Addr) (G : Heap) (h' : Heap) (tk : Nat), H1 a = none → Inv X pins σ H1 { s1 with heap := G, toks := tk } → (∀ b o, G.get? b = some o → h'.get? b = some o) → G.get? a = none → h'.get? a = some (exOb C none t) → R (.ref a) { s1 with heap := h', toks := tk }) :
    wpAny (model X.prog X.w) X.A (call (.ref C) []) R X.xe s1 := by
  have hlim := I1.nolimit
  have hG : s1.heap.Ns mainGlobals X.mg := I1.mod.glob.keeps I1.bk
  obtain ⟨mb, hB, hBB⟩ := I1.mod.blt
  have hb : mb "super" = some (.type "super") := (hBB _ (by decide)).trans (by decide +kernel)
  refine wpAny_call (PySem.EX.made0 T.cl F0 I1.kIn hlim hG hs (hB.keeps I1.bk) hb (by have := hr.dp; omega) fun h' tk e M => ?_)
  obtain ⟨t, ht⟩ := M.obj
  obtain ⟨G, g1, g2⟩ := restrict h' fun b => decide (b ≠ e)
  have gk : ∀ b, b ≠ e → G.get? b = h'.get? b := fun b hb => g1 b (decide_eq_true hb)
  have ge : G.get? e = none := g2 e (by simp)
  have old : ∀ b o, s1.heap.get? b = some o → G.get? b = some o := fun b o q => (gk b (Nat.ne_of_lt (Nat.lt_of_lt_of_le (Heap.lt_size q) M.new))).trans (M.keep b o q)
  exact h e t G h' tk (I1.hok.fresh M.new) (I1.kept (t' := tk) old) (fun b o q => by
    by_cases hb : b = e
    · rw [hb, ge] at q; cases q
    · exact (gk b hb).symm.trans q) ge ht
/-- X() -/
def tMk0 (C : Addr) : TE := fun _ H Q => ∀ a, H a = none → Q (.ref a) (upd H a (ExV C none a))
def tMkX0 (C : Addr) : St → Hp → XK → Prop := fun _ H Q => Q (.ref C) none H
theorem pe_mk0 {p pos : Pos} (T : ErrC X.prog X.K C) (F0 : PySem.EX.Fn0 X.prog X.K C fI) (hs : X.mg "super" = none) (hr : Room k X.A) (hm : X.mg x = some (.ref C)) (hg : Gl X x := by rfl) (hdb : (x == ("__debug__" : Str)) = false := by decide) :
    PE X (.Call (.Name x p) [] [] pos) (tMk0 C) := by
  refine ⟨fun pins s σ H Q I h => ?_⟩
  refine wpAny_Call_Name_kw (ld_glob I hg hm ?_ hdb)
  refine PySem.W.callWith_K0 I.kIn T.cl.kp (run_made0 T F0 hs hr I fun a t G h' tk na J kk ga ha => ?_)
  exact ⟨.ref a, _, J.laidN (t' := tk) kk ga na (exv_ok ha), rfl, h a na⟩
theorem pmk0 {p pos : Pos} (T : ErrC X.prog X.K C) (F0 : PySem.EX.Fn0 X.prog X.K C fI) (hs : X.mg "super" = none) (hr : Room k X.A) (hm : X.mg x = some (.ref C)) (hg : Gl X x := by rfl) (hdb : (x == ("__debug__" : Str)) = false := by decide) :
    PMk X (.Call (.Name x p) [] [] pos) (tMkX0 C) := by
  intro pins s σ H Q I h
  refine wpAny_Call_Name_kw (ld_glob I hg hm ?_ hdb)
  refine PySem.W.callWith_K0 I.kIn T.cl.kp (run_made0 T F0 hs hr I fun a t G h' tk na J kk ga ha => ?_)
  exact ⟨a, _, _, { s with heap := G, toks := tk }, _, .ref C, none, rfl, J, kk, ga, ha, ⟨rfl, rfl⟩, rfl, rfl, na, rfl, I.bare, raises_own T.eB T.tC, h⟩

/-- e.f, e an error that is tracked -/
def tFldE (P : Program) (K : PySem.W.Frag) (f : Str) (te : TE) : TE := fun σ H Q => te σ H fun y H1 => ∃ (a C d : Addr) (fs : List (Str × V)) (v : V), y = .ref a ∧ H1 a = some (ExV C (some d) a) ∧ H1 d = some (.xd fs) ∧ fs.lookup f = some v ∧ ErrC P K C ∧ PySem.W.findIn K (.ref C) f = some none ∧ Q v H1
theorem pe_fldE {e : Expr} {te : TE} {pos : Pos} (he : PE X e te) (hb : attributeBase e f X.env (eval e X.env) = eval e X.env := by rfl) : PE X (.Attribute e f pos) (tFldE X.prog X.K f te) := by
  refine ⟨fun pins s σ H Q I h => ?_⟩
  refine attr_of hb (thn (he.run pins s σ H _ I h) fun u s1 hh => ?_)
  obtain ⟨y, H1, I1, rx, a, C, d, fs, v, rfl, ea, ed, l, T, hno, q⟩ := hh
  obtain rfl : u = Value.ref a := rx
  obtain ⟨⟨t, ht⟩, _, _⟩ := (show ObjOk X.prog X.w H1 s1.heap a (ExV C (some d) a) from I1.hok a _ ea)
  obtain ⟨mA, hns, hr⟩ := (show ObjOk X.prog X.w H1 s1.heap d (.xd fs) from I1.hok d _ ed)
  obtain ⟨od, ho, hl⟩ := lookIn_ns hns
  obtain ⟨u, hu, ru⟩ := RelO.some_of (v := v) (o := mA f) (by rw [← l]; exact hr f)
  have J : PySem.W.InstAt s1.heap a (exOb C (some d) t) C (some od) := ⟨ht, rfl, rfl, ho⟩
  exact HandSPX.exc_get I1.kIn J T.ga T.gg T.eB (PySem.W.findObj_own T.cl.hd hno rfl (by rw [hl, hu])) (handed_of ru) ⟨v, H1, I1.tok _, ru, q⟩

/-- the own dict of an error, as the heap has it -/
theorem inst_of {pins : List (Addr × Obj)} {σ : St} {H1 : Hp} {s1 : Shared} {a t : Addr} {d : Option Addr} (I1 : Inv X pins σ H1 s1) (ht : s1.heap.get? a = some (exOb C d t)) (hd : d = none ∨ ∃ dd fs, d = some dd ∧ H1 dd = some (.xd fs)) :
    ∃ od, PySem.W.InstAt s1.heap a (exOb C d t) C od := by
  rcases hd with rfl | ⟨dd, fs, rfl, e⟩
  · exact ⟨none, ht, rfl, rfl, trivial⟩
  · obtain ⟨mA, hns, hr⟩ := (show ObjOk X.prog X.w H1 s1.heap dd (.xd fs) from I1.hok dd _ e)
    obtain ⟨od, ho, hl⟩ := lookIn_ns hns
    exact ⟨some od, ht, rfl, rfl, ho⟩
theorem kit_err {P : Program} {K : PySem.W.Frag} {a : Addr} {ox : Obj} {od : Option Obj} (T : ErrC P K C) : PySem.W.KitX K (.ref a) (.ref C) (fun h => PySem.W.InstAt h a ox C od) :=
  PySem.W.kitx_exc (by obtain ⟨cd, hc, _⟩ := PySem.W.any_some T.cl.hd; rw [hc]; rfl) T.ga T.gg T.eB T.ha T.hn T.ht T.hm
/-- isinstance(e, c), e a tracked error -/
def rIsT (P : Program) (K : PySem.W.Frag) : List V → Hp → VK → Prop := fun xs H Q => ∃ (a C : Addr) (d : Option Addr) (c : V) (cv : Value) (b : Bool), xs = [.ref a, c] ∧ ClsV c cv ∧ H a = some (ExV C d a) ∧ (d = none ∨ ∃ dd fs, d = some dd ∧ H dd = some (.xd fs)) ∧ ErrC P K C ∧ PySem.W.kitOne K (.ref C) cv = some b ∧ Q (.bl b) H
theorem call_isT : CallR X (.builtin "isinstance") (rIsT X.prog X.K) := by
  intro pins s σ H xs us Q I r h
  obtain ⟨a, C, d, c, cv, b, rfl, kc, ea, hd, T, e, q⟩ := h
  obtain ⟨u1, u2, rfl, r1, r2⟩ := vals2 r
  cases r1
  have e2 := kc.eq r2
  subst e2
  obtain ⟨⟨t, ht⟩, _, _⟩ := (show ObjOk X.prog X.w H s.heap a (ExV C d a) from I.hok a _ ea)
  obtain ⟨od, J⟩ := inst_of I ht hd
  exact PySem.W.kia_one (kit_err T) I.kIn J e (fun z => nomatch z) fun tk => ⟨.bl b, H, I.tok tk, rfl, q⟩
/-- isinstance(e, (c1, c2, ..)) -/
def rIsTs (P : Program) (K : PySem.W.Frag) : List V → Hp → VK → Prop := fun xs H Q => ∃ (a C tp : Addr) (d : Option Addr) (cs : List V) (us : List Value) (b : Bool), xs = [.ref a, .ref tp] ∧ H tp = some (.tup cs) ∧ Paired ClsV cs us ∧ H a = some (ExV C d a) ∧ (d = none ∨ ∃ dd fs, d = some dd ∧ H dd = some (.xd fs)) ∧ ErrC P K C ∧ PySem.W.kitAny K (.ref C) us = some b ∧ Q (.bl b) H
theorem call_isTs : CallR X (.builtin "isinstance") (rIsTs X.prog X.K) := by
  intro pins s σ H xs us Q I r h
  obtain ⟨a, C, tp, d, cs, ws, b, rfl, hT, kc, ea, hd, T, e, q⟩ := h
  obtain ⟨u1, u2, rfl, r1, r2⟩ := vals2 r
  cases r1
  cases r2
  obtain ⟨_, its, rv, o, h1, h2, n, h3⟩ := (show ObjOk X.prog X.w H s.heap tp (.tup cs) from I.hok tp _ hT)
  have e3 := ClsV.all kc rv
  subst e3
  obtain ⟨oc, od, dt, sl⟩ := o
  simp only at h2 h3
  subst h2 h3
  obtain ⟨⟨t, ht⟩, _, _⟩ := (show ObjOk X.prog X.w H s.heap a (ExV C d a) from I.hok a _ ea)
  obtain ⟨oi, J⟩ := inst_of I ht hd
  exact PySem.W.kia_tup (kit_err T) I.kIn J h1 e (fun z => nomatch z) fun tk => ⟨.bl b, H, I.tok tk, rfl, q⟩
/-- isinstance(e, c), e the error that the suite holds -/
def rIsS (P : Program) (K : PySem.W.Frag) (a : Addr) (cls : Value) (d : Option Addr) : List V → Hp → VK → Prop := fun xs H Q => ∃ (D : Addr) (c : V) (cv : Value) (b : Bool), xs = [.ref a, c] ∧ ClsV c cv ∧ cls = .ref D ∧ (d = none ∨ ∃ dd fs, d = some dd ∧ H dd = some (.xd fs)) ∧ ErrC P K D ∧ PySem.W.kitOne K (.ref D) cv = some b ∧ Q (.bl b) H
theorem call_isS {a : Addr} {oe : Obj} {cls : Value} {d : Option Addr} {pn : List (Addr × Obj)} (hz : Zc cls d oe) (hf : ∃ vs, oe.data = .fields vs) : CallR (X.suite a ((a, oe) :: pn)) (.builtin "isinstance") (rIsS X.prog X.K a cls d) := by
  intro pins s σ H xs us Q I r h
  obtain ⟨D, c, cv, b, rfl, kc, rfl, hd, T, e, q⟩ := h
  obtain ⟨u1, u2, rfl, r1, r2⟩ := vals2 r
  cases r1
  have e2 := kc.eq r2
  subst e2
  obtain ⟨hget, _⟩ := I.pin (a, oe) (List.mem_append.mpr (.inl List.mem_cons_self))
  obtain ⟨vs, hv⟩ := hf
  have J : ∃ od, PySem.W.InstAt s.heap a oe D od := by
    obtain ⟨oc, oo, oda, osl⟩ := oe
    obtain ⟨h1, h2⟩ := hz
    dsimp only at h1 h2 hv
    subst h1 h2 hv
    rcases hd with rfl | ⟨dd, fs, rfl, e⟩
    · exact ⟨none, hget, rfl, rfl, trivial⟩
    · obtain ⟨mA, hns, hr⟩ := (show ObjOk X.prog X.w H s.heap dd (.xd fs) from I.hok dd _ e)
      obtain ⟨od, ho, hl⟩ := lookIn_ns hns
      exact ⟨some od, hget, rfl, rfl, ho⟩
  obtain ⟨od, J⟩ := J
  exact PySem.W.kia_one (kit_err T) I.kIn J e (fun z => nomatch z) fun tk => ⟨.bl b, H, I.tok tk, rfl, q⟩
end
end K0

set_option Elab.async false
set_option linter.all false
set_option maxRecDepth 100000
set_option maxHeartbeats 4000000
/-! The lists of errors: made by position, by name, without a field; their fields; their kinds. -/
namespace K0
open PySem PySem.Spec L2
open PyProof.Rows hiding St

def nmE : Nat → Str := fun i => (["BadWeb", "BadLot", "BadTie", "BadRenaming", "BadText", "NotTight", "BadPairing", "BadPlace", "BadPaper", "BadTaking", "BadLots", "BadWebs", "BadTerms", "BadWeights", "BadHalf", "NotCritical", "BadNumber", "BadRow", "BadRing",
  "NotCovered", "BadChange", "NoBunch", "NoPairing", "Full", "Held", "NothingHeld", "NothingToUndo", "NothingToRedo"] : List Str).getD i ""
def fldE : Nat → Str := fun i => (["thing", "thing", "number", "thing", "at", "pairing", "thing", "thing", "thing", "thing", "thing", "thing", "thing", "thing", "thing", "certificate", "thing", "thing", "thing", "certificate", "at", "place"] : List Str).getD i ""
theorem fld_in : ∀ i, i < 22 → fldE i ∈ PySem.EX.fNames := by decide +kernel

/-- what the top says of all errors: the i-th class at cs i -/
structure Es (P : Program) (K : PySem.W.Frag) (mg : Str → Option Value) (cs fi : Nat → Addr) (W : Addr) : Prop where
  sup : mg "super" = none
  isi : mg "isinstance" = none
  g : ∀ i, i < 28 → mg (nmE i) = some (.ref (cs i))
  er : ∀ i, i < 28 → ErrC P K (cs i)
  f1 : ∀ i, i < 22 → PySem.EX.Fn1 P K (cs i) (fi i) (fldE i)
  f0 : ∀ i, 22 ≤ i → i < 28 → PySem.EX.Fn0 P K (cs i) (fi i)
  kit : ∀ i j, i < 28 → j < 28 → PySem.W.kitOne K (.ref (cs i)) (.ref (cs j)) = some (decide (i = j))
  sb : ∀ i j, i < 28 → j < 28 → PySem.W.subIn K (.ref (cs i)) (.ref (cs j)) = some (decide (i = j))
  sw : ∀ i, i < 28 → PySem.W.subIn K (.ref (cs i)) (.ref W) = some true
  wB : PySem.W.subIn K (.ref W) (.type "BaseException") = some true
  wd : PySem.W.hasDictIn K W = true
  wt : PySem.W.typeIn K (.ref W) = some (.type "type")
  gw : mg "WebError" = some (.ref W)
  bn : ∀ x ∈ (["Exception", "ValueError", "TypeError", "LookupError", "ArithmeticError", "RuntimeError", "AttributeError"] : List Str), mg x = none
  kw : ∀ i, i < 28 → PySem.W.kitOne K (.ref (cs i)) (.ref W) = some true
  kx : ∀ i, i < 28 → PySem.W.kitOne K (.ref (cs i)) (.type "Exception") = some true
  kn : ∀ i, i < 28 → PySem.W.kitAny K (.ref (cs i)) [.type "ValueError", .type "TypeError", .type "LookupError", .type "ArithmeticError", .type "RuntimeError", .type "AttributeError"] = some false

/-- an error of the i-th class stands at a, its own dict at d -/
def ErrAt (cs : Nat → Addr) (H : Hp) (i : Nat) (a : Addr) : Prop := ∃ d, H a = some (ExV (cs i) d a) ∧ (d = none ∨ ∃ dd fs, d = some dd ∧ H dd = some (.xd fs))
/-- .. which carries v -/
def ErrV (cs : Nat → Addr) (H : Hp) (i : Nat) (a : Addr) (v : V) : Prop := ∃ d, H a = some (ExV (cs i) (some d) a) ∧ H d = some (.xd [(fldE i, v)])
theorem ErrV.at {cs : Nat → Addr} {H : Hp} {i : Nat} {a : Addr} {v : V} (h : ErrV cs H i a v) : ErrAt cs H i a := by
  obtain ⟨d, h1, h2⟩ := h
  exact ⟨some d, h1, .inr ⟨d, _, rfl, h2⟩⟩
theorem ErrV.same {cs : Nat → Addr} {H H' : Hp} {i : Nat} {a : Addr} {v : V} (h : ErrV cs H i a v) (s : Same H H') : ErrV cs H' i a v := by
  obtain ⟨d, h1, h2⟩ := h
  exact ⟨d, s _ _ h1, s _ _ h2⟩
theorem ErrAt.same {cs : Nat → Addr} {H H' : Hp} {i : Nat} {a : Addr} (h : ErrAt cs H i a) (s : Same H H') : ErrAt cs H' i a := by
  obtain ⟨d, h1, h2⟩ := h
  refine ⟨d, s _ _ h1, ?_⟩
  rcases h2 with h2 | ⟨dd, fs, e, h2⟩
  · exact .inl h2
  · exact .inr ⟨dd, fs, e, s _ _ h2⟩
theorem sm_new {H : Hp} {l : Addr} {o : HO} (h : H l = none) : Same H (upd H l o) := fun b u e => by rw [upd_ne (ne_of_none e h)]; exact e

/-- X0(it), X1(it), .. of the classes is -/
def tMks (cs : Nat → Addr) : List Nat → TA
  | [] => tNil
  | i :: r => tCons (tMk1 (cs i) (fldE i) (tCons (tVar 0) tNil)) (tMks cs r)
theorem mks_read {cs : Nat → Addr} {σ : St} {v : V} (hv : σ[0]? = some (some v)) : ∀ (is : List Nat) (H : Hp) (Q : List V → Hp → Prop),
    (∀ (as : List Addr) (H' : Hp), as.length = is.length → Same H H' → (∀ (j i : Nat) (a : Addr), is[j]? = some i → as[j]? = some a → ErrV cs H' i a v) → Q (as.map V.ref) H') → tMks cs is σ H Q
  | [], H, Q, h => h [] H rfl (Same.refl H) fun j i a z => by simp at z
  | i :: r, H, Q, h => by
    refine ⟨v, hv, v, rfl, fun a d ha hd dne => ?_⟩
    have ha' : (upd H d (.xd [(fldE i, v)])) a = none := by rw [upd_ne dne.symm]; exact ha
    have s1 : Same H (upd (upd H d (.xd [(fldE i, v)])) a (ExV (cs i) (some d) a)) := (sm_new hd).trans (sm_new ha')
    refine mks_read hv r _ _ fun as H' l s2 f => ?_
    refine h (a :: as) H' (by rw [List.length_cons, List.length_cons, l]) (s1.trans s2) fun j i' a' z1 z2 => ?_
    cases j with
    | zero =>
      cases z1
      cases z2
      exact ⟨d, s2 _ _ upd_same, s2 _ _ (by rw [upd_ne dne]; exact upd_same)⟩
    | succ j => exact f j i' a' (by simpa using z1) (by simpa using z2)
/-- X0(), X1(), .. -/
def tMk0s (cs : Nat → Addr) : List Nat → TA
  | [] => tNil
  | i :: r => tCons (tMk0 (cs i)) (tMk0s cs r)
theorem mk0s_read {cs : Nat → Addr} {σ : St} : ∀ (is : List Nat) (H : Hp) (Q : List V → Hp → Prop),
    (∀ (as : List Addr) (H' : Hp), as.length = is.length → Same H H' → (∀ (j i : Nat) (a : Addr), is[j]? = some i → as[j]? = some a → ErrAt cs H' i a) → Q (as.map V.ref) H') → tMk0s cs is σ H Q
  | [], H, Q, h => h [] H rfl (Same.refl H) fun j i a z => by simp at z
  | i :: r, H, Q, h => by
    intro a ha
    refine mk0s_read r _ _ fun as H' l s2 f => ?_
    refine h (a :: as) H' (by rw [List.length_cons, List.length_cons, l]) ((sm_new ha).trans s2) fun j i' a' z1 z2 => ?_
    cases j with
    | zero =>
      cases z1
      cases z2
      exact ⟨none, s2 _ _ upd_same, .inl rfl⟩
    | succ j => exact f j i' a' (by simpa using z1) (by simpa using z2)
/-- made[i].field, .. -/
def tFlds (P : Program) (K : PySem.W.Frag) : List Nat → TA
  | [] => tNil
  | i :: r => tCons (tFldE P K (fldE i) (tOp (rIxL K) (tVar 0) (tC (.int (i : Nat))))) (tFlds P K r)
theorem flds_read {P : Program} {K : PySem.W.Frag} {mg : Str → Option Value} {cs fi : Nat → Addr} {W : Addr} (T : Es P K mg cs fi W) {σ : St} {v : V} {l : Addr} {H : Hp} {as : List Addr} (hv : σ[0]? = some (some (.ref l))) (hl : H l = some (.lst (as.map V.ref))) (ln : as.length = 22)
    (f : ∀ (i : Nat) (a : Addr), as[i]? = some a → ErrV cs H i a v) : ∀ (is : List Nat) (Q : List V → Hp → Prop), (∀ i ∈ is, i < 22) → Q (List.replicate is.length v) H → tFlds P K is σ H Q
  | [], Q, _, h => h
  | i :: r, Q, hi, h => by
    have i1 : i < 22 := hi i (List.mem_cons_self ..)
    have i2 : i < as.length := by omega
    obtain ⟨d, h1, h2⟩ := f i _ (List.getElem?_eq_getElem i2)
    refine ⟨_, hv, l, _, _, .ref as[i], rfl, rfl, SqL.of hl, atI_nat (by rw [List.getElem?_map, List.getElem?_eq_getElem i2] <;> rfl), as[i], cs i, d, _, v, rfl, h1, h2, by simp [List.lookup], T.er i (by omega), (T.f1 i i1).no, ?_⟩
    exact flds_read T hv hl ln f r _ (fun j z => hi j (List.mem_cons_of_mem _ z)) h
/-- isinstance(err, X0), .. -/
def tIss (P : Program) (K : PySem.W.Frag) (cs : Nat → Addr) : List Nat → TA
  | [] => tNil
  | i :: r => tCons (tCB (rIsT P K) (tCons (tVar 0) (tCons (tC (.ref (cs i))) tNil))) (tIss P K cs r)
theorem iss_read {P : Program} {K : PySem.W.Frag} {mg : Str → Option Value} {cs fi : Nat → Addr} {W : Addr} (T : Es P K mg cs fi W) {σ : St} {a : Addr} {H : Hp} {n : Nat} (hn : n < 28) (hv : σ[0]? = some (some (.ref a))) (ha : ErrAt cs H n a) :
    ∀ (is : List Nat) (Q : List V → Hp → Prop), (∀ i ∈ is, i < 28) → Q (is.map fun j => V.bl (decide (n = j))) H → tIss P K cs is σ H Q
  | [], Q, _, h => h
  | i :: r, Q, hi, h => by
    have i1 : i < 28 := hi i (List.mem_cons_self ..)
    obtain ⟨d, h1, h2⟩ := ha
    exact ⟨_, hv, a, cs n, d, _, _, _, rfl, .own (cs i), h1, h2, T.er n hn, T.kit n i hn i1, iss_read T hn hv ⟨d, h1, h2⟩ r _ (fun j z => hi j (List.mem_cons_of_mem _ z)) h⟩

abbrev sPos : Stmt := top 35
abbrev sNam : Stmt := top 36
abbrev sCar : Stmt := top 37
abbrev sBare : Stmt := top 38
abbrev sKinds : Stmt := top 39
abbrev sOwn : Stmt := top 40
abbrev sCaught : Stmt := top 41
abbrev sLaw : Stmt := top 42

/-- twenty-two errors that carry the value -/
def spMany (cs : Nat → Addr) : Sp := fun vs H Q _ => ∃ v, vs = [v] ∧ ∀ (l : Addr) (as : List Addr) (H' : Hp), H' l = some (.lst (as.map V.ref)) → as.length = 22 → Same H H' → (∀ (i : Nat) (a : Addr), as[i]? = some a → ErrV cs H' i a v) → Q (.ref l) H'
def spBare (cs : Nat → Addr) : Sp := fun vs H Q _ => vs = [] ∧ ∀ (l : Addr) (as : List Addr) (H' : Hp), H' l = some (.lst (as.map V.ref)) → as.length = 6 → Same H H' → (∀ (i : Nat) (a : Addr), as[i]? = some a → ErrAt cs H' (22 + i) a) → Q (.ref l) H'
def spCar (cs : Nat → Addr) : Sp := fun vs H Q _ => ∃ (l : Addr) (as : List Addr) (v : V), vs = [.ref l] ∧ H l = some (.lst (as.map V.ref)) ∧ as.length = 22 ∧ (∀ (i : Nat) (a : Addr), as[i]? = some a → ErrV cs H i a v) ∧
  ∀ (r : Addr) (H' : Hp), H' r = some (.lst (List.replicate 22 v)) → Same H H' → Q (.ref r) H'
def spKinds (cs : Nat → Addr) : Sp := fun vs H Q _ => ∃ (a : Addr) (n : Nat), vs = [.ref a] ∧ n < 28 ∧ ErrAt cs H n a ∧ ∀ (r : Addr) (H' : Hp), H' r = some (.lst ((List.range 28).map fun j => V.bl (decide (n = j)))) → Same H H' → Q (.ref r) H'

/-- a row of items is the rows of its parts -/
theorem two_rows {is js : List Nat} {as bs : List Addr} {R : Nat → Addr → Prop} (l : as.length = is.length) (h1 : ∀ (j i : Nat) (a : Addr), is[j]? = some i → as[j]? = some a → R i a) (h2 : ∀ (j i : Nat) (a : Addr), js[j]? = some i → bs[j]? = some a → R i a) :
    ∀ (j i : Nat) (a : Addr), (is ++ js)[j]? = some i → (as ++ bs)[j]? = some a → R i a := fun j i a z1 z2 => by
  by_cases hj : j < is.length
  · rw [List.getElem?_append_left hj] at z1
    rw [List.getElem?_append_left (by omega)] at z2
    exact h1 j i a z1 z2
  · rw [List.getElem?_append_right (by omega)] at z1
    rw [List.getElem?_append_right (by omega), l] at z2
    exact h2 _ i a z1 z2

section
variable {P : Program} {w : World} {K : PySem.W.Frag} {mg : Str → Option Value} {base : Heap} {cs fi : Nat → Addr} {W : Addr}
theorem scPos : FnScope ["_law_it", "_law_found"] ["_law_it"] (defScope sPos) := ⟨rfl, rfl, rfl, by decide +kernel, rfl, by decide +kernel, by decide +kernel⟩
theorem scNam : FnScope ["_law_it", "_law_found"] ["_law_it"] (defScope sNam) := ⟨rfl, rfl, rfl, by decide +kernel, rfl, by decide +kernel, by decide +kernel⟩
/-- the reading that both have -/
theorem many_read {v : V} {H : Hp} {Q : VK} (h : ∀ (l : Addr) (as : List Addr) (H' : Hp), H' l = some (.lst (as.map V.ref)) → as.length = 22 → Same H H' → (∀ (i : Nat) (a : Addr), as[i]? = some a → ErrV cs H' i a v) → Q (.ref l) H') :
    tSeq (tAsg (tLst (tMks cs [0, 1, 2, 3, 4, 5, 6])) (gName 1)) (tSeq (tAsg (tOp rCat (tVar 1) (tLst (tMks cs [7, 8, 9, 10, 11, 12]))) (gName 1)) (tSeq (tAsg (tOp rCat (tVar 1) (tLst (tMks cs [13, 14, 15, 16, 17, 18]))) (gName 1))
      (tRet (tOp rCat (tVar 1) (tLst (tMks cs [19, 20, 21])))))) { nx := fun _ H' => Q .non H', rt := Q } [some v, none] H := by
  have sz : ∀ {n m : Nat}, n + m ≤ 100 → n + m ≤ sizeLine := fun h => by rw [sizeLine_eq]; omega
  refine mks_read rfl _ _ _ fun a0 H0 l0 s0 f0 => ⟨by rw [List.length_map, l0, sizeLine_eq]; decide, fun p0 n0 => ?_⟩
  refine ⟨_, rfl, mks_read rfl _ _ _ fun a1 H1 l1 s1 f1 => ⟨by rw [List.length_map, l1, sizeLine_eq]; decide, fun p1 n1 => ?_⟩⟩
  have e0 : H1 p0 = some (.lst (a0.map V.ref)) := s1 _ _ upd_same
  refine ⟨p0, p1, _, _, rfl, rfl, by rw [upd_ne (ne_of_none e0 n1)]; exact e0, upd_same, by rw [List.length_map, List.length_map, l0, l1]; exact sz (by decide), fun q0 m0 => ?_⟩
  refine ⟨_, rfl, mks_read rfl _ _ _ fun a2 H2 l2 s2 f2 => ⟨by rw [List.length_map, l2, sizeLine_eq]; decide, fun p2 n2 => ?_⟩⟩
  have e1 : H2 q0 = some (.lst (a0.map V.ref ++ a1.map V.ref)) := s2 _ _ upd_same
  refine ⟨q0, p2, _, _, rfl, rfl, by rw [upd_ne (ne_of_none e1 n2)]; exact e1, upd_same, by rw [List.length_append, List.length_map, List.length_map, List.length_map, l0, l1, l2]; exact sz (by decide), fun q1 m1 => ?_⟩
  refine ⟨_, rfl, mks_read rfl _ _ _ fun a3 H3 l3 s3 f3 => ⟨by rw [List.length_map, l3, sizeLine_eq]; decide, fun p3 n3 => ?_⟩⟩
  have e2 : H3 q1 = some (.lst (a0.map V.ref ++ a1.map V.ref ++ a2.map V.ref)) := s3 _ _ upd_same
  refine ⟨q1, p3, _, _, rfl, rfl, by rw [upd_ne (ne_of_none e2 n3)]; exact e2, upd_same, by rw [List.length_append, List.length_append, List.length_map, List.length_map, List.length_map, List.length_map, l0, l1, l2, l3]; exact sz (by decide), fun q2 m2 => ?_⟩
  have t3 : Same H3 (upd (upd H3 p3 (.lst (a3.map V.ref))) q2 (.lst (a0.map V.ref ++ a1.map V.ref ++ a2.map V.ref ++ a3.map V.ref))) := (sm_new n3).trans (sm_new m2)
  have t2 := (((sm_new (o := .lst (a2.map V.ref)) n2).trans (sm_new m1)).trans s3).trans t3
  have t1 := (((sm_new (o := .lst (a1.map V.ref)) n1).trans (sm_new m0)).trans s2).trans t2
  have t0 := ((sm_new (o := .lst (a0.map V.ref)) n0).trans s1).trans t1
  refine h q2 (a0 ++ a1 ++ a2 ++ a3) _ (by rw [upd_same, List.map_append, List.map_append, List.map_append]) (by rw [List.length_append, List.length_append, List.length_append, l0, l1, l2, l3] <;> rfl) (s0.trans t0) fun i a z => ?_
  have i22 : i < 22 := by
    have := (List.getElem?_eq_some_iff.mp z).1
    rw [List.length_append, List.length_append, List.length_append, l0, l1, l2, l3] at this
    exact this
  have rows := two_rows (R := fun i a => ErrV cs (upd (upd H3 p3 (.lst (a3.map V.ref))) q2 (.lst (a0.map V.ref ++ a1.map V.ref ++ a2.map V.ref ++ a3.map V.ref))) i a v) (is := [0, 1, 2, 3, 4, 5, 6] ++ [7, 8, 9, 10, 11, 12] ++ [13, 14, 15, 16, 17, 18]) (js := [19, 20, 21]) (as := a0 ++ a1 ++ a2) (bs := a3)
    (by rw [List.length_append, List.length_append, l0, l1, l2] <;> rfl)
    (two_rows (by rw [List.length_append, l0, l1] <;> rfl) (two_rows l0 (fun j i a z1 z2 => (f0 j i a z1 z2).same t0) fun j i a z1 z2 => (f1 j i a z1 z2).same t1) fun j i a z1 z2 => (f2 j i a z1 z2).same t2)
    fun j i a z1 z2 => (f3 j i a z1 z2).same t3
  refine rows i i a ?_ z
  have all : ∀ i, i < 22 → ([0, 1, 2, 3, 4, 5, 6] ++ [7, 8, 9, 10, 11, 12] ++ [13, 14, 15, 16, 17, 18] ++ [19, 20, 21] : List Nat)[i]? = some i := by decide
  exact all i i22
end
end K0

set_option Elab.async false
set_option linter.all false
set_option maxRecDepth 100000
set_option maxHeartbeats 4000000
/-! The defs of the lists of errors keep their promises. -/
namespace K0
open PySem PySem.Spec L2
open PyProof.Rows hiding St
section
variable {P : Program} {w : World} {K : PySem.W.Frag} {mg : Str → Option Value} {base : Heap} {cs fi : Nat → Addr} {W : Addr}

theorem ok_pos {f : Addr} {fd : FuncData} (F : Fun K "_law_by_position" "_law_by_position" sPos f fd) (T : Es P K mg cs fi W) : FnOk P w K mg base CX0 1 f fd ["_law_it"] (spMany cs) := by
  refine F.ok scPos (fun vs H Q E h => ?_) (fun cdv A outer s H vs Q E hr h => ?_)
  · obtain ⟨v, rfl, _⟩ := h
    rfl
  · obtain ⟨v, rfl, k⟩ := h
    refine ⟨_, pss_cons (ps_set (i := 1) scPos.nd rfl (.inl rfl) (pe_lst (pa_cons (pe_mk1 (T.er 0 (by decide)) (T.f1 0 (by decide)) (fld_in 0 (by decide)) T.sup hr (T.g 0 (by decide)) (pa_cons (pv 0) pa_nil))
        (pa_cons (pe_mk1 (T.er 1 (by decide)) (T.f1 1 (by decide)) (fld_in 1 (by decide)) T.sup hr (T.g 1 (by decide)) (pa_cons (pv 0) pa_nil))
        (pa_cons (pe_mk1 (T.er 2 (by decide)) (T.f1 2 (by decide)) (fld_in 2 (by decide)) T.sup hr (T.g 2 (by decide)) (pa_cons (pv 0) pa_nil))
        (pa_cons (pe_mk1 (T.er 3 (by decide)) (T.f1 3 (by decide)) (fld_in 3 (by decide)) T.sup hr (T.g 3 (by decide)) (pa_cons (pv 0) pa_nil))
        (pa_cons (pe_mk1 (T.er 4 (by decide)) (T.f1 4 (by decide)) (fld_in 4 (by decide)) T.sup hr (T.g 4 (by decide)) (pa_cons (pv 0) pa_nil))
        (pa_cons (pe_mk1 (T.er 5 (by decide)) (T.f1 5 (by decide)) (fld_in 5 (by decide)) T.sup hr (T.g 5 (by decide)) (pa_cons (pv 0) pa_nil))
        (pa_cons (pe_mk1 (T.er 6 (by decide)) (T.f1 6 (by decide)) (fld_in 6 (by decide)) T.sup hr (T.g 6 (by decide)) (pa_cons (pv 0) pa_nil))
        pa_nil)))))))))
      <| pss_cons (ps_set (i := 1) scPos.nd rfl (.inl rfl) (pe_op op_cat (pv 1) (pe_lst (pa_cons (pe_mk1 (T.er 7 (by decide)) (T.f1 7 (by decide)) (fld_in 7 (by decide)) T.sup hr (T.g 7 (by decide)) (pa_cons (pv 0) pa_nil))
        (pa_cons (pe_mk1 (T.er 8 (by decide)) (T.f1 8 (by decide)) (fld_in 8 (by decide)) T.sup hr (T.g 8 (by decide)) (pa_cons (pv 0) pa_nil))
        (pa_cons (pe_mk1 (T.er 9 (by decide)) (T.f1 9 (by decide)) (fld_in 9 (by decide)) T.sup hr (T.g 9 (by decide)) (pa_cons (pv 0) pa_nil))
        (pa_cons (pe_mk1 (T.er 10 (by decide)) (T.f1 10 (by decide)) (fld_in 10 (by decide)) T.sup hr (T.g 10 (by decide)) (pa_cons (pv 0) pa_nil))
        (pa_cons (pe_mk1 (T.er 11 (by decide)) (T.f1 11 (by decide)) (fld_in 11 (by decide)) T.sup hr (T.g 11 (by decide)) (pa_cons (pv 0) pa_nil))
        (pa_cons (pe_mk1 (T.er 12 (by decide)) (T.f1 12 (by decide)) (fld_in 12 (by decide)) T.sup hr (T.g 12 (by decide)) (pa_cons (pv 0) pa_nil))
        pa_nil)))))))))
      <| pss_cons (ps_set (i := 1) scPos.nd rfl (.inl rfl) (pe_op op_cat (pv 1) (pe_lst (pa_cons (pe_mk1 (T.er 13 (by decide)) (T.f1 13 (by decide)) (fld_in 13 (by decide)) T.sup hr (T.g 13 (by decide)) (pa_cons (pv 0) pa_nil))
        (pa_cons (pe_mk1 (T.er 14 (by decide)) (T.f1 14 (by decide)) (fld_in 14 (by decide)) T.sup hr (T.g 14 (by decide)) (pa_cons (pv 0) pa_nil))
        (pa_cons (pe_mk1 (T.er 15 (by decide)) (T.f1 15 (by decide)) (fld_in 15 (by decide)) T.sup hr (T.g 15 (by decide)) (pa_cons (pv 0) pa_nil))
        (pa_cons (pe_mk1 (T.er 16 (by decide)) (T.f1 16 (by decide)) (fld_in 16 (by decide)) T.sup hr (T.g 16 (by decide)) (pa_cons (pv 0) pa_nil))
        (pa_cons (pe_mk1 (T.er 17 (by decide)) (T.f1 17 (by decide)) (fld_in 17 (by decide)) T.sup hr (T.g 17 (by decide)) (pa_cons (pv 0) pa_nil))
        (pa_cons (pe_mk1 (T.er 18 (by decide)) (T.f1 18 (by decide)) (fld_in 18 (by decide)) T.sup hr (T.g 18 (by decide)) (pa_cons (pv 0) pa_nil))
        pa_nil)))))))))
      <| pss_one (ps_ret (pe_op op_cat (pv 1) (pe_lst (pa_cons (pe_mk1 (T.er 19 (by decide)) (T.f1 19 (by decide)) (fld_in 19 (by decide)) T.sup hr (T.g 19 (by decide)) (pa_cons (pv 0) pa_nil))
        (pa_cons (pe_mk1 (T.er 20 (by decide)) (T.f1 20 (by decide)) (fld_in 20 (by decide)) T.sup hr (T.g 20 (by decide)) (pa_cons (pv 0) pa_nil))
        (pa_cons (pe_mk1 (T.er 21 (by decide)) (T.f1 21 (by decide)) (fld_in 21 (by decide)) T.sup hr (T.g 21 (by decide)) (pa_cons (pv 0) pa_nil))
        pa_nil)))))), ?_⟩
    exact many_read k

theorem nam_read {v : V} {H : Hp} {Q : VK} (h : ∀ (l : Addr) (as : List Addr) (H' : Hp), H' l = some (.lst (as.map V.ref)) → as.length = 22 → Same H H' → (∀ (i : Nat) (a : Addr), as[i]? = some a → ErrV cs H' i a v) → Q (.ref l) H') :
    (tSeq (tAsg (tLst (tMks cs [0, 1, 2, 3, 4])) (gName 1)) (tSeq (tAsg (tOp rCat (tVar 1) (tLst (tMks cs [5, 6, 7, 8]))) (gName 1)) (tSeq (tAsg (tOp rCat (tVar 1) (tLst (tMks cs [9, 10, 11, 12]))) (gName 1)) (tSeq (tAsg (tOp rCat (tVar 1) (tLst (tMks cs [13, 14, 15, 16]))) (gName 1)) (tSeq (tAsg (tOp rCat (tVar 1) (tLst (tMks cs [17, 18, 19, 20]))) (gName 1)) (tRet (tOp rCat (tVar 1) (tLst (tMks cs [21]))))))))) { nx := fun _ H' => Q .non H', rt := Q } [some v, none] H := by
  have sz : ∀ {n : Nat}, n ≤ 100 → n ≤ sizeLine := fun h => by rw [sizeLine_eq]; omega
  refine mks_read rfl _ _ _ fun a0 H0 l0 s0 f0 => ⟨by rw [List.length_map, l0]; exact sz (by decide), fun p0 n0 => ?_⟩
  refine ⟨_, rfl, mks_read rfl _ _ _ fun a1 H1 l1 s1 f1 => ⟨by rw [List.length_map, l1]; exact sz (by decide), fun p1 n1 => ?_⟩⟩
  have e1 : H1 p0 = some (.lst (a0.map V.ref)) := s1 _ _ upd_same
  refine ⟨p0, p1, _, _, rfl, rfl, by rw [upd_ne (ne_of_none e1 n1)]; exact e1, upd_same, sz (by simp [l0, l1]), fun q1 m1 => ?_⟩
  refine ⟨_, rfl, mks_read rfl _ _ _ fun a2 H2 l2 s2 f2 => ⟨by rw [List.length_map, l2]; exact sz (by decide), fun p2 n2 => ?_⟩⟩
  have e2 : H2 q1 = some (.lst (a0.map V.ref ++ a1.map V.ref)) := s2 _ _ upd_same
  refine ⟨q1, p2, _, _, rfl, rfl, by rw [upd_ne (ne_of_none e2 n2)]; exact e2, upd_same, sz (by simp [l0, l1, l2]), fun q2 m2 => ?_⟩
  refine ⟨_, rfl, mks_read rfl _ _ _ fun a3 H3 l3 s3 f3 => ⟨by rw [List.length_map, l3]; exact sz (by decide), fun p3 n3 => ?_⟩⟩
  have e3 : H3 q2 = some (.lst (a0.map V.ref ++ a1.map V.ref ++ a2.map V.ref)) := s3 _ _ upd_same
  refine ⟨q2, p3, _, _, rfl, rfl, by rw [upd_ne (ne_of_none e3 n3)]; exact e3, upd_same, sz (by simp [l0, l1, l2, l3]), fun q3 m3 => ?_⟩
  refine ⟨_, rfl, mks_read rfl _ _ _ fun a4 H4 l4 s4 f4 => ⟨by rw [List.length_map, l4]; exact sz (by decide), fun p4 n4 => ?_⟩⟩
  have e4 : H4 q3 = some (.lst (a0.map V.ref ++ a1.map V.ref ++ a2.map V.ref ++ a3.map V.ref)) := s4 _ _ upd_same
  refine ⟨q3, p4, _, _, rfl, rfl, by rw [upd_ne (ne_of_none e4 n4)]; exact e4, upd_same, sz (by simp [l0, l1, l2, l3, l4]), fun q4 m4 => ?_⟩
  refine ⟨_, rfl, mks_read rfl _ _ _ fun a5 H5 l5 s5 f5 => ⟨by rw [List.length_map, l5]; exact sz (by decide), fun p5 n5 => ?_⟩⟩
  have e5 : H5 q4 = some (.lst (a0.map V.ref ++ a1.map V.ref ++ a2.map V.ref ++ a3.map V.ref ++ a4.map V.ref)) := s5 _ _ upd_same
  refine ⟨q4, p5, _, _, rfl, rfl, by rw [upd_ne (ne_of_none e5 n5)]; exact e5, upd_same, sz (by simp [l0, l1, l2, l3, l4, l5]), fun q5 m5 => ?_⟩
  generalize hF : (upd (upd H5 p5 (.lst (a5.map V.ref))) q5 (.lst (a0.map V.ref ++ a1.map V.ref ++ a2.map V.ref ++ a3.map V.ref ++ a4.map V.ref ++ a5.map V.ref))) = F'
  have t5 : Same H5 F' := by rw [← hF]; exact (sm_new n5).trans (sm_new m5)
  have t4 := (((sm_new (o := .lst (a4.map V.ref)) n4).trans (sm_new m4)).trans s5).trans t5
  have t3 := (((sm_new (o := .lst (a3.map V.ref)) n3).trans (sm_new m3)).trans s4).trans t4
  have t2 := (((sm_new (o := .lst (a2.map V.ref)) n2).trans (sm_new m2)).trans s3).trans t3
  have t1 := (((sm_new (o := .lst (a1.map V.ref)) n1).trans (sm_new m1)).trans s2).trans t2
  have t0 := ((sm_new (o := .lst (a0.map V.ref)) n0).trans s1).trans t1
  have eF : F' q5 = some (.lst ((a0 ++ a1 ++ a2 ++ a3 ++ a4 ++ a5).map V.ref)) := by rw [← hF, upd_same]; simp
  refine h q5 (a0 ++ a1 ++ a2 ++ a3 ++ a4 ++ a5) F' eF (by simp [l0, l1, l2, l3, l4, l5]) (s0.trans t0) fun i a z => ?_
  have i22 : i < 22 := by
    have := (List.getElem?_eq_some_iff.mp z).1
    simp [l0, l1, l2, l3, l4, l5] at this
    exact this
  have r1 := two_rows (R := fun i a => ErrV cs F' i a v) (is := ([0, 1, 2, 3, 4] : List Nat)) (js := [5, 6, 7, 8]) (as := a0) (bs := a1) (by simp [l0]) (fun j i a z1 z2 => (f0 j i a z1 z2).same t0) (fun j i a z1 z2 => (f1 j i a z1 z2).same t1)
  have r2 := two_rows (R := fun i a => ErrV cs F' i a v) (is := ([0, 1, 2, 3, 4] : List Nat) ++ ([5, 6, 7, 8] : List Nat)) (js := [9, 10, 11, 12]) (as := a0 ++ a1) (bs := a2) (by simp [l0, l1]) r1 (fun j i a z1 z2 => (f2 j i a z1 z2).same t2)
  have r3 := two_rows (R := fun i a => ErrV cs F' i a v) (is := ([0, 1, 2, 3, 4] : List Nat) ++ ([5, 6, 7, 8] : List Nat) ++ ([9, 10, 11, 12] : List Nat)) (js := [13, 14, 15, 16]) (as := a0 ++ a1 ++ a2) (bs := a3) (by simp [l0, l1, l2]) r2 (fun j i a z1 z2 => (f3 j i a z1 z2).same t3)
  have r4 := two_rows (R := fun i a => ErrV cs F' i a v) (is := ([0, 1, 2, 3, 4] : List Nat) ++ ([5, 6, 7, 8] : List Nat) ++ ([9, 10, 11, 12] : List Nat) ++ ([13, 14, 15, 16] : List Nat)) (js := [17, 18, 19, 20]) (as := a0 ++ a1 ++ a2 ++ a3) (bs := a4) (by simp [l0, l1, l2, l3]) r3 (fun j i a z1 z2 => (f4 j i a z1 z2).same t4)
  have r5 := two_rows (R := fun i a => ErrV cs F' i a v) (is := ([0, 1, 2, 3, 4] : List Nat) ++ ([5, 6, 7, 8] : List Nat) ++ ([9, 10, 11, 12] : List Nat) ++ ([13, 14, 15, 16] : List Nat) ++ ([17, 18, 19, 20] : List Nat)) (js := [21]) (as := a0 ++ a1 ++ a2 ++ a3 ++ a4) (bs := a5) (by simp [l0, l1, l2, l3, l4]) r4 (fun j i a z1 z2 => (f5 j i a z1 z2).same t5)
  have all : ∀ i, i < 22 → ([0, 1, 2, 3, 4] ++ [5, 6, 7, 8] ++ [9, 10, 11, 12] ++ [13, 14, 15, 16] ++ [17, 18, 19, 20] ++ [21] : List Nat)[i]? = some i := by decide
  exact r5 i i a (all i i22) z
theorem ok_nam {f : Addr} {fd : FuncData} (F : Fun K "_law_by_name" "_law_by_name" sNam f fd) (T : Es P K mg cs fi W) : FnOk P w K mg base CX0 1 f fd ["_law_it"] (spMany cs) := by
  refine F.ok scNam (fun vs H Q E h => ?_) (fun cdv A outer s H vs Q E hr h => ?_)
  · obtain ⟨v, rfl, _⟩ := h
    rfl
  · obtain ⟨v, rfl, k⟩ := h
    refine ⟨_, pss_cons (ps_set (i := 1) scNam.nd rfl (.inl rfl) (pe_lst (pa_cons (pe_mkK (T.er 0 (by decide)) (T.f1 0 (by decide)) (fld_in 0 (by decide)) T.sup hr (T.g 0 (by decide)) (pk_cons (pv 0) pk_nil))
        (pa_cons (pe_mkK (T.er 1 (by decide)) (T.f1 1 (by decide)) (fld_in 1 (by decide)) T.sup hr (T.g 1 (by decide)) (pk_cons (pv 0) pk_nil))
        (pa_cons (pe_mkK (T.er 2 (by decide)) (T.f1 2 (by decide)) (fld_in 2 (by decide)) T.sup hr (T.g 2 (by decide)) (pk_cons (pv 0) pk_nil))
        (pa_cons (pe_mkK (T.er 3 (by decide)) (T.f1 3 (by decide)) (fld_in 3 (by decide)) T.sup hr (T.g 3 (by decide)) (pk_cons (pv 0) pk_nil))
        (pa_cons (pe_mkK (T.er 4 (by decide)) (T.f1 4 (by decide)) (fld_in 4 (by decide)) T.sup hr (T.g 4 (by decide)) (pk_cons (pv 0) pk_nil))
        pa_nil)))))))
      <| pss_cons (ps_set (i := 1) scNam.nd rfl (.inl rfl) (pe_op op_cat (pv 1) (pe_lst (pa_cons (pe_mkK (T.er 5 (by decide)) (T.f1 5 (by decide)) (fld_in 5 (by decide)) T.sup hr (T.g 5 (by decide)) (pk_cons (pv 0) pk_nil))
        (pa_cons (pe_mkK (T.er 6 (by decide)) (T.f1 6 (by decide)) (fld_in 6 (by decide)) T.sup hr (T.g 6 (by decide)) (pk_cons (pv 0) pk_nil))
        (pa_cons (pe_mkK (T.er 7 (by decide)) (T.f1 7 (by decide)) (fld_in 7 (by decide)) T.sup hr (T.g 7 (by decide)) (pk_cons (pv 0) pk_nil))
        (pa_cons (pe_mkK (T.er 8 (by decide)) (T.f1 8 (by decide)) (fld_in 8 (by decide)) T.sup hr (T.g 8 (by decide)) (pk_cons (pv 0) pk_nil))
        pa_nil)))))))
      <| pss_cons (ps_set (i := 1) scNam.nd rfl (.inl rfl) (pe_op op_cat (pv 1) (pe_lst (pa_cons (pe_mkK (T.er 9 (by decide)) (T.f1 9 (by decide)) (fld_in 9 (by decide)) T.sup hr (T.g 9 (by decide)) (pk_cons (pv 0) pk_nil))
        (pa_cons (pe_mkK (T.er 10 (by decide)) (T.f1 10 (by decide)) (fld_in 10 (by decide)) T.sup hr (T.g 10 (by decide)) (pk_cons (pv 0) pk_nil))
        (pa_cons (pe_mkK (T.er 11 (by decide)) (T.f1 11 (by decide)) (fld_in 11 (by decide)) T.sup hr (T.g 11 (by decide)) (pk_cons (pv 0) pk_nil))
        (pa_cons (pe_mkK (T.er 12 (by decide)) (T.f1 12 (by decide)) (fld_in 12 (by decide)) T.sup hr (T.g 12 (by decide)) (pk_cons (pv 0) pk_nil))
        pa_nil)))))))
      <| pss_cons (ps_set (i := 1) scNam.nd rfl (.inl rfl) (pe_op op_cat (pv 1) (pe_lst (pa_cons (pe_mkK (T.er 13 (by decide)) (T.f1 13 (by decide)) (fld_in 13 (by decide)) T.sup hr (T.g 13 (by decide)) (pk_cons (pv 0) pk_nil))
        (pa_cons (pe_mkK (T.er 14 (by decide)) (T.f1 14 (by decide)) (fld_in 14 (by decide)) T.sup hr (T.g 14 (by decide)) (pk_cons (pv 0) pk_nil))
        (pa_cons (pe_mkK (T.er 15 (by decide)) (T.f1 15 (by decide)) (fld_in 15 (by decide)) T.sup hr (T.g 15 (by decide)) (pk_cons (pv 0) pk_nil))
        (pa_cons (pe_mkK (T.er 16 (by decide)) (T.f1 16 (by decide)) (fld_in 16 (by decide)) T.sup hr (T.g 16 (by decide)) (pk_cons (pv 0) pk_nil))
        pa_nil)))))))
      <| pss_cons (ps_set (i := 1) scNam.nd rfl (.inl rfl) (pe_op op_cat (pv 1) (pe_lst (pa_cons (pe_mkK (T.er 17 (by decide)) (T.f1 17 (by decide)) (fld_in 17 (by decide)) T.sup hr (T.g 17 (by decide)) (pk_cons (pv 0) pk_nil))
        (pa_cons (pe_mkK (T.er 18 (by decide)) (T.f1 18 (by decide)) (fld_in 18 (by decide)) T.sup hr (T.g 18 (by decide)) (pk_cons (pv 0) pk_nil))
        (pa_cons (pe_mkK (T.er 19 (by decide)) (T.f1 19 (by decide)) (fld_in 19 (by decide)) T.sup hr (T.g 19 (by decide)) (pk_cons (pv 0) pk_nil))
        (pa_cons (pe_mkK (T.er 20 (by decide)) (T.f1 20 (by decide)) (fld_in 20 (by decide)) T.sup hr (T.g 20 (by decide)) (pk_cons (pv 0) pk_nil))
        pa_nil)))))))
      <| pss_one (ps_ret (pe_op op_cat (pv 1) (pe_lst (pa_cons (pe_mkK (T.er 21 (by decide)) (T.f1 21 (by decide)) (fld_in 21 (by decide)) T.sup hr (T.g 21 (by decide)) (pk_cons (pv 0) pk_nil))
        pa_nil)))), ?_⟩
    exact nam_read k

theorem scCar : FnScope ["_law_made", "_law_found"] ["_law_made"] (defScope sCar) := ⟨rfl, rfl, rfl, by decide +kernel, rfl, by decide +kernel, by decide +kernel⟩
theorem car_read (T : Es P K mg cs fi W) {l : Addr} {as : List Addr} {v : V} {H : Hp} {Q : VK} (hl : H l = some (.lst (as.map V.ref))) (ln : as.length = 22) (f : ∀ (i : Nat) (a : Addr), as[i]? = some a → ErrV cs H i a v)
    (h : ∀ (r : Addr) (H' : Hp), H' r = some (.lst (List.replicate 22 v)) → Same H H' → Q (.ref r) H') :
    tSeq (tAsg (tLst (tFlds P K [0, 1, 2, 3, 4, 5, 6])) (gName 1)) (tSeq (tAsg (tOp rCat (tVar 1) (tLst (tFlds P K [7, 8, 9, 10, 11, 12]))) (gName 1)) (tSeq (tAsg (tOp rCat (tVar 1) (tLst (tFlds P K [13, 14, 15, 16, 17]))) (gName 1))
      (tRet (tOp rCat (tVar 1) (tLst (tFlds P K [18, 19, 20, 21])))))) { nx := fun _ H' => Q .non H', rt := Q } [some (.ref l), none] H := by
  have st : ∀ {H H' : Hp}, (∀ (i : Nat) (a : Addr), as[i]? = some a → ErrV cs H i a v) → Same H H' → ∀ (i : Nat) (a : Addr), as[i]? = some a → ErrV cs H' i a v := fun f s i a z => (f i a z).same s
  have sz : ∀ {n : Nat}, n ≤ 100 → n ≤ sizeLine := fun h => by rw [sizeLine_eq]; omega
  refine flds_read T rfl hl ln f _ _ (by decide) ⟨sz (by simp), fun p0 n0 => ?_⟩
  have s0 : Same H (upd H p0 (.lst (List.replicate 7 v))) := sm_new n0
  refine ⟨_, rfl, flds_read T rfl (s0 _ _ hl) ln (st f s0) _ _ (by decide) ⟨sz (by simp), fun p1 n1 => ?_⟩⟩
  have e0 : (upd H p0 (.lst (List.replicate 7 v))) p0 = some (.lst (List.replicate 7 v)) := upd_same
  refine ⟨p0, p1, _, _, rfl, rfl, by rw [upd_ne (ne_of_none e0 n1)]; exact e0, upd_same, sz (by simp), fun q0 m0 => ?_⟩
  have s1 := (s0.trans (sm_new (o := .lst (List.replicate 6 v)) n1)).trans (sm_new (o := .lst (List.replicate 7 v ++ List.replicate 6 v)) m0)
  refine ⟨_, rfl, flds_read T rfl (s1 _ _ hl) ln (st f s1) _ _ (by decide) ⟨sz (by simp), fun p2 n2 => ?_⟩⟩
  refine ⟨q0, p2, _, _, rfl, rfl, by rw [upd_ne (ne_of_none upd_same n2)]; exact upd_same, upd_same, sz (by simp), fun q1 m1 => ?_⟩
  have s2 := (s1.trans (sm_new (o := .lst (List.replicate 5 v)) n2)).trans (sm_new (o := .lst (List.replicate 7 v ++ List.replicate 6 v ++ List.replicate 5 v)) m1)
  refine ⟨_, rfl, flds_read T rfl (s2 _ _ hl) ln (st f s2) _ _ (by decide) ⟨sz (by simp), fun p3 n3 => ?_⟩⟩
  refine ⟨q1, p3, _, _, rfl, rfl, by rw [upd_ne (ne_of_none upd_same n3)]; exact upd_same, upd_same, sz (by simp), fun q2 m2 => ?_⟩
  have s3 := (s2.trans (sm_new (o := .lst (List.replicate 4 v)) n3)).trans (sm_new (o := .lst (List.replicate 7 v ++ List.replicate 6 v ++ List.replicate 5 v ++ List.replicate 4 v)) m2)
  exact h q2 _ (by rw [upd_same] <;> rfl) s3
theorem ok_car {f : Addr} {fd : FuncData} (F : Fun K "_law_carried" "_law_carried" sCar f fd) (T : Es P K mg cs fi W) : FnOk P w K mg base CX0 1 f fd ["_law_made"] (spCar cs) := by
  refine F.ok scCar (fun vs H Q E h => ?_) (fun cdv A outer s H vs Q E hr h => ?_)
  · obtain ⟨l, as, v, rfl, _⟩ := h
    rfl
  · obtain ⟨l, as, v, rfl, hl, ln, f, k⟩ := h
    refine ⟨_, pss_cons (ps_set (i := 1) scCar.nd rfl (.inl rfl) (pe_lst (pa_cons (pe_fldE (pe_ix ix_list (pv 0) pe_int (fun _ _ => rfl)))
        (pa_cons (pe_fldE (pe_ix ix_list (pv 0) pe_int (fun _ _ => rfl)))
        (pa_cons (pe_fldE (pe_ix ix_list (pv 0) pe_int (fun _ _ => rfl)))
        (pa_cons (pe_fldE (pe_ix ix_list (pv 0) pe_int (fun _ _ => rfl)))
        (pa_cons (pe_fldE (pe_ix ix_list (pv 0) pe_int (fun _ _ => rfl)))
        (pa_cons (pe_fldE (pe_ix ix_list (pv 0) pe_int (fun _ _ => rfl)))
        (pa_cons (pe_fldE (pe_ix ix_list (pv 0) pe_int (fun _ _ => rfl)))
        pa_nil)))))))))
      <| pss_cons (ps_set (i := 1) scCar.nd rfl (.inl rfl) (pe_op op_cat (pv 1) (pe_lst (pa_cons (pe_fldE (pe_ix ix_list (pv 0) pe_int (fun _ _ => rfl)))
        (pa_cons (pe_fldE (pe_ix ix_list (pv 0) pe_int (fun _ _ => rfl)))
        (pa_cons (pe_fldE (pe_ix ix_list (pv 0) pe_int (fun _ _ => rfl)))
        (pa_cons (pe_fldE (pe_ix ix_list (pv 0) pe_int (fun _ _ => rfl)))
        (pa_cons (pe_fldE (pe_ix ix_list (pv 0) pe_int (fun _ _ => rfl)))
        (pa_cons (pe_fldE (pe_ix ix_list (pv 0) pe_int (fun _ _ => rfl)))
        pa_nil)))))))))
      <| pss_cons (ps_set (i := 1) scCar.nd rfl (.inl rfl) (pe_op op_cat (pv 1) (pe_lst (pa_cons (pe_fldE (pe_ix ix_list (pv 0) pe_int (fun _ _ => rfl)))
        (pa_cons (pe_fldE (pe_ix ix_list (pv 0) pe_int (fun _ _ => rfl)))
        (pa_cons (pe_fldE (pe_ix ix_list (pv 0) pe_int (fun _ _ => rfl)))
        (pa_cons (pe_fldE (pe_ix ix_list (pv 0) pe_int (fun _ _ => rfl)))
        (pa_cons (pe_fldE (pe_ix ix_list (pv 0) pe_int (fun _ _ => rfl)))
        pa_nil))))))))
      <| pss_one (ps_ret (pe_op op_cat (pv 1) (pe_lst (pa_cons (pe_fldE (pe_ix ix_list (pv 0) pe_int (fun _ _ => rfl)))
        (pa_cons (pe_fldE (pe_ix ix_list (pv 0) pe_int (fun _ _ => rfl)))
        (pa_cons (pe_fldE (pe_ix ix_list (pv 0) pe_int (fun _ _ => rfl)))
        (pa_cons (pe_fldE (pe_ix ix_list (pv 0) pe_int (fun _ _ => rfl)))
        pa_nil))))))), ?_⟩
    exact car_read T hl ln f k

theorem scBare : FnScope [] [] (defScope sBare) := ⟨rfl, rfl, rfl, by decide +kernel, rfl, by decide +kernel, by decide +kernel⟩
theorem ok_bare {f : Addr} {fd : FuncData} (F : Fun K "_law_bare" "_law_bare" sBare f fd) (T : Es P K mg cs fi W) : FnOk P w K mg base CX0 1 f fd [] (spBare cs) := by
  refine F.ok scBare (fun vs H Q E h => ?_) (fun cdv A outer s H vs Q E hr h => ?_)
  · obtain ⟨rfl, _⟩ := h
    rfl
  · obtain ⟨rfl, k⟩ := h
    refine ⟨_, pss_one (ps_ret (pe_lst (pa_cons (pe_mk0 (T.er 22 (by decide)) (T.f0 22 (by decide) (by decide)) T.sup hr (T.g 22 (by decide)))
        (pa_cons (pe_mk0 (T.er 23 (by decide)) (T.f0 23 (by decide) (by decide)) T.sup hr (T.g 23 (by decide)))
        (pa_cons (pe_mk0 (T.er 24 (by decide)) (T.f0 24 (by decide) (by decide)) T.sup hr (T.g 24 (by decide)))
        (pa_cons (pe_mk0 (T.er 25 (by decide)) (T.f0 25 (by decide) (by decide)) T.sup hr (T.g 25 (by decide)))
        (pa_cons (pe_mk0 (T.er 26 (by decide)) (T.f0 26 (by decide) (by decide)) T.sup hr (T.g 26 (by decide)))
        (pa_cons (pe_mk0 (T.er 27 (by decide)) (T.f0 27 (by decide) (by decide)) T.sup hr (T.g 27 (by decide)))
        pa_nil)))))))), ?_⟩
    refine mk0s_read [22, 23, 24, 25, 26, 27] _ _ fun as H' l s f => ⟨by rw [List.length_map, l, sizeLine_eq]; decide, fun p n => ?_⟩
    refine k p as _ upd_same l (s.trans (sm_new n)) fun i a z => ?_
    have i6 : i < 6 := by
      have := (List.getElem?_eq_some_iff.mp z).1
      rw [l] at this
      exact this
    have all : ∀ i, i < 6 → ([22, 23, 24, 25, 26, 27] : List Nat)[i]? = some (22 + i) := by decide
    exact (f i (22 + i) a (all i i6) z).same (sm_new n)

theorem scKinds : FnScope ["_law_error", "_law_found"] ["_law_error"] (defScope sKinds) := ⟨rfl, rfl, rfl, by decide +kernel, rfl, by decide +kernel, by decide +kernel⟩
theorem kinds_read (T : Es P K mg cs fi W) {a : Addr} {n : Nat} {H : Hp} {Q : VK} (hn : n < 28) (ha : ErrAt cs H n a) (h : ∀ (r : Addr) (H' : Hp), H' r = some (.lst ((List.range 28).map fun j => V.bl (decide (n = j)))) → Same H H' → Q (.ref r) H') :
    (tSeq (tAsg (tLst (tIss P K cs [0, 1, 2])) (gName 1)) (tSeq (tAsg (tOp rCat (tVar 1) (tLst (tIss P K cs [3, 4, 5]))) (gName 1)) (tSeq (tAsg (tOp rCat (tVar 1) (tLst (tIss P K cs [6, 7, 8]))) (gName 1)) (tSeq (tAsg (tOp rCat (tVar 1) (tLst (tIss P K cs [9, 10, 11]))) (gName 1)) (tSeq (tAsg (tOp rCat (tVar 1) (tLst (tIss P K cs [12, 13, 14]))) (gName 1)) (tSeq (tAsg (tOp rCat (tVar 1) (tLst (tIss P K cs [15, 16, 17]))) (gName 1)) (tSeq (tAsg (tOp rCat (tVar 1) (tLst (tIss P K cs [18, 19, 20]))) (gName 1)) (tSeq (tAsg (tOp rCat (tVar 1) (tLst (tIss P K cs [21, 22, 23]))) (gName 1)) (tSeq (tAsg (tOp rCat (tVar 1) (tLst (tIss P K cs [24, 25, 26]))) (gName 1)) (tRet (tOp rCat (tVar 1) (tLst (tIss P K cs [27]))))))))))))) { nx := fun _ H' => Q .non H', rt := Q } [some (.ref a), none] H := by
  have sz : ∀ {n : Nat}, n ≤ 100 → n ≤ sizeLine := fun h => by rw [sizeLine_eq]; omega
  refine iss_read T hn rfl ha _ _ (by decide) ⟨sz (by simp), fun p0 n0 => ?_⟩
  have s0 : Same H _ := sm_new (o := .lst (([0, 1, 2] : List Nat).map fun j => V.bl (decide (n = j)))) n0
  refine ⟨_, rfl, iss_read T hn rfl (ha.same s0) _ _ (by decide) ⟨sz (by simp), fun p1 n1 => ?_⟩⟩
  refine ⟨p0, p1, ([0, 1, 2] : List Nat).map (fun j => V.bl (decide (n = j))), ([3, 4, 5] : List Nat).map (fun j => V.bl (decide (n = j))), rfl, rfl, by rw [upd_ne (ne_of_none upd_same n1)]; exact upd_same, upd_same, sz (by simp), fun q1 m1 => ?_⟩
  have s1 := (s0.trans (sm_new (o := .lst (([3, 4, 5] : List Nat).map (fun j => V.bl (decide (n = j))))) n1)).trans (sm_new (o := .lst (([0, 1, 2] : List Nat).map (fun j => V.bl (decide (n = j))) ++ ([3, 4, 5] : List Nat).map (fun j => V.bl (decide (n = j))))) m1)
  refine ⟨_, rfl, iss_read T hn rfl (ha.same s1) _ _ (by decide) ⟨sz (by simp), fun p2 n2 => ?_⟩⟩
  refine ⟨q1, p2, ([0, 1, 2] : List Nat).map (fun j => V.bl (decide (n = j))) ++ ([3, 4, 5] : List Nat).map (fun j => V.bl (decide (n = j))), ([6, 7, 8] : List Nat).map (fun j => V.bl (decide (n = j))), rfl, rfl, by rw [upd_ne (ne_of_none upd_same n2)]; exact upd_same, upd_same, sz (by simp), fun q2 m2 => ?_⟩
  have s2 := (s1.trans (sm_new (o := .lst (([6, 7, 8] : List Nat).map (fun j => V.bl (decide (n = j))))) n2)).trans (sm_new (o := .lst (([0, 1, 2] : List Nat).map (fun j => V.bl (decide (n = j))) ++ ([3, 4, 5] : List Nat).map (fun j => V.bl (decide (n = j))) ++ ([6, 7, 8] : List Nat).map (fun j => V.bl (decide (n = j))))) m2)
  refine ⟨_, rfl, iss_read T hn rfl (ha.same s2) _ _ (by decide) ⟨sz (by simp), fun p3 n3 => ?_⟩⟩
  refine ⟨q2, p3, ([0, 1, 2] : List Nat).map (fun j => V.bl (decide (n = j))) ++ ([3, 4, 5] : List Nat).map (fun j => V.bl (decide (n = j))) ++ ([6, 7, 8] : List Nat).map (fun j => V.bl (decide (n = j))), ([9, 10, 11] : List Nat).map (fun j => V.bl (decide (n = j))), rfl, rfl, by rw [upd_ne (ne_of_none upd_same n3)]; exact upd_same, upd_same, sz (by simp), fun q3 m3 => ?_⟩
  have s3 := (s2.trans (sm_new (o := .lst (([9, 10, 11] : List Nat).map (fun j => V.bl (decide (n = j))))) n3)).trans (sm_new (o := .lst (([0, 1, 2] : List Nat).map (fun j => V.bl (decide (n = j))) ++ ([3, 4, 5] : List Nat).map (fun j => V.bl (decide (n = j))) ++ ([6, 7, 8] : List Nat).map (fun j => V.bl (decide (n = j))) ++ ([9, 10, 11] : List Nat).map (fun j => V.bl (decide (n = j))))) m3)
  refine ⟨_, rfl, iss_read T hn rfl (ha.same s3) _ _ (by decide) ⟨sz (by simp), fun p4 n4 => ?_⟩⟩
  refine ⟨q3, p4, ([0, 1, 2] : List Nat).map (fun j => V.bl (decide (n = j))) ++ ([3, 4, 5] : List Nat).map (fun j => V.bl (decide (n = j))) ++ ([6, 7, 8] : List Nat).map (fun j => V.bl (decide (n = j))) ++ ([9, 10, 11] : List Nat).map (fun j => V.bl (decide (n = j))), ([12, 13, 14] : List Nat).map (fun j => V.bl (decide (n = j))), rfl, rfl, by rw [upd_ne (ne_of_none upd_same n4)]; exact upd_same, upd_same, sz (by simp), fun q4 m4 => ?_⟩
  have s4 := (s3.trans (sm_new (o := .lst (([12, 13, 14] : List Nat).map (fun j => V.bl (decide (n = j))))) n4)).trans (sm_new (o := .lst (([0, 1, 2] : List Nat).map (fun j => V.bl (decide (n = j))) ++ ([3, 4, 5] : List Nat).map (fun j => V.bl (decide (n = j))) ++ ([6, 7, 8] : List Nat).map (fun j => V.bl (decide (n = j))) ++ ([9, 10, 11] : List Nat).map (fun j => V.bl (decide (n = j))) ++ ([12, 13, 14] : List Nat).map (fun j => V.bl (decide (n = j))))) m4)
  refine ⟨_, rfl, iss_read T hn rfl (ha.same s4) _ _ (by decide) ⟨sz (by simp), fun p5 n5 => ?_⟩⟩
  refine ⟨q4, p5, ([0, 1, 2] : List Nat).map (fun j => V.bl (decide (n = j))) ++ ([3, 4, 5] : List Nat).map (fun j => V.bl (decide (n = j))) ++ ([6, 7, 8] : List Nat).map (fun j => V.bl (decide (n = j))) ++ ([9, 10, 11] : List Nat).map (fun j => V.bl (decide (n = j))) ++ ([12, 13, 14] : List Nat).map (fun j => V.bl (decide (n = j))), ([15, 16, 17] : List Nat).map (fun j => V.bl (decide (n = j))), rfl, rfl, by rw [upd_ne (ne_of_none upd_same n5)]; exact upd_same, upd_same, sz (by simp), fun q5 m5 => ?_⟩
  have s5 := (s4.trans (sm_new (o := .lst (([15, 16, 17] : List Nat).map (fun j => V.bl (decide (n = j))))) n5)).trans (sm_new (o := .lst (([0, 1, 2] : List Nat).map (fun j => V.bl (decide (n = j))) ++ ([3, 4, 5] : List Nat).map (fun j => V.bl (decide (n = j))) ++ ([6, 7, 8] : List Nat).map (fun j => V.bl (decide (n = j))) ++ ([9, 10, 11] : List Nat).map (fun j => V.bl (decide (n = j))) ++ ([12, 13, 14] : List Nat).map (fun j => V.bl (decide (n = j))) ++ ([15, 16, 17] : List Nat).map (fun j => V.bl (decide (n = j))))) m5)
  refine ⟨_, rfl, iss_read T hn rfl (ha.same s5) _ _ (by decide) ⟨sz (by simp), fun p6 n6 => ?_⟩⟩
  refine ⟨q5, p6, ([0, 1, 2] : List Nat).map (fun j => V.bl (decide (n = j))) ++ ([3, 4, 5] : List Nat).map (fun j => V.bl (decide (n = j))) ++ ([6, 7, 8] : List Nat).map (fun j => V.bl (decide (n = j))) ++ ([9, 10, 11] : List Nat).map (fun j => V.bl (decide (n = j))) ++ ([12, 13, 14] : List Nat).map (fun j => V.bl (decide (n = j))) ++ ([15, 16, 17] : List Nat).map (fun j => V.bl (decide (n = j))), ([18, 19, 20] : List Nat).map (fun j => V.bl (decide (n = j))), rfl, rfl, by rw [upd_ne (ne_of_none upd_same n6)]; exact upd_same, upd_same, sz (by simp), fun q6 m6 => ?_⟩
  have s6 := (s5.trans (sm_new (o := .lst (([18, 19, 20] : List Nat).map (fun j => V.bl (decide (n = j))))) n6)).trans (sm_new (o := .lst (([0, 1, 2] : List Nat).map (fun j => V.bl (decide (n = j))) ++ ([3, 4, 5] : List Nat).map (fun j => V.bl (decide (n = j))) ++ ([6, 7, 8] : List Nat).map (fun j => V.bl (decide (n = j))) ++ ([9, 10, 11] : List Nat).map (fun j => V.bl (decide (n = j))) ++ ([12, 13, 14] : List Nat).map (fun j => V.bl (decide (n = j))) ++ ([15, 16, 17] : List Nat).map (fun j => V.bl (decide (n = j))) ++ ([18, 19, 20] : List Nat).map (fun j => V.bl (decide (n = j))))) m6)
  refine ⟨_, rfl, iss_read T hn rfl (ha.same s6) _ _ (by decide) ⟨sz (by simp), fun p7 n7 => ?_⟩⟩
  refine ⟨q6, p7, ([0, 1, 2] : List Nat).map (fun j => V.bl (decide (n = j))) ++ ([3, 4, 5] : List Nat).map (fun j => V.bl (decide (n = j))) ++ ([6, 7, 8] : List Nat).map (fun j => V.bl (decide (n = j))) ++ ([9, 10, 11] : List Nat).map (fun j => V.bl (decide (n = j))) ++ ([12, 13, 14] : List Nat).map (fun j => V.bl (decide (n = j))) ++ ([15, 16, 17] : List Nat).map (fun j => V.bl (decide (n = j))) ++ ([18, 19, 20] : List Nat).map (fun j => V.bl (decide (n = j))), ([21, 22, 23] : List Nat).map (fun j => V.bl (decide (n = j))), rfl, rfl, by rw [upd_ne (ne_of_none upd_same n7)]; exact upd_same, upd_same, sz (by simp), fun q7 m7 => ?_⟩
  have s7 := (s6.trans (sm_new (o := .lst (([21, 22, 23] : List Nat).map (fun j => V.bl (decide (n = j))))) n7)).trans (sm_new (o := .lst (([0, 1, 2] : List Nat).map (fun j => V.bl (decide (n = j))) ++ ([3, 4, 5] : List Nat).map (fun j => V.bl (decide (n = j))) ++ ([6, 7, 8] : List Nat).map (fun j => V.bl (decide (n = j))) ++ ([9, 10, 11] : List Nat).map (fun j => V.bl (decide (n = j))) ++ ([12, 13, 14] : List Nat).map (fun j => V.bl (decide (n = j))) ++ ([15, 16, 17] : List Nat).map (fun j => V.bl (decide (n = j))) ++ ([18, 19, 20] : List Nat).map (fun j => V.bl (decide (n = j))) ++ ([21, 22, 23] : List Nat).map (fun j => V.bl (decide (n = j))))) m7)
  refine ⟨_, rfl, iss_read T hn rfl (ha.same s7) _ _ (by decide) ⟨sz (by simp), fun p8 n8 => ?_⟩⟩
  refine ⟨q7, p8, ([0, 1, 2] : List Nat).map (fun j => V.bl (decide (n = j))) ++ ([3, 4, 5] : List Nat).map (fun j => V.bl (decide (n = j))) ++ ([6, 7, 8] : List Nat).map (fun j => V.bl (decide (n = j))) ++ ([9, 10, 11] : List Nat).map (fun j => V.bl (decide (n = j))) ++ ([12, 13, 14] : List Nat).map (fun j => V.bl (decide (n = j))) ++ ([15, 16, 17] : List Nat).map (fun j => V.bl (decide (n = j))) ++ ([18, 19, 20] : List Nat).map (fun j => V.bl (decide (n = j))) ++ ([21, 22, 23] : List Nat).map (fun j => V.bl (decide (n = j))), ([24, 25, 26] : List Nat).map (fun j => V.bl (decide (n = j))), rfl, rfl, by rw [upd_ne (ne_of_none upd_same n8)]; exact upd_same, upd_same, sz (by simp), fun q8 m8 => ?_⟩
  have s8 := (s7.trans (sm_new (o := .lst (([24, 25, 26] : List Nat).map (fun j => V.bl (decide (n = j))))) n8)).trans (sm_new (o := .lst (([0, 1, 2] : List Nat).map (fun j => V.bl (decide (n = j))) ++ ([3, 4, 5] : List Nat).map (fun j => V.bl (decide (n = j))) ++ ([6, 7, 8] : List Nat).map (fun j => V.bl (decide (n = j))) ++ ([9, 10, 11] : List Nat).map (fun j => V.bl (decide (n = j))) ++ ([12, 13, 14] : List Nat).map (fun j => V.bl (decide (n = j))) ++ ([15, 16, 17] : List Nat).map (fun j => V.bl (decide (n = j))) ++ ([18, 19, 20] : List Nat).map (fun j => V.bl (decide (n = j))) ++ ([21, 22, 23] : List Nat).map (fun j => V.bl (decide (n = j))) ++ ([24, 25, 26] : List Nat).map (fun j => V.bl (decide (n = j))))) m8)
  refine ⟨_, rfl, iss_read T hn rfl (ha.same s8) _ _ (by decide) ⟨sz (by simp), fun p9 n9 => ?_⟩⟩
  refine ⟨q8, p9, ([0, 1, 2] : List Nat).map (fun j => V.bl (decide (n = j))) ++ ([3, 4, 5] : List Nat).map (fun j => V.bl (decide (n = j))) ++ ([6, 7, 8] : List Nat).map (fun j => V.bl (decide (n = j))) ++ ([9, 10, 11] : List Nat).map (fun j => V.bl (decide (n = j))) ++ ([12, 13, 14] : List Nat).map (fun j => V.bl (decide (n = j))) ++ ([15, 16, 17] : List Nat).map (fun j => V.bl (decide (n = j))) ++ ([18, 19, 20] : List Nat).map (fun j => V.bl (decide (n = j))) ++ ([21, 22, 23] : List Nat).map (fun j => V.bl (decide (n = j))) ++ ([24, 25, 26] : List Nat).map (fun j => V.bl (decide (n = j))), ([27] : List Nat).map (fun j => V.bl (decide (n = j))), rfl, rfl, by rw [upd_ne (ne_of_none upd_same n9)]; exact upd_same, upd_same, sz (by simp), fun q9 m9 => ?_⟩
  have s9 := (s8.trans (sm_new (o := .lst (([27] : List Nat).map (fun j => V.bl (decide (n = j))))) n9)).trans (sm_new (o := .lst (([0, 1, 2] : List Nat).map (fun j => V.bl (decide (n = j))) ++ ([3, 4, 5] : List Nat).map (fun j => V.bl (decide (n = j))) ++ ([6, 7, 8] : List Nat).map (fun j => V.bl (decide (n = j))) ++ ([9, 10, 11] : List Nat).map (fun j => V.bl (decide (n = j))) ++ ([12, 13, 14] : List Nat).map (fun j => V.bl (decide (n = j))) ++ ([15, 16, 17] : List Nat).map (fun j => V.bl (decide (n = j))) ++ ([18, 19, 20] : List Nat).map (fun j => V.bl (decide (n = j))) ++ ([21, 22, 23] : List Nat).map (fun j => V.bl (decide (n = j))) ++ ([24, 25, 26] : List Nat).map (fun j => V.bl (decide (n = j))) ++ ([27] : List Nat).map (fun j => V.bl (decide (n = j))))) m9)
  exact h q9 _ (by rw [upd_same] <;> rfl) s9
theorem ok_kinds {f : Addr} {fd : FuncData} (F : Fun K "_law_kinds" "_law_kinds" sKinds f fd) (T : Es P K mg cs fi W) : FnOk P w K mg base CX0 1 f fd ["_law_error"] (spKinds cs) := by
  refine F.ok scKinds (fun vs H Q E h => ?_) (fun cdv A outer s H vs Q E hr h => ?_)
  · obtain ⟨a, n, rfl, _⟩ := h
    rfl
  · obtain ⟨a, n, rfl, hn, ha, k⟩ := h
    refine ⟨_, pss_cons (ps_set (i := 1) scKinds.nd rfl (.inl rfl) (pe_lst (pa_cons (pe_callB call_isT (by rfl) T.isi (by decide +kernel) (pa_cons (pv 0) (pa_cons (pe_glob rfl (T.g 0 (by decide)) (show RelV (.ref (cs 0)) _ from rfl)) pa_nil)))
        (pa_cons (pe_callB call_isT (by rfl) T.isi (by decide +kernel) (pa_cons (pv 0) (pa_cons (pe_glob rfl (T.g 1 (by decide)) (show RelV (.ref (cs 1)) _ from rfl)) pa_nil)))
        (pa_cons (pe_callB call_isT (by rfl) T.isi (by decide +kernel) (pa_cons (pv 0) (pa_cons (pe_glob rfl (T.g 2 (by decide)) (show RelV (.ref (cs 2)) _ from rfl)) pa_nil)))
        pa_nil)))))
      <| pss_cons (ps_set (i := 1) scKinds.nd rfl (.inl rfl) (pe_op op_cat (pv 1) (pe_lst (pa_cons (pe_callB call_isT (by rfl) T.isi (by decide +kernel) (pa_cons (pv 0) (pa_cons (pe_glob rfl (T.g 3 (by decide)) (show RelV (.ref (cs 3)) _ from rfl)) pa_nil)))
        (pa_cons (pe_callB call_isT (by rfl) T.isi (by decide +kernel) (pa_cons (pv 0) (pa_cons (pe_glob rfl (T.g 4 (by decide)) (show RelV (.ref (cs 4)) _ from rfl)) pa_nil)))
        (pa_cons (pe_callB call_isT (by rfl) T.isi (by decide +kernel) (pa_cons (pv 0) (pa_cons (pe_glob rfl (T.g 5 (by decide)) (show RelV (.ref (cs 5)) _ from rfl)) pa_nil)))
        pa_nil))))))
      <| pss_cons (ps_set (i := 1) scKinds.nd rfl (.inl rfl) (pe_op op_cat (pv 1) (pe_lst (pa_cons (pe_callB call_isT (by rfl) T.isi (by decide +kernel) (pa_cons (pv 0) (pa_cons (pe_glob rfl (T.g 6 (by decide)) (show RelV (.ref (cs 6)) _ from rfl)) pa_nil)))
        (pa_cons (pe_callB call_isT (by rfl) T.isi (by decide +kernel) (pa_cons (pv 0) (pa_cons (pe_glob rfl (T.g 7 (by decide)) (show RelV (.ref (cs 7)) _ from rfl)) pa_nil)))
        (pa_cons (pe_callB call_isT (by rfl) T.isi (by decide +kernel) (pa_cons (pv 0) (pa_cons (pe_glob rfl (T.g 8 (by decide)) (show RelV (.ref (cs 8)) _ from rfl)) pa_nil)))
        pa_nil))))))
      <| pss_cons (ps_set (i := 1) scKinds.nd rfl (.inl rfl) (pe_op op_cat (pv 1) (pe_lst (pa_cons (pe_callB call_isT (by rfl) T.isi (by decide +kernel) (pa_cons (pv 0) (pa_cons (pe_glob rfl (T.g 9 (by decide)) (show RelV (.ref (cs 9)) _ from rfl)) pa_nil)))
        (pa_cons (pe_callB call_isT (by rfl) T.isi (by decide +kernel) (pa_cons (pv 0) (pa_cons (pe_glob rfl (T.g 10 (by decide)) (show RelV (.ref (cs 10)) _ from rfl)) pa_nil)))
        (pa_cons (pe_callB call_isT (by rfl) T.isi (by decide +kernel) (pa_cons (pv 0) (pa_cons (pe_glob rfl (T.g 11 (by decide)) (show RelV (.ref (cs 11)) _ from rfl)) pa_nil)))
        pa_nil))))))
      <| pss_cons (ps_set (i := 1) scKinds.nd rfl (.inl rfl) (pe_op op_cat (pv 1) (pe_lst (pa_cons (pe_callB call_isT (by rfl) T.isi (by decide +kernel) (pa_cons (pv 0) (pa_cons (pe_glob rfl (T.g 12 (by decide)) (show RelV (.ref (cs 12)) _ from rfl)) pa_nil)))
        (pa_cons (pe_callB call_isT (by rfl) T.isi (by decide +kernel) (pa_cons (pv 0) (pa_cons (pe_glob rfl (T.g 13 (by decide)) (show RelV (.ref (cs 13)) _ from rfl)) pa_nil)))
        (pa_cons (pe_callB call_isT (by rfl) T.isi (by decide +kernel) (pa_cons (pv 0) (pa_cons (pe_glob rfl (T.g 14 (by decide)) (show RelV (.ref (cs 14)) _ from rfl)) pa_nil)))
        pa_nil))))))
      <| pss_cons (ps_set (i := 1) scKinds.nd rfl (.inl rfl) (pe_op op_cat (pv 1) (pe_lst (pa_cons (pe_callB call_isT (by rfl) T.isi (by decide +kernel) (pa_cons (pv 0) (pa_cons (pe_glob rfl (T.g 15 (by decide)) (show RelV (.ref (cs 15)) _ from rfl)) pa_nil)))
        (pa_cons (pe_callB call_isT (by rfl) T.isi (by decide +kernel) (pa_cons (pv 0) (pa_cons (pe_glob rfl (T.g 16 (by decide)) (show RelV (.ref (cs 16)) _ from rfl)) pa_nil)))
        (pa_cons (pe_callB call_isT (by rfl) T.isi (by decide +kernel) (pa_cons (pv 0) (pa_cons (pe_glob rfl (T.g 17 (by decide)) (show RelV (.ref (cs 17)) _ from rfl)) pa_nil)))
        pa_nil))))))
      <| pss_cons (ps_set (i := 1) scKinds.nd rfl (.inl rfl) (pe_op op_cat (pv 1) (pe_lst (pa_cons (pe_callB call_isT (by rfl) T.isi (by decide +kernel) (pa_cons (pv 0) (pa_cons (pe_glob rfl (T.g 18 (by decide)) (show RelV (.ref (cs 18)) _ from rfl)) pa_nil)))
        (pa_cons (pe_callB call_isT (by rfl) T.isi (by decide +kernel) (pa_cons (pv 0) (pa_cons (pe_glob rfl (T.g 19 (by decide)) (show RelV (.ref (cs 19)) _ from rfl)) pa_nil)))
        (pa_cons (pe_callB call_isT (by rfl) T.isi (by decide +kernel) (pa_cons (pv 0) (pa_cons (pe_glob rfl (T.g 20 (by decide)) (show RelV (.ref (cs 20)) _ from rfl)) pa_nil)))
        pa_nil))))))
      <| pss_cons (ps_set (i := 1) scKinds.nd rfl (.inl rfl) (pe_op op_cat (pv 1) (pe_lst (pa_cons (pe_callB call_isT (by rfl) T.isi (by decide +kernel) (pa_cons (pv 0) (pa_cons (pe_glob rfl (T.g 21 (by decide)) (show RelV (.ref (cs 21)) _ from rfl)) pa_nil)))
        (pa_cons (pe_callB call_isT (by rfl) T.isi (by decide +kernel) (pa_cons (pv 0) (pa_cons (pe_glob rfl (T.g 22 (by decide)) (show RelV (.ref (cs 22)) _ from rfl)) pa_nil)))
        (pa_cons (pe_callB call_isT (by rfl) T.isi (by decide +kernel) (pa_cons (pv 0) (pa_cons (pe_glob rfl (T.g 23 (by decide)) (show RelV (.ref (cs 23)) _ from rfl)) pa_nil)))
        pa_nil))))))
      <| pss_cons (ps_set (i := 1) scKinds.nd rfl (.inl rfl) (pe_op op_cat (pv 1) (pe_lst (pa_cons (pe_callB call_isT (by rfl) T.isi (by decide +kernel) (pa_cons (pv 0) (pa_cons (pe_glob rfl (T.g 24 (by decide)) (show RelV (.ref (cs 24)) _ from rfl)) pa_nil)))
        (pa_cons (pe_callB call_isT (by rfl) T.isi (by decide +kernel) (pa_cons (pv 0) (pa_cons (pe_glob rfl (T.g 25 (by decide)) (show RelV (.ref (cs 25)) _ from rfl)) pa_nil)))
        (pa_cons (pe_callB call_isT (by rfl) T.isi (by decide +kernel) (pa_cons (pv 0) (pa_cons (pe_glob rfl (T.g 26 (by decide)) (show RelV (.ref (cs 26)) _ from rfl)) pa_nil)))
        pa_nil))))))
      <| pss_one (ps_ret (pe_op op_cat (pv 1) (pe_lst (pa_cons (pe_callB call_isT (by rfl) T.isi (by decide +kernel) (pa_cons (pv 0) (pa_cons (pe_glob rfl (T.g 27 (by decide)) (show RelV (.ref (cs 27)) _ from rfl)) pa_nil)))
        pa_nil)))), ?_⟩
    exact kinds_read T hn ha k
end
end K0

set_option Elab.async false
set_option linter.all false
set_option maxRecDepth 100000
set_option maxHeartbeats 4000000
/-! An error is of its own kind. -/
namespace K0
open PySem PySem.Spec L2
open PyProof.Rows hiding St
/-- True: the n-th kind, at n -/
def spOwn (cs : Nat → Addr) : Sp := fun vs H Q _ => ∃ (a : Addr) (n : Nat), vs = [.int n, .ref a] ∧ n < 28 ∧ ErrAt cs H n a ∧ ∀ H', Same H H' → Q (.bl true) H'
theorem bools_dp {K : PySem.W.Frag} {H : Hp} {g : Nat → Bool} : ∀ js : List Nat, DpAll K H (js.map fun j => V.bl (g j)) (js.map fun j => PyData.bool (g j))
  | [] => .nil
  | j :: js => .cons (.bl (g j)) (bools_dp js)
theorem bools_shaped {g : Nat → Bool} (js : List Nat) : SeqAt.shaped (.list (js.map fun j => PyData.bool (g j))) = true := by
  have h : ∀ ys : List Nat, PyData.canLayAll0 (ys.map fun j => PyData.bool (g j)) = true ∧ PyData.depthAll (ys.map fun j => PyData.bool (g j)) = 0 := fun ys => by
    induction ys with
    | nil => exact ⟨by simp [PyData.canLayAll0], by simp [PyData.depthAll]⟩
    | cons y ys ih => exact ⟨by simp [PyData.canLayAll0, PyData.canLay0, ih.1], by simp [PyData.depthAll, PyData.depth, ih.2]⟩
  show (PyData.canLay0 _ && decide (PyData.depth _ ≤ 64)) = true
  rw [Bool.and_eq_true]
  exact ⟨by simp only [PyData.canLay0]; exact (h js).1, decide_eq_true (by simp only [PyData.depth, (h js).2]; omega)⟩
section
variable {P : Program} {w : World} {K : PySem.W.Frag} {mg : Str → Option Value} {base : Heap} {cs fi : Nat → Addr} {W : Addr}
abbrev nOwn : List Str := ["_law_at", "_law_error", "_law_place"]
theorem scOwn : FnScope nOwn ["_law_at", "_law_error"] (defScope sOwn) := ⟨rfl, rfl, rfl, by decide +kernel, rfl, by decide +kernel, by decide +kernel⟩
theorem ok_own {f fK : Addr} {fd fdK : FuncData} (F : Fun K "_law_is_own" "_law_is_own" sOwn f fd) (T : Es P K mg cs fi W) (B : Bi mg) (G : Dn P w K mg base "_law_kinds" 1 ["_law_error"] (spKinds cs) fK fdK) : FnOk P w K mg base CX0 2 f fd ["_law_at", "_law_error"] (spOwn cs) := by
  refine F.ok scOwn (fun vs H Q E h => ?_) (fun cdv A outer s H vs Q E hr h => ?_)
  · obtain ⟨a, n, rfl, _⟩ := h
    rfl
  · obtain ⟨a, n, rfl, hn, ha, k⟩ := h
    have hu6 : A.units + 3 + 64 < cLine := by have := hr.un; have e : (A.deeper (envOfC "_law_is_own" (defScope sOwn) s.heap.objs.size f cdv)).units = A.units + 3 := rfl; omega
    refine ⟨_, pss_cons (ps_if (PW.pt (pw_or (pt_not (pt_val (pe_callB call_isT (by rfl) T.isi (by decide +kernel) (pa_cons (pv 1) (pa_cons (pe_glob rfl T.gw (show RelV (.ref W) _ from rfl)) pa_nil)))))
          (pw_or1 (pt_not (pt_val (pe_callB call_isT (by rfl) T.isi (by decide +kernel) (pa_cons (pv 1) (pa_cons (pe_bltn (v := .ty "Exception") (u := .type "Exception") (by rfl) (T.bn _ (by decide)) (by decide +kernel) rfl) pa_nil))))))))
        (pss_one (ps_ret pe_bl)) pss_nil)
      <| pss_cons (ps_if (pt_val (pe_callB call_isTs (by rfl) T.isi (by decide +kernel) (pa_cons (pv 1) (pa_cons (pe_tup (pa_cons (pe_bltn (v := .ty "ValueError") (u := .type "ValueError") (by rfl) (T.bn _ (by decide)) (by decide +kernel) rfl)
          (pa_cons (pe_bltn (v := .ty "TypeError") (u := .type "TypeError") (by rfl) (T.bn _ (by decide)) (by decide +kernel) rfl) (pa_cons (pe_bltn (v := .ty "LookupError") (u := .type "LookupError") (by rfl) (T.bn _ (by decide)) (by decide +kernel) rfl)
          (pa_cons (pe_bltn (v := .ty "ArithmeticError") (u := .type "ArithmeticError") (by rfl) (T.bn _ (by decide)) (by decide +kernel) rfl) (pa_cons (pe_bltn (v := .ty "RuntimeError") (u := .type "RuntimeError") (by rfl) (T.bn _ (by decide)) (by decide +kernel) rfl)
          (pa_cons (pe_bltn (v := .ty "AttributeError") (u := .type "AttributeError") (by rfl) (T.bn _ (by decide)) (by decide +kernel) rfl) pa_nil))))))) pa_nil)))) (pss_one (ps_ret pe_bl)) pss_nil)
      <| pss_one (ps_ret (pe_cmpR (op_eqD hu6) (pe_call G.ok hr rfl G.g G.kp G.b .nil pass0 (pa_cons (pv 1) pa_nil))
          (pe_lc (own := [("_law_place", 2)]) (g := gName 2) (tt := tYes) rfl scOwn.nd (pi_range1 rfl B.range (pa_cons pe_int pa_nil)) (blkOk_by (N := nOwn) (sc := defScope sOwn) (by decide +kernel))
            (fun _ _ _ _ _ => pg_name (i := 2) scOwn.nd rfl (Or.inl rfl)) (fun _ _ _ _ _ => pts_nil) (fun _ _ _ _ _ => pe_cmpR op_eq (pv 2) (pv 0) (nomark _))) (nomark _))), ?_⟩
    obtain ⟨d, h1, h2⟩ := id ha
    refine ⟨_, rfl, a, cs n, d, _, _, _, rfl, .own W, h1, h2, T.er n hn, T.kw n hn, _, rfl, ?_⟩
    refine iteF ?_
    refine ⟨_, rfl, a, cs n, d, _, _, _, rfl, .ty "Exception", h1, h2, T.er n hn, T.kx n hn, _, rfl, ?_⟩
    refine iteF ?_
    refine ⟨_, rfl, by show 6 ≤ sizeLine; rw [sizeLine_eq]; decide, fun t ht => ?_⟩
    generalize hHt : upd H t _ = Ht
    have st : Same H Ht := by rw [← hHt]; exact sm_new ht
    have ut : Ht t = some (.tup [.ty "ValueError", .ty "TypeError", .ty "LookupError", .ty "ArithmeticError", .ty "RuntimeError", .ty "AttributeError"]) := by rw [← hHt]; exact upd_same
    obtain ⟨d', h1', h2'⟩ := ha.same st
    refine ⟨a, cs n, t, d', _, _, _, rfl, ut, .cons (.ty _) (.cons (.ty _) (.cons (.ty _) (.cons (.ty _) (.cons (.ty _) (.cons (.ty _) .nil))))), h1', h2', T.er n hn, T.kn n hn, _, rfl, ?_⟩
    refine iteF ?_
    refine ⟨_, rfl, a, n, rfl, hn, ha.same st, fun r H2 hr2 s2 => ?_⟩
    refine ⟨28, rfl, by decide, by decide, fun D hD => ?_⟩
    refine lc_range (n := 28) (fun i H3 => H3 D = some (.lst ((List.range i).map fun j => V.bl (decide (n = j)))) ∧ Same H2 H3) ⟨upd_same, sm_new hD⟩ ?_ ?_
    · rintro i H3 hi ⟨e1, s3⟩
      refine ⟨rfl, ?_⟩
      unfold tYes
      refine iteT ?_
      refine ⟨_, rfl, _, rfl, rfl, ?_⟩
      have ev : decide (V.int (0 + (i : Int)) = V.int (n : Int)) = decide (n = i) := by
        rw [dec_int]
        by_cases z : n = i
        · subst z
          simp
        · rw [decide_eq_false z]
          exact beq_eq_false_iff_ne.mpr (by omega)
      rw [ev]
      refine ⟨_, e1, by simp [sizeLine_eq]; omega, ?_, fun b o q => ?_⟩
      · rw [upd_same, List.range_succ, List.map_append] <;> rfl
      · have nb : b ≠ D := ne_of_none q hD
        rw [upd_ne nb]
        exact s3 b o q
    · rintro H3 ⟨e1, s3⟩
      have q : Same H H3 := (st.trans s2).trans s3
      refine ⟨.list ((List.range 28).map fun j => PyData.bool (decide (n = j))), .list ((List.range 28).map fun j => PyData.bool (decide (n = j))), Dp.lst (SqL.of (s3 _ _ hr2)) (bools_dp _), Dp.lst (SqL.of e1) (bools_dp _), bools_shaped _, bools_shaped _, ?_⟩
      rw [SeqAt.eqv_refl _ (SeqAt.canLay_of_shaped (bools_shaped _))]
      exact k H3 q
end
end K0

set_option Elab.async false
set_option linter.all false
set_option maxRecDepth 100000
set_option maxHeartbeats 4000000
/-! try: .. with several clauses, each of which keeps the error under one name, one of which takes whatever comes. -/
namespace K0
open PySem PySem.Spec L2
open PyProof.Rows hiding St

/-- behind a clause its name is gone -/
def gone (i : Nat) (D : Ends) : Ends := { nx := fun τ G => D.nx (τ.set i none) G, rt := D.rt, bk := fun τ G => D.bk (τ.set i none) G, ct := fun τ G => D.ct (τ.set i none) G }
abbrev Sui := Addr → Value → Option Addr → TS
def wAll (K : PySem.W.Frag) (i : Nat) (D : Ends) : List (Value × Sui) → WX
  | [] => fun _ _ _ _ => False
  | (c, ts) :: more => fun cls d τ G => ∃ b, PySem.W.exmOne K cls c = some b ∧ (b = true → ∀ a, G a = none → ts a cls d (gone i D) (τ.set i (some (.ref a))) G) ∧ (b = false → wAll K i D more cls d τ G)
inductive Cls (X : Cx) (n : Str) : List ExceptHandler → List (Value × Sui) → Prop
  | nil : Cls X n [] []
  | cons {x : Str} {c : Value} {ts : Sui} {b₀ : Stmt} {rest : List Stmt} {np qp : Pos} {hds : List ExceptHandler} {l : List (Value × Sui)} (hc : Names X x c)
      (hsu : ∀ (a : Addr) (ob : Obj) (cls : Value) (d : Option Addr) (pn : List (Addr × Obj)), Zc cls d ob → (∃ ws, ob.data = .fields ws) → PSs (X.suite a ((a, ob) :: pn)) (b₀ :: rest) (ts a cls d)) (more : Cls X n hds l) :
      Cls X n (.ExceptHandler (some (.Name x np)) (some n) (b₀ :: rest) qp :: hds) ((c, ts) :: l)
section
variable {X : Cx} {body : List Stmt} {h₀ : ExceptHandler} {hds : List ExceptHandler} {l : List (Value × Sui)} {pos : Pos} {tb : WX → TS} {n : Str} {i : Nat}
theorem ps_try_all (hs : X.stack = X.env :: X.outer) (hf : X.env.frame = some X.env.locals) (hN : X.N.Nodup) (hi : X.N[i]? = some n) (hln : X.env.kindOf n = some .local)
    (hb : ∀ (W : WX) (pn : List (Addr × Obj)) (xe : Value → Shared → Prop), Takes (X.tr pn xe) W → PassesOwn (model X.prog X.w) X.A X.env xe → PSs (X.tr pn xe) body (tb W)) (hh : Cls X n (h₀ :: hds) l) :
    PS X (.Try body (h₀ :: hds) [] [] pos) (fun D σ H => tb (wAll X.K i D l) D σ H) := by
  refine ⟨fun pins s σ H D I h => ?_⟩
  have okX := I.ok
  have frX : X.A.frames = some (X.env :: X.outer) := okX.frames.trans (congrArg some hs)
  refine wpAny_Try_except (wpAny_mono ((hb (wAll X.K i D l) (X.pn ++ pins) _ (fun u s' xx => ?_) PassesOwn.looking).run [] s σ H D (I.toTry _) h) (fun f s1 hsp => ?_) (fun _ _ z => z))
  · obtain ⟨a, B, sI, _, τ, G, cls, d, rfl, J0, nb, up, sk, na, os, ag, wish⟩ := xx
    have J : Inv X pins τ G sI := J0.ofTry okX
    refine (show wpAny (model X.prog X.w) X.A (noteFrame (.ref a) X.env) _ _ _ from Sky.land Zc.steady frX hf (by rw [← hs]; exact sk) fun g3 F3 u3 => ?_)
    have J3 : Inv X pins τ G { s' with heap := g3 } := J.landed nb F3.1 (up.trans u3) os ag
    obtain ⟨o3, w3, e3, z3, d3⟩ := F3.there
    have far : a ∉ frs (X.env :: X.outer) := fun hm => by
      obtain ⟨_, o', e', hn⟩ := F3.2.2.1.mem hm
      exact hn _ (by rw [e3] at e'; cases e'; exact d3)
    have nL : a ≠ X.env.locals := fun z => far (List.mem_filterMap.mpr ⟨X.env, .head _, hf.trans (congrArg some z.symm)⟩)
    have nF : a ∉ X.fs := fun hm => far (by
      obtain ⟨e, he, q⟩ := List.mem_filterMap.mp hm
      exact List.mem_filterMap.mpr ⟨e, .tail _ he, q⟩)
    have S3 := J3.suite e3 d3 na nL nF
    have hlo : Loc X.env.scope n := .inl hln
    have each : ∀ {hs' : List ExceptHandler} {l' : List (Value × Sui)}, Cls X n hs' l' → wAll X.K i D l' cls d τ G → wpAny (model X.prog X.w) X.A (handleBy (.ref a) X.env hs') (SP X pins D) X.xe { s' with heap := g3 } := by
      intro hs' l' hk
      induction hk with
      | nil => exact fun z => z.elim
      | @cons x c ts b₀ rest np qp hds2 l2 hc hsu more ih =>
        rintro ⟨b, hb1, yes, no⟩
        have LM := PySem.W.exm_one (M := model X.prog X.w) (J3.kIn) (fun A Q E s k q => wpAny_typeOf_ref (k _ _ e3) (by rw [z3.1]; exact q)) hb1
        refine wpAny_handleBy_cons (codeAny_handlers_test ?_) (fun z => nomatch z)
        have named : ∀ {Q : Value → Shared → Prop} {E : Value → Shared → Prop}, Q c { s' with heap := g3 } → wpAny (model X.prog X.w) (X.A.mark (some (.ref a))) (eval (.Name x np) X.env) Q E { s' with heap := g3 } := fun {Q E} q => by
          obtain ⟨y1, y2, y3 | ⟨y3, y4, y5⟩⟩ := hc
          · exact ld_glob (X := X.suite a ((a, o3) :: (X.pn ++ pins))) S3 y1 y3 q y2
          · exact ld_blt (X := X.suite a ((a, o3) :: (X.pn ++ pins))) S3 y1 y3 y4 q y5 y2
        refine named (LM.here ?_)
        cases b with
        | false => exact (show wpAny _ X.A (handleBy (.ref a) X.env hds2) _ _ _ from ih (no rfl))
        | true =>
          refine codeAny_handlers_suite_as (HandSPX.lands_againZ F3 fun g4 F4 u4 => ?_)
          have J4 : Inv X pins τ G { s' with heap := g4 } := J.landed nb F4.1 ((up.trans u3).trans u4) os ag
          obtain ⟨o4, w4, e4, z4, d4⟩ := F4.there
          refine store_ok (X := X.suite a ((a, o4) :: (X.pn ++ pins))) (v := .ref a) (J4.suite e4 d4 na nL nF) hN hi hlo rfl (fun s5 S5 => ?_) (.inr hln)
          refine wpAny_mono ((hsu a o4 cls d (X.pn ++ pins) z4 ⟨_, d4⟩).run [] s5 _ G _ S5 (yes rfl a na)) (fun f s6 r6 => ?_) (fun _ _ z => z.elim)
          have leave : ∀ {υ : St} {M : Hp} {Q : Shared → Prop}, Inv (X.suite a ((a, o4) :: (X.pn ++ pins))) [] υ M s6 → (∀ s7, Inv X pins (υ.set i none) M s7 → Q s7) →
              wpAny (model X.prog X.w) X.A (do bindName X.env n .none; unbindBehindTheSuite X.env n qp) (fun _ s7 => Q s7) X.xe s6 := fun S6 q => gone_ok (S6.unsuite okX) hN hi hln q
          cases f with
          | ret u => obtain ⟨v, υ, M, S6, rv, q⟩ := r6; exact leave S6 fun s7 J7 => ⟨v, _, _, J7, rv, q⟩
          | next => obtain ⟨υ, M, S6, q⟩ := r6; exact leave S6 fun s7 J7 => ⟨_, _, J7, q⟩
          | brk => obtain ⟨υ, M, S6, q⟩ := r6; exact leave S6 fun s7 J7 => ⟨_, _, J7, q⟩
          | cont => obtain ⟨υ, M, S6, q⟩ := r6; exact leave S6 fun s7 J7 => ⟨_, _, J7, q⟩
    exact each hh wish
  · cases f with
    | ret u => obtain ⟨v, υ, M, J, r, q⟩ := hsp; exact ⟨v, υ, M, J.ofTry okX, r, q⟩
    | next => obtain ⟨υ, M, J, q⟩ := hsp; exact wpAny_execs_nil ⟨υ, M, J.ofTry okX, q⟩
    | brk => obtain ⟨υ, M, J, q⟩ := hsp; exact ⟨υ, M, J.ofTry okX, q⟩
    | cont => obtain ⟨υ, M, J, q⟩ := hsp; exact ⟨υ, M, J.ofTry okX, q⟩
end
end K0

set_option Elab.async false
set_option linter.all false
set_option maxRecDepth 100000
set_option maxHeartbeats 4000000
/-! Errors raised and caught. -/
namespace K0
open PySem PySem.Spec L2
open PyProof.Rows hiding St
theorem itP {c A B : Prop} [Decidable c] (hc : c) (h : A) : if c then A else B := by rw [if_pos hc]; exact h
theorem itN {c A B : Prop} [Decidable c] (hc : ¬ c) (h : B) : if c then A else B := by rw [if_neg hc]; exact h
/-- (way, it) -/
def spCaught : Sp := fun vs H Q _ => ∃ (n : Nat) (v : V), vs = [.int n, v] ∧ n < 6 ∧ ∀ (t : Addr) (H' : Hp), H' t = some (.tup [.int n, v]) → Same H H' → Q (.ref t) H'
section
variable {P : Program} {w : World} {K : PySem.W.Frag} {mg : Str → Option Value} {base : Heap} {cs fi : Nat → Addr} {W : Addr}
theorem Es.xm (T : Es P K mg cs fi W) (i j : Nat) (hi : i < 28) (hj : j < 28) : PySem.W.exmOne K (.ref (cs i)) (.ref (cs j)) = some (decide (i = j)) := PySem.W.exm_ref (T.er j hj).eB (T.er j hj).cl.hd (T.er j hj).tC (T.sb i j hi hj)
theorem Es.xw (T : Es P K mg cs fi W) (i : Nat) (hi : i < 28) : PySem.W.exmOne K (.ref (cs i)) (.ref W) = some true := PySem.W.exm_ref T.wB T.wd T.wt (T.sw i hi)
theorem scCaught : FnScope ["_law_way", "_law_it", "e"] ["_law_way", "_law_it"] (defScope sCaught) := ⟨rfl, rfl, rfl, by decide +kernel, rfl, by decide +kernel, by decide +kernel⟩
theorem ok_caught {f : Addr} {fd : FuncData} (F : Fun K "_law_caught" "_law_caught" sCaught f fd) (T : Es P K mg cs fi W) : FnOk P w K mg base CX0 1 f fd ["_law_way", "_law_it"] spCaught := by
  refine F.ok scCaught (fun vs H Q E h => ?_) (fun cdv A outer s H vs Q E hr h => ?_)
  · obtain ⟨n, v, rfl, _⟩ := h
    rfl
  · obtain ⟨n, v, rfl, hn, k⟩ := h
    refine ⟨_, pss_one (ps_try_all (i := 2) (n := "e") rfl rfl scCaught.nd rfl rfl
        (fun W pn xe tk _ => pss_cons (ps_if (pt_cmpR op_eq (pv 0) pe_int (nomark _)) (pss_one (ps_raise rfl tk (pmk1 (T.er 0 (by decide)) (T.f1 0 (by decide)) (fld_in 0 (by decide)) T.sup hr (T.g 0 (by decide)) (pa_cons (pv 1) pa_nil)))) pss_nil)
          <| pss_cons (ps_if (pt_cmpR op_eq (pv 0) pe_int (nomark _)) (pss_one (ps_raise rfl tk (pmkK (T.er 2 (by decide)) (T.f1 2 (by decide)) (fld_in 2 (by decide)) T.sup hr (T.g 2 (by decide)) (pk_cons (pv 1) pk_nil)))) pss_nil)
          <| pss_cons (ps_if (pt_cmpR op_eq (pv 0) pe_int (nomark _)) (pss_one (ps_raise rfl tk (pmk0 (T.er 22 (by decide)) (T.f0 22 (by decide) (by decide)) T.sup hr (T.g 22 (by decide))))) pss_nil)
          <| pss_cons (ps_if (pt_cmpR op_eq (pv 0) pe_int (nomark _)) (pss_one (ps_raise rfl tk (pmkK (T.er 5 (by decide)) (T.f1 5 (by decide)) (fld_in 5 (by decide)) T.sup hr (T.g 5 (by decide)) (pk_cons (pv 1) pk_nil)))) pss_nil)
          <| pss_cons (ps_if (pt_cmpR op_eq (pv 0) pe_int (nomark _)) (pss_one (ps_raise rfl tk (pmk1 (T.er 1 (by decide)) (T.f1 1 (by decide)) (fld_in 1 (by decide)) T.sup hr (T.g 1 (by decide)) (pa_cons (pv 1) pa_nil)))) pss_nil)
          <| pss_one (ps_raise rfl tk (pmkK (T.er 19 (by decide)) (T.f1 19 (by decide)) (fld_in 19 (by decide)) T.sup hr (T.g 19 (by decide)) (pk_cons (pv 1) pk_nil))))
        (Cls.cons ⟨rfl, by decide, .inl (T.g 0 (by decide))⟩ (fun a ob cls d pn hz hf => pss_one (ps_ret (pe_tup (pa_cons pe_int (pa_cons (pe_xf (T.er 0 (by decide)).xf (T.f1 0 (by decide)).no hz hf (pv 2)) pa_nil)))))
        (Cls.cons ⟨rfl, by decide, .inl (T.g 2 (by decide))⟩ (fun a ob cls d pn hz hf => pss_one (ps_ret (pe_tup (pa_cons pe_int (pa_cons (pe_xf (T.er 2 (by decide)).xf (T.f1 2 (by decide)).no hz hf (pv 2)) pa_nil)))))
        (Cls.cons ⟨rfl, by decide, .inl (T.g 1 (by decide))⟩ (fun a ob cls d pn hz hf => pss_one (ps_ret (pe_tup (pa_cons pe_int (pa_cons (pe_xf (T.er 1 (by decide)).xf (T.f1 1 (by decide)).no hz hf (pv 2)) pa_nil)))))
        (Cls.cons ⟨rfl, by decide, .inl T.gw⟩ (fun a ob cls d pn hz hf => pss_cons (ps_if (pt_val (pe_callB (call_isS hz hf) (by rfl) T.isi (by decide +kernel) (pa_cons (pv 2) (pa_cons (pe_glob rfl (T.g 22 (by decide)) (show RelV (.ref (cs 22)) _ from rfl)) pa_nil)))) (pss_one (ps_ret (pe_tup (pa_cons pe_int (pa_cons (pv 1) pa_nil))))) pss_nil)
            <| pss_cons (ps_if (pt_val (pe_callB (call_isS hz hf) (by rfl) T.isi (by decide +kernel) (pa_cons (pv 2) (pa_cons (pe_glob rfl (T.g 5 (by decide)) (show RelV (.ref (cs 5)) _ from rfl)) pa_nil)))) (pss_one (ps_ret (pe_tup (pa_cons pe_int (pa_cons (pe_xf (T.er 5 (by decide)).xf (T.f1 5 (by decide)).no hz hf (pv 2)) pa_nil))))) pss_nil)
            <| pss_one (ps_ret (pe_tup (pa_cons pe_int (pa_cons (pe_ifExp (pt_val (pe_callB (call_isS hz hf) (by rfl) T.isi (by decide +kernel) (pa_cons (pv 2) (pa_cons (pe_glob rfl (T.g 19 (by decide)) (show RelV (.ref (cs 19)) _ from rfl)) pa_nil)))) (pe_xf (T.er 19 (by decide)).xf (T.f1 19 (by decide)).no hz hf (pv 2)) (pe_tup (pa_cons (pv 1) pa_nil))) pa_nil))))) Cls.nil))))), ?_⟩
    have sz : ∀ {n : Nat}, n ≤ 100 → n ≤ sizeLine := fun h => by rw [sizeLine_eq]; omega
    have c6 : n = 0 ∨ n = 1 ∨ n = 2 ∨ n = 3 ∨ n = 4 ∨ n = 5 := by omega
    rcases c6 with rfl | rfl | rfl | rfl | rfl | rfl
    · refine ⟨_, rfl, rfl, _, rfl, itP (by decide) ?_⟩
      refine ⟨_, rfl, v, rfl, fun d hd => ⟨_, T.xm 0 0 (by decide) (by decide), fun _ a ha => ?_, fun z => nomatch z⟩⟩
      exact ⟨_, rfl, rfl, rfl, d, _, v, rfl, upd_same, by simp [List.lookup, fldE], sz (by simp), fun t ht => k t _ upd_same ((sm_new hd).trans (sm_new ht))⟩
    · refine ⟨_, rfl, rfl, _, rfl, itN (by decide) ?_⟩
      refine ⟨_, rfl, rfl, _, rfl, itP (by decide) ?_⟩
      refine ⟨_, rfl, v, rfl, fun d hd => ⟨_, T.xm 2 0 (by decide) (by decide), fun z => absurd z (by decide), fun _ => ⟨_, T.xm 2 2 (by decide) (by decide), fun _ a ha => ?_, fun z => nomatch z⟩⟩⟩
      exact ⟨_, rfl, rfl, rfl, d, _, v, rfl, upd_same, by simp [List.lookup, fldE], sz (by simp), fun t ht => k t _ upd_same ((sm_new hd).trans (sm_new ht))⟩
    · refine ⟨_, rfl, rfl, _, rfl, itN (by decide) ?_⟩
      refine ⟨_, rfl, rfl, _, rfl, itN (by decide) ?_⟩
      refine ⟨_, rfl, rfl, _, rfl, itP (by decide) ?_⟩
      refine ⟨_, T.xm 22 0 (by decide) (by decide), fun z => absurd z (by decide), fun _ => ⟨_, T.xm 22 2 (by decide) (by decide), fun z => absurd z (by decide), fun _ => ⟨_, T.xm 22 1 (by decide) (by decide), fun z => absurd z (by decide), fun _ => ⟨_, T.xw 22 (by decide), fun _ a ha => ?_, fun z => nomatch z⟩⟩⟩⟩
      refine ⟨_, rfl, cs 22, _, _, _, rfl, .own _, rfl, .inl rfl, T.er 22 (by decide), T.kit 22 22 (by decide) (by decide), _, rfl, itP (by decide) ?_⟩
      exact ⟨_, rfl, sz (by simp), fun t ht => k t _ upd_same (sm_new ht)⟩
    · refine ⟨_, rfl, rfl, _, rfl, itN (by decide) ?_⟩
      refine ⟨_, rfl, rfl, _, rfl, itN (by decide) ?_⟩
      refine ⟨_, rfl, rfl, _, rfl, itN (by decide) ?_⟩
      refine ⟨_, rfl, rfl, _, rfl, itP (by decide) ?_⟩
      refine ⟨_, rfl, v, rfl, fun d hd => ⟨_, T.xm 5 0 (by decide) (by decide), fun z => absurd z (by decide), fun _ => ⟨_, T.xm 5 2 (by decide) (by decide), fun z => absurd z (by decide), fun _ => ⟨_, T.xm 5 1 (by decide) (by decide), fun z => absurd z (by decide), fun _ => ⟨_, T.xw 5 (by decide), fun _ a ha => ?_, fun z => nomatch z⟩⟩⟩⟩⟩
      refine ⟨_, rfl, cs 5, _, _, _, rfl, .own _, rfl, .inr ⟨d, _, rfl, upd_same⟩, T.er 5 (by decide), T.kit 5 22 (by decide) (by decide), _, rfl, itN (by decide) ?_⟩
      refine ⟨_, rfl, cs 5, _, _, _, rfl, .own _, rfl, .inr ⟨d, _, rfl, upd_same⟩, T.er 5 (by decide), T.kit 5 5 (by decide) (by decide), _, rfl, itP (by decide) ?_⟩
      exact ⟨_, rfl, rfl, rfl, d, _, v, rfl, upd_same, by simp [List.lookup, fldE], sz (by simp), fun t ht => k t _ upd_same ((sm_new hd).trans (sm_new ht))⟩
    · refine ⟨_, rfl, rfl, _, rfl, itN (by decide) ?_⟩
      refine ⟨_, rfl, rfl, _, rfl, itN (by decide) ?_⟩
      refine ⟨_, rfl, rfl, _, rfl, itN (by decide) ?_⟩
      refine ⟨_, rfl, rfl, _, rfl, itN (by decide) ?_⟩
      refine ⟨_, rfl, rfl, _, rfl, itP (by decide) ?_⟩
      refine ⟨_, rfl, v, rfl, fun d hd => ⟨_, T.xm 1 0 (by decide) (by decide), fun z => absurd z (by decide), fun _ => ⟨_, T.xm 1 2 (by decide) (by decide), fun z => absurd z (by decide), fun _ => ⟨_, T.xm 1 1 (by decide) (by decide), fun _ a ha => ?_, fun z => nomatch z⟩⟩⟩⟩
      exact ⟨_, rfl, rfl, rfl, d, _, v, rfl, upd_same, by simp [List.lookup, fldE], sz (by simp), fun t ht => k t _ upd_same ((sm_new hd).trans (sm_new ht))⟩
    · refine ⟨_, rfl, rfl, _, rfl, itN (by decide) ?_⟩
      refine ⟨_, rfl, rfl, _, rfl, itN (by decide) ?_⟩
      refine ⟨_, rfl, rfl, _, rfl, itN (by decide) ?_⟩
      refine ⟨_, rfl, rfl, _, rfl, itN (by decide) ?_⟩
      refine ⟨_, rfl, rfl, _, rfl, itN (by decide) ?_⟩
      refine ⟨_, rfl, v, rfl, fun d hd => ⟨_, T.xm 19 0 (by decide) (by decide), fun z => absurd z (by decide), fun _ => ⟨_, T.xm 19 2 (by decide) (by decide), fun z => absurd z (by decide), fun _ => ⟨_, T.xm 19 1 (by decide) (by decide), fun z => absurd z (by decide), fun _ => ⟨_, T.xw 19 (by decide), fun _ a ha => ?_, fun z => nomatch z⟩⟩⟩⟩⟩
      refine ⟨_, rfl, cs 19, _, _, _, rfl, .own _, rfl, .inr ⟨d, _, rfl, upd_same⟩, T.er 19 (by decide), T.kit 19 22 (by decide) (by decide), _, rfl, itN (by decide) ?_⟩
      refine ⟨_, rfl, cs 19, _, _, _, rfl, .own _, rfl, .inr ⟨d, _, rfl, upd_same⟩, T.er 19 (by decide), T.kit 19 5 (by decide) (by decide), _, rfl, itN (by decide) ?_⟩
      refine ⟨_, rfl, cs 19, _, _, _, rfl, .own _, rfl, .inr ⟨d, _, rfl, upd_same⟩, T.er 19 (by decide), T.kit 19 19 (by decide) (by decide), _, rfl, itP (by decide) ?_⟩
      exact ⟨_, rfl, rfl, rfl, d, _, v, rfl, upd_same, by simp [List.lookup, fldE], sz (by simp), fun t ht => k t _ upd_same ((sm_new hd).trans (sm_new ht))⟩
end
end K0

set_option Elab.async false
set_option linter.all false
set_option maxRecDepth 100000
set_option maxHeartbeats 4000000
/-! The law's own def at the one place from which it is called: there nothing is being shown yet. -/
namespace K0
open PySem PySem.Spec L2
open PyProof.Rows hiding St

/-- the def, called at the outermost place -/
theorem run_out {P : Program} {w : World} {K : PySem.W.Frag} {mg : Str → Option Value} {base : Heap} {k : Nat} {f : Addr} {fd : FuncData} {x qual : Str} {st : Stmt} {N ps : List Str} {s : Shared} {H : Hp} {us : List Value} {vs : List V} {Q : VK} (F : Fun K x qual st f fd) (S : FnScope N ps (defScope st))
    (e0 : Env0 P w K mg base callerA [] s H) (hr : Room (k + 1) callerA) (hb : BindsTo s fd ⟨us, []⟩ (ps.zip us)) (r : Vals vs us) (hl : vs.length = ps.length)
    (body : ∀ (cdv : Value), Room k (callerA.deeper (envOfC qual (defScope st) s.heap.objs.size f cdv)) →
      ∃ t, PSs (cxOf CX0 P w K mg base N qual (defScope st) f cdv callerA [] s H (fun _ _ _ => False)).nox (defBody st) t ∧ t { nx := fun _ H' => Q .non H', rt := Q } (start N vs) H) :
    codeAny (model P w) callerA (.call (.ref f) ⟨us, []⟩) (CR CX0 [] P w H s Q (fun _ _ _ => False)) s := by
  obtain ⟨oc, od, kV, doc, pm, an, cdv, ct, osl, rfl, lk, hcd⟩ := F.ex
  have old : ∀ b o, base.get? b = some o → s.heap.get? b = some o := fun b o e => (e0.bs b o e).1
  have KX : K.In s.heap := e0.mod.kin.keeps old
  have kinds : ∀ y ∈ ps.zip us, (defScope st).names.lookup y.1 = some .local ∨ ((defScope st).names.lookup y.1 = some .cell ∧ ((cellsFrom (s.heap.objs.size + 1) (defScope st).names []).lookup y.1).isSome = true) := by
    rintro ⟨n, v⟩ hy
    exact (S.par n (List.of_mem_zip hy).1).imp id fun q => ⟨q, PySem.W.cellsFrom_some _ _ _ (.inl q)⟩
  refine codeAny_call_function hr.depth (KX _ _ lk) rfl S.co S.gen rfl (PySem.W.codeRec_of KX hcd) (hb _ _ _ _ (wpAny_newFunctionEnv_cells S.kind kinds fun env he s1 y => ?_))
  subst he
  obtain ⟨t, ht, hq⟩ := body cdv (hr.deeper _)
  refine ⟨(e0.mod.nolimit.keeps old).keeps y.toInCall.keep, codeAny_func (wpAny_mono (ht.nox.run [] s1 (start N vs) H _ (inv_start (CX := CX0) (E := fun _ _ _ => False) S hr.hd e0 hl r y) hq) (fun fl s' hs => ?_) fun e s' hs => hs)⟩
  have close : ∀ {σ' : St} {H' : Hp} {v : V} {u : Value}, Inv (cxOf CX0 P w K mg base N qual (defScope st) f cdv callerA [] s H (fun _ _ _ => False)) [] σ' H' s' → RelV v u → Q v H' → CE [] P w H s Q u s' := fun J rv q => ⟨_, _, J.os, J.bare, J.base, J.hok, rv, q⟩
  cases fl with
  | ret u => obtain ⟨v, σ', H', J, rv, q⟩ := hs; exact close J rv q
  | next => obtain ⟨σ', H', J, q⟩ := hs; exact close (v := V.non) (u := Value.none) J rfl q
  | brk => obtain ⟨_, _, _, q⟩ := hs; exact q.elim
  | cont => obtain ⟨_, _, _, q⟩ := hs; exact q.elim

/-- from the heap behind the top, the script handed in -/
theorem law_out {P : Program} {w : World} {K : PySem.W.Frag} {mg mb : Str → Option Value} {k : Nat} {fa a : Addr} {fd : FuncData} {x name qual : Str} {st : Stmt} {N : List Str} {s₁ : Shared} {vs : List Value} {ns : List Int} (F : Fun K name qual st fa fd) (S : FnScope N [x] (defScope st))
    (KX : K.In s₁.heap) (hns : s₁.heap.Ns mainGlobals mg) (hb : s₁.heap.Ns builtinsNs mb) (hbb : ∀ x : Str, x ≠ "__name__" → mb x = bootBuiltins x) (hlim : s₁.heap.NoLimit) (hg : s₁.gens = #[])
    (ha : s₁.heap.get? a = some { cls := .type "list", data := .seq vs.toArray }) (hi : IntsAre vs ns) (hl : ns.length ≤ sizeLine) (hr : Room (k + 1) callerA) (hbind : ∀ (s : Shared) (u : Value), BindsTo s fd ⟨[u], []⟩ [(x, u)])
    (body : ∀ (base : Heap) (H : Hp) (s : Shared) (cdv : Value), K.In base → base.Ns mainGlobals mg → SqL K H a (ns.map V.int) → Room k (callerA.deeper (envOfC qual (defScope st) s.heap.objs.size fa cdv)) →
      ∃ t, PSs (cxOf CX0 P w K mg base N qual (defScope st) fa cdv callerA [] s H (fun _ _ _ => False)).nox (defBody st) t ∧ t { nx := fun _ H' => (V.non = .bl true : Prop), rt := fun v _ => v = .bl true } (start N [.ref a]) H) :
    codeAny (model P w) callerA (.call (.ref fa) ⟨[.ref a], []⟩) (fun r s' => r = .ok (.ret (.bool true)) ∧ OldK s₁.heap s'.heap ∧ s'.os = s₁.os ∧ AllBare s'.gens) s₁ := by
  -- over any abstract heap that tracks the script at most
  have go : ∀ H : Hp, SqL K H a (ns.map V.int) → HOk P w H s₁.heap → (∀ b u, H b = some u → b = a ∧ K.lookup a = none ∧ ∃ o ys, u = .frz o (.lst ys)) →
      codeAny (model P w) callerA (.call (.ref fa) ⟨[.ref a], []⟩) (fun r s' => r = .ok (.ret (.bool true)) ∧ OldK s₁.heap s'.heap ∧ s'.os = s₁.os ∧ AllBare s'.gens) s₁ := by
    intro H hS hok only
    have free : ∀ {b : Addr} {o : Obj}, s₁.heap.get? b = some o → (b = a → False) → H b = none := fun {b o} e n => by
      cases q : H b with
      | none => rfl
      | some u => exact (n (only b u q).1).elim
    have low : ∀ {b : Addr} {m : Str → Option Value}, s₁.heap.Ns b m → (hidT s₁.heap H).Ns b m := fun {b m} ⟨o, es, ep, e, d, r⟩ => ⟨o, es, ep, hidT_get e (free e fun z => by
      subst z
      rw [ha] at e
      cases e
      cases d), d, r⟩
    have KB : K.In (hidT s₁.heap H) := fun b o e => hidT_get (KX b o e) (by
      cases q : H b with
      | none => rfl
      | some u =>
        obtain ⟨z, n, _⟩ := only b u q
        rw [z, n] at e
        cases e)
    have e0 : Env0 P w K mg (hidT s₁.heap H) callerA [] s₁ H := ⟨rfl, ⟨KB, low hns, ⟨mb, low hb, hbb⟩, hlim.imp fun mc z => ⟨low z.1, z.2⟩⟩, fun b o e => of_hidT e, Nat.le_of_eq (hidT_size _ _), trivial, fun b z => absurd z List.not_mem_nil, hok, .of_eq hg⟩
    refine codeAny_mono (run_out (Q := fun v _ => v = .bl true) F S e0 hr (hbind s₁ (.ref a)) (vs := [.ref a]) (.cons rfl .nil) rfl fun cdv hr' => body _ H s₁ cdv KB (low hns) hS hr') fun r s' z => ?_
    match r, z with
    | .ok (.ret u), z =>
      obtain ⟨v, H', os, bare, un, ok', r', q⟩ := z
      have q' : v = .bl true := q
      subst q'
      obtain rfl : u = Value.bool true := r'
      refine ⟨rfl, OldK.of_keep fun b o e => ?_, os, bare⟩
      cases q : H b with
      | none => exact un.keep b o e q (fun y => absurd y List.not_mem_nil) (fun y => absurd y List.not_mem_nil)
      | some u =>
        obtain ⟨_, _, ob, ys, rfl⟩ := only b u q
        have y1 := (hok b _ q).1
        rw [e] at y1
        cases y1
        exact (ok' b _ (un.frzs b o _ q)).1
    | .ok .next, z => exact z.elim
    | .ok .brk, z => exact z.elim
    | .ok .cont, z => exact z.elim
    | .error _, z => exact False.elim z
  have rv := vals_ints hi
  cases hk : K.lookup a with
  | some o =>
    have e := KX a o hk
    rw [ha] at e
    cases e
    exact go (fun _ => none) (.inr ⟨_, vs.toArray, _, hk, rfl, rfl, rfl, by rw [List.size_toArray, hi.length]; exact hl, by simpa using rv⟩) (fun _ _ z => nomatch z) fun _ _ z => nomatch z
  | none =>
    have look : ∀ {b : Addr} {u : HO}, (if b = a then some (HO.frz { cls := .type "list", data := .seq vs.toArray } (.lst (ns.map V.int))) else none) = some u → b = a ∧ u = .frz { cls := .type "list", data := .seq vs.toArray } (.lst (ns.map V.int)) := fun {b u} z => by
      by_cases h : b = a
      · rw [if_pos h] at z
        exact ⟨h, (Option.some.inj z).symm⟩
      · rw [if_neg h] at z
        cases z
    refine go (fun b => if b = a then some (.frz { cls := .type "list", data := .seq vs.toArray } (.lst (ns.map V.int))) else none) (.inl (.inr ⟨_, if_pos rfl⟩)) (fun b u z => ?_) fun b u z => ⟨(look z).1, hk, _, _, (look z).2⟩
    obtain ⟨rfl, rfl⟩ := look z
    exact ⟨ha, by rw [List.length_map]; exact hl, vs, _, rv, ha⟩
end K0

set_option Elab.async false
set_option linter.all false
set_option maxRecDepth 100000
set_option maxHeartbeats 4000000
/-! The law's own body. -/
namespace K0
open PySem PySem.Spec L2
open PyProof.Rows hiding St
abbrev nLaw : List Str := ["_law_script", "_law_deck_here", "_law_one", "_law_other", "_law_near", "_law_far", "_law_made", "_law_at", "_law_error", "_law_way"]
theorem scLaw : FnScope nLaw ["_law_script"] (defScope sLaw) := ⟨rfl, rfl, rfl, by decide +kernel, rfl, by decide +kernel, by decide +kernel⟩
/-- a row of one datum, again and again -/
theorem dv_many {H : Hp} {v : V} {d : PyData} {r : Addr} {n : Nat} (h : H r = some (.lst (List.replicate n v))) (D : DV H Any v d) : DV H Any (.ref r) (.list (List.replicate n d)) :=
  .lst trivial h (by rw [List.length_replicate, List.length_replicate]) fun i a b z1 z2 => by
    have e1 := (List.mem_replicate.mp (List.mem_of_getElem? z1)).2
    have e2 := (List.mem_replicate.mp (List.mem_of_getElem? z2)).2
    rw [e1, e2]
    exact D
theorem fit22 {d : PyData} (t : Tame 3 d) : Fit (.list (List.replicate 22 d)) := fit_many t (by decide) (by decide)
theorem fit_pair {d : PyData} {n : Nat} (t : Tame 3 d) (hn : n < 6) : Fit (.tuple [.int n, d]) := by
  have e : PyData.showable (.int n) = true ∧ PyData.leavesShort 200 (.int n) = true := by
    have c6 : n = 0 ∨ n = 1 ∨ n = 2 ∨ n = 3 ∨ n = 4 ∨ n = 5 := by omega
    rcases c6 with rfl | rfl | rfl | rfl | rfl | rfl <;> decide +kernel
  have b3 : bb 3 = 1280 := rfl
  have h3 := t.dp
  have h4 := t.bk
  refine fit_of ?_ ?_ ?_ ?_
  · simp only [PyData.showable, PyData.showableAll, t.sh, Bool.and_true] at e ⊢
    exact e.1
  · simp only [PyData.leavesShort, PyData.leavesShortAll, t.lv, Bool.and_true] at e ⊢
    exact e.2
  · simp only [PyData.depth, PyData.depthAll]; omega
  · simp only [PyData.bulk, PyData.bulkAll]; omega
theorem nd_list {ds : List PyData} : ∀ kvs, PyData.list ds ≠ .dict kvs := fun _ z => nomatch z
theorem nd_tup {ds : List PyData} : ∀ kvs, PyData.tuple ds ≠ .dict kvs := fun _ z => nomatch z

/-- a row of errors, each of its own kind, by places -/
def Row (cs : Nat → Addr) (H : Hp) (l : Addr) : Prop := ∃ as : List Addr, H l = some (.lst (as.map V.ref)) ∧ as.length ≤ 28 ∧ ∀ (j : Nat) (x : Addr), as[j]? = some x → ErrAt cs H j x
section
variable {P : Program} {w : World} {K : PySem.W.Frag} {mg : Str → Option Value} {base : Heap} {cs fi : Nat → Addr} {W : Addr}
structure Lw (P : Program) (w : World) (K : PySem.W.Frag) (mg : Str → Option Value) (base : Heap) (cs : Nat → Addr) (f1 f2 f3 f4 f5 f6 f7 f8 : Addr) (d1 d2 d3 d4 d5 d6 d7 d8 : FuncData) : Prop where
  deck : Dn P w K mg base "_law_deck" 1 ["_law_script"] (spDeck K) f1 d1
  any : Dn P w K mg base "_law_any" 6 ["_law_deck_here", "_law_deep"] (spAny 4) f2 d2
  pos : Dn P w K mg base "_law_by_position" 1 ["_law_it"] (spMany cs) f3 d3
  nam : Dn P w K mg base "_law_by_name" 1 ["_law_it"] (spMany cs) f4 d4
  car : Dn P w K mg base "_law_carried" 1 ["_law_made"] (spCar cs) f5 d5
  bare : Dn P w K mg base "_law_bare" 1 [] (spBare cs) f6 d6
  own : Dn P w K mg base "_law_is_own" 2 ["_law_at", "_law_error"] (spOwn cs) f7 d7
  caught : Dn P w K mg base "_law_caught" 1 ["_law_way", "_law_it"] spCaught f8 d8
  rep : mg "repr" = none
  enu : mg "enumerate" = none
theorem law_body {f1 f2 f3 f4 f5 f6 f7 f8 fa a : Addr} {d1 d2 d3 d4 d5 d6 d7 d8 : FuncData} {ns : List Int} {H : Hp} {s : Shared} {cdv : Value} (B : Bi mg) (L : Lw P w K mg base cs f1 f2 f3 f4 f5 f6 f7 f8 d1 d2 d3 d4 d5 d6 d7 d8)
    (hS : SqL K H a (ns.map V.int)) (hr : Room 6 (callerA.deeper (envOfC "law" (defScope sLaw) s.heap.objs.size fa cdv))) :
    ∃ t, PSs (cxOf CX0 P w K mg base nLaw "law" (defScope sLaw) fa cdv callerA [] s H (fun _ _ _ => False)).nox (defBody sLaw) t ∧ t { nx := fun _ H' => (V.non = .bl true : Prop), rt := fun v _ => v = .bl true } (start nLaw [.ref a]) H := by
  have hu : callerA.units + 3 + 64 < cLine := by decide +kernel
  have hg : (callerA.deeper (envOfC "law" (defScope sLaw) s.heap.objs.size fa cdv)).guards = some [] := rfl
  have r1 : Room 1 (callerA.deeper (envOfC "law" (defScope sLaw) s.heap.objs.size fa cdv)) := hr.mono (by decide)
  have r2 : Room 2 (callerA.deeper (envOfC "law" (defScope sLaw) s.heap.objs.size fa cdv)) := hr.mono (by decide)
  refine ⟨_, pss_cons (ps_set (i := 1) scLaw.nd rfl (.inl rfl) (pe_call L.deck.ok r1 rfl L.deck.g L.deck.kp L.deck.b .nil pass0 (pa_cons (pv 0) pa_nil)))
    <| pss_cons (ps_par (i := 2) (j := 3) rfl scLaw.nd rfl rfl (by decide) rfl rfl (pa_cons (pe_call L.any.ok hr rfl L.any.g L.any.kp L.any.b .nil pass0 (pa_cons (pv 1) (pa_cons pe_int pa_nil)))
        (pa_cons (pe_tup (pa_cons (pe_call L.any.ok hr rfl L.any.g L.any.kp L.any.b .nil pass0 (pa_cons (pv 1) (pa_cons pe_int pa_nil))) pa_nil)) pa_nil)) (by rfl))
    <| pss_cons (ps_par (i := 4) (j := 5) rfl scLaw.nd rfl rfl (by decide) rfl rfl (pa_cons (pe_call L.pos.ok r1 rfl L.pos.g L.pos.kp L.pos.b .nil pass0 (pa_cons (pv 2) pa_nil)) (pa_cons (pe_call L.nam.ok r1 rfl L.nam.g L.nam.kp L.nam.b .nil pass0 (pa_cons (pv 3) pa_nil)) pa_nil)) (by rfl))
    <| pss_cons (ps_if (PW.pt (pw_or (pt_cmpR op_ne (pe_callB (call_repr hg hu) (by rfl) L.rep (by decide +kernel) (pa_cons (pe_call L.car.ok r1 rfl L.car.g L.car.kp L.car.b .nil pass0 (pa_cons (pv 4) pa_nil)) pa_nil))
            (pe_callB (call_repr hg hu) (by rfl) L.rep (by decide +kernel) (pa_cons (pe_op op_rep (pe_lst (pa_cons (pv 2) pa_nil)) pe_int) pa_nil)) (nomark _))
          (pw_or1 (pt_cmpR op_ne (pe_callB (call_repr hg hu) (by rfl) L.rep (by decide +kernel) (pa_cons (pe_call L.car.ok r1 rfl L.car.g L.car.kp L.car.b .nil pass0 (pa_cons (pv 5) pa_nil)) pa_nil))
            (pe_callB (call_repr hg hu) (by rfl) L.rep (by decide +kernel) (pa_cons (pe_op op_rep (pe_lst (pa_cons (pv 3) pa_nil)) pe_int) pa_nil)) (nomark _))))) (pss_one (ps_ret pe_bl)) pss_nil)
    <| pss_cons (ps_for PassesOwn.never rfl (pi_tup (pe_tup (pa_cons (pe_op op_cat (pv 4) (pe_call0 L.bare.ok r1 (by rfl) L.bare.g L.bare.kp L.bare.b .nil pass0)) (pa_cons (pv 5) pa_nil)))) (pg_name (i := 6) scLaw.nd rfl (.inl rfl))
        (pss_one (ps_for PassesOwn.never rfl (pi_enum (by rfl) L.enu (pa_cons (pv 6) pa_nil)) (pg_tup rfl (pgs_cons (pg_name (i := 7) scLaw.nd rfl (.inl rfl)) (pgs_cons (pg_name (i := 8) scLaw.nd rfl (.inl rfl)) pgs_nil)))
          (pss_one (ps_if (pt_not (pt_val (pe_call L.own.ok r2 rfl L.own.g L.own.kp L.own.b .nil pass0 (pa_cons (pv 7) (pa_cons (pv 8) pa_nil))))) (pss_one (ps_ret pe_bl)) pss_nil)))))
    <| pss_cons (ps_for PassesOwn.never rfl (pi_range1 rfl B.range (pa_cons pe_int pa_nil)) (pg_name (i := 9) scLaw.nd rfl (.inl rfl))
        (pss_one (ps_if (pt_cmpR op_ne (pe_callB (call_repr hg hu) (by rfl) L.rep (by decide +kernel) (pa_cons (pe_call L.caught.ok r1 rfl L.caught.g L.caught.kp L.caught.b .nil pass0 (pa_cons (pv 9) (pa_cons (pv 2) pa_nil))) pa_nil))
            (pe_callB (call_repr hg hu) (by rfl) L.rep (by decide +kernel) (pa_cons (pe_tup (pa_cons (pv 9) (pa_cons (pv 2) pa_nil))) pa_nil)) (nomark _)) (pss_one (ps_ret pe_bl)) pss_nil)))
    <| pss_one (ps_ret pe_bl), ?_⟩
  have sz : ∀ {n : Nat}, n ≤ 100 → n ≤ sizeLine := fun h => by rw [sizeLine_eq]; omega
  refine ⟨_, rfl, a, ns, rfl, hS, fun p c H1 D1 s1 hp hc => ?_⟩
  refine ⟨_, rfl, p, c, 3, rfl, by decide, D1, fun v1 e1 H2 t1 dv1 D2 K2 => ?_⟩
  refine ⟨_, rfl, p, c, 2, rfl, by decide, D2, fun v2 e2 H3 t2 dv2 D3 K3 => ⟨sz (by simp), fun t ht => ⟨_, _, rfl, ?_⟩⟩⟩
  -- what is known of the two values
  generalize hH4 : upd H3 t (.tup [v2]) = H4
  have ut : H4 t = some (.tup [v2]) := by rw [← hH4]; exact upd_same
  have s34 : Same H3 H4 := by rw [← hH4]; exact sm_new ht
  have A1 : DV H4 Any v1 e1 := dv1.mono fun b o z q => ⟨trivial, s34 _ _ (K3 b o (D1.inp z).1 (D1.inp z).2 q)⟩
  have A2 : DV H4 Any v2 e2 := dv2.mono fun b o z q => ⟨trivial, s34 _ _ q⟩
  have A3 : DV H4 Any (.ref t) (.tuple [e2]) := .tup trivial ut rfl fun i x y z1 z2 => by
    match i, z1, z2 with
    | 0, z1, z2 =>
      cases z1
      cases z2
      exact A2
    | i + 1, z1, z2 => simp at z1
  have T3 : Tame 3 (.tuple [e2]) := tame_tuple (k := 2) (fun d z => by rw [List.mem_singleton.mp z]; exact t2) (by show 1 ≤ 3; decide)
  refine ⟨_, rfl, v1, rfl, fun l1 b1 H5 q1 n1 s5 g1 => ⟨_, rfl, _, rfl, fun l2 b2 H6 q2 n2 s6 g2 => ⟨_, _, rfl, ?_⟩⟩⟩
  have s46 := s5.trans s6
  refine ⟨_, rfl, l1, b1, v1, rfl, s6 _ _ q1, n1, fun i x z => (g1 i x z).same s6, fun r3 H7 er3 s7 => ?_⟩
  refine ⟨r3, _, rfl, dv_many er3 (A1.same (s46.trans s7)), fit22 t1, nd_list, ?_⟩
  refine ⟨_, rfl, sz (by simp), fun x3 hx3 => ⟨x3, _, _, rfl, rfl, upd_same, by decide, by decide, sz (by simp), fun y3 hy3 => ?_⟩⟩
  have s8 := (s7.trans (sm_new (o := .lst [v1]) hx3)).trans (sm_new (o := .lst (List.replicate (22 : Int).toNat [v1]).flatten) hy3)
  refine ⟨y3, _, rfl, dv_many (n := 22) (v := v1) upd_same (A1.same (s46.trans s8)), fit22 t1, nd_list, rfl, _, rfl, iteNS rfl ?_⟩
  refine ⟨_, rfl, l2, b2, .ref t, rfl, s8 _ _ q2, n2, fun i x z => (g2 i x z).same s8, fun r4 H8 er4 s9 => ?_⟩
  have s68 := s8.trans s9
  refine ⟨r4, _, rfl, dv_many er4 (A3.same (s46.trans s68)), fit22 T3, nd_list, ?_⟩
  refine ⟨_, rfl, sz (by simp), fun x4 hx4 => ⟨x4, _, _, rfl, rfl, upd_same, by decide, by decide, sz (by simp), fun y4 hy4 => ?_⟩⟩
  have s10 := (s68.trans (sm_new (o := .lst [V.ref t]) hx4)).trans (sm_new (o := .lst (List.replicate (22 : Int).toNat [V.ref t]).flatten) hy4)
  refine ⟨y4, _, rfl, dv_many (n := 22) (v := .ref t) upd_same (A3.same (s46.trans s10)), fit22 T3, nd_list, rfl, _, rfl, iteNS rfl ?_⟩
  -- all that was made, from here on
  refine ⟨_, rfl, rfl, fun l3 b3 H9 q3 n3 s11 g3 => ?_⟩
  have s69 := s10.trans s11
  refine ⟨l1, l3, _, _, rfl, rfl, s69 _ _ (s6 _ _ q1), q3, by rw [List.length_map, List.length_map, n1, n3]; exact sz (by decide), fun l4 hl4 => ⟨_, rfl, sz (by simp), fun tt htt => ?_⟩⟩
  have hl5 : (upd H9 l4 (.lst (b1.map V.ref ++ b3.map V.ref))) tt = none := htt
  generalize hHT : upd (upd H9 l4 (.lst (b1.map V.ref ++ b3.map V.ref))) tt (.tup [V.ref l4, V.ref l2]) = HT
  have sT : Same H9 HT := by rw [← hHT]; exact (sm_new hl4).trans (sm_new htt)
  have uT : HT tt = some (.tup [V.ref l4, V.ref l2]) := by rw [← hHT]; exact upd_same
  have u4 : HT l4 = some (.lst (b1.map V.ref ++ b3.map V.ref)) := by rw [← hHT, upd_ne (ne_of_none upd_same htt)]; exact upd_same
  have s6T := s69.trans sT
  -- both rows of errors
  have rowA : Row cs HT l4 := ⟨b1 ++ b3, by rw [u4, List.map_append], by rw [List.length_append, n1, n3]; decide, fun j x z => by
    by_cases hj : j < b1.length
    · rw [List.getElem?_append_left hj] at z
      exact (g1 j x z).at.same (s6.trans s6T)
    · rw [List.getElem?_append_right (by omega), n1] at z
      have e := (g3 _ x z).same sT
      rw [show 22 + (j - 22) = j by omega] at e
      exact e⟩
  have rowB : Row cs HT l2 := ⟨b2, s6T _ _ q2, by rw [n2]; decide, fun j x z => (g2 j x z).at.same s6T⟩
  refine ⟨tt, rfl, ⟨_, SqT.of uT⟩, for_tup (xs := [.ref l4, .ref l2]) (fun i σ M => ∃ (o6 o7 o8 : Option V), σ = [some (.ref a), some (.ref p), some v1, some (.ref t), some (.ref l1), some (.ref l2), o6, o7, o8, none] ∧ Same HT M)
    ⟨none, none, none, rfl, Same.refl HT⟩ (fun i σ M _ ⟨_, _, _, _, s⟩ => SqT.of (s _ _ uT)) ?_ ?_⟩
  · rintro i x σ M hi ⟨o6, o7, o8, rfl, sM⟩
    obtain ⟨l, rfl, R⟩ : ∃ l, x = .ref l ∧ Row cs HT l := by
      match i, hi with
      | 0, hi => cases hi; exact ⟨l4, rfl, rowA⟩
      | 1, hi => cases hi; exact ⟨l2, rfl, rowB⟩
      | i + 2, hi => simp at hi
    obtain ⟨as, ul, n28, g⟩ := R
    refine ⟨_, rfl, l, _, rfl, SqL.of (sM _ _ ul), for_it (walk_enum (xs := as.map V.ref)) (fun i σ M => ∃ (o7 o8 : Option V), σ = [some (.ref a), some (.ref p), some v1, some (.ref t), some (.ref l1), some (.ref l2), some (.ref l), o7, o8, none] ∧ Same HT M)
      ⟨o7, o8, rfl, sM⟩ (fun i σ M _ ⟨_, _, _, s⟩ => SqL.of (s _ _ ul)) ?_ ?_⟩
    · rintro j x σ M M' hj ⟨o7, o8, rfl, sM⟩ ⟨T, y, z, rfl, hT, rfl, e7, e8⟩
      cases e7
      obtain ⟨b, rfl, eb⟩ : ∃ b, z = .ref b ∧ as[j]? = some b := by
        have e9 : (as.map V.ref)[j]? = some z := e8
        rw [List.getElem?_map] at e9
        cases e : as[j]? with
        | none => rw [e] at e9; cases e9
        | some b => rw [e] at e9; exact ⟨b, (Option.some.inj e9).symm, rfl⟩
      have sM' := sM.trans (sm_new (o := .tup [V.int (j : Nat), V.ref b]) hT)
      have j28 : j < 28 := by rw [List.length_map] at hj; omega
      refine ⟨T, _, rfl, SqT.of upd_same, rfl, _, _, rfl, _, _, rfl, rfl, ?_⟩
      refine ⟨_, rfl, _, rfl, b, j, rfl, j28, (g j b eb).same sM', fun M2 s2 => ⟨_, rfl, ?_⟩⟩
      refine iteF ?_
      exact ⟨_, _, rfl, sM'.trans s2⟩
    · rintro σ M ⟨o7, o8, rfl, sM⟩
      exact ⟨_, _, _, rfl, sM⟩
  · rintro σ M ⟨o6, o7, o8, rfl, sM⟩
    have s4T := (s46.trans s6T).trans sM
    refine ⟨6, rfl, by decide, by decide, for_range (n := 6) (fun i σ N => ∃ (o6 o7 o8 o9 : Option V), σ = [some (.ref a), some (.ref p), some v1, some (.ref t), some (.ref l1), some (.ref l2), o6, o7, o8, o9] ∧ Same M N) ⟨o6, o7, o8, none, rfl, Same.refl M⟩ ?_ ?_⟩
    · rintro i σ N hi ⟨o6, o7, o8, o9, rfl, sN⟩
      rw [show (0 : Int) + (i : Nat) = (i : Nat) from Int.zero_add _]
      refine ⟨_, rfl, _, rfl, i, v1, rfl, hi, fun u N2 hu s2 => ?_⟩
      have pr : ∀ {N' : Hp} {u : Addr}, N' u = some (.tup [V.int (i : Nat), v1]) → Same M N' → DV N' Any (.ref u) (.tuple [.int (i : Nat), e1]) := fun h s => .tup trivial h rfl fun j x y z1 z2 => by
        match j, z1, z2 with
        | 0, z1, z2 => cases z1; cases z2; exact .int _
        | 1, z1, z2 => cases z1; cases z2; exact A1.same (s4T.trans s)
        | j + 2, z1, z2 => simp at z1
      refine ⟨u, _, rfl, pr hu (sN.trans s2), fit_pair t1 hi, nd_tup, ?_⟩
      refine ⟨_, rfl, _, rfl, sz (by simp), fun u2 hu2 => ⟨u2, _, rfl, pr upd_same ((sN.trans s2).trans (sm_new hu2)), fit_pair t1 hi, nd_tup, rfl, _, rfl, iteNS rfl ?_⟩⟩
      exact ⟨_, _, _, _, rfl, (sN.trans s2).trans (sm_new hu2)⟩
    · rintro σ N ⟨o6, o7, o8, o9, rfl, sN⟩
      exact rfl
end
end K0

set_option Elab.async false
set_option linter.all false
set_option maxRecDepth 100000
set_option maxHeartbeats 4000000
/-! What the top has written, read by checks. -/
namespace K0
open PySem PySem.Spec L2
open PyProof.Rows hiding St
open PySem.W (Frag)

def clsB (P : Program) (K : Frag) (C : Addr) : Bool :=
  (PySem.W.excInitIn K C PySem.EX.tailE "Exception.__new__" && PySem.W.excOver K C PySem.EX.tailE && decide (PySem.W.findIn K (.ref C) "__setattr__" = some (some (.builtin "object.__setattr__"))) && PySem.W.hasDictIn K C &&
    decide (PySem.W.ks_superIn K C C "__init__" = some (some (.builtin "Exception.__init__"))) && decide (PySem.W.subIn K (.ref C) (.type "Exception") = some true) && decide (PySem.W.mroIn K C (.ref C) = some true) && PySem.W.keepIn K (.ref C)) &&
  (decide (PySem.W.findIn K (.ref C) "__getattribute__" = some (some (.builtin "BaseException.__getattribute__"))) && decide (PySem.W.findIn K (.ref C) "__getattr__" = some none) && decide (PySem.W.subIn K (.ref C) (.type "BaseException") = some true) &&
    decide (PySem.W.typeIn K (.ref C) = some (.type "type")) && decide (PySem.W.findIn K (.ref C) "__class__" = some (some (.builtin "object.__class__"))) && decide (PySem.W.mroIn K C (.type "object") = some true))
theorem er_mk {P : Program} {K : Frag} {C : Addr} (h : clsB P K C = true) (op : PySem.W.nsIn K cStatics "thirdparty.any" = some none) (file : (P.main.scope.names.lookup ("super" : Str)).isSome = false)
    (hn : PySem.W.specialIn K (.builtin "object.__class__") "__get__" = some (some (.builtin "getset_descriptor.__get__"))) (ht : PySem.W.takesIn K (.builtin "object.__class__") = some true) : ErrC P K C := by
  unfold clsB at h
  simp only [Bool.and_eq_true, decide_eq_true_eq] at h
  obtain ⟨⟨⟨⟨⟨⟨⟨⟨h1, h2⟩, h3⟩, h4⟩, h5⟩, h6⟩, h7⟩, h8⟩, ⟨⟨⟨⟨g1, g2⟩, g3⟩, g4⟩, g5⟩, g6⟩ := h
  exact ⟨⟨h1, h2, h3, h4, h5, h6, h7, op, h8, file⟩, g1, g2, g3, g4, g5, hn, ht, g6⟩

def codeB (P : Program) (K : Frag) (cda : Addr) : Bool := match K.lookup cda with
  | some ⟨_, _, .fields vs, _⟩ => (match (vs[2]? : Option Value) with | some (Value.str file _) => ((P.main.file : Str) == file) | _ => false)
  | _ => false
def cellB (K : Frag) (cc C : Addr) : Bool := match K.lookup cc with
  | some ⟨_, _, .cell (some (.ref D)), _⟩ => D == C
  | _ => false
theorem code_mk {P : Program} {K : Frag} {cda : Addr} (h : codeB P K cda = true) : ∃ ccl cdd vs ccs file tf, K.lookup cda = some ⟨ccl, cdd, .fields vs, ccs⟩ ∧ vs[2]? = some (.str file tf) ∧ ((P.main.file : Str) == file) = true := by
  unfold codeB at h
  split at h
  · rename_i a b vs c e
    split at h
    · rename_i file tf e2
      exact ⟨a, b, vs, c, file, tf, e, e2, h⟩
    · cases h
  · cases h
theorem cell_mk {K : Frag} {cc C : Addr} (h : cellB K cc C = true) : ∃ cl cld csl, K.lookup cc = some ⟨cl, cld, .cell (some (.ref C)), csl⟩ := by
  unfold cellB at h
  split at h
  · rename_i a b D c e
    obtain rfl : D = C := by simpa using h
    exact ⟨a, b, c, e⟩
  · cases h
def fnB (P : Program) (K : Frag) (C fI cda cc : Addr) (qual : Str) (fs : List Str) : Bool :=
  decide (PySem.W.findIn K (.ref C) "__init__" = some (some (.ref fI))) && decide (PySem.W.typeIn K (.ref fI) = some (.type "function")) && fs.all (fun f => decide (PySem.W.findIn K (.ref C) f = some none)) && PySem.W.codeIn K (.ref cda) qual && codeB P K cda && cellB K cc C
theorem f1_mk {P : Program} {K : Frag} {C fI cda cc : Addr} {f qual txt : Str} {oc doc pm ct : Value} {od an : Option Addr} {osl : Array (Option Value)} {p1 p2 q1 q2 q3 q4 q5 q6 r1 r2 r3 r4 : Pos}
    (l : K.lookup fI = some ⟨oc, od, .func (PySem.W.ksFn "__init__" qual (PySem.EX.aA f p1 p2) [PySem.EX.sSay txt 0 q1 q2 q3 q4 q5 q6, PySem.EX.sKeep f r1 r2 r3 r4] (PySem.EX.scp (PySem.EX.ns1 f)) .none .none doc pm an (.ref cda) ct cc), osl⟩)
    (b : fnB P K C fI cda cc qual [f] = true) (hp : (q3.endLine == q5.line) = true) : PySem.EX.Fn1 P K C fI f := by
  unfold fnB at b
  simp only [Bool.and_eq_true, decide_eq_true_eq, List.all_cons, List.all_nil, and_true] at b
  obtain ⟨⟨⟨⟨⟨h1, h2⟩, h3⟩, h4⟩, h5⟩, h6⟩ := b
  exact ⟨h1, h2, h3, oc, od, qual, txt, doc, pm, an, cda, ct, osl, cc, p1, p2, q1, q2, q3, q4, q5, q6, r1, r2, r3, r4, l, h4, hp, code_mk h5, cell_mk h6⟩
theorem f0_mk {P : Program} {K : Frag} {C fI cda cc : Addr} {qual txt : Str} {oc doc pm ct : Value} {od an : Option Addr} {osl : Array (Option Value)} {p1 q1 q2 q3 q4 q5 q6 : Pos}
    (l : K.lookup fI = some ⟨oc, od, .func (PySem.W.ksFn "__init__" qual (PySem.EX.aA0 p1) [PySem.EX.sSay txt 0 q1 q2 q3 q4 q5 q6] (PySem.EX.scp PySem.EX.ns0) .none .none doc pm an (.ref cda) ct cc), osl⟩)
    (b : fnB P K C fI cda cc qual [] = true) (hp : (q3.endLine == q5.line) = true) : PySem.EX.Fn0 P K C fI := by
  unfold fnB at b
  simp only [Bool.and_eq_true, decide_eq_true_eq, List.all_nil, and_true] at b
  obtain ⟨⟨⟨⟨h1, h2⟩, h4⟩, h5⟩, h6⟩ := b
  exact ⟨h1, h2, oc, od, qual, txt, doc, pm, an, cda, ct, osl, cc, p1, q1, q2, q3, q4, q5, q6, l, h4, hp, code_mk h5, cell_mk h6⟩

/-- how the kinds lie to one another -/
def tabB (K : Frag) (cs : List Addr) (W : Addr) : Bool :=
  (List.range 28).all fun i => (List.range 28).all (fun j => decide (PySem.W.kitOne K (.ref (cs.getD i 0)) (.ref (cs.getD j 0)) = some (decide (i = j))) && decide (PySem.W.subIn K (.ref (cs.getD i 0)) (.ref (cs.getD j 0)) = some (decide (i = j)))) &&
    decide (PySem.W.subIn K (.ref (cs.getD i 0)) (.ref W) = some true) && decide (PySem.W.kitOne K (.ref (cs.getD i 0)) (.ref W) = some true) && decide (PySem.W.kitOne K (.ref (cs.getD i 0)) (.type "Exception") = some true) &&
    decide (PySem.W.kitAny K (.ref (cs.getD i 0)) [.type "ValueError", .type "TypeError", .type "LookupError", .type "ArithmeticError", .type "RuntimeError", .type "AttributeError"] = some false)
structure Tab (K : Frag) (cs : List Addr) (W : Addr) : Prop where
  kit : ∀ i j, i < 28 → j < 28 → PySem.W.kitOne K (.ref (cs.getD i 0)) (.ref (cs.getD j 0)) = some (decide (i = j))
  sb : ∀ i j, i < 28 → j < 28 → PySem.W.subIn K (.ref (cs.getD i 0)) (.ref (cs.getD j 0)) = some (decide (i = j))
  sw : ∀ i, i < 28 → PySem.W.subIn K (.ref (cs.getD i 0)) (.ref W) = some true
  kw : ∀ i, i < 28 → PySem.W.kitOne K (.ref (cs.getD i 0)) (.ref W) = some true
  kx : ∀ i, i < 28 → PySem.W.kitOne K (.ref (cs.getD i 0)) (.type "Exception") = some true
  kn : ∀ i, i < 28 → PySem.W.kitAny K (.ref (cs.getD i 0)) [.type "ValueError", .type "TypeError", .type "LookupError", .type "ArithmeticError", .type "RuntimeError", .type "AttributeError"] = some false
theorem tab_mk {K : Frag} {cs : List Addr} {W : Addr} (h : tabB K cs W = true) : Tab K cs W := by
  unfold tabB at h
  simp only [List.all_eq_true, List.mem_range, Bool.and_eq_true, decide_eq_true_eq] at h
  exact ⟨fun i j hi hj => ((h i hi).1.1.1.1 j hj).1, fun i j hi hj => ((h i hi).1.1.1.1 j hj).2, fun i hi => (h i hi).1.1.1.2, fun i hi => (h i hi).1.1.2, fun i hi => (h i hi).1.2, fun i hi => (h i hi).2⟩

/-- the law's row, from what the top has written -/
theorem walk_out {l : PySem.W.OpenLaw} {q : Program} {loose : List Str} {XP : (Str → Option Value) → Heap → Prop} {YP : World → Heap → Prop} {d : DefRec} {K : Params → Frag} (hn : l.most = some 63) (hdf : d.params.defaults = []) (hY : ∀ (w : World) (h : Heap), YP w h → (K w.params).In h)
    (F : ∀ (w : World) (mg : Str → Option Value) (fa : Addr) (h : Heap), (K w.params).In h → h.Ns mainGlobals mg → mg d.name = some (.ref fa) →
      ∃ fd : FuncData, Fun (K w.params) "law" "law" sLaw fa fd ∧ (∀ (s : Shared) (u : Value), BindsTo s fd ⟨[u], []⟩ [("_law_script", u)]) ∧ ∀ base : Heap, (K w.params).In base → base.Ns mainGlobals mg →
        Bi mg ∧ ∃ (cs : Nat → Addr) (f1 f2 f3 f4 f5 f6 f7 f8 : Addr) (d1 d2 d3 d4 d5 d6 d7 d8 : FuncData), Lw l.prog w (K w.params) mg base cs f1 f2 f3 f4 f5 f6 f7 f8 d1 d2 d3 d4 d5 d6 d7 d8) :
    PySem.W.WalkO q loose XP YP l.row.toRowW d [] (fun f vs => PySem.call f vs) := by
  refine Att.attach_call hn hdf fun w s₀ s₁ mg mb fa o pm cd doc a vs ns G Y ho hd hcd hmg hobj hints hlen hg => ?_
  have KX := hY w _ Y
  obtain ⟨fd, FL, hb, rest⟩ := F w mg fa _ KX G.T.g hmg
  refine law_out (k := 6) FL scLaw KX G.T.g G.T.b G.T.builtins G.T.nolimit hg hobj hints (Nat.le_trans hlen (by rw [sizeLine_eq]; decide)) ⟨rfl, by decide, by decide⟩ hb fun base H s cdv KB GB hS hr => ?_
  obtain ⟨B, cs, f1, f2, f3, f4, f5, f6, f7, f8, d1, d2, d3, d4, d5, d6, d7, d8, L⟩ := rest base KB GB
  exact law_body B L hS hr
end K0

set_option Elab.async false
set_option linter.all false
set_option maxRecDepth 100000
set_option maxHeartbeats 4000000
/-! All that the top has written, put together. -/
namespace K0
open PySem PySem.Spec L2
open PyProof.Rows hiding St
open PySem.W (Frag)

/-- a kind of error with a field, as the top has written it -/
def Cl1 (P : Program) (K : Frag) (mg : Str → Option Value) (nm : Str) (C fI : Addr) (f : Str) : Prop := mg nm = some (.ref C) ∧ clsB P K C = true ∧ PySem.EX.Fn1 P K C fI f
/-- .. without one -/
def Cl0 (P : Program) (K : Frag) (mg : Str → Option Value) (nm : Str) (C fI : Addr) : Prop := mg nm = some (.ref C) ∧ clsB P K C = true ∧ PySem.EX.Fn0 P K C fI
/-- a def of the row -/
def Df (K : Frag) (mg : Str → Option Value) (n : Str) (st : Stmt) (f : Addr) (fd : FuncData) : Prop := mg n = some (.ref f) ∧ PySem.W.keepIn K (.ref f) = true ∧ Fun K n n st f fd
theorem cl1_mk {P : Program} {K : Frag} {h : Heap} {mg : Str → Option Value} {nm : Str} {C fI cda cc : Addr} {f qual txt : Str} {oc doc pm ct : Value} {od an : Option Addr} {osl : Array (Option Value)} {p1 p2 q1 q2 q3 q4 q5 q6 r1 r2 r3 r4 : Pos} (X : K.In h) (G : h.Ns mainGlobals mg)
    (a : PySem.W.nsIn K mainGlobals nm = some (some (.ref C))) (i : PySem.W.findIn K (.ref C) "__init__" = some (some (.ref fI)))
    (l : K.lookup fI = some ⟨oc, od, .func (PySem.W.ksFn "__init__" qual (PySem.EX.aA f p1 p2) [PySem.EX.sSay txt 0 q1 q2 q3 q4 q5 q6, PySem.EX.sKeep f r1 r2 r3 r4] (PySem.EX.scp (PySem.EX.ns1 f)) .none .none doc pm an (.ref cda) ct cc), osl⟩)
    (b : fnB P K C fI cda cc qual [f] = true) (hp : (q3.endLine == q5.line) = true) (z : clsB P K C = true) : Cl1 P K mg nm C fI f := ⟨PySem.W.mg_of X G a, z, f1_mk l b hp⟩
theorem cl0_mk {P : Program} {K : Frag} {h : Heap} {mg : Str → Option Value} {nm : Str} {C fI cda cc : Addr} {qual txt : Str} {oc doc pm ct : Value} {od an : Option Addr} {osl : Array (Option Value)} {p1 q1 q2 q3 q4 q5 q6 : Pos} (X : K.In h) (G : h.Ns mainGlobals mg)
    (a : PySem.W.nsIn K mainGlobals nm = some (some (.ref C))) (i : PySem.W.findIn K (.ref C) "__init__" = some (some (.ref fI)))
    (l : K.lookup fI = some ⟨oc, od, .func (PySem.W.ksFn "__init__" qual (PySem.EX.aA0 p1) [PySem.EX.sSay txt 0 q1 q2 q3 q4 q5 q6] (PySem.EX.scp PySem.EX.ns0) .none .none doc pm an (.ref cda) ct cc), osl⟩)
    (b : fnB P K C fI cda cc qual [] = true) (hp : (q3.endLine == q5.line) = true) (z : clsB P K C = true) : Cl0 P K mg nm C fI := ⟨PySem.W.mg_of X G a, z, f0_mk l b hp⟩
theorem df_mk {K : Frag} {h : Heap} {mg : Str → Option Value} {n : Str} {st : Stmt} {f : Addr} {oc : Value} {od an : Option Addr} {osl : Array (Option Value)} {kV doc pm cdv ct : Value} (X : K.In h) (G : h.Ns mainGlobals mg)
    (a : PySem.W.nsIn K mainGlobals n = some (some (.ref f))) (l : K.lookup f = some ⟨oc, od, .func (PySem.W.fnOf n n (defArgs st) (defBody st) (defScope st) .none kV doc pm an cdv ct), osl⟩)
    (c : PySem.W.codeIn K cdv n = true) (k : PySem.W.keepIn K (.ref f) = true) : Df K mg n st f (PySem.W.fnOf n n (defArgs st) (defBody st) (defScope st) .none kV doc pm an cdv ct) := ⟨PySem.W.mg_of X G a, k, fun_mk l c k⟩

/-- the names that are nobody's own -/
def free : List Str := ["int", "max", "len", "list", "range", "tuple", "repr", "enumerate", "isinstance", "super", "Exception", "ValueError", "TypeError", "LookupError", "ArithmeticError", "RuntimeError", "AttributeError"]
def freeB (K : Frag) : Bool := free.all fun x => decide (PySem.W.nsIn K mainGlobals x = some none)
theorem free_mk {K : Frag} {h : Heap} {mg : Str → Option Value} (X : K.In h) (G : h.Ns mainGlobals mg) (e : freeB K = true) : ∀ x ∈ free, mg x = none := fun x hx => PySem.W.mg_none_of X G (of_decide_eq_true (List.all_eq_true.mp e x hx))
theorem all_mk {P : Program} {w : World} {K : Frag} {h : Heap} {mg : Str → Option Value} {fa : Addr} (X : K.In h) (G : h.Ns mainGlobals mg) (hfa : mg "law" = some (.ref fa))
    {C0 C1 C2 C3 C4 C5 C6 C7 C8 C9 C10 C11 C12 C13 C14 C15 C16 C17 C18 C19 C20 C21 C22 C23 C24 C25 C26 C27 W : Addr} {F0 F1 F2 F3 F4 F5 F6 F7 F8 F9 F10 F11 F12 F13 F14 F15 F16 F17 F18 F19 F20 F21 F22 F23 F24 F25 F26 F27 : Addr}
    {f0 f1 f2 f3 f4 f5 f6 f7 f8 f9 f10 f11 : Addr} {kV doc pm cdv ct oc : Value} {od an : Option Addr} {osl : Array (Option Value)} {d0 d1 d2 d3 d4 d5 d6 d7 d8 d9 d10 : FuncData}
    (e0 : Cl1 P K mg "BadWeb" C0 F0 "thing")
    (e1 : Cl1 P K mg "BadLot" C1 F1 "thing")
    (e2 : Cl1 P K mg "BadTie" C2 F2 "number")
    (e3 : Cl1 P K mg "BadRenaming" C3 F3 "thing")
    (e4 : Cl1 P K mg "BadText" C4 F4 "at")
    (e5 : Cl1 P K mg "NotTight" C5 F5 "pairing")
    (e6 : Cl1 P K mg "BadPairing" C6 F6 "thing")
    (e7 : Cl1 P K mg "BadPlace" C7 F7 "thing")
    (e8 : Cl1 P K mg "BadPaper" C8 F8 "thing")
    (e9 : Cl1 P K mg "BadTaking" C9 F9 "thing")
    (e10 : Cl1 P K mg "BadLots" C10 F10 "thing")
    (e11 : Cl1 P K mg "BadWebs" C11 F11 "thing")
    (e12 : Cl1 P K mg "BadTerms" C12 F12 "thing")
    (e13 : Cl1 P K mg "BadWeights" C13 F13 "thing")
    (e14 : Cl1 P K mg "BadHalf" C14 F14 "thing")
    (e15 : Cl1 P K mg "NotCritical" C15 F15 "certificate")
    (e16 : Cl1 P K mg "BadNumber" C16 F16 "thing")
    (e17 : Cl1 P K mg "BadRow" C17 F17 "thing")
    (e18 : Cl1 P K mg "BadRing" C18 F18 "thing")
    (e19 : Cl1 P K mg "NotCovered" C19 F19 "certificate")
    (e20 : Cl1 P K mg "BadChange" C20 F20 "at")
    (e21 : Cl1 P K mg "NoBunch" C21 F21 "place")
    (e22 : Cl0 P K mg "NoPairing" C22 F22)
    (e23 : Cl0 P K mg "Full" C23 F23)
    (e24 : Cl0 P K mg "Held" C24 F24)
    (e25 : Cl0 P K mg "NothingHeld" C25 F25)
    (e26 : Cl0 P K mg "NothingToUndo" C26 F26)
    (e27 : Cl0 P K mg "NothingToRedo" C27 F27)
    (aW : PySem.W.nsIn K mainGlobals "WebError" = some (some (.ref W))) (wB : PySem.W.subIn K (.ref W) (.type "BaseException") = some true) (wd : PySem.W.hasDictIn K W = true) (wt : PySem.W.typeIn K (.ref W) = some (.type "type"))
    (tab : tabB K [C0, C1, C2, C3, C4, C5, C6, C7, C8, C9, C10, C11, C12, C13, C14, C15, C16, C17, C18, C19, C20, C21, C22, C23, C24, C25, C26, C27] W = true) (op : PySem.W.nsIn K cStatics "thirdparty.any" = some none) (hn : PySem.W.specialIn K (.builtin "object.__class__") "__get__" = some (some (.builtin "getset_descriptor.__get__"))) (ht : PySem.W.takesIn K (.builtin "object.__class__") = some true)
    (file : (P.main.scope.names.lookup ("super" : Str)).isSome = false) (fr : freeB K = true)
    (g0 : Df K mg "_law_deck" sDeck f0 d0)
    (g1 : Df K mg "_law_draw" sDraw f1 d1)
    (g2 : Df K mg "_law_pick" sPick f2 d2)
    (g3 : Df K mg "_law_any" sAny f3 d3)
    (g4 : Df K mg "_law_by_position" sPos f4 d4)
    (g5 : Df K mg "_law_by_name" sNam f5 d5)
    (g6 : Df K mg "_law_carried" sCar f6 d6)
    (g7 : Df K mg "_law_bare" sBare f7 d7)
    (g8 : Df K mg "_law_kinds" sKinds f8 d8)
    (g9 : Df K mg "_law_is_own" sOwn f9 d9)
    (g10 : Df K mg "_law_caught" sCaught f10 d10)
    (aL : PySem.W.nsIn K mainGlobals "law" = some (some (.ref f11))) (lL : K.lookup f11 = some ⟨oc, od, .func (PySem.W.fnOf "law" "law" (defArgs sLaw) (defBody sLaw) (defScope sLaw) .none kV doc pm an cdv ct), osl⟩)
    (cL : PySem.W.codeIn K cdv "law" = true) (kL : PySem.W.keepIn K (.ref f11) = true) :
    ∃ fd : FuncData, Fun K "law" "law" sLaw fa fd ∧ (∀ (s : Shared) (u : Value), BindsTo s fd ⟨[u], []⟩ [("_law_script", u)]) ∧ ∀ base : Heap, K.In base → base.Ns mainGlobals mg →
        Bi mg ∧ ∃ (cs : Nat → Addr) (f1 f2 f3 f4 f5 f6 f7 f8 : Addr) (d1 d2 d3 d4 d5 d6 d7 d8 : FuncData), Lw P w K mg base cs f1 f2 f3 f4 f5 f6 f7 f8 d1 d2 d3 d4 d5 d6 d7 d8 := by
  have e := hfa.symm.trans (PySem.W.mg_of X G aL)
  cases e
  have n := free_mk X G fr
  have B : Bi mg := ⟨n _ (by decide), n _ (by decide), n _ (by decide), n _ (by decide), n _ (by decide), n _ (by decide)⟩
  have Z := tab_mk tab
  let cs : Nat → Addr := fun i => ([C0, C1, C2, C3, C4, C5, C6, C7, C8, C9, C10, C11, C12, C13, C14, C15, C16, C17, C18, C19, C20, C21, C22, C23, C24, C25, C26, C27] : List Addr).getD i 0
  let fi : Nat → Addr := fun i => ([F0, F1, F2, F3, F4, F5, F6, F7, F8, F9, F10, F11, F12, F13, F14, F15, F16, F17, F18, F19, F20, F21, F22, F23, F24, F25, F26, F27] : List Addr).getD i 0
  have Eg : ∀ i, i < 28 → mg (nmE i) = some (.ref (cs i)) := fun i hi => match i, hi with
    | 0, _ => e0.1
    | 1, _ => e1.1
    | 2, _ => e2.1
    | 3, _ => e3.1
    | 4, _ => e4.1
    | 5, _ => e5.1
    | 6, _ => e6.1
    | 7, _ => e7.1
    | 8, _ => e8.1
    | 9, _ => e9.1
    | 10, _ => e10.1
    | 11, _ => e11.1
    | 12, _ => e12.1
    | 13, _ => e13.1
    | 14, _ => e14.1
    | 15, _ => e15.1
    | 16, _ => e16.1
    | 17, _ => e17.1
    | 18, _ => e18.1
    | 19, _ => e19.1
    | 20, _ => e20.1
    | 21, _ => e21.1
    | 22, _ => e22.1
    | 23, _ => e23.1
    | 24, _ => e24.1
    | 25, _ => e25.1
    | 26, _ => e26.1
    | 27, _ => e27.1
    | n + 28, z => absurd z (by omega)
  have Ec : ∀ i, i < 28 → clsB P K (cs i) = true := fun i hi => match i, hi with
    | 0, _ => e0.2.1
    | 1, _ => e1.2.1
    | 2, _ => e2.2.1
    | 3, _ => e3.2.1
    | 4, _ => e4.2.1
    | 5, _ => e5.2.1
    | 6, _ => e6.2.1
    | 7, _ => e7.2.1
    | 8, _ => e8.2.1
    | 9, _ => e9.2.1
    | 10, _ => e10.2.1
    | 11, _ => e11.2.1
    | 12, _ => e12.2.1
    | 13, _ => e13.2.1
    | 14, _ => e14.2.1
    | 15, _ => e15.2.1
    | 16, _ => e16.2.1
    | 17, _ => e17.2.1
    | 18, _ => e18.2.1
    | 19, _ => e19.2.1
    | 20, _ => e20.2.1
    | 21, _ => e21.2.1
    | 22, _ => e22.2.1
    | 23, _ => e23.2.1
    | 24, _ => e24.2.1
    | 25, _ => e25.2.1
    | 26, _ => e26.2.1
    | 27, _ => e27.2.1
    | n + 28, z => absurd z (by omega)
  have E1 : ∀ i, i < 22 → PySem.EX.Fn1 P K (cs i) (fi i) (fldE i) := fun i hi => match i, hi with
    | 0, _ => e0.2.2
    | 1, _ => e1.2.2
    | 2, _ => e2.2.2
    | 3, _ => e3.2.2
    | 4, _ => e4.2.2
    | 5, _ => e5.2.2
    | 6, _ => e6.2.2
    | 7, _ => e7.2.2
    | 8, _ => e8.2.2
    | 9, _ => e9.2.2
    | 10, _ => e10.2.2
    | 11, _ => e11.2.2
    | 12, _ => e12.2.2
    | 13, _ => e13.2.2
    | 14, _ => e14.2.2
    | 15, _ => e15.2.2
    | 16, _ => e16.2.2
    | 17, _ => e17.2.2
    | 18, _ => e18.2.2
    | 19, _ => e19.2.2
    | 20, _ => e20.2.2
    | 21, _ => e21.2.2
    | n + 22, z => absurd z (by omega)
  have E0 : ∀ i, 22 ≤ i → i < 28 → PySem.EX.Fn0 P K (cs i) (fi i) := fun i h1 hi => by
    obtain ⟨j, rfl⟩ : ∃ j, i = 22 + j := ⟨i - 22, by omega⟩
    have hj : j < 6 := by omega
    exact match j, hj with
    | 0, _ => e22.2.2
    | 1, _ => e23.2.2
    | 2, _ => e24.2.2
    | 3, _ => e25.2.2
    | 4, _ => e26.2.2
    | 5, _ => e27.2.2
    | n + 6, z => absurd z (by omega)
  have T : Es P K mg cs fi W :=
    { sup := n _ (by decide), isi := n _ (by decide), g := Eg, er := fun i hi => er_mk (Ec i hi) op file hn ht, f1 := E1, f0 := E0, kit := Z.kit, sb := Z.sb, sw := Z.sw, wB := wB, wd := wd, wt := wt, gw := PySem.W.mg_of X G aW,
      bn := fun x hx => n x (by revert x; decide), kw := Z.kw, kx := Z.kx, kn := Z.kn }
  have b0 := g0.2.2.binds (ps := ["_law_script"]) fun _ _ _ _ _ _ us hl => match us, hl with | [_], _ => rfl
  have b1 := g1.2.2.binds (ps := ["_law_deck_here", "_law_many"]) fun _ _ _ _ _ _ us hl => match us, hl with | [_, _], _ => rfl
  have b2 := g2.2.2.binds (ps := ["_law_deck_here", "_law_some"]) fun _ _ _ _ _ _ us hl => match us, hl with | [_, _], _ => rfl
  have b3 := g3.2.2.binds (ps := ["_law_deck_here", "_law_deep"]) fun _ _ _ _ _ _ us hl => match us, hl with | [_, _], _ => rfl
  have b4 := g4.2.2.binds (ps := ["_law_it"]) fun _ _ _ _ _ _ us hl => match us, hl with | [_], _ => rfl
  have b5 := g5.2.2.binds (ps := ["_law_it"]) fun _ _ _ _ _ _ us hl => match us, hl with | [_], _ => rfl
  have b6 := g6.2.2.binds (ps := ["_law_made"]) fun _ _ _ _ _ _ us hl => match us, hl with | [_], _ => rfl
  have b7 := g7.2.2.binds (ps := []) fun _ _ _ _ _ _ us hl => match us, hl with | [], _ => rfl
  have b8 := g8.2.2.binds (ps := ["_law_error"]) fun _ _ _ _ _ _ us hl => match us, hl with | [_], _ => rfl
  have b9 := g9.2.2.binds (ps := ["_law_at", "_law_error"]) fun _ _ _ _ _ _ us hl => match us, hl with | [_, _], _ => rfl
  have b10 := g10.2.2.binds (ps := ["_law_way", "_law_it"]) fun _ _ _ _ _ _ us hl => match us, hl with | [_, _], _ => rfl
  refine ⟨_, fun_mk lL cL kL, fun s u => .of_eq rfl, fun base KB GB => ⟨B, cs, f0, f3, f4, f5, f6, f7, f9, f10, d0, d3, d4, d5, d6, d7, d9, d10, ?_⟩⟩
  have Gd : Dn P w K mg base "_law_draw" 1 ["_law_deck_here", "_law_many"] spDraw f1 d1 := ⟨g1.1, g1.2.1, b1, ok_draw g1.2.2 B⟩
  have Gp : Dn P w K mg base "_law_pick" 2 ["_law_deck_here", "_law_some"] spPick f2 d2 := ⟨g2.1, g2.2.1, b2, ok_pick g2.2.2 B Gd⟩
  have Gk : Dn P w K mg base "_law_kinds" 1 ["_law_error"] (spKinds cs) f8 d8 := ⟨g8.1, g8.2.1, b8, ok_kinds g8.2.2 T⟩
  exact { deck := ⟨g0.1, g0.2.1, b0, ok_deck g0.2.2 B⟩, any := ⟨g3.1, g3.2.1, b3, ok_any g3.2.2 g3.1 b3 B Gd Gp 4⟩, pos := ⟨g4.1, g4.2.1, b4, ok_pos g4.2.2 T⟩, nam := ⟨g5.1, g5.2.1, b5, ok_nam g5.2.2 T⟩, car := ⟨g6.1, g6.2.1, b6, ok_car g6.2.2 T⟩,
          bare := ⟨g7.1, g7.2.1, b7, ok_bare g7.2.2 T⟩, own := ⟨g9.1, g9.2.1, b9, ok_own g9.2.2 T B Gk⟩, caught := ⟨g10.1, g10.2.1, b10, ok_caught g10.2.2 T⟩, rep := n _ (by decide), enu := n _ (by decide) }
end K0

set_option Elab.async false
set_option maxRecDepth 100000
open PySem PySem.W PyProof.Rows
set_option maxRecDepth 100000 in
set_option maxHeartbeats 0 in
theorem PySem.Challenge.cw_oncecrossed_k00_errors_by_position_and_n_holds : PySem.Challenge.rw_oncecrossed_k00_errors_by_position_and_n.Holds := by
  w_on; o_law; k_head; (case hw => w_witness2)
  k_fill
  refine K0.walk_out (l := PySem.Challenge.rw_oncecrossed_k00_errors_by_position_and_n) rfl rfl (fun w h Y => PySem.W.kIn_of Y) ?F
  case F =>
    intro w mg fa h KX G hmg
    refine' K0.all_mk KX G hmg ?ye0 ?ye1 ?ye2 ?ye3 ?ye4 ?ye5 ?ye6 ?ye7 ?ye8 ?ye9 ?ye10 ?ye11 ?ye12 ?ye13 ?ye14 ?ye15 ?ye16 ?ye17 ?ye18 ?ye19 ?ye20 ?ye21 ?ye22 ?ye23 ?ye24 ?ye25 ?ye26 ?ye27 ?yaW ?ywB ?ywd ?ywt ?ytab ?yop ?yhn ?yht ?yfile ?yfr ?yg0 ?yg1 ?yg2 ?yg3 ?yg4 ?yg5 ?yg6 ?yg7 ?yg8 ?yg9 ?yg10 ?yaL ?ylL ?ycL ?ykL
    (case ye0 => (refine' K0.cl1_mk KX G ?ya0 ?yi0 ?yl0 ?yb0 ?yp0 ?yz0; (case ya0 => k_is); (case yi0 => k_is); (case yl0 => k_is); (case yb0 => kernel_rfl); (case yp0 => exact rfl); (case yz0 => kernel_rfl)))
    (case ye1 => (refine' K0.cl1_mk KX G ?ya1 ?yi1 ?yl1 ?yb1 ?yp1 ?yz1; (case ya1 => k_is); (case yi1 => k_is); (case yl1 => k_is); (case yb1 => kernel_rfl); (case yp1 => exact rfl); (case yz1 => kernel_rfl)))
    (case ye2 => (refine' K0.cl1_mk KX G ?ya2 ?yi2 ?yl2 ?yb2 ?yp2 ?yz2; (case ya2 => k_is); (case yi2 => k_is); (case yl2 => k_is); (case yb2 => kernel_rfl); (case yp2 => exact rfl); (case yz2 => kernel_rfl)))
    (case ye3 => (refine' K0.cl1_mk KX G ?ya3 ?yi3 ?yl3 ?yb3 ?yp3 ?yz3; (case ya3 => k_is); (case yi3 => k_is); (case yl3 => k_is); (case yb3 => kernel_rfl); (case yp3 => exact rfl); (case yz3 => kernel_rfl)))
    (case ye4 => (refine' K0.cl1_mk KX G ?ya4 ?yi4 ?yl4 ?yb4 ?yp4 ?yz4; (case ya4 => k_is); (case yi4 => k_is); (case yl4 => k_is); (case yb4 => kernel_rfl); (case yp4 => exact rfl); (case yz4 => kernel_rfl)))
    (case ye5 => (refine' K0.cl1_mk KX G ?ya5 ?yi5 ?yl5 ?yb5 ?yp5 ?yz5; (case ya5 => k_is); (case yi5 => k_is); (case yl5 => k_is); (case yb5 => kernel_rfl); (case yp5 => exact rfl); (case yz5 => kernel_rfl)))
    (case ye6 => (refine' K0.cl1_mk KX G ?ya6 ?yi6 ?yl6 ?yb6 ?yp6 ?yz6; (case ya6 => k_is); (case yi6 => k_is); (case yl6 => k_is); (case yb6 => kernel_rfl); (case yp6 => exact rfl); (case yz6 => kernel_rfl)))
    (case ye7 => (refine' K0.cl1_mk KX G ?ya7 ?yi7 ?yl7 ?yb7 ?yp7 ?yz7; (case ya7 => k_is); (case yi7 => k_is); (case yl7 => k_is); (case yb7 => kernel_rfl); (case yp7 => exact rfl); (case yz7 => kernel_rfl)))
    (case ye8 => (refine' K0.cl1_mk KX G ?ya8 ?yi8 ?yl8 ?yb8 ?yp8 ?yz8; (case ya8 => k_is); (case yi8 => k_is); (case yl8 => k_is); (case yb8 => kernel_rfl); (case yp8 => exact rfl); (case yz8 => kernel_rfl)))
    (case ye9 => (refine' K0.cl1_mk KX G ?ya9 ?yi9 ?yl9 ?yb9 ?yp9 ?yz9; (case ya9 => k_is); (case yi9 => k_is); (case yl9 => k_is); (case yb9 => kernel_rfl); (case yp9 => exact rfl); (case yz9 => kernel_rfl)))
    (case ye10 => (refine' K0.cl1_mk KX G ?ya10 ?yi10 ?yl10 ?yb10 ?yp10 ?yz10; (case ya10 => k_is); (case yi10 => k_is); (case yl10 => k_is); (case yb10 => kernel_rfl); (case yp10 => exact rfl); (case yz10 => kernel_rfl)))
    (case ye11 => (refine' K0.cl1_mk KX G ?ya11 ?yi11 ?yl11 ?yb11 ?yp11 ?yz11; (case ya11 => k_is); (case yi11 => k_is); (case yl11 => k_is); (case yb11 => kernel_rfl); (case yp11 => exact rfl); (case yz11 => kernel_rfl)))
    (case ye12 => (refine' K0.cl1_mk KX G ?ya12 ?yi12 ?yl12 ?yb12 ?yp12 ?yz12; (case ya12 => k_is); (case yi12 => k_is); (case yl12 => k_is); (case yb12 => kernel_rfl); (case yp12 => exact rfl); (case yz12 => kernel_rfl)))
    (case ye13 => (refine' K0.cl1_mk KX G ?ya13 ?yi13 ?yl13 ?yb13 ?yp13 ?yz13; (case ya13 => k_is); (case yi13 => k_is); (case yl13 => k_is); (case yb13 => kernel_rfl); (case yp13 => exact rfl); (case yz13 => kernel_rfl)))
    (case ye14 => (refine' K0.cl1_mk KX G ?ya14 ?yi14 ?yl14 ?yb14 ?yp14 ?yz14; (case ya14 => k_is); (case yi14 => k_is); (case yl14 => k_is); (case yb14 => kernel_rfl); (case yp14 => exact rfl); (case yz14 => kernel_rfl)))
    (case ye15 => (refine' K0.cl1_mk KX G ?ya15 ?yi15 ?yl15 ?yb15 ?yp15 ?yz15; (case ya15 => k_is); (case yi15 => k_is); (case yl15 => k_is); (case yb15 => kernel_rfl); (case yp15 => exact rfl); (case yz15 => kernel_rfl)))
    (case ye16 => (refine' K0.cl1_mk KX G ?ya16 ?yi16 ?yl16 ?yb16 ?yp16 ?yz16; (case ya16 => k_is); (case yi16 => k_is); (case yl16 => k_is); (case yb16 => kernel_rfl); (case yp16 => exact rfl); (case yz16 => kernel_rfl)))
    (case ye17 => (refine' K0.cl1_mk KX G ?ya17 ?yi17 ?yl17 ?yb17 ?yp17 ?yz17; (case ya17 => k_is); (case yi17 => k_is); (case yl17 => k_is); (case yb17 => kernel_rfl); (case yp17 => exact rfl); (case yz17 => kernel_rfl)))
    (case ye18 => (refine' K0.cl1_mk KX G ?ya18 ?yi18 ?yl18 ?yb18 ?yp18 ?yz18; (case ya18 => k_is); (case yi18 => k_is); (case yl18 => k_is); (case yb18 => kernel_rfl); (case yp18 => exact rfl); (case yz18 => kernel_rfl)))
    (case ye19 => (refine' K0.cl1_mk KX G ?ya19 ?yi19 ?yl19 ?yb19 ?yp19 ?yz19; (case ya19 => k_is); (case yi19 => k_is); (case yl19 => k_is); (case yb19 => kernel_rfl); (case yp19 => exact rfl); (case yz19 => kernel_rfl)))
    (case ye20 => (refine' K0.cl1_mk KX G ?ya20 ?yi20 ?yl20 ?yb20 ?yp20 ?yz20; (case ya20 => k_is); (case yi20 => k_is); (case yl20 => k_is); (case yb20 => kernel_rfl); (case yp20 => exact rfl); (case yz20 => kernel_rfl)))
    (case ye21 => (refine' K0.cl1_mk KX G ?ya21 ?yi21 ?yl21 ?yb21 ?yp21 ?yz21; (case ya21 => k_is); (case yi21 => k_is); (case yl21 => k_is); (case yb21 => kernel_rfl); (case yp21 => exact rfl); (case yz21 => kernel_rfl)))
    (case ye22 => (refine' K0.cl0_mk KX G ?ya22 ?yi22 ?yl22 ?yb22 ?yp22 ?yz22; (case ya22 => k_is); (case yi22 => k_is); (case yl22 => k_is); (case yb22 => kernel_rfl); (case yp22 => exact rfl); (case yz22 => kernel_rfl)))
    (case ye23 => (refine' K0.cl0_mk KX G ?ya23 ?yi23 ?yl23 ?yb23 ?yp23 ?yz23; (case ya23 => k_is); (case yi23 => k_is); (case yl23 => k_is); (case yb23 => kernel_rfl); (case yp23 => exact rfl); (case yz23 => kernel_rfl)))
    (case ye24 => (refine' K0.cl0_mk KX G ?ya24 ?yi24 ?yl24 ?yb24 ?yp24 ?yz24; (case ya24 => k_is); (case yi24 => k_is); (case yl24 => k_is); (case yb24 => kernel_rfl); (case yp24 => exact rfl); (case yz24 => kernel_rfl)))
    (case ye25 => (refine' K0.cl0_mk KX G ?ya25 ?yi25 ?yl25 ?yb25 ?yp25 ?yz25; (case ya25 => k_is); (case yi25 => k_is); (case yl25 => k_is); (case yb25 => kernel_rfl); (case yp25 => exact rfl); (case yz25 => kernel_rfl)))
    (case ye26 => (refine' K0.cl0_mk KX G ?ya26 ?yi26 ?yl26 ?yb26 ?yp26 ?yz26; (case ya26 => k_is); (case yi26 => k_is); (case yl26 => k_is); (case yb26 => kernel_rfl); (case yp26 => exact rfl); (case yz26 => kernel_rfl)))
    (case ye27 => (refine' K0.cl0_mk KX G ?ya27 ?yi27 ?yl27 ?yb27 ?yp27 ?yz27; (case ya27 => k_is); (case yi27 => k_is); (case yl27 => k_is); (case yb27 => kernel_rfl); (case yp27 => exact rfl); (case yz27 => kernel_rfl)))
    (case yaW => k_is); (case ywB => k_is); (case ywd => k_is); (case ywt => k_is); (case ytab => kernel_rfl); (case yop => k_is); (case yhn => k_is); (case yht => k_is); (case yfile => kernel_rfl); (case yfr => kernel_rfl)
    (case yg0 => (refine' K0.df_mk KX G ?yga0 ?ygl0 ?ygc0 ?ygk0; (case yga0 => k_is); (case ygl0 => k_is); (case ygc0 => k_is); (case ygk0 => k_is)))
    (case yg1 => (refine' K0.df_mk KX G ?yga1 ?ygl1 ?ygc1 ?ygk1; (case yga1 => k_is); (case ygl1 => k_is); (case ygc1 => k_is); (case ygk1 => k_is)))
    (case yg2 => (refine' K0.df_mk KX G ?yga2 ?ygl2 ?ygc2 ?ygk2; (case yga2 => k_is); (case ygl2 => k_is); (case ygc2 => k_is); (case ygk2 => k_is)))
    (case yg3 => (refine' K0.df_mk KX G ?yga3 ?ygl3 ?ygc3 ?ygk3; (case yga3 => k_is); (case ygl3 => k_is); (case ygc3 => k_is); (case ygk3 => k_is)))
    (case yg4 => (refine' K0.df_mk KX G ?yga4 ?ygl4 ?ygc4 ?ygk4; (case yga4 => k_is); (case ygl4 => k_is); (case ygc4 => k_is); (case ygk4 => k_is)))
    (case yg5 => (refine' K0.df_mk KX G ?yga5 ?ygl5 ?ygc5 ?ygk5; (case yga5 => k_is); (case ygl5 => k_is); (case ygc5 => k_is); (case ygk5 => k_is)))
    (case yg6 => (refine' K0.df_mk KX G ?yga6 ?ygl6 ?ygc6 ?ygk6; (case yga6 => k_is); (case ygl6 => k_is); (case ygc6 => k_is); (case ygk6 => k_is)))
    (case yg7 => (refine' K0.df_mk KX G ?yga7 ?ygl7 ?ygc7 ?ygk7; (case yga7 => k_is); (case ygl7 => k_is); (case ygc7 => k_is); (case ygk7 => k_is)))
    (case yg8 => (refine' K0.df_mk KX G ?yga8 ?ygl8 ?ygc8 ?ygk8; (case yga8 => k_is); (case ygl8 => k_is); (case ygc8 => k_is); (case ygk8 => k_is)))
    (case yg9 => (refine' K0.df_mk KX G ?yga9 ?ygl9 ?ygc9 ?ygk9; (case yga9 => k_is); (case ygl9 => k_is); (case ygc9 => k_is); (case ygk9 => k_is)))
    (case yg10 => (refine' K0.df_mk KX G ?yga10 ?ygl10 ?ygc10 ?ygk10; (case yga10 => k_is); (case ygl10 => k_is); (case ygc10 => k_is); (case ygk10 => k_is)))
    (case yaL => k_is); (case ylL => k_is); (case ycL => k_is); (case ykL => k_is)
