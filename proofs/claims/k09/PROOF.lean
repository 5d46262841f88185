import PyProof.Rows.All
import Wide.All
import OpenK.AllK
import Wide.FinOn
import HandS.ForMost
import HandS.SetFor
import HandS.Strs
import HandS.TupSets
import HandS.IsInst
import HandS.Small
import PyProof.TupleOfSeq
import HandS.Walk
import HandS.TupAny
import KE.KIndexOf
import KE.KRevSl
import KE.GoesEnum
import KE.GoesMore
import HandS.WideBits
import HandS.Dict
import PyProof.DictUpdate
import HandS.SortInts
import HandS.Zip
import HandS.Conv
import PyProof.ReprRoads
import PyProof.ReprBulk
import HandS.Wide
import HandS.Flow
import PySem.Challenge.RW_oncecrossed_k09_texts_of_webs
import HandS.Style
import HandS.Iter
import PyProof.EqAt
import PyProof.EqKinds
import PyProof.TupleCall
import KE.KExcSuper
import HandS.ForExc
import HandS.ExcSuper
import KE.KExcIs
import HandS.TryMany
import HandS.ExcField
import HandS.ExcValue
import HandS.Defaults
import HandS.DictComp
import HandS.Text
import HandS.Evl
import HandS.Lambda
import HandS.ExcIs
import HandS.EndTab
import KE.KNest
import HandS.FStr
import HandS.TupLe
set_option Elab.async false
set_option linter.all false
set_option maxRecDepth 100000
set_option maxHeartbeats 4000000
/-! Rules for what stands in a tuple: set(t) of ints, set(t) and sorted(t) of pairs. -/
namespace KR
open PySem PySem.Spec L2
open PyProof.Rows hiding St
section
variable {prog : Program} {w : World} {A : Around} {E : Value → Shared → Prop} {s : Shared}
/-- the items of a tuple, gathered: the heap only grows -/
theorem gather_tup {G : List Value → Shared → Prop} {t : Addr} {ob : Obj} {us : Array Value} {ep : Nat} (at_ : s.heap.get? t = some ob) (cl : ob.cls = .type "tuple") (da : ob.data = .seq us ep) (fits : us.size ≤ sizeLine)
    (g : ∀ hN, (∀ b u, s.heap.get? b = some u → hN.get? b = some u) → s.heap.objs.size ≤ hN.objs.size → G us.toList { s with heap := hN }) : wpAny (model prog w) A (collect (.ref t)) G E s := by
  have new0 : (s.heap.push { cls := .type "list", data := .seq ([] : List Value).toArray }).get? s.heap.objs.size = some { cls := .type "list", data := .seq #[] 0 } := Heap.get?_push_size _ rfl
  have new1 := Heap.get?_update_self (Obj.mapSeq (· ++ us)) new0 rfl
  have done_ : wpAny (model prog w) A ((load s.heap.objs.size) >>= fun oL => (match oL.data with
      | Data.seq xs _ => pure xs.toList
      | _ => unsupported "internal:collect" : Sem (List Value))) G E { s with heap := (s.heap.push { cls := .type "list", data := .seq ([] : List Value).toArray }).update s.heap.objs.size (Obj.mapSeq (· ++ us)) } := by
    refine wpAny_bind (wpAny_load new1 (wpAny_pure ?_))
    show G ((#[] : Array Value) ++ us).toList _
    rw [show ((#[] : Array Value) ++ us).toList = us.toList by simp]
    refine g _ (fun b u e => (Heap.get?_update_other _ _ (Nat.ne_of_gt (Heap.lt_size e))).trans (Heap.get?_push_of_some _ e)) ?_
    rw [Heap.size_update, Heap.size_push]
    exact Nat.le_succ _
  unfold collect
  refine wpAny_bind (wpAny_runValue (codeAny_builtin F.entry_proto_collect ?_))
  rw [Around.under_plainId F.plain_proto_collect _]
  show wpAny _ A.in1 (newList [] >>= fun l => again (.builtin "list.__iadd__" ⟨[l, .ref t], []⟩)) _ _ s
  refine wpAny_bind (wpAny_newObj_type (wpAny_pure ⟨plainId_quiet F.plain_list_iadd _, codeAny_builtin F.entry_list_iadd ?_⟩))
  rw [Around.under_plainId F.plain_list_iadd _]
  refine wpAny_mono (wpAny_extend_seq (hsz := fits) (A := A) (R := fun r z => r = .ok (.ret (.ref s.heap.objs.size)) ∧ z = { s with heap := (s.heap.push { cls := .type "list", data := .seq ([] : List Value).toArray }).update s.heap.objs.size (Obj.mapSeq (· ++ us)) })
    (s := { s with heap := s.heap.push { cls := .type "list", data := .seq ([] : List Value).toArray } }) _ t _ 0 (.inr rfl) new0 (Heap.get?_push_of_some _ at_) cl da ⟨rfl, rfl⟩) (fun fin z hz => ?_) (fun e z hz => absurd hz.1 (by simp))
  cases fin with
  | done f =>
    obtain ⟨e, rfl⟩ := hz
    cases e
    exact done_
  | again c' => exact ⟨hz.1, codeAny_mono hz.2 fun r z hr => by obtain ⟨rfl, rfl⟩ := hr; exact done_⟩
end
section
variable {X : Cx}
/-- set(t), t a tuple of ints -/
def rSetTI (K : PySem.W.Frag) (w : World) : List V → Hp → VK → Prop := fun xs H Q => ∃ (t : Addr) (ns : List Int), xs = [V.ref t] ∧ SqT K H t (ns.map V.int) ∧ ns.length ≤ 1000 ∧
  ∀ (a : Addr) (c : Nat), H a = none → c ≤ ns.length → Q (.ref a) (upd H a (SetO w a (fun j => decide (j ∈ ns)) c))
theorem cr_setTI (hc : X.calm = true) : CallR X (.type "set") (rSetTI X.K X.w) := by
  intro pins s σ H xs us Q I r h
  obtain ⟨t, ns, rfl, ht, hn, q⟩ := h
  rw [Vals.ref1 r]
  obtain ⟨its, rv, tp, hz⟩ := I.tuple ht
  have hf : H s.heap.objs.size = none := I.hok.fresh (Nat.le_refl _)
  refine call_set_tupI (P := X.prog) (w := X.w) ns (I.ok.hd hc) tp ?_ (Nat.lt_of_le_of_lt (Nat.succ_le_succ hn) (by decide)) fun h' tk c R hcn k => ?_
  · simpa using Vals.ints rv
  · exact ⟨.ref s.heap.objs.size, upd H s.heap.objs.size (SetO X.w s.heap.objs.size (fun j => decide (j ∈ ns)) c), I.laid (t' := tk) k (Nat.le_refl _) (setO_new R), rfl, q _ c hf hcn⟩
/-- sorted(t), t a tuple of tuples of d ints in [0, B) -/
def rSortTT (K : PySem.W.Frag) (d : Nat) (B : Int) : List V → Hp → VK → Prop := fun vs H Q => ∃ (a : Addr) (xs : List V), vs = [V.ref a] ∧ SqT K H a xs ∧ xs.length < 64 ∧ (∀ x ∈ xs, ∃ ns, TupI K H x ns ∧ ns.length = d ∧ TS.Bd B ns) ∧
  ∀ (ys : List V) (p : Addr), ys.Perm xs → ys.Pairwise (fun x y => ∀ n m, TupI K H x n → TupI K H y m → TS.code B n ≤ TS.code B m) → H p = none → Q (.ref p) (upd H p (.lst ys))
theorem cr_sortTT {d : Nat} {B : Int} (hd : 1 ≤ d) : CallR X (.builtin "sorted") (rSortTT X.K d B) := by
  intro pins s σ H vs us Q I r h
  obtain ⟨a, xs, rfl, hs, few, hx, q⟩ := h
  obtain ⟨its, rv, tp, hz⟩ := I.tuple hs
  rw [Vals.ref1 r]
  have bk := bkV_refs rv fun x m => by
    obtain ⟨_, ⟨t, e, _⟩, _⟩ := hx x m
    exact ⟨t, e⟩
  have len : its.length < 64 := by rw [← rv.length]; exact few
  obtain ⟨o, ho, hcl, n, hda⟩ := id tp
  refine Calls.call_function_entry kind_sorted plain_sorted entry_sorted (args_sorted1 _) ?_
  unfold Builtin.«sorted»
  refine wpAny_bind (m := checkCount "sorted" 1 1 _) (wpAny_pure ?_)
  refine wpAny_bind (gather_tup ho hcl hda (by show its.toArray.size ≤ sizeLine; rw [List.size_toArray, sizeLine_eq]; omega) fun h1 k1 ge => ?_)
  refine wpAny_bind (wpAny_newList ?_ (by rw [sizeLine_eq]; show its.length ≤ _; omega))
  have atL : (h1.push (seqObj "list" its.toArray 0)).get? h1.objs.size = some (seqObj "list" its.toArray 0) := Heap.get?_push_size _ rfl
  have keep : ∀ b u, s.heap.get? b = some u → (h1.push (seqObj "list" its.toArray 0)).get? b = some u := fun b u e => Heap.get?_push_of_some _ (k1 b u e)
  have raw : ∀ {u : Value}, u ∈ its → ∃ t ns, u = .ref t ∧ TupI X.K H (V.ref t) ns ∧ TS.TupInts (h1.push (seqObj "list" its.toArray 0)) u ns ∧ ns.length = d ∧ TS.Bd B ns := fun {u} hu => by
    obtain ⟨t, rfl⟩ := bk.2 u hu
    have hm : V.ref t ∈ xs := by
      rw [bk.1]
      exact List.mem_map.mpr ⟨_, hu, rfl⟩
    obtain ⟨ns, ⟨t', e, ht⟩, hn, hb⟩ := hx _ hm
    cases e
    exact ⟨t, ns, rfl, ⟨t, rfl, ht⟩, (tupI_raw I ht).keeps fun b o e _ => keep b o e, hn, hb⟩
  have ok : TS.TupsOk (h1.push (seqObj "list" its.toArray 0)) d B its := fun v hv => by
    obtain ⟨t, ns, _, _, h2, h3, h4⟩ := raw hv
    exact ⟨ns, h2, h3, h4⟩
  have atL' : (h1.push (seqObj "list" (its.toArray.toList.toArray) 0)).get? h1.objs.size = some (seqObj "list" its.toArray 0) := by simpa using atL
  have red : its.toArray.toList = its := by simp
  rw [red]
  refine wpAny_bind (wpAny_holding (TS.call_sort_tups (s := { s with heap := h1.push (seqObj "list" its.toArray 0) }) atL len hd ok fun out p1 p2 => ?_))
  obtain ⟨c, hc⟩ := sortedHeap_at (vs := its) (out := out) atL
  have refs : ∀ u ∈ out.toList, ∃ t, u = Value.ref t := fun u hu => bk.2 u (p1.mem_iff.mp hu)
  have pm : (out.toList.map bkV).Perm xs := by rw [bk.1]; exact p1.map bkV
  have szs : (out.toList.map bkV).length ≤ sizeLine := by rw [pm.length_eq]; exact hz
  have old : ∀ b u, s.heap.get? b = some u → (sortedHeap (h1.push (seqObj "list" its.toArray 0)) h1.objs.size its out).get? b = some u := fun b u e => by
    have lt := Heap.lt_size (k1 b u e)
    rw [sortedHeap_old (Nat.ne_of_lt lt) (by rw [size_push']; exact Nat.lt_succ_of_lt lt)]
    exact keep b u e
  refine wpAny_pure ⟨_, rfl, .ref h1.objs.size, upd H h1.objs.size (.lst (out.toList.map bkV)), I.laid (t' := s.toks) old ge ⟨szs, out.toList, c, bkV_vals refs, hc⟩, rfl, q _ _ pm ?_ (I.hok.fresh ge)⟩
  rw [List.pairwise_map]
  refine List.Pairwise.imp_of_mem (fun {u v} hu hv huv n m hn hm => ?_) p2
  obtain ⟨t, ns, e1, t1, r1, _⟩ := raw (p1.mem_iff.mp hu)
  obtain ⟨t', ns', e2, t2, r2, _⟩ := raw (p1.mem_iff.mp hv)
  obtain ⟨a1, z1, y1⟩ := hn
  obtain ⟨a2, z2, y2⟩ := hm
  have i1 := ((tupI_raw I y1).keeps fun b o e _ => keep b o e).ints
  have i2 := ((tupI_raw I y2).keeps fun b o e _ => keep b o e).ints
  rw [← bkV_ref z1] at i1
  rw [← bkV_ref z2] at i2
  rw [← i1, ← i2]
  exact huv
end
/-! ### set(t) of a tuple of tuples of ints -/
abbrev set0 (w : World) : Obj := { cls := .type "set", dict := none, data := .set #[] 0 (.fresh 0 0 (!w.params.followText "set-order")) }
section
variable {P : Program} {w : World} {A : Around} {E : Value → Shared → Prop} {s : Shared}
set_option maxRecDepth 100000 in
set_option maxHeartbeats 3200000 in
theorem make_setTT {t : Addr} {us : Array Value} (ks : List (Addr × List Int)) {G : Value → Shared → Prop} (calm : A.handled = none) (tp : s.heap.IsTuple t us) (are : us.toList = ks.map fun p => Value.ref p.1)
    (ok : ∀ p ∈ ks, IsT P w s.heap p.2 p.1) (few : ks.length < 64) (room : A.units + 3 < cLine)
    (g : ∀ (hN : Heap) (tk : Nat) L es ep tb, SetTR P w hN s.heap.objs.size L es ep tb → Got ks ks.length L → (∀ b o, s.heap.get? b = some o → hN.get? b = some o) → G (.ref s.heap.objs.size) { s with heap := hN, toks := tk }) :
    wpAny (model P w) A (call (.type "set") [.ref t]) G E s := by
  have size : us.size = ks.length := by have q := congrArg List.length are; rwa [Array.length_toList, List.length_map] at q
  obtain ⟨c, tl, h0⟩ := F.called_set.mro
  have h1 := F.called_set.made
  have h2 := F.called_set.sub
  refine wpAny_call (codeAny_of_tree ?_)
  show wpAny _ _ (callAny (.type "set") ⟨[.ref t], []⟩) _ _ s
  refine wpAny_pure ⟨Code.quiet_builtin _ (by decide +kernel), codeAny_builtin F.entry_type_call ?_⟩
  rw [Around.under_plain (weight_type_call_type "set" [.ref t] []) rfl]
  have h3 := F.called_set.notType
  have h4 := F.called_set.canCreate
  have h5 := F.typeCall_set_1 (.ref t)
  repeat (any_goals (first | assumption | wp_step))
  generalize hn : s.heap.objs.size = N at *
  refine codeAny_mono (code_set_led1 (.ref t) (E := E) (Q₁ := fun u z => u = .ref N ∧ z = { s with heap := s.heap.push (set0 w) }) ⟨by rw [hn], rfl⟩) fun r z hz => ?_
  cases r with
  | error e => exact hz
  | ok fl =>
    cases fl with
    | next => exact hz.elim
    | brk => exact hz.elim
    | cont => exact hz.elim
    | ret u =>
      obtain ⟨rfl, rfl⟩ := hz
      have new : (s.heap.push (set0 w)).get? N = some (set0 w) := by rw [← hn]; exact Heap.get?_push_size _ rfl
      have ty : Shared.TypeIs { s with heap := s.heap.push (set0 w) } (.ref N) "set" := ⟨_, new, rfl⟩
      have h6 := F.called_set.init.lookup
      have h7 := F.called_set.init.bind (.ref N)
      repeat (any_goals (first | assumption | wp_step))
      refine codeAny_mono (codeAny_call_builtin (R := wants (fun r z => r = .none ∧ ∃ hN tk L es ep tb, z = { s with heap := hN, toks := tk } ∧ SetTR P w hN N L es ep tb ∧ Got ks ks.length L ∧ ∀ b o, s.heap.get? b = some o → hN.get? b = some o) E)
        F.called_set.init.plain F.entry_set_init (check_set_init_1 ty ?_)) fun r z hz => ?_
      · obtain ⟨ob, at_, cl, ep, da⟩ := id tp
        obtain ⟨ocl, odi, oda, osl⟩ := ob
        simp only at cl da
        subst cl; subst da
        have at1 : (s.heap.push (set0 w)).get? t = some { cls := .type "tuple", dict := odi, data := .seq us ep, slots := osl } := Heap.get?_push_of_some _ at_
        have n1 := F.sub_tuple_set
        have n2 := F.sub_tuple_frozenset
        have n3 : (Value.type "tuple" == Value.type "dict") = false := by decide
        have tp1 : (s.heap.push (set0 w)).IsTuple t us := ⟨_, at1, rfl, ep, rfl⟩
        unfold Builtin.«set.__init__» noKeywords Builtin.Frozenset.updateFrom
        generalize hPI : pyIter = PI
        wp_walk
        subst hPI
        refine wpAny_pyIter_tuple tp1 (wpAny_bind (wpAny_runValue ?_))
        have lt : t < N := by rw [← hn]; exact Heap.lt_size at_
        have sz : (s.heap.push (set0 w)).objs.size = N + 1 := by rw [Heap.size_push, hn]
        have ne : t ≠ (s.heap.push (set0 w)).objs.size := by rw [sz]; exact Nat.ne_of_lt (Nat.lt_succ_of_lt lt)
        have fresh : ∀ b, N ≤ b → s.heap.get? b = none := fun b hb => by
          cases q : s.heap.get? b with
          | none => rfl
          | some o => exact absurd (Nat.lt_of_lt_of_le (Heap.lt_size q) (by rw [hn]; exact hb)) (Nat.lt_irrefl _)
        have items : ∀ (i : Nat) (v : Value), us[i]? = some v → ∃ p, ks[i]? = some p ∧ v = .ref p.1 := fun i v hv => by
          rw [← Array.getElem?_toList, are, List.getElem?_map] at hv
          cases q : ks[i]? with
          | none => rw [q] at hv; cases hv
          | some p => rw [q] at hv; exact ⟨p, rfl, (Option.some.inj hv).symm⟩
        refine set_update_tups ((Walks.tuple (by simp [calm]) _ t ne us).toS) N (by rw [sz]; simp only [List.mem_cons, List.not_mem_nil, or_false, not_or]; exact ⟨Nat.ne_of_lt (Nat.lt_succ_self _), Nat.ne_of_gt lt⟩) ks size few items s.heap ok (fresh _ (Nat.le_refl _))
          (fun b hb => fresh b (by rw [List.mem_singleton.mp hb, sz]; exact Nat.le_succ _)) room (us.size - 0) 0 _ (by omega) (Nat.zero_le _) ⟨⟨_, Heap.get?_push_size _ rfl, rfl, rfl⟩, tp1.push _⟩ (fun b o e => Heap.get?_push_of_some _ (Heap.get?_push_of_some _ e))
          ⟨[], #[], 0, _, setTR_fresh (Heap.get?_push_of_some _ new), Got.zero ks⟩ fun z L es ep tb mv R got kp => ?_
        obtain ⟨hN, gN, dN, tN, oN⟩ := z
        obtain rfl : gN = s.gens := mv.gens
        obtain rfl : dN = s.drawn := mv.drawn
        obtain rfl : oN = s.os := mv.os
        show wpAny _ _ _ _ _ _
        refine wpAny_pure ?_
        show wpAny _ _ (ret Value.none) _ _ _
        rw [size] at got
        exact wpAny_pure ⟨rfl, hN, tN, L, es, ep, tb, rfl, R, got, kp⟩
      · cases r with
        | error e => exact hz
        | ok fl =>
          cases fl with
          | next => exact hz.elim
          | brk => exact hz.elim
          | cont => exact hz.elim
          | ret r =>
            obtain ⟨rfl, hN, tk, L, es, ep, tb, rfl, R, got, kp⟩ := hz
            repeat (any_goals (first | assumption | wp_step))
            exact g _ _ _ _ _ _ R got kp
end
section
variable {X : Cx}
/-- set(t), t a tuple of tuples of ints -/
def rSetTT (K : PySem.W.Frag) (P : Program) (w : World) : List V → Hp → VK → Prop := fun xs H Q => ∃ (t : Addr) (ks : List (Addr × List Int)), xs = [V.ref t] ∧ SqT K H t (ks.map fun p => V.ref p.1) ∧ (∀ p ∈ ks, SqT K H p.1 (p.2.map V.int)) ∧ ks.length < 64 ∧
  ∀ a L, H a = none → (∀ p ∈ L, p ∈ ks) → (∀ p ∈ ks, p.2 ∈ L.map (·.2)) → Q (.ref a) (upd H a (SetTO P w a L))
theorem cr_setTT (hc : X.calm = true) (hu : X.A.units + 64 < cLine) : CallR X (.type "set") (rSetTT X.K X.prog X.w) := by
  intro pins s σ H xs us Q I r h
  obtain ⟨t, ks, rfl, ht, hk, few, q⟩ := h
  rw [Vals.ref1 r]
  obtain ⟨its, rv, tp, hz⟩ := I.tuple ht
  refine make_setTT (P := X.prog) (w := X.w) ks (I.ok.hd hc) tp (by simpa using refs_of_vals rv) (fun p hp => I.isT (hk p hp)) few (by omega) fun hN tk L es ep tb R got kp => ?_
  exact ⟨.ref s.heap.objs.size, upd H s.heap.objs.size (SetTO X.prog X.w s.heap.objs.size L), I.laid (t' := tk) kp (Nat.le_refl _) (setTO_new R.t0), rfl,
    q _ L (I.hok.fresh (Nat.le_refl _)) (fun p hp => List.mem_of_mem_take (got.sub p hp)) fun p hp => got.all p (by rw [List.take_length]; exact hp)⟩
end
end KR

set_option Elab.async false
set_option linter.all false
set_option maxRecDepth 100000
set_option maxHeartbeats 4000000
/-! Rules for tuples: index, a reversed copy, enumerate. -/
namespace KR
open PySem PySem.Spec L2
open PyProof.Rows hiding St
section
variable {X : Cx}
/-- t.index(k), k in the tuple of ints -/
def rTIx (K : PySem.W.Frag) : V → List V → Hp → VK → Prop := fun x xs H Q => ∃ (t : Addr) (ns : List Int) (k : Int), x = .ref t ∧ xs = [.int k] ∧ SqT K H t (ns.map V.int) ∧ k ∈ ns ∧ Q (.int (ns.idxOf k : Nat)) H
theorem mt_tindex : MtR X "tuple.index" (rTIx X.K) := by
  intro pins s σ H x xs v us Q I rx rxs h
  obtain ⟨t, ns, k, rfl, rfl, ht, hk, q⟩ := h
  cases rx
  obtain ⟨u, rfl, tk, rfl⟩ := rxs.one
  obtain ⟨its, rv, tp, _⟩ := I.tuple ht
  exact PySem.SeqAt.tuple_index_ints tp (Vals.ints rv) hk ⟨.int (ns.idxOf k : Nat), H, I.tok _, ⟨_, rfl⟩, q⟩

/-- t[::-1] -/
def tRevT (K : PySem.W.Frag) (te : TE) : TE := fun σ H Q => te σ H fun x H1 => ∃ a xs, x = .ref a ∧ SqT K H1 a xs ∧ ∀ p, H1 p = none → Q (.ref p) (upd H1 p (.tup xs.reverse))
end
section
variable {prog : Program} {w : World} {A : Around} {E : Value → Shared → Prop} {s : Shared}
theorem fm_congr {α β : Type} {f g : α → Option β} : ∀ l : List α, (∀ x ∈ l, f x = g x) → l.filterMap f = l.filterMap g
  | [], _ => rfl
  | a :: l, h => by
    rw [List.filterMap_cons, List.filterMap_cons, h a (List.mem_cons_self ..), fm_congr l fun x z => h x (List.mem_cons_of_mem _ z)]
theorem back_places (n : Nat) : Builtin.Slice.sliceAdjust none none (-1) (n : Int) = ((n : Int) - 1, -1) ∧ Builtin.Slice.slicePlaces ((n : Int) - 1) (-1) (-1) = n := by
  refine ⟨by unfold Builtin.Slice.sliceAdjust; rfl, ?_⟩
  unfold Builtin.Slice.slicePlaces
  rw [if_neg (by decide)]
  by_cases h : (n : Int) - 1 > -1
  · rw [if_pos h, show (-(-1 : Int)) = 1 by decide, Int.ediv_one]
    omega
  · rw [if_neg h]
    omega
theorem back_pick (xs : Array Value) : ((List.range xs.size).filterMap fun (k : Nat) => xs[(((xs.size : Int) - 1) + (k : Int) * (-1)).toNat]?).toArray = xs.toList.reverse.toArray := by
  have h := PySem.W.krv_pick xs
  unfold slicePick at h
  rw [PySem.W.krv_bounds] at h
  have h' : ((sliceRange ((xs.size : Int) - 1) (-1) (-1)).filterMap (xs[·]?)).toArray = xs.toList.reverse.toArray := h
  rw [PySem.W.krv_sliceRange, List.filterMap_map] at h'
  rw [← h']
  congr 1
  refine fm_congr _ fun k hk => ?_
  have := List.mem_range.mp hk
  show xs[_]? = xs[xs.size - 1 - k]?
  congr 1
  omega
theorem back_tup {t sl : Addr} {us : Array Value} {vs : Value} {G : Value → Shared → Prop} (tp : IsTup s.heap t us) (hs : s.heap.IsSliceOf sl .none .none vs) (ps : IsPart vs (some (-1))) (fits : us.size ≤ sizeLine)
    (g : G (.ref s.heap.objs.size) { s with heap := s.heap.push { cls := .type "tuple", data := .seq us.toList.reverse.toArray } }) : wpAny (model prog w) A (getItem (.ref t) (.ref sl)) G E s := by
  have ok : sizeOk (.seq us.toList.reverse.toArray) := by
    show us.toList.reverse.toArray.size ≤ sizeLine
    rw [List.size_toArray, List.length_reverse, Array.length_toList]
    exact fits
  obtain ⟨os, e1, e2, e3⟩ := id hs
  have ty : s.TypeIs (.ref sl) "slice" := ⟨os, e1, e2⟩
  unfold getItem
  try with_reducible refine wpAny_holding ?_
  first | refine wpAny_bind (wpAny_pure ?_) | skip
  refine wpAny_bind (wpAny_sequenceKey tp.typeIs (by decide) (wpAny_bind (wpAny_callSpecial?_slot (name := Str.ofString "__getitem__") tp.typeIs PyProof.Rows.slot_tuple_getitem
    (wpAny_call_entry PyProof.Rows.slot_tuple_getitem tp.typeIs entry_tuple_getitem ?_ (args_tuple_getitem _ _)))))
  show wpAny _ _ (Builtin.Tuple.tupleItemsOf (.ref t) >>= _) _ _ s
  refine wpAny_bind (tupleItemsOf_ tp (wpAny_bind (wpAny_typeOf ty ?_)))
  rw [if_pos (by decide)]
  have app : ∀ {R : Int × Int × Nat → Shared → Prop} {B : Around} {F : Value → Shared → Prop}, R ((us.size : Int) - 1, -1, us.size) s → wpAny (model prog w) B (Builtin.Slice.sliceApplied (.ref sl) (pure (us.size : Int))) R F s := fun r => by
    unfold Builtin.Slice.sliceApplied Builtin.Slice.sliceFields
    refine wpAny_bind (wpAny_bind (wpAny_field e1 e3 (x := .none) rfl (wpAny_bind (wpAny_field e1 e3 (x := .none) rfl (wpAny_bind (wpAny_field e1 e3 (x := vs) rfl (wpAny_pure ?_)))))))
    refine wpAny_bind (HT.slicePart_ ps ?_)
    show wpAny _ _ (if ((-1 : Int) == 0) = true then _ else _) _ _ s
    rw [if_neg (by decide)]
    refine wpAny_bind (HT.slicePart_ .none (wpAny_bind (HT.slicePart_ .none (wpAny_bind (wpAny_pure ?_)))))
    show wpAny _ _ (match Builtin.Slice.sliceAdjust none none (-1) (us.size : Int) with | (lo, hi) => pure (lo, (-1 : Int), Builtin.Slice.slicePlaces lo hi (-1))) _ _ s
    rw [(back_places us.size).1]
    show wpAny _ _ (pure ((us.size : Int) - 1, (-1 : Int), Builtin.Slice.slicePlaces ((us.size : Int) - 1) (-1) (-1))) _ _ s
    rw [(back_places us.size).2]
    exact wpAny_pure r
  refine wpAny_bind (app ?_)
  have no : ¬ ((((us.size : Int) - 1) == 0 && (-1 : Int) == 1 && us.size == us.size) = true) := by
    rw [show ((-1 : Int) == 1) = false by decide, Bool.and_false, Bool.false_and]
    exact Bool.false_ne_true
  show wpAny _ _ (if (((us.size : Int) - 1) == 0 && (-1 : Int) == 1 && us.size == us.size) = true then _ else _) _ _ s
  rw [if_neg no, back_pick]
  first
    | exact wpAny_bind (m := Builtin.Tuple.tupleExact _) (wpAny_newObj_type (wpAny_pure ⟨_, rfl, wpAny_pure g⟩) ok)
    | exact wpAny_bind (m := Builtin.Tuple.tupleExact _) (wpAny_newObj_type (wpAny_bind (wpAny_pure (wpAny_pure ⟨_, rfl, wpAny_pure g⟩))) ok)
    | exact wpAny_bind (wpAny_bind (m := Builtin.Tuple.tupleExact _) (wpAny_newObj_type (wpAny_pure (wpAny_pure ⟨_, rfl, wpAny_pure g⟩)) ok))
    | exact wpAny_bind (wpAny_bind (m := Builtin.Tuple.tupleExact _) (wpAny_newObj_type (wpAny_pure ⟨_, rfl, wpAny_pure g⟩) ok))
end
section
variable {X : Cx}
theorem pe_revT {e : Expr} {te : TE} {k : Nat} {p1 p2 p3 pos : Pos} (he : PE X e te) : PE X (.Subscript e (.Slice none none (some (.UnaryOp .USub (.Constant (.int 1) k p1) p2)) p3) pos) (tRevT X.K te) := by
  refine ⟨fun pins s σ H Q I h => Subscript_ (thn (he.run pins s σ H _ I h) fun v s1 ⟨x, H1, I1, r1, a, xs, ex, hx, q⟩ => ?_)⟩
  subst ex
  cases r1
  have step : PO X (some (.UnaryOp .USub (.Constant (.int 1) k p1) p2)) (tPart (tUn (rU fun i => .int (-i)) (tC (.int 1)))) := po_some (pe_un un_neg pe_int)
  refine wpAny_Slice (thn (po_none.run pins s1 σ H1 (fun o J => o = none ∧ J = H1) I1 ⟨rfl, rfl⟩) fun vl s2 ⟨l, H2, I2, pl, el, e2⟩ => ?_)
  subst el e2
  refine thn (po_none.run pins s2 σ H2 (fun o J => o = none ∧ J = H2) I2 ⟨rfl, rfl⟩) fun vu s3 ⟨u, H3, I3, pu, eu, e3⟩ => ?_
  subst eu e3
  refine thn (step.run pins s3 σ H3 (fun o J => o = some (-1) ∧ J = H3) I3 ⟨1, rfl, -1, rfl, rfl, rfl⟩) fun vs s4 ⟨o, H4, I4, ps, eo, e4⟩ => ?_
  subst eo e4
  have I5 : Inv X pins σ H4 { s4 with heap := s4.heap.push { cls := .type "slice", data := .fields #[vl, vu, vs] } } := I4.kept (t' := s4.toks) fun b ob z => Heap.get?_push_of_some _ z
  obtain ⟨its, r, tp, hz⟩ := I5.tuple hx
  cases pl
  cases pu
  show wpAny (model X.prog X.w) X.A (subscriptTail e (.Slice none none (some (.UnaryOp .USub (.Constant (.int 1) k p1) p2)) p3) (.ref a) (.ref s4.heap.objs.size)) (EP X pins σ Q) X.xe { s4 with heap := s4.heap.push { cls := .type "slice", data := .fields #[.none, .none, vs] } }
  refine tail_any (ops := [.ref a, .ref s4.heap.objs.size]) tp.typeIs (PyProof.Rows.slot_tuple_getitem.lookup) ?_ (by with_unfolding_all rfl)
  refine back_tup tp (Heap.IsSliceOf.new _ .none .none vs) ps (by rw [List.size_toArray, ← r.length]; exact hz) ?_
  refine ⟨.ref _, _, I5.laid (t' := s4.toks) (o := .tup xs.reverse) (fun b ob z => Heap.get?_push_of_some _ z) (Nat.le_refl _) ?_, rfl, q _ (I5.hok.fresh (Nat.le_refl _))⟩
  exact ⟨by rw [List.length_reverse]; exact hz, _, r.reverse, ⟨_, Heap.get?_push_size _ rfl, rfl, 0, by simp⟩⟩
end
/-! ### enumerate(t), t a tuple -/
abbrev tIter (t : Addr) : Obj := { cls := .type "tuple_iterator", data := .fields #[.ref t, .int 0 0] }
abbrev tEnum (it : Addr) : Obj := { cls := .type "enumerate", data := .fields #[.none, .bool false, .ref it, rawInt 0, .none, .none] }
theorem meets_enumT (t : Addr) (us : Array Value) (n : Nat) (dd : Option Addr) (sl : Array (Option Value)) :
    Meets (Builtin.«enumerate.__new__» ⟨[.type "enumerate", .ref t], []⟩) (fun _ R s => s.heap.get? t = some { cls := .type "tuple", dict := dd, data := .seq us n, slots := sl } ∧
      R (.ok (.ret (.ref (s.heap.push (tIter t)).objs.size))) { s with heap := (s.heap.push (tIter t)).push (tEnum s.heap.objs.size) }) :=
  .of_wp fun prog w A R z hz => by
    obtain ⟨h0, g0, d0, k0, o0⟩ := z
    obtain ⟨at_, fin⟩ := hz
    have sub_ := sub_enumerate
    have tp : Heap.IsTuple (Shared.heap ⟨h0, g0, d0, k0, o0⟩) t us := ⟨_, at_, rfl, n, rfl⟩
    wp_walk using AutoSeq1.wpAny_loadPart' at_
    refine wpAny_stack_any fun stk => wpAny_pure ?_
    split
    · rename_i c _ _ _ _ _
      cases (c == Value.type "enumerate") <;>
      · wp_walk using AutoSeq1.wpAny_loadPart' at_, wpAny_pyIter_tuple tp
        exact ⟨_, rfl, fin⟩
    · wp_walk using AutoSeq1.wpAny_loadPart' at_, wpAny_pyIter_tuple tp
      exact ⟨_, rfl, fin⟩
section
variable {prog : Program} {w : World} {A : Around} {E : Value → Shared → Prop} {s : Shared}
theorem make_enumT {t : Addr} {us : Array Value} {G : Value → Shared → Prop} (tp : s.heap.IsTuple t us)
    (g : ∀ hN, IsEnum hN (s.heap.objs.size + 1) s.heap.objs.size 0 .none → hN.IsTupleIter s.heap.objs.size t 0 → (∀ b o, s.heap.get? b = some o → hN.get? b = some o) → G (.ref (s.heap.objs.size + 1)) { s with heap := hN }) :
    wpAny (model prog w) A (call (.type "enumerate") [.ref t]) G E s := by
  obtain ⟨⟨c, dd, dt, sl⟩, at_, cl, n, da⟩ := tp
  obtain rfl : c = .type "tuple" := cl
  obtain rfl : dt = .seq us n := da
  refine callType_new F.called_enumerate (by decide) (F.typeCall_enumerate_1 _) (F.newCall_enumerate_1 _) (fun obj => F.args_object_init_2 obj _) F.entry_enumerate_new (meets_enumT t us n dd sl) ⟨at_, ?_⟩
  have sz : (s.heap.push (tIter t)).objs.size = s.heap.objs.size + 1 := Heap.size_push ..
  show _ ∧ _
  rw [sz]
  have en : IsEnum ((s.heap.push (tIter t)).push (tEnum s.heap.objs.size)) (s.heap.objs.size + 1) s.heap.objs.size 0 .none := by
    have q := Heap.get?_push_size (s.heap.push (tIter t)) (o := tEnum s.heap.objs.size) rfl
    rw [sz] at q
    exact q
  exact ⟨⟨_, en, rfl⟩, g _ en ⟨_, Heap.get?_push_of_some _ (Heap.get?_push_size _ rfl), rfl, rfl⟩ fun b o x => Heap.get?_push_of_some _ (Heap.get?_push_of_some _ x)⟩
end
/-- the tuple at a, each item in a new pair -/
def Itet (K : PySem.W.Frag) (a : Addr) : It :=
  ⟨fun i H => ∃ (xs : List V) (x : V), SqT K H a xs ∧ xs[i]? = some x, fun i H v H' => ∃ T x, v = .ref T ∧ H T = none ∧ H' = upd H T (.tup [.int (i : Nat), x]) ∧ ∀ xs, SqT K H a xs → xs[i]? = some x, fun i H => ∃ xs : List V, SqT K H a xs ∧ xs.length = i⟩
theorem turn_enumT {P : Program} {w : World} {K : PySem.W.Frag} {elts : List Expr} {kk : Nat} {tpos : Pos} (a e it : Addr) :
    Turn P w K (.Tuple elts kk tpos) (Itet K a) [e, it] e (fun i h => (∃ old, IsEnum h e it ((i : Nat) : Int) old) ∧ h.IsTupleIter it a i ∧ e ≠ it ∧ e ≠ a ∧ a ≠ it) where
  mem := by simp
  obj := fun i h st b hb => by
    obtain ⟨⟨old, he⟩, ⟨o, ho, _, hd⟩, _⟩ := st
    rcases (by simpa using hb : b = e ∨ b = it) with z | z
    · rw [z]; exact ⟨_, he, fun v q => nomatch q⟩
    · rw [z]; exact ⟨o, ho, fun v q => by rw [hd] at q; cases q⟩
  keep := fun i h h' st k => let ⟨⟨old, he⟩, hi, r⟩ := st; ⟨⟨old, k e (by simp) _ he⟩, hi.at fun o q => k it (by simp) o q, r⟩
  item := by
    intro X hP hw hK hc i pins s σ H E I hf st hg
    subst hP hw hK
    obtain ⟨⟨old, he⟩, hit, ne1, ne2, ne3⟩ := st
    obtain ⟨xs, x, hq, hx⟩ := hg
    obtain ⟨its, rv, tp, _⟩ := I.tuple hq
    obtain ⟨u, hu, ru⟩ := rv.get hx
    have le : e < s.heap.objs.size := Heap.lt_size he
    have li : it < s.heap.objs.size := by obtain ⟨_, q, _⟩ := hit; exact Heap.lt_size q
    have hi : i < its.toArray.size := by rw [List.size_toArray]; exact (List.getElem?_eq_some_iff.mp hu).1
    have calm : X.A.in1.handled = none := by have := I.ok.hd hc; simpa using this
    refine wpAny_pyNext_enum_itemD (Draws.tuple calm it a ne3 its.toArray) he ⟨hit, tp⟩ hi ne1 (by simp only [List.mem_cons, List.not_mem_nil, or_false, not_or]; exact ⟨ne1, ne2⟩) fun y h' tk hy ho st' hT _ hk => ?_
    obtain rfl : y = u := by
      have q : its[i]? = some y := by rw [← List.getElem?_toArray]; exact hy
      exact Option.some.inj (q.symm.trans hu)
    refine ⟨_, rfl, wpAny_letOwnedTupleGo_enum (s := { s with heap := h', toks := tk + 1 }) ho fun h'' he' sb => ?_⟩
    have hT2 : h''.get? s.heap.objs.size = some { cls := .type "tuple", data := .seq #[.int i tk, y] } := (sb.2 _ (Nat.ne_of_gt le)).trans hT
    have I1 : Inv X pins σ (upd H s.heap.objs.size (.tup [.int (i : Nat), x])) { s with heap := h'', toks := tk + 1 } :=
      I.turnedNew (ch := [e, it]) (fun b ob hb q => (sb.2 b (fun z => hb (by simp [z]))).trans (hk b ob (fun z => hb (by simp [z])) (fun z => hb (by simp [z])) q)) hf (Nat.le_refl _)
        ⟨by show 2 ≤ sizeLine; decide, [.int i tk, y], .cons ⟨_, rfl⟩ (.cons ru .nil), ⟨_, hT2, rfl, _, rfl⟩⟩
    refine ⟨.ref s.heap.objs.size, _, I1, rfl, ⟨_, x, rfl, I.hok.fresh (Nat.le_refl _), rfl, fun ys hy => by rw [I.tuple_inj hy hq]; exact hx⟩, ⟨⟨y, ?_⟩, st'.1.at fun o q => (sb.2 it (Ne.symm ne1)).trans q, ne1, ne2, ne3⟩, fun b hb => ?_⟩
    · rw [show ((i + 1 : Nat) : Int) = (i : Int) + 1 by omega]
      exact he'
    · have lb : b < s.heap.objs.size := by
        rcases (by simpa using hb : b = e ∨ b = it) with z | z
        · rw [z]; exact le
        · rw [z]; exact li
      rw [upd_ne (Nat.ne_of_lt lb)]
      exact (hf b hb).1
  done := by
    intro X hP hw hK hc i pins s σ H E I hf st hg
    subst hP hw hK
    obtain ⟨⟨old, he⟩, hit, ne1, ne2, ne3⟩ := st
    obtain ⟨xs, hq, hx⟩ := hg
    obtain ⟨its, rv, tp, _⟩ := I.tuple hq
    obtain ⟨f0, f1, f2, f3, f4, f5⟩ := hf it (by simp)
    have calm : X.A.in1.handled = none := by have := I.ok.hd hc; simpa using this
    have hn : its.toArray.size = i := by rw [List.size_toArray, ← rv.length, hx]
    exact wpAny_pyNext_enum_endD (Draws.tuple calm it a ne3 its.toArray) he ⟨by rw [hn]; exact hit, tp⟩ fun h' eb => ⟨rfl, I.turned (t' := s.toks) (fun b o hb q => eb b o hb q) f0 f1 f3 f4 f5⟩
  self := fun A i s Q E st h => let ⟨⟨_, he⟩, _⟩ := st; wpAny_pyIter_enum he h
def iEnumT (K : PySem.W.Frag) (ta : TA) : TI := fun σ H R => ta σ H fun vs H1 => ∃ a xs, vs = [.ref a] ∧ SqT K H1 a xs ∧ R (Itet K a) H1
theorem pi_enumT {X : Cx} {e : Expr} {ta : TA} {p pos tpos : Pos} {elts : List Expr} {kk : Nat} (hg : Gl X "enumerate") (hm : X.mg "enumerate" = none) (ha : PA X [e] ta) (hs : starEach [e] X.env = [(false, eval e X.env)] := by rfl) :
    PI X (.Tuple elts kk tpos) (.Call (.Name "enumerate" p) [e] [] pos) (iEnumT X.K ta) := by
  refine ⟨fun pins s σ H R I h => Call_ (ld_blt I hg hm boot_enumerate (PyProof.Rows.callWith_type1 (thn (ha.run pos pins s σ H _ I h) fun us s1 ⟨vs, H1, I1, r1, a, xs, ex, hq, q⟩ => ?_) hs rfl))⟩
  subst ex
  obtain ⟨its, rv, tp, _⟩ := I1.tuple hq
  have la : a < s1.heap.objs.size := by obtain ⟨_, z, _⟩ := tp; exact Heap.lt_size z
  rw [Vals.ref1 r1]
  refine make_enumT tp fun hN he hit kp => wpAny_pyIter_enum he ?_
  refine ⟨s1.heap.objs.size + 1, [s1.heap.objs.size + 1, s1.heap.objs.size], _, _, H1, rfl, I1.kept (t' := s1.toks) kp, turn_enumT a (s1.heap.objs.size + 1) s1.heap.objs.size, ⟨⟨.none, he⟩, hit, Nat.succ_ne_self _, Nat.ne_of_gt (Nat.lt_succ_of_lt la), Nat.ne_of_lt la⟩, fun b hb => ?_, q⟩
  have le : s1.heap.objs.size ≤ b := by
    rcases (by simpa using hb : b = s1.heap.objs.size + 1 ∨ b = s1.heap.objs.size) with z | z
    · rw [z]; exact Nat.le_succ _
    · rw [z]; exact Nat.le_refl _
  exact I1.fpOk le (I1.hok.fresh le)
theorem walk_enumT {K : PySem.W.Frag} {a : Addr} {xs : List V} : Walk (Itet K a) xs.length (fun H => SqT K H a xs) (YPair (fun i => some (.int (i : Nat))) (fun i => xs[i]?)) := by
  refine ⟨fun i _ hi q => ⟨xs, xs[i], q, by simp [hi]⟩, fun _ q => ⟨xs, q, rfl⟩, fun i H v H' _ q y => ?_⟩
  obtain ⟨T, x, h1, h2, h3, h4⟩ := y
  exact ⟨T, .int (i : Nat), x, h1, h2, h3, rfl, h4 xs q⟩
end KR

set_option Elab.async false
set_option linter.all false
set_option maxRecDepth 100000
set_option maxHeartbeats 4000000
/-! Rules: the item of a list under an augmented store; a dict brought up to date from another one. -/
namespace KR
open PySem PySem.Spec L2
open PyProof.Rows hiding St
section
variable {X : Cx}
def rGetL : V → V → Hp → VK → Prop := fun o i H Q => ∃ p xs k z, o = .ref p ∧ i = .int k ∧ H p = some (.lst xs) ∧ 0 ≤ k ∧ xs[k.toNat]? = some z ∧ Q z H
theorem get_list : PGet X rGetL := by
  intro pins s σ H o i ov iv Q I ro ri h
  obtain ⟨p, xs, k, z, rfl, rfl, hp, h0, hx, q⟩ := h
  cases ro
  obtain ⟨t, rfl⟩ := ri
  obtain ⟨its, r, pl, hz⟩ := I.list (SqL.of hp)
  obtain ⟨w, ew, rw'⟩ := r.get hx
  have hl := r.length
  have hn := line63
  have lt := (List.getElem?_eq_some_iff.mp hx).1
  refine wpAny_getItem_list pl.isList h0 ?_ (by simpa using ew) ⟨z, H, I, rw', q⟩
  omega
/-- d.update(e), two dicts -/
def tDUpd (td ty : TE) : TE := fun σ H Q => td σ H fun x H1 => ∃ a, x = .ref a ∧ IsD H1 a ∧ ty σ H1 fun y H2 => ∃ b kvs more, y = .ref b ∧ H2 a = some (.dK kvs) ∧ H2 b = some (.dK more) ∧ a ≠ b ∧ kvs.length + more.length ≤ sizeLine ∧ Q .non (upd H2 a (.dK (mergeK kvs more)))
variable {o e : Expr} {td ty : TE} {apos cpos : Pos}
theorem pe_dupd (ho : PE X o td) (he : PE X e ty) (m : M1 X o "update" apos e cpos) : PE X (.Call (.Attribute o "update" apos) [e] [] cpos) (tDUpd td ty) := by
  refine ⟨fun pins s σ H Q I h => ?_⟩
  refine wpAny_Call_method m.base m.few m.line PySem.F.plainAttrs_dict PySem.F.slot_dict_update PySem.F.type_dict_update (thn (ho.run pins s σ H _ I h) fun u s1 ⟨x, H1, I1, rx, a, ex, d, q1⟩ => ?_)
  subst ex
  obtain rfl : u = Value.ref a := rx
  obtain ⟨t1, t2, _⟩ := isD_at I1 d
  refine ⟨t1, t2, ?_⟩
  rw [m.trees]
  refine Calls.callWith_builtin rfl (Calls.evalArgs_plain (Calls.spliced_cons (thn (he.run pins s1 σ H1 _ I1 q1) fun iv s2 ⟨y, H2, I2, ry, b, kvs, more, ey, ea, eb, ne, sz, q2⟩ => Calls.spliced_nil ?_)))
  subst ey
  obtain rfl : iv = Value.ref b := ry
  obtain ⟨za, hda, vs, rel, dd⟩ := dk_of I2.hok ea
  obtain ⟨zb, hdb, ws, rel2, dd2⟩ := dk_of I2.hok eb
  refine call_meetsIn PySem.F.slot_dict_update dd.typeIs PySem.F.entry_dict_update (PySem.F.args_dict_update_2 _ _) (meets_dict_update (mixKind X.prog X.w) a b ne hdb)
    ⟨vs, ws, dd, dd2, by rw [← rel.length, ← rel2.length]; exact sz, fun h' dd' _ hs => ⟨.non, _, ?_, rfl, q2⟩⟩
  have he : ∃ q, h'.get? a = some q := let ⟨q, _, _, hq, _⟩ := dd'; ⟨q, hq⟩
  exact d_write I2 (by rw [ea]; exact True.intro) hs he (dk_new (Nat.le_trans (length_mergeK more kvs) sz) hda (KV.merge rel2 rel) dd')
end
end KR

set_option Elab.async false
set_option linter.all false
set_option maxRecDepth 100000
set_option maxHeartbeats 4000000
/-! Rules: how many unlike ints, a tuple of ints sorted. -/
namespace KR
open PySem PySem.Spec L2
open PyProof.Rows hiding St
/-- rows with the same members -/
theorem nd_perm : ∀ {ks ns : List Int}, ks.Nodup → (∀ k ∈ ks, k ∈ ns) → ns.length ≤ ks.length → ks.Perm ns
  | [], ns, _, _, h => by
    have : ns = [] := List.length_eq_zero_iff.mp (Nat.le_zero.mp h)
    rw [this]
  | q :: M, ns, nd, s, h => by
    obtain ⟨n1, n2⟩ := List.nodup_cons.mp nd
    have hq := s q (List.mem_cons_self ..)
    have pe := List.perm_cons_erase hq
    have pos := List.length_pos_of_mem hq
    refine (List.Perm.cons q (nd_perm n2 (fun r hr => ?_) ?_)).trans pe.symm
    · exact (List.mem_erase_of_ne (fun e : r = q => n1 (e ▸ hr))).mpr (s r (List.mem_cons_of_mem _ hr))
    · rw [List.length_erase_of_mem hq]
      rw [List.length_cons] at h
      omega
theorem nd_le : ∀ {ks ns : List Int}, ks.Nodup → (∀ k ∈ ks, k ∈ ns) → ks.length ≤ ns.length
  | [], _, _, _ => Nat.zero_le _
  | q :: M, ns, nd, s => by
    obtain ⟨n1, n2⟩ := List.nodup_cons.mp nd
    have hq := s q (List.mem_cons_self ..)
    have pos := List.length_pos_of_mem hq
    have := nd_le (ks := M) (ns := ns.erase q) n2 fun r hr => (List.mem_erase_of_ne (fun e : r = q => n1 (e ▸ hr))).mpr (s r (List.mem_cons_of_mem _ hr))
    rw [List.length_erase_of_mem hq] at this
    rw [List.length_cons]
    omega
/-- how many there are tells whether there are equal ones -/
theorem nd_count {ks ns : List Int} (nd : ks.Nodup) (h : ∀ k, k ∈ ks ↔ k ∈ ns) : ks.length ≤ ns.length ∧ (ks.length = ns.length ↔ ns.Nodup) := by
  refine ⟨nd_le nd fun k z => (h k).mp z, fun e => ?_, fun z => ?_⟩
  · exact (nd_perm nd (fun k z => (h k).mp z) (by omega)).nodup_iff.mp nd
  · have a := nd_le nd fun k z => (h k).mp z
    have b := nd_le z fun k z => (h k).mpr z
    omega
theorem met_nd (val : Nat → Int) : ∀ i, (firstMet val i).Nodup ∧ ∀ k, k ∈ firstMet val i ↔ k ∈ (List.range i).map val
  | 0 => ⟨by rw [firstMet_zero]; exact .nil, fun k => by rw [firstMet_zero] <;> simp⟩
  | i + 1 => by
    obtain ⟨a, b⟩ := met_nd val i
    rw [firstMet_succ, List.range_succ, List.map_append]
    unfold step_dedup
    by_cases c : (firstMet val i).any (· == val i) = true
    · rw [if_pos c]
      have m : val i ∈ firstMet val i := by
        obtain ⟨x, hx, e⟩ := List.any_eq_true.mp c
        rw [beq_iff_eq] at e
        exact e ▸ hx
      refine ⟨a, fun k => ?_⟩
      rw [b k, List.mem_append]
      exact ⟨.inl, fun z => z.elim id fun z => by rw [List.mem_map] at z; obtain ⟨j, hj, e⟩ := z; rw [List.mem_singleton] at hj; subst hj; rw [← e]; exact (b _).mp m⟩
    · rw [if_neg c]
      refine ⟨List.nodup_append.mpr ⟨a, by simp, fun x hx y hy e => ?_⟩, fun k => ?_⟩
      · rw [List.mem_singleton.mp hy] at e
        subst e
        exact c (List.any_eq_true.mpr ⟨_, hx, beq_self_eq_true _⟩)
      · rw [List.mem_append, List.mem_append, b k]
        simp
section
variable {prog : Program} {w : World} {A : Around} {E : Value → Shared → Prop} {s : Shared} {l : Addr} {its : List Value} {ns : List Int} {Q : Value → Shared → Prop}
/-- sum(t), t a tuple of ints -/
theorem sum_rawT (hh : A.handled = none) (hl : s.heap.IsTuple l its.toArray) (hi : IntsAre its ns)
    (h : ∀ h' tk t', (∀ b o, s.heap.get? b = some o → h'.get? b = some o) → Q (.int ns.sum t') { s with heap := h', toks := tk }) : wpAny (model prog w) A (call (.builtin "sum") [.ref l]) Q E s := by
  obtain ⟨xs, e⟩ := hi.allInts.items
  have hn : numsOf (intItems xs).toList = ns := by rw [← e]; exact hi.numsOf
  rw [nums_intItems] at hn
  rw [e] at hl
  have hlt : l < s.heap.objs.size := by obtain ⟨_, e, _⟩ := hl; exact Heap.lt_size e
  refine call_sum_walkG (wpAny_pyIter_tuple hl ?_)
  refine ⟨_, [_, l], [_], _, _, _, numAt xs, rfl, Walks.tuple (A := A.in1) hh _ l (Nat.ne_of_lt hlt) (intItems xs), ⟨⟨_, Heap.get?_push_size _ rfl, rfl, rfl⟩, hl.push _⟩, fun c hc => ?_, (fun _ _ => intItems_at), fun h' tk t' hk => ?_⟩
  · show c < (s.heap.push _).objs.size
    rw [Heap.size_push]
    rcases List.mem_cons.mp hc with rfl | hc
    · exact Nat.lt_succ_self _
    · rcases List.mem_cons.mp hc with rfl | hc
      · exact Nat.lt_succ_of_lt hlt
      · cases hc
  · have hold : ∀ c o, s.heap.get? c = some o → h'.get? c = some o := fun c o e => by
      refine hk c o (fun hm => ?_) (Heap.get?_push_of_some _ e)
      rcases List.mem_cons.mp hm with e1 | hm
      · have := Heap.lt_size e
        rw [e1] at this
        exact Nat.lt_irrefl _ this
      · cases hm
    have := h h' tk t' hold
    have sz : (intItems xs).size = xs.size := by simp [intItems]
    rw [sz, preSum_eq, List.take_of_length_le (by simp), hn]
    exact this
end
section
variable {X : Cx}
def rSumT (K : PySem.W.Frag) : List V → Hp → VK → Prop := fun vs H Q => ∃ (a : Addr) (ns : List Int), vs = [V.ref a] ∧ SqT K H a (ns.map V.int) ∧ Q (.int ns.sum) H
theorem cr_sumT (hc : X.calm = true) : CallR X (.builtin "sum") (rSumT X.K) := by
  intro pins s σ H vs us Q I r h
  obtain ⟨a, ns, rfl, hs, q⟩ := h
  obtain ⟨its, rv, hl, _⟩ := I.tuple hs
  rw [Vals.ref1 r]
  exact sum_rawT (I.ok.hd hc) hl rv.ints fun h' tk t' hk => ⟨.int _, H, I.kept hk, ⟨_, rfl⟩, q⟩
/-- len of a set of ints -/
def rLenO (w : World) : List V → Hp → VK → Prop := fun xs H Q => ∃ (a : Addr) (S : Int → Bool) (n : Nat), xs = [V.ref a] ∧ H a = some (SetO w a S n) ∧ ∀ ks : List Int, ks.Nodup → (∀ k, S k = true ↔ k ∈ ks) → ks.length = n → Q (.int (n : Nat)) H
theorem call_len_setO : CallR X (.builtin "len") (rLenO X.w) := by
  intro pins s σ H xs us Q I r h
  obtain ⟨a, S, n, rfl, ha, q⟩ := h
  obtain ⟨o, es, ep, t, ho, hex, hd, g, nd, hm, hb, hf, hn, _⟩ := setO_get I ha
  rw [Vals.ref1 r]
  refine call_len_set ho hex hd hf (by unfold scanBound at hb; omega) ⟨.int es.size, H, I.tok _, ⟨_, rfl⟩, ?_⟩
  rw [hn]
  refine q (es.toList.map keyOf) nd hm ?_
  rw [List.length_map, Array.length_toList, hn]
/-- len(set(xs)), xs a list of ints -/
def tLenSetN (K : PySem.W.Frag) (ta : TE) : TE := fun σ H Q => ta σ H fun x H1 => ∃ (l : Addr) (ns : List Int), x = .ref l ∧ SqL K H1 l (ns.map V.int) ∧ ns.length ≤ 4000 ∧ ∀ c : Nat, c ≤ ns.length → (c = ns.length ↔ ns.Nodup) → Q (.int (c : Nat)) H1
theorem pe_lenSetN {a : Expr} {ta : TE} {p p2 q pos : Pos} (hg : Gl X "len") (hm : X.mg "len" = none) (hg2 : Gl X "set") (hm2 : X.mg "set" = none) (ha : PE X a ta) (hc : X.calm = true := by rfl)
    (na : starEach [a] X.env = (false, eval a X.env) :: starEach [] X.env := by rfl) : PE X (.Call (.Name "len" p) [.Call (.Name "set" p2) [a] [] q] [] pos) (tLenSetN X.K ta) := by
  refine ⟨fun pins s σ H Q I h => ?_⟩
  refine Call_ (ld_blt I hg hm boot_len ?_)
  refine PyProof.Rows.callWith_builtin1 (PyProof.Rows.args_cons ?_ rfl) rfl rfl
  refine Call_ (ld_blt I hg2 hm2 boot_set ?_)
  refine PyProof.Rows.callWith_type1 (PyProof.Rows.args_cons (thn (ha.run pins s σ H _ I h) fun v s1 ⟨x, H1, I1, r1, q1⟩ => PyProof.Rows.args_nil ?_) na) na rfl
  obtain ⟨l, ns, rfl, hq, hl, q1⟩ := q1
  cases r1
  obtain ⟨its, r, pl, hz⟩ := I1.list hq
  have hlen : its.toArray.size = ns.length := by rw [List.size_toArray, ← r.length, List.length_map]
  refine call_set_list (I1.ok.hd hc) pl.isList (by simpa using r.ints) (by rw [hlen]; unfold scanBound; omega) fun h' tk hS hk => ?_
  refine PyProof.Rows.args_nil ?_
  rw [hlen] at hS
  obtain ⟨o, es, ep, t, ho, hex, hd, _, _, _, hf, hn⟩ := hS
  have I2 : Inv X pins σ H1 { s1 with heap := h', toks := tk } := I1.kept fun b o e => hk b o (Heap.lt_size e) e
  obtain ⟨m1, m2⟩ := met_nd (fun i => ns.getD i 0) ns.length
  have e0 : (List.range ns.length).map (fun i => ns.getD i 0) = ns := by
    refine List.ext_getElem (by simp) fun i h1 h2 => ?_
    simp [List.getD_eq_getElem?_getD, h2]
  rw [e0] at m2
  obtain ⟨c1, c2⟩ := nd_count m1 m2
  refine call_len_set ho hex hd hf (by rw [hn]; omega) ⟨.int es.size, H1, I2.tok _, ⟨_, rfl⟩, ?_⟩
  rw [hn]
  exact q1 _ c1 c2
/-- sorted(t), t a tuple of ints -/
def rSortTI (K : PySem.W.Frag) : List V → Hp → VK → Prop := fun vs H Q => ∃ (a : Addr) (ns : List Int), vs = [V.ref a] ∧ SqT K H a (ns.map V.int) ∧ ∀ (ms : List Int) (p : Addr), ms.Perm ns → ms.Pairwise (· ≤ ·) → H p = none → Q (.ref p) (upd H p (.lst (ms.map V.int)))
theorem cr_sortTI : CallR X (.builtin "sorted") (rSortTI X.K) := by
  intro pins s σ H vs us Q I r h
  obtain ⟨a, ns, rfl, hs, q⟩ := h
  obtain ⟨its, rv, tp, hz⟩ := I.tuple hs
  rw [Vals.ref1 r]
  have hi := rv.ints
  have len : its.length = ns.length := by rw [← rv.length, List.length_map]
  rw [List.length_map] at hz
  obtain ⟨o, ho, hcl, n, hda⟩ := id tp
  refine Calls.call_function_entry kind_sorted plain_sorted entry_sorted (args_sorted1 _) ?_
  unfold Builtin.«sorted»
  refine wpAny_bind (m := checkCount "sorted" 1 1 _) (wpAny_pure ?_)
  refine wpAny_bind (gather_tup ho hcl hda (by show its.toArray.size ≤ sizeLine; rw [List.size_toArray, len]; exact hz) fun h1 k1 ge => ?_)
  refine wpAny_bind (wpAny_newList ?_ (by show its.length ≤ _; rw [len]; exact hz))
  have atL : (h1.push (seqObj "list" its.toArray 0)).get? h1.objs.size = some (seqObj "list" its.toArray 0) := Heap.get?_push_size _ rfl
  have keep : ∀ b u, s.heap.get? b = some u → (h1.push (seqObj "list" its.toArray 0)).get? b = some u := fun b u e => Heap.get?_push_of_some _ (k1 b u e)
  have atL' : (h1.push (seqObj "list" (its.toArray.toList.toArray) 0)).get? h1.objs.size = some (seqObj "list" its.toArray 0) := by simpa using atL
  have red : its.toArray.toList = its := by simp
  rw [red]
  refine wpAny_bind (wpAny_holding (wpAny_call_entry (s := { s with heap := h1.push (seqObj "list" its.toArray 0) }) PyProof.Rows.slot_list_sort ⟨_, atL, rfl⟩ PyProof.Rows.entry_list_sort
    (SrtO.list_sort_ord SrtO.swo_int atL (by rw [len]; exact hz) (fun h2 => SrtO.ints_sortable hi h2) fun out g1 g2 => ⟨.none, rfl, ?_⟩) (PyProof.Rows.args_list_sort _)))
  obtain ⟨j1, j2, j3⟩ := SrtO.ints_out hi g1 g2
  obtain ⟨c, hc⟩ := sortedHeap_at (vs := its) (out := out.toArray) atL
  have szs : ((out.map SrtO.iv).map V.int).length ≤ sizeLine := by rw [List.length_map, j2.length_eq]; exact hz
  have old : ∀ b u, s.heap.get? b = some u → (sortedHeap (h1.push (seqObj "list" its.toArray 0)) h1.objs.size its out.toArray).get? b = some u := fun b u e => by
    have lt := Heap.lt_size (k1 b u e)
    rw [sortedHeap_old (Nat.ne_of_lt lt) (by rw [size_push']; exact Nat.lt_succ_of_lt lt)]
    exact keep b u e
  exact wpAny_pure ⟨_, rfl, .ref h1.objs.size, upd H h1.objs.size (.lst ((out.map SrtO.iv).map V.int)), I.laid (t' := s.toks) old ge ⟨szs, out, c, vals_of_ints j1, hc⟩, rfl, q _ _ j2 j3 (I.hok.fresh ge)⟩
end
end KR

set_option Elab.async false
set_option linter.all false
set_option maxRecDepth 100000
set_option maxHeartbeats 4000000
/-! Tuples that are known to the last field: locked as they were made. -/
namespace KR
open PySem PySem.Spec L2
open PyProof.Rows hiding St
abbrev tobj (us : List Value) : Obj := { cls := .type "tuple", data := .seq us.toArray }
/-- at a stands a tuple of xs, made by a display's rule or another one of this file -/
def TupX (H : Hp) (a : Addr) (xs : List V) : Prop := ∃ us, H a = some (.frz (tobj us) (.tup xs))
theorem TupX.rd {H : Hp} {a : Addr} {xs : List V} (t : TupX H a xs) : Rd H a (.tup xs) := let ⟨us, e⟩ := t; .inr ⟨_, e⟩
theorem TupX.sq {K : PySem.W.Frag} {H : Hp} {a : Addr} {xs : List V} (t : TupX H a xs) : SqT K H a xs := .inl t.rd
theorem TupX.inj {H : Hp} {a : Addr} {xs ys : List V} (t : TupX H a xs) (u : TupX H a ys) : xs = ys := by
  obtain ⟨us, e⟩ := t
  obtain ⟨vs, e'⟩ := u
  rw [e] at e'
  cases e'
  rfl
theorem TupX.of {H : Hp} {a : Addr} {us : List Value} {xs : List V} : TupX (upd H a (.frz (tobj us) (.tup xs))) a xs := ⟨us, upd_same⟩
theorem TupX.same {H H' : Hp} {a : Addr} {xs : List V} (t : TupX H a xs) (s : Same H H') : TupX H' a xs := let ⟨us, e⟩ := t; ⟨us, s _ _ e⟩
section
variable {X : Cx} {pins : List (Addr × Obj)} {σ : L2.St} {H : Hp} {s : Shared}
theorem frz_ok {P : Program} {w : World} {H : Hp} {h : Heap} {a : Addr} {us : List Value} {xs : List V} (e : h.get? a = some (tobj us)) (r : Vals xs us) (z : xs.length ≤ sizeLine) : ObjOk P w H h a (.frz (tobj us) (.tup xs)) :=
  ⟨e, z, us, r, ⟨_, e, rfl, _, rfl⟩⟩
/-- tuple(l) -/
def rTupF (K : PySem.W.Frag) : List V → Hp → VK → Prop := fun xs H Q => ∃ p ys, xs = [.ref p] ∧ SqL K H p ys ∧ ∀ l us, H l = none → Q (.ref l) (upd H l (.frz (tobj us) (.tup ys)))
theorem call_tupF : CallR X (.type "tuple") (rTupF X.K) := by
  intro pins s σ H xs us Q I r h
  obtain ⟨p, ys, rfl, hq, q⟩ := h
  rw [Vals.ref1 r]
  obtain ⟨its, rv, pl, hz⟩ := I.list hq
  have len := rv.length
  refine call_tuple_list pl.isList (fun h' kp => ?_) (by simp only [List.size_toArray] <;> omega)
  have I1 : Inv X pins σ H { s with heap := h' } := I.kept (t' := s.toks) kp
  exact ⟨.ref h'.objs.size, _, I1.laid (t' := s.toks) (fun b o e => Heap.get?_push_of_some _ e) (Nat.le_refl _) (frz_ok (us := its) (Heap.get?_push_size _ rfl) rv hz), rfl, q _ its (I1.hok.fresh (Nat.le_refl _))⟩
/-- t[i:j] -/
def rSlF (K : PySem.W.Frag) : V → Option Int → Option Int → Hp → VK → Prop := fun x lo hi H Q => ∃ a xs, x = .ref a ∧ SqT K H a xs ∧
  (HT.sIx xs.length 0 lo = 0 ∧ HT.sIx xs.length xs.length hi = xs.length → Q (.ref a) H) ∧
  (¬ (HT.sIx xs.length 0 lo = 0 ∧ HT.sIx xs.length xs.length hi = xs.length) → ∀ p us, H p = none → Q (.ref p) (upd H p (.frz (tobj us) (.tup (cutV xs lo hi)))))
theorem sl_tupF : SlR X (rSlF X.K) := by
  intro pins s σ H x v vl vu lo hi sl Q I rx hs pl pu h
  obtain ⟨a, xs, rfl, hx, q1, q2⟩ := h
  cases rx
  obtain ⟨its, r, ht, hz⟩ := I.tuple hx
  have len : its.toArray.size = xs.length := by rw [List.size_toArray]; exact r.length.symm
  refine ⟨"tuple", _, PyProof.Rows.slot_tuple_getitem.lookup, ht.typeIs, ?_⟩
  by_cases hw : HT.sIx xs.length 0 lo = 0 ∧ HT.sIx xs.length xs.length hi = xs.length
  · exact getItem_tuple_whole ht hs pl pu (by rw [len]; exact hw) ⟨.ref a, H, I, rfl, q1 hw⟩
  · refine HT.getItem_tuple_cut ht hs pl pu (by rw [len]; exact hw) ?_ (by rw [len]; exact hz)
    rw [len]
    refine ⟨.ref s.heap.objs.size, _, I.laid (t' := s.toks) (fun b ob e => Heap.get?_push_of_some _ e) (Nat.le_refl _) (frz_ok (us := (its.drop (HT.sIx xs.length 0 lo)).take (HT.sIx xs.length xs.length hi - HT.sIx xs.length 0 lo)) (Heap.get?_push_size _ rfl) ?_ (Nat.le_trans (cutV_length xs lo hi) hz)), rfl,
      q2 hw _ _ (I.hok.fresh (Nat.le_refl _))⟩
    exact (r.drop (HT.sIx xs.length 0 lo)).take (HT.sIx xs.length xs.length hi - HT.sIx xs.length 0 lo)
/-- t + u -/
def rCatF (K : PySem.W.Frag) : R2 := fun x y H Q => ∃ a b xs ys, x = .ref a ∧ y = .ref b ∧ SqT K H a xs ∧ SqT K H b ys ∧ xs.length + ys.length ≤ sizeLine ∧
  (xs = [] → Q (.ref b) H) ∧ (xs ≠ [] → ys = [] → Q (.ref a) H) ∧ (xs ≠ [] → ys ≠ [] → ∀ p us, H p = none → Q (.ref p) (upd H p (.frz (tobj us) (.tup (xs ++ ys)))))
theorem op_catF : OpR X (binaryOp .Add) (rCatF X.K) := by
  intro pins s σ H x y v u Q I rx ry h
  obtain ⟨a, b, xs, ys, rfl, rfl, ha, hb, hz, q0, q1, q2⟩ := h
  cases rx
  cases ry
  obtain ⟨its, r1, p1, _⟩ := I.tuple ha
  obtain ⟨its2, r2, p2, _⟩ := I.tuple hb
  by_cases hx : xs = []
  · subst hx
    cases r1
    exact cat_tup0 p1 p2 ⟨.ref b, H, I, rfl, q0 rfl⟩
  · refine HT.cat_tup p1 p2 (fun z => hx (r1.nil_iff.mp z)) (fun z => ⟨.ref a, H, I, rfl, q1 hx (r2.nil_iff.mp z)⟩) (fun z => ?_) (by rw [← r1.length, ← r2.length]; exact hz)
    exact ⟨.ref s.heap.objs.size, _, I.laid (t' := s.toks) (fun b ob e => Heap.get?_push_of_some _ e) (Nat.le_refl _) (frz_ok (us := its ++ its2) (Heap.get?_push_size _ rfl) (r1.append r2) (by rw [List.length_append]; exact hz)), rfl,
      q2 hx (fun w => z (r2.nil_iff.mpr w)) _ _ (I.hok.fresh (Nat.le_refl _))⟩
/-- t[::-1] -/
def tRevF (K : PySem.W.Frag) (te : TE) : TE := fun σ H Q => te σ H fun x H1 => ∃ a xs, x = .ref a ∧ SqT K H1 a xs ∧ ∀ p us, H1 p = none → Q (.ref p) (upd H1 p (.frz (tobj us) (.tup xs.reverse)))
theorem pe_revF {e : Expr} {te : TE} {k : Nat} {p1 p2 p3 pos : Pos} (he : PE X e te) : PE X (.Subscript e (.Slice none none (some (.UnaryOp .USub (.Constant (.int 1) k p1) p2)) p3) pos) (tRevF X.K te) := by
  refine ⟨fun pins s σ H Q I h => Subscript_ (thn (he.run pins s σ H _ I h) fun v s1 ⟨x, H1, I1, r1, a, xs, ex, hx, q⟩ => ?_)⟩
  subst ex
  cases r1
  have step : PO X (some (.UnaryOp .USub (.Constant (.int 1) k p1) p2)) (tPart (tUn (rU fun i => .int (-i)) (tC (.int 1)))) := po_some (pe_un un_neg pe_int)
  refine wpAny_Slice (thn (po_none.run pins s1 σ H1 (fun o J => o = none ∧ J = H1) I1 ⟨rfl, rfl⟩) fun vl s2 ⟨l, H2, I2, pl, el, e2⟩ => ?_)
  subst el e2
  refine thn (po_none.run pins s2 σ H2 (fun o J => o = none ∧ J = H2) I2 ⟨rfl, rfl⟩) fun vu s3 ⟨u, H3, I3, pu, eu, e3⟩ => ?_
  subst eu e3
  refine thn (step.run pins s3 σ H3 (fun o J => o = some (-1) ∧ J = H3) I3 ⟨1, rfl, -1, rfl, rfl, rfl⟩) fun vs s4 ⟨o, H4, I4, ps, eo, e4⟩ => ?_
  subst eo e4
  have I5 : Inv X pins σ H4 { s4 with heap := s4.heap.push { cls := .type "slice", data := .fields #[vl, vu, vs] } } := I4.kept (t' := s4.toks) fun b ob z => Heap.get?_push_of_some _ z
  obtain ⟨its, r, tp, hz⟩ := I5.tuple hx
  cases pl
  cases pu
  show wpAny (model X.prog X.w) X.A (subscriptTail e (.Slice none none (some (.UnaryOp .USub (.Constant (.int 1) k p1) p2)) p3) (.ref a) (.ref s4.heap.objs.size)) (EP X pins σ Q) X.xe { s4 with heap := s4.heap.push { cls := .type "slice", data := .fields #[.none, .none, vs] } }
  refine tail_any (ops := [.ref a, .ref s4.heap.objs.size]) tp.typeIs (PyProof.Rows.slot_tuple_getitem.lookup) ?_ (by with_unfolding_all rfl)
  refine back_tup tp (Heap.IsSliceOf.new _ .none .none vs) ps (by rw [List.size_toArray, ← r.length]; exact hz) ?_
  exact ⟨.ref _, _, I5.laid (t' := s4.toks) (fun b ob z => Heap.get?_push_of_some _ z) (Nat.le_refl _) (frz_ok (us := its.reverse) (Heap.get?_push_size _ rfl) r.reverse (by rw [List.length_reverse]; exact hz)), rfl, q _ _ (I5.hok.fresh (Nat.le_refl _))⟩
/-- t.index(k), t locked -/
def tTIx (to : TE) (t : TA) : TE := fun σ H Q => to σ H fun x H1 => (∃ a xs, x = .ref a ∧ TupX H1 a xs) ∧ t σ H1 fun xs H2 => ∃ (a : Addr) (ns : List Int) (k : Int), x = .ref a ∧ xs = [.int k] ∧ TupX H2 a (ns.map V.int) ∧ k ∈ ns ∧ Q (.int (ns.idxOf k : Nat)) H2
variable {o e : Expr} {es : List Expr} {to : TE} {t : TA} {apos cpos : Pos}
theorem pe_tindex (ho : PE X o to) (ha : PA X (e :: es) t)
    (hbase : attributeBase o "index" X.env (eval o X.env) = eval o X.env := by rfl)
    (hfew : ((backTo cpos (starEach (e :: es) X.env)).all (fun x => !x.1) && (backToKw cpos (keywordEach [] X.env)).all (fun x => x.1.isSome)
      && decide ((e :: es).length + ([] : List Keyword).length + (if ([] : List Keyword).isEmpty then 0 else 1) < 30)) = true := by rfl)
    (hline : (apos.endLine == cpos.line) = true := by rfl) (hs : starEach (e :: es) X.env = (false, eval e X.env) :: starEach es X.env := by rfl) (hplain : (backTo cpos (starEach es X.env)).any (·.1) = false := by rfl) :
    PE X (.Call (.Attribute o "index" apos) (e :: es) [] cpos) (tTIx to t) := by
  refine ⟨fun pins s σ H Q I h => wpAny_Call_method_late hbase hfew hline rfl (thn (ho.run pins s σ H _ I h) fun v s1 ⟨x, H1, I1, r1, ⟨a, xs, ex, us, ha1⟩, q1⟩ => ?_)⟩
  subst ex
  cases r1
  obtain ⟨at1, _, _⟩ := I1.hok _ _ ha1
  refine ⟨"tuple", "tuple.index", PySem.F.plainAttrs_tuple, PySem.F.slot_tuple_index, PySem.F.type_tuple_index, ⟨_, at1, rfl⟩, fun b eb => ?_, ?_⟩
  · cases eb
    exact ⟨_, at1, rfl⟩
  · have hA := ha.run cpos pins s1 σ H1 _ I1 q1
    rw [hs] at hA ⊢
    refine Calls.callWith_builtin (by show (false || (backTo cpos (starEach es X.env)).any (·.1)) = false; rw [hplain] <;> rfl) (Calls.evalArgs_plain ?_)
    refine thn hA fun ws s2 ⟨vs, H2, I2, r2, a', ns, k, ea, ev, tx, hk, q2⟩ => ?_
    cases ea
    exact mt_tindex pins s2 σ H2 (.ref a) vs (.ref a) ws Q I2 rfl r2 ⟨a, ns, k, rfl, ev, tx.sq, hk, q2⟩
end
end KR

set_option Elab.async false
set_option linter.all false
set_option maxRecDepth 100000
set_option maxHeartbeats 4000000
/-! Data of any depth over the tracked heap, dicts among them; their texts by repr. -/
namespace K0
open PySem PySem.Spec PyProof.Rows L2
open KR (TupX)

def kD : Key → PyData
  | .inl i => .int i
  | .inr x => .str x
/-- a tuple stands at a: tracked, or known whole -/
def TT (H : Hp) (a : Addr) (xs : List V) : Prop := H a = some (.tup xs) ∨ TupX H a xs
theorem TT.rd {H : Hp} {a : Addr} {xs : List V} (t : TT H a xs) : Rd H a (.tup xs) := t.elim .inl TupX.rd
theorem TT.sq {K : PySem.W.Frag} {H : Hp} {a : Addr} {xs : List V} (t : TT H a xs) : SqT K H a xs := .inl t.rd
theorem TT.at {H : Hp} {a : Addr} {xs : List V} (t : TT H a xs) : ∃ o, H a = some o := t.elim (fun e => ⟨_, e⟩) fun ⟨_, e⟩ => ⟨_, e⟩
theorem TT.keep {H H' : Hp} {a : Addr} {xs : List V} (t : TT H a xs) (s : ∀ o, H a = some o → H' a = some o) : TT H' a xs := t.elim (fun e => .inl (s _ e)) fun ⟨us, e⟩ => .inr ⟨us, s _ e⟩
/-- v is the datum d in H, all its objects such as T says -/
inductive DV (H : Hp) (T : Addr → Prop) : V → PyData → Prop
  | non : DV H T .non .none
  | bl (b : Bool) : DV H T (.bl b) (.bool b)
  | int (i : Int) : DV H T (.int i) (.int i)
  | str (x : Str) : DV H T (.str x) (.str x)
  | lst {a : Addr} {xs : List V} {ds : List PyData} (t : T a) (e : H a = some (.lst xs)) (l : xs.length = ds.length) (h : ∀ (i : Nat) (v : V) (d : PyData), xs[i]? = some v → ds[i]? = some d → DV H T v d) : DV H T (.ref a) (.list ds)
  | tup {a : Addr} {xs : List V} {ds : List PyData} (t : T a) (e : TT H a xs) (l : xs.length = ds.length) (h : ∀ (i : Nat) (v : V) (d : PyData), xs[i]? = some v → ds[i]? = some d → DV H T v d) : DV H T (.ref a) (.tuple ds)
  | dct {a : Addr} {kvs : List (Key × V)} {ds : List PyData} (t : T a) (e : H a = some (.dK kvs)) (l : kvs.length = ds.length) (h : ∀ (i : Nat) (v : V) (d : PyData), (kvs.map (·.2))[i]? = some v → ds[i]? = some d → DV H T v d) :
      DV H T (.ref a) (.dict ((kvs.map fun p => kD p.1).zip ds))
theorem DV.mono {H H' : Hp} {T T' : Addr → Prop} {v : V} {d : PyData} (h : DV H T v d) (s : ∀ a o, T a → H a = some o → T' a ∧ H' a = some o) : DV H' T' v d := by
  induction h with
  | non => exact .non
  | bl b => exact .bl b
  | int i => exact .int i
  | str x => exact .str x
  | lst t e l _ ih => exact .lst (s _ _ t e).1 (s _ _ t e).2 l ih
  | tup t e l _ ih => let ⟨_, h⟩ := e.at; exact .tup (s _ _ t h).1 (e.keep fun o q => (s _ _ t q).2) l ih
  | dct t e l _ ih => exact .dct (s _ _ t e).1 (s _ _ t e).2 l ih
/-- anywhere -/
abbrev Any : Addr → Prop := fun _ => True
theorem DV.any {H : Hp} {T : Addr → Prop} {v : V} {d : PyData} (h : DV H T v d) : DV H Any v d := h.mono fun _ _ _ e => ⟨trivial, e⟩
theorem DV.same {H H' : Hp} {T : Addr → Prop} {v : V} {d : PyData} (h : DV H T v d) (s : Same H H') : DV H' T v d := h.mono fun a o t e => ⟨t, s a o e⟩

/-- items of one kind, point by point -/
theorem readsAll_of {h : Heap} {T : Addr → Prop} : ∀ {xs : List V} {us : List Value} {ds : List PyData}, Vals xs us → xs.length = ds.length →
    (∀ (i : Nat) (v : V) (d : PyData) (u : Value), xs[i]? = some v → ds[i]? = some d → RelV v u → ∃ as, Reads h u d as ∧ ∀ a ∈ as, T a) → ∃ as, ReadsAll h us ds as ∧ ∀ a ∈ as, T a
  | _, _, [], .nil, _, _ => ⟨[], .nil, fun _ z => nomatch z⟩
  | _, _, _ :: _, .nil, l, _ => nomatch l
  | _, _, [], .cons _ _, l, _ => nomatch l
  | _, _, d :: ds, .cons r t, l, f => by
    obtain ⟨as, h1, t1⟩ := f 0 _ _ _ rfl rfl r
    obtain ⟨bs, h2, t2⟩ := readsAll_of (ds := ds) t (Nat.succ.inj l) fun i v e u e1 e2 r' => f (i + 1) v e u (by simpa using e1) (by simpa using e2) r'
    exact ⟨as ++ bs, .cons h1 h2, fun a z => (List.mem_append.mp z).elim (t1 a) (t2 a)⟩

theorem keys_reads {P : Program} {w : World} {h : Heap} {T : Addr → Prop} : ∀ {es : List DictEntry} {vs : List (Key × Value)}, Pairs (mixKind P w) es vs → ∃ as, ReadsAll h (es.map (·.key)) (vs.map fun p => kD p.1) as ∧ ∀ a ∈ as, T a
  | _, _, .nil => ⟨[], .nil, fun _ z => nomatch z⟩
  | _, _, .cons (e := e) (kv := kv) k _ t => by
    obtain ⟨bs, h2, t2⟩ := keys_reads (h := h) (T := T) t
    rcases keyIs_shape (show keyIs kv.1 e.key = true from k) with ⟨i, tk, e1, e2⟩ | ⟨x, tk, e1, e2⟩
    · refine ⟨[] ++ bs, ?_, fun a z => t2 a (by simpa using z)⟩
      show ReadsAll h (e.key :: _) (kD kv.1 :: _) _
      rw [e1, e2]
      exact .cons (.int i tk) h2
    · refine ⟨[] ++ bs, ?_, fun a z => t2 a (by simpa using z)⟩
      show ReadsAll h (e.key :: _) (kD kv.1 :: _) _
      rw [e1, e2]
      exact .cons (.str x tk) h2
theorem vals_of_pairs {P : Program} {w : World} : ∀ {es : List DictEntry} {vs : List (Key × Value)}, Pairs (mixKind P w) es vs → es.map (·.val) = vs.map (·.2)
  | _, _, .nil => rfl
  | _, _, .cons _ e t => by rw [List.map_cons, List.map_cons, e, vals_of_pairs t]
theorem kv_keys : ∀ {kvs : List (Key × V)} {vs : List (Key × Value)}, KV kvs vs → (vs.map fun p => kD p.1) = kvs.map fun p => kD p.1
  | _, _, .nil => rfl
  | _, _, .cons r t => by rw [List.map_cons, List.map_cons, r.1, kv_keys t]
theorem kv_vals : ∀ {kvs : List (Key × V)} {vs : List (Key × Value)}, KV kvs vs → Vals (kvs.map (·.2)) (vs.map (·.2))
  | _, _, .nil => .nil
  | _, _, .cons r t => .cons r.2 (kv_vals t)

theorem DV.reads {P : Program} {w : World} {H : Hp} {h : Heap} (ok : HOk P w H h) {T : Addr → Prop} {v : V} {d : PyData} (D : DV H T v d) : ∀ {u : Value}, RelV v u → ∃ as, Reads h u d as ∧ ∀ a ∈ as, ∃ o, H a = some o := by
  induction D with
  | non => intro u r; cases r; exact ⟨_, .none, fun _ z => nomatch z⟩
  | bl b => intro u r; cases r; exact ⟨_, .bool b, fun _ z => nomatch z⟩
  | int i => intro u r; obtain ⟨t, rfl⟩ := r; exact ⟨_, .int i t, fun _ z => nomatch z⟩
  | str x => intro u r; obtain ⟨t, rfl⟩ := r; exact ⟨_, .str x t, fun _ z => nomatch z⟩
  | lst _ e l _ ih =>
    intro u r
    cases r
    obtain ⟨_, its, n, rv, he⟩ := ok _ _ e
    obtain ⟨as, h1, t1⟩ := readsAll_of rv l fun i v d u e1 e2 r' => ih i v d e1 e2 r'
    refine ⟨_, .list he rfl rfl (by simpa using h1), fun a z => ?_⟩
    rcases List.mem_cons.mp z with rfl | z
    · exact ⟨_, e⟩
    · exact t1 a z
  | tup _ e l _ ih =>
    intro u r
    cases r
    obtain ⟨_, its, rv, o, h1, h2, n, h3⟩ := e.rd.ok ok
    obtain ⟨as, g1, t1⟩ := readsAll_of rv l fun i v d u e1 e2 r' => ih i v d e1 e2 r'
    exact ⟨as, .tuple h1 h2 h3 (by simpa using g1), t1⟩
  | @dct a kvs ds _ e l _ ih =>
    intro u r
    cases r
    obtain ⟨_, _, vs, rv, o, es, ep, h1, h2, h3, _, h5, _⟩ := ok _ _ e
    obtain ⟨as, k1, t1⟩ := keys_reads (h := h) (T := fun a => ∃ o, H a = some o) h5
    obtain ⟨bs, v1, t2⟩ := readsAll_of (h := h) (T := fun a => ∃ o, H a = some o) (ds := ds) (kv_vals rv) (by rw [List.length_map]; exact l) fun i v d u e1 e2 r' => ih i v d e1 e2 r'
    rw [kv_keys rv] at k1
    rw [← vals_of_pairs h5] at v1
    have z1 : (((kvs.map fun p => kD p.1).zip ds).map (·.1)) = kvs.map fun p => kD p.1 := List.map_fst_zip (by rw [List.length_map]; omega)
    have z2 : (((kvs.map fun p => kD p.1).zip ds).map (·.2)) = ds := List.map_snd_zip (by rw [List.length_map]; omega)
    refine ⟨_, .dict h1 h2.1 h3 (by rw [z1]; exact k1) (by rw [z2]; exact v1), fun c z => ?_⟩
    rcases List.mem_append.mp z with z | z
    · rcases List.mem_cons.mp z with rfl | z
      · exact ⟨_, e⟩
      · exact t1 c z
    · exact t2 c z

/-- what repr can tell -/
structure Fit (d : PyData) : Prop where
  sh : d.showable = true
  dp : d.depth ≤ 60
  sz : d.shown.length ≤ sizeLine

/-! ### repr: the texts of tracked data, item by item. The looks at a dict want to know that it isn't the modules' own: a tracked dict says so itself -/
section
variable {P : Program} {w : World} {H : Hp} {h : Heap}
/-- the text of one datum may be asked -/
abbrev Tells (P : Program) (w : World) (h : Heap) (u : Value) (d : PyData) : Prop := ∃ bs, ReadAtMost h d.depth bs ∧ ReprK P w bs h d.depth u d.shown
theorem tells_all : ∀ {xs : List V} {us : List Value} {ds : List PyData}, Vals xs us → xs.length = ds.length → PyData.showableAll ds = true → (∀ t ∈ PyData.shownAll ds, t.length ≤ sizeLine) →
    (∀ (i : Nat) (v : V) (d : PyData) (u : Value), xs[i]? = some v → ds[i]? = some d → RelV v u → d.showable = true → d.shown.length ≤ sizeLine → Tells P w h u d) →
    ∃ bs, ReadAtMost h (PyData.depthAll ds) bs ∧ ReprAllK P w bs h (PyData.depthAll ds) us (PyData.shownAll ds)
  | _, _, [], .nil, _, _, _, _ => ⟨[], (fun _ z => nomatch z), by simp only [PyData.shownAll]; exact .nil⟩
  | _, _, _ :: _, .nil, l, _, _, _ => nomatch l
  | _, _, [], .cons _ _, l, _, _, _ => nomatch l
  | _, _, d :: ds, .cons r t, l, hs, hz, f => by
    simp only [PyData.showableAll, Bool.and_eq_true] at hs
    simp only [PyData.shownAll, List.mem_cons] at hz
    obtain ⟨b1, q1, k1⟩ := f 0 _ _ _ rfl rfl r hs.1 (hz _ (.inl rfl))
    obtain ⟨b2, q2, k2⟩ := tells_all (ds := ds) t (Nat.succ.inj l) hs.2 (fun t z => hz t (.inr z)) fun i v e u e1 e2 => f (i + 1) v e u (by simpa using e1) (by simpa using e2)
    have m1 : d.depth ≤ PyData.depthAll (d :: ds) := by simp only [PyData.depthAll]; omega
    have m2 : PyData.depthAll ds ≤ PyData.depthAll (d :: ds) := by simp only [PyData.depthAll]; omega
    refine ⟨b1 ++ b2, (q1.mono m1).append (q2.mono m2), ?_⟩
    simp only [PyData.shownAll]
    exact .cons ((k1.more fun b z => List.mem_append_left _ z).level_le m1) (k2.more_le (fun b z => List.mem_append_right _ z) m2)
/-- the keys of a dict are ints and texts -/
theorem tells_keys {P : Program} {w : World} {h : Heap} : ∀ {es : List DictEntry} {vs : List (Key × Value)}, Pairs (mixKind P w) es vs → PyData.showableAll (vs.map fun p => kD p.1) = true → (∀ t ∈ PyData.shownAll (vs.map fun p => kD p.1), t.length ≤ sizeLine) →
    ReprAllK P w [] h 0 (es.map (·.key)) (PyData.shownAll (vs.map fun p => kD p.1))
  | _, _, .nil, _, _ => by simp only [List.map_nil, PyData.shownAll]; exact .nil
  | _, _, .cons (e := e) (kv := kv) k _ t, hs, hz => by
    simp only [List.map_cons, PyData.showableAll, Bool.and_eq_true] at hs
    simp only [List.map_cons, PyData.shownAll, List.mem_cons] at hz
    have ih := tells_keys (P := P) (w := w) (h := h) t hs.2 fun t z => hz t (.inr z)
    simp only [List.map_cons, PyData.shownAll]
    refine .cons ?_ ih
    rcases keyIs_shape (show keyIs kv.1 e.key = true from k) with ⟨i, tk, e1, e2⟩ | ⟨x, tk, e1, e2⟩
    · have a := hs.1
      rw [e1] at a ⊢
      rw [e2]
      simp only [kD, PyData.shown]
      exact .of_is (ReprIs.int tk (by simpa [kD, PyData.showable] using a)) _ _ _
    · have a := hz _ (.inl rfl)
      rw [e1] at a ⊢
      rw [e2]
      simp only [kD, PyData.shown] at a ⊢
      exact .of_is (ReprIs.str x tk a) _ _ _
theorem DV.tells (ok : HOk P w H h) {T : Addr → Prop} {v : V} {d : PyData} (D : DV H T v d) : ∀ {u : Value}, RelV v u → d.showable = true → d.shown.length ≤ sizeLine → Tells P w h u d := by
  induction D with
  | non => intro u r _ _; cases r; exact ⟨[], (fun _ z => nomatch z), by simp only [PyData.shown]; exact .of_is ReprIs.none _ _ _⟩
  | bl b => intro u r _ _; cases r; exact ⟨[], (fun _ z => nomatch z), by simp only [PyData.shown]; exact .of_is (ReprIs.bool b) _ _ _⟩
  | int i => intro u r hs _; obtain ⟨t, rfl⟩ := r; exact ⟨[], (fun _ z => nomatch z), by simp only [PyData.shown]; exact .of_is (ReprIs.int t (by simpa [PyData.showable] using hs)) _ _ _⟩
  | str x => intro u r _ hz; obtain ⟨t, rfl⟩ := r; exact ⟨[], (fun _ z => nomatch z), by simp only [PyData.shown] at hz ⊢; exact .of_is (ReprIs.str x t hz) _ _ _⟩
  | @lst a xs ds t0 e l g ih =>
    intro u r hs hz
    obtain ⟨as, R, _⟩ := (DV.lst t0 e l g).reads ok r
    cases r
    obtain ⟨_, its, n, rv, he⟩ := ok _ _ e
    simp only [PyData.shown] at hz
    obtain ⟨bs, hb, hk⟩ := tells_all rv l (by simpa [PyData.showable] using hs) (fun t z => Nat.le_trans (listText_mem_le z) hz) fun i v d u e1 e2 r' => ih i v d e1 e2 r'
    have na : a ∉ bs := not_mem_of_deeper R (by simp only [PyData.depth]; omega) hb
    refine ⟨a :: bs, ReadAtMost.cons R (by simp only [PyData.depth]; omega) hb, ?_⟩
    simp only [PyData.depth, PyData.shown]
    cases its with
    | nil =>
      have e0 := hk.length_eq
      cases ds with
      | nil => simp only [PyData.shownAll, listText_nil]; exact ReprK.listEmpty he rfl rfl
      | cons d ds => simp [PyData.shownAll] at e0
    | cons x rest => exact ReprK.list he rfl rfl na (by simpa using hk.length_eq) fun i y z => hk.item i y (by simpa using z)
  | @tup a xs ds t0 e l g ih =>
    intro u r hs hz
    obtain ⟨as, R, _⟩ := (DV.tup t0 e l g).reads ok r
    cases r
    obtain ⟨_, its, rv, o, h1, h2, n, h3⟩ := e.rd.ok ok
    simp only [PyData.shown] at hz
    obtain ⟨bs, hb, hk⟩ := tells_all rv l (by simpa [PyData.showable] using hs) (fun t z => Nat.le_trans (tupleText_mem_le z) hz) fun i v d u e1 e2 r' => ih i v d e1 e2 r'
    have na : a ∉ bs := not_mem_of_deeper R (by simp only [PyData.depth]; omega) hb
    refine ⟨a :: bs, ReadAtMost.cons R (by simp only [PyData.depth]; omega) hb, ?_⟩
    simp only [PyData.depth, PyData.shown]
    exact ReprK.tuple h1 h2 h3 na (by simpa using hk)
  | @dct a kvs ds t0 e l g ih =>
    intro u r hs hz
    obtain ⟨as, R, _⟩ := (DV.dct t0 e l g).reads ok r
    cases r
    obtain ⟨_, lo, vs, rv, o, es, ep, h1, h2, h3, _, h5, _⟩ := ok _ _ e
    simp only [PyData.shown] at hz
    obtain ⟨s1, s2⟩ := PyData.showableKv_split _ (by simpa [PyData.showable] using hs)
    have z1 : (((kvs.map fun p => kD p.1).zip ds).map (·.1)) = kvs.map fun p => kD p.1 := List.map_fst_zip (by rw [List.length_map]; omega)
    have z2 : (((kvs.map fun p => kD p.1).zip ds).map (·.2)) = ds := List.map_snd_zip (by rw [List.length_map]; omega)
    have k1 := tells_keys (P := P) (w := w) (h := h) h5 (by rw [kv_keys rv, ← z1]; exact s1) (fun t z => by
      rw [kv_keys rv, ← z1] at z
      obtain ⟨p, hp, hl⟩ := PyData.shownKv_key_le _ t z
      exact Nat.le_trans hl (Nat.le_trans (dictText_mem_le hp) hz))
    obtain ⟨b2, hb2, k2⟩ := tells_all (P := P) (w := w) (h := h) (ds := ds) (kv_vals rv) (by rw [List.length_map]; exact l) (by rw [← z2]; exact s2) (fun t z => by
      rw [← z2] at z
      obtain ⟨p, hp, hl⟩ := PyData.shownKv_val_le _ t z
      exact Nat.le_trans hl (Nat.le_trans (dictText_mem_le hp) hz)) fun i v d u e1 e2 r' => ih i v d e1 e2 r'
    rw [← vals_of_pairs h5] at k2
    rw [kv_keys rv, ← z1] at k1
    have d2 : PyData.depthAll ds ≤ PyData.depthKv ((kvs.map fun p => kD p.1).zip ds) := by
      have q := PyData.depthAll_vals_le ((kvs.map fun p => kD p.1).zip ds)
      rw [z2] at q
      exact q
    have hb := hb2.mono d2
    have na : a ∉ b2 := not_mem_of_deeper R (by simp only [PyData.depth]; omega) hb
    refine ⟨a :: b2, ReadAtMost.cons R (by simp only [PyData.depth]; omega) hb, ?_⟩
    simp only [PyData.depth, PyData.shown, PyData.shownKv_eq]
    rw [z2]
    exact ReprK.dict h1 h2.1 h3 lo na (ReprEntriesK.of_two es.toList _ _ (k1.more_le (fun b z => absurd z List.not_mem_nil) (Nat.zero_le _)) (k2.more_le (fun b z => z) d2))
end

/-- repr(x), x a list, a tuple or a dict -/
def rRepr : List V → Hp → VK → Prop := fun xs H Q => ∃ a d, xs = [.ref a] ∧ DV H Any (.ref a) d ∧ Fit d ∧ (∀ kvs, d ≠ .dict kvs) ∧ Q (.str d.shown) H
theorem call_repr {X : Cx} (hg : X.A.guards = some []) (hu : X.A.units + 64 < cLine) : CallR X (.builtin "repr") rRepr := by
  intro pins s σ H xs us Q I r h
  obtain ⟨a, d, rfl, D, F, nd, q⟩ := h
  obtain ⟨u, rfl, ru⟩ := vals1 r
  cases ru
  have fin : ∀ (h' : Heap) (u : Tok) (tk : Nat), (∀ b o, s.heap.get? b = some o → h'.get? b = some o) → EP X pins σ Q (.str d.shown u) { s with heap := h', toks := tk } := fun h' u tk k => ⟨.str d.shown, H, I.kept (t' := tk) k, ⟨u, rfl⟩, q⟩
  have hF := F.sz
  have hS := F.sh
  have hD := F.dp
  cases D with
  | @lst _ xs ds t0 e l g =>
    obtain ⟨as, R, _⟩ := (DV.lst t0 e l g).reads I.hok rfl
    obtain ⟨_, its, n, rv, he⟩ := I.hok _ _ e
    simp only [PyData.shown] at hF fin
    obtain ⟨bs, hb, hk⟩ := tells_all (P := X.prog) (w := X.w) (h := s.heap) rv l (by simpa [PyData.showable] using hS) (fun t z => Nat.le_trans (listText_mem_le z) hF) fun i v d u e1 e2 r' => (g i v d e1 e2).tells I.hok r'
    have na : a ∉ bs := not_mem_of_deeper R (by simp only [PyData.depth]; omega) hb
    simp only [PyData.depth] at hD
    refine call_repr_slot (by omega) ⟨_, he, rfl⟩ PySem.F.slot_list_repr.toG ?_
    cases its with
    | nil =>
      have e0 := hk.length_eq
      cases ds with
      | nil =>
        simp only [PyData.shownAll, listText_nil] at fin
        exact call_list_repr_empty ⟨_, he, rfl⟩ he rfl ⟨_, _, rfl, fin s.heap _ _ fun _ _ z => z⟩
      | cons d ds => simp [PyData.shownAll] at e0
    | cons x rest => exact call_list_reprK he rfl rfl na (by simpa using hk.length_eq) (fun i y z => hk.item i y (by simpa using z)) hg (fun b _ => Clear.nil b) (by show X.A.units + 1 + _ < cLine; omega) (fun _ _ z => z) (fun h' u tk k => ⟨_, _, rfl, fin h' u tk k⟩) hF
  | @tup _ xs ds t0 e l g =>
    obtain ⟨as, R, _⟩ := (DV.tup t0 e l g).reads I.hok rfl
    obtain ⟨_, its, rv, o, h1, h2, n, h3⟩ := e.rd.ok I.hok
    simp only [PyData.shown] at hF fin
    obtain ⟨bs, hb, hk⟩ := tells_all (P := X.prog) (w := X.w) (h := s.heap) rv l (by simpa [PyData.showable] using hS) (fun t z => Nat.le_trans (tupleText_mem_le z) hF) fun i v d u e1 e2 r' => (g i v d e1 e2).tells I.hok r'
    have na : a ∉ bs := not_mem_of_deeper R (by simp only [PyData.depth]; omega) hb
    simp only [PyData.depth] at hD
    refine call_repr_slot (by omega) ⟨_, h1, h2⟩ PySem.F.slot_tuple_repr ?_
    exact call_tuple_reprK h1 h2 h3 na (by simpa using hk) hg (fun b _ => Clear.nil b) (by show X.A.units + 1 + _ < cLine; omega) (fun _ _ z => z) (fun h' u tk k => ⟨_, _, rfl, fin h' u tk k⟩) hF
  | @dct _ kvs ds t0 e l g => exact absurd rfl (nd _)

/-! ### the sizes -/
/-- how much the data of one depth may hold -/
def bb : Nat → Nat
  | 0 => 20
  | k + 1 => 4 * bb k
theorem bb_le (k : Nat) : 20 ≤ bb k := by
  induction k with
  | zero => exact Nat.le_refl _
  | succ k ih => show 20 ≤ 4 * bb k; omega
/- no tuple, in tuples, is long -/
mutual
def slimD : PyData → Bool
  | .tuple ds => decide (ds.length ≤ 60) && slimAll ds
  | _ => true
def slimAll : List PyData → Bool
  | [] => true
  | d :: ds => slimD d && slimAll ds
end
theorem slim_mem {d : PyData} : ∀ {ds : List PyData}, slimAll ds = true → d ∈ ds → slimD d = true
  | [], _, h => nomatch h
  | e :: ds, s, h => by
    simp only [slimAll, Bool.and_eq_true] at s
    rcases List.mem_cons.mp h with rfl | h
    · exact s.1
    · exact slim_mem s.2 h
structure Tame (k : Nat) (d : PyData) : Prop where
  sh : d.showable = true
  lv : d.leavesShort 200 = true
  dp : d.depth ≤ 2 * k + 2
  bk : d.bulk ≤ bb k
  sl : slimD d = true
theorem Tame.up {k : Nat} {d : PyData} (t : Tame k d) : Tame (k + 1) d := ⟨t.sh, t.lv, by have := t.dp; omega, by have := t.bk; have := bb_le k; show _ ≤ 4 * bb k; omega, t.sl⟩

theorem all_of {k : Nat} : ∀ {ds : List PyData}, (∀ d ∈ ds, Tame k d) → PyData.showableAll ds = true ∧ PyData.leavesShortAll 200 ds = true ∧ PyData.depthAll ds ≤ 2 * k + 2 ∧ PyData.bulkAll ds ≤ ds.length * (bb k + 1)
  | [], _ => ⟨by simp only [PyData.showableAll], by simp only [PyData.leavesShortAll], by simp only [PyData.depthAll]; omega, by simp only [PyData.bulkAll]; omega⟩
  | d :: ds, h => by
    obtain ⟨h1, h2, h3, h4⟩ := all_of (ds := ds) fun e z => h e (List.mem_cons_of_mem _ z)
    have t := h d (List.mem_cons_self ..)
    refine ⟨by simp only [PyData.showableAll, t.sh, h1, Bool.and_self], by simp only [PyData.leavesShortAll, t.lv, h2, Bool.and_self], ?_, ?_⟩
    · have := t.dp
      simp only [PyData.depthAll]
      omega
    · have := t.bk
      simp only [PyData.bulkAll, List.length_cons, Nat.add_mul, Nat.one_mul]
      omega
theorem slim_of {k : Nat} : ∀ {ds : List PyData}, (∀ d ∈ ds, Tame k d) → slimAll ds = true
  | [], _ => by simp only [slimAll]
  | d :: ds, h => by simp only [slimAll, (h d (List.mem_cons_self ..)).sl, slim_of fun e z => h e (List.mem_cons_of_mem _ z), Bool.and_self]
theorem slim_ints : ∀ ns : List Int, slimAll (ns.map PyData.int) = true
  | [] => by simp only [List.map_nil, slimAll]
  | i :: ns => by simp only [List.map_cons, slimAll, slimD, slim_ints ns, Bool.and_self]
theorem fit_of {d : PyData} (h1 : d.showable = true) (h2 : d.leavesShort 200 = true) (h3 : d.depth ≤ 60) (h4 : d.bulk ≤ 60000) : Fit d := ⟨h1, h3, by
  have := PyData.shown_le_bulk 200 (by decide) d h2
  rw [sizeLine_eq]
  omega⟩
theorem tame_list {k : Nat} {ds : List PyData} (h : ∀ d ∈ ds, Tame k d) (l : ds.length ≤ 3) : Tame (k + 1) (.list ds) := by
  obtain ⟨h1, h2, h3, h4⟩ := all_of h
  have := bb_le k
  have q : ds.length * (bb k + 1) ≤ 3 * (bb k + 1) := Nat.mul_le_mul_right _ l
  exact ⟨by simp only [PyData.showable, h1], by simp only [PyData.leavesShort, h2], by simp only [PyData.depth]; omega, by simp only [PyData.bulk]; show _ ≤ 4 * bb k; omega, by simp only [slimD]⟩
theorem tame_tuple {k : Nat} {ds : List PyData} (h : ∀ d ∈ ds, Tame k d) (l : ds.length ≤ 3) : Tame (k + 1) (.tuple ds) := by
  obtain ⟨h1, h2, h3, h4⟩ := all_of h
  have := bb_le k
  have q : ds.length * (bb k + 1) ≤ 3 * (bb k + 1) := Nat.mul_le_mul_right _ l
  exact ⟨by simp only [PyData.showable, h1], by simp only [PyData.leavesShort, h2], by simp only [PyData.depth]; omega, by simp only [PyData.bulk]; show _ ≤ 4 * bb k; omega, by simp only [slimD, slim_of h, Bool.and_true]; exact decide_eq_true (by omega)⟩
/-- a number of items, as a datum -/
theorem small_int {n : Nat} (h : n ≤ 3) : PyData.showable (.int n) = true ∧ PyData.leavesShort 200 (.int n) = true := by
  have : n = 0 ∨ n = 1 ∨ n = 2 ∨ n = 3 := by omega
  rcases this with rfl | rfl | rfl | rfl <;> decide +kernel
theorem tame_dict {k : Nat} {ds : List PyData} (h : ∀ d ∈ ds, Tame k d) (l : ds.length ≤ 3) : Tame (k + 1) (.dict [(.str "key", .list ds), (.int 1, .int ds.length)]) := by
  obtain ⟨h1, h2, h3, h4⟩ := all_of h
  have := bb_le k
  have q : ds.length * (bb k + 1) ≤ 3 * (bb k + 1) := Nat.mul_le_mul_right _ l
  have e1 : PyData.showable (.int 1) = true := by decide +kernel
  have e2 : PyData.leavesShort 200 (.int 1) = true := by decide +kernel
  have e3 : PyData.leavesShort 200 (.str "key") = true := by decide +kernel
  have e4 : PyData.bulk (.str "key") = 3 := by decide +kernel
  obtain ⟨e5, e6⟩ := small_int l
  refine ⟨?_, ?_, ?_, ?_, by simp only [slimD]⟩
  · simp only [PyData.showable, PyData.showableKv, h1, Bool.and_true, Bool.true_and] at e1 e5 ⊢
    rw [e1, e5] <;> rfl
  · simp only [PyData.leavesShort, PyData.leavesShortKv, h2, Bool.and_true, Bool.true_and] at e2 e3 e6 ⊢
    rw [e2, e3, e6] <;> rfl
  · simp only [PyData.depth, PyData.depthKv]
    omega
  · simp only [PyData.bulk] at e4
    simp only [PyData.bulk, PyData.bulkKv]
    show _ ≤ 4 * bb k
    omega
theorem tame0 {d : PyData} (h : d = .list [] ∨ d = .tuple [] ∨ d = .dict [(.str "key", .list []), (.int 1, .int 0)]) (k : Nat) : Tame k d := by
  have t : Tame 0 d := by
    rcases h with rfl | rfl | rfl
    · exact ⟨by decide +kernel, by decide +kernel, by decide +kernel, by decide +kernel, by decide +kernel⟩
    · exact ⟨by decide +kernel, by decide +kernel, by decide +kernel, by decide +kernel, by decide +kernel⟩
    · exact ⟨by decide +kernel, by decide +kernel, by decide +kernel, by decide +kernel, by decide +kernel⟩
  induction k with
  | zero => exact t
  | succ k ih => exact ih.up
/-- as many times the same, in a list -/
theorem fit_many {k n : Nat} {d : PyData} (t : Tame k d) (h : n * (bb k + 1) ≤ 60000) (hk : k ≤ 20) : Fit (.list (List.replicate n d)) := by
  obtain ⟨h1, h2, h3, h4⟩ := all_of (k := k) (ds := List.replicate n d) fun e z => by rw [(List.mem_replicate.mp z).2]; exact t
  rw [List.length_replicate] at h4
  exact fit_of (by simp only [PyData.showable, h1]) (by simp only [PyData.leavesShort, h2]) (by simp only [PyData.depth]; omega) (by simp only [PyData.bulk]; omega)
end K0

set_option Elab.async false
set_option linter.all false
set_option maxRecDepth 100000
set_option maxHeartbeats 4000000
/-! The deck of the draws. -/
namespace K0
open PySem PySem.Spec PyProof.Rows L2

def top (i : Nat) : Stmt := PySem.Challenge.pw_oncecrossed_k09_texts_of_webs.main.body.getD i (.Pass ⟨0, 0, 0, 0⟩)
abbrev sDeck : Stmt := top 17
abbrev sDraw : Stmt := top 18
abbrev sPick : Stmt := top 19
abbrev sAny : Stmt := top 25

/-- the deck's dict -/
def dkv (c : Addr) (m n : Int) : List (Key × V) := [(.inr "cells", .ref c), (.inr "mixed", .int m), (.inr "draws", .int n)]
theorem nCM : ¬ (Sum.inr ("cells" : Str) : Key) = Sum.inr ("mixed" : Str) := by decide +kernel
theorem nCD : ¬ (Sum.inr ("cells" : Str) : Key) = Sum.inr ("draws" : Str) := by decide +kernel
theorem nMD : ¬ (Sum.inr ("mixed" : Str) : Key) = Sum.inr ("draws" : Str) := by decide +kernel
theorem v_cells {c : Addr} {m n : Int} : valV (dkv c m n) (Sum.inr "cells") = some (.ref c) := valV_pos rfl
theorem v_mixed {c : Addr} {m n : Int} : valV (dkv c m n) (Sum.inr "mixed") = some (.int m) := (valV_neg nCM).trans (valV_pos rfl)
theorem v_draws {c : Addr} {m n : Int} : valV (dkv c m n) (Sum.inr "draws") = some (.int n) := (valV_neg nCD).trans ((valV_neg nMD).trans (valV_pos rfl))
theorem p_draws {c : Addr} {m n k : Int} : putK (dkv c m n) (Sum.inr "draws") (.int k) = dkv c m k := by
  have e : ((dkv c m n).any fun kv => decide (kv.1 = Sum.inr ("draws" : Str))) = true := by rw [valV_any, v_draws] <;> rfl
  unfold putK
  rw [if_pos e]
  show [_, _, _] = [_, _, _]
  simp only [if_neg nCD, if_neg nMD, if_true]

/-- a deck stands at p, its cells at c -/
structure Deck (H : Hp) (p c : Addr) : Prop where
  ex : ∃ (xs : List Int) (m n : Int), H p = some (.dK (dkv c m n)) ∧ H c = some (.lst (xs.map V.int)) ∧ xs.length ≤ 63
/-- all but the deck is kept -/
def Kp (p c : Addr) (H H' : Hp) : Prop := ∀ b o, b ≠ p → b ≠ c → H b = some o → H' b = some o
theorem Kp.trans {p c : Addr} {H H1 H2 : Hp} (a : Kp p c H H1) (b : Kp p c H1 H2) : Kp p c H H2 := fun d o h1 h2 h => b d o h1 h2 (a d o h1 h2 h)
theorem kp_put {p c b : Addr} {H : Hp} {o : HO} (hb : b = p ∨ b = c) : Kp p c H (upd H b o) := fun a u h1 h2 h => by
  rw [upd_ne (fun z => hb.elim (fun y => h1 (z.trans y)) fun y => h2 (z.trans y))]
  exact h
theorem kp_new {p c l : Addr} {H : Hp} {o : HO} (hl : H l = none) : Kp p c H (upd H l o) := fun a u _ _ h => by
  rw [upd_ne (ne_of_none h hl)]
  exact h
theorem Deck.new {p c l : Addr} {H : Hp} {o : HO} (D : Deck H p c) (hl : H l = none) : Deck (upd H l o) p c := by
  obtain ⟨xs, m, n, h1, h2, h3⟩ := D.ex
  exact ⟨xs, m, n, by rw [upd_ne (ne_of_none h1 hl)]; exact h1, by rw [upd_ne (ne_of_none h2 hl)]; exact h2, h3⟩
theorem Deck.put {p c b : Addr} {H : Hp} {o : HO} (D : Deck H p c) (h1 : b ≠ p) (h2 : b ≠ c) : Deck (upd H b o) p c := by
  obtain ⟨xs, m, n, e1, e2, e3⟩ := D.ex
  exact ⟨xs, m, n, by rw [upd_ne h1.symm]; exact e1, by rw [upd_ne h2.symm]; exact e2, e3⟩

/-- draw: a number below n, from the deck -/
def spDraw : Sp := fun vs H Q _ => ∃ (p c : Addr) (n : Int), vs = [.ref p, .int n] ∧ Deck H p c ∧ 1 ≤ n ∧ n < 1000000 ∧ ∀ (r : Int) (H' : Hp), 0 ≤ r → r < n → Deck H' p c → Kp p c H H' → Q (.int r) H'

structure Bi (mg : Str → Option Value) : Prop where
  int : mg "int" = none
  max : mg "max" = none
  len : mg "len" = none
  list : mg "list" = none
  range : mg "range" = none
  tuple : mg "tuple" = none

theorem ints_last {xs : List Int} (h : xs ≠ []) : ∃ z, (xs.map V.int)[(xs.map V.int).length - 1]? = some (V.int z) ∧ (xs.map V.int).dropLast = xs.dropLast.map V.int := by
  refine ⟨xs.getLast h, ?_, ?_⟩
  · rw [List.length_map, List.getElem?_map]
    have := List.getLast?_eq_getElem? (l := xs)
    rw [← this, List.getLast?_eq_some_getLast h] <;> rfl
  · rw [List.map_dropLast]
theorem ints_dp {K : PySem.W.Frag} {H : Hp} : ∀ xs : List Int, DpAll K H (xs.map V.int) (xs.map PyData.int)
  | [] => .nil
  | x :: xs => .cons (.int x) (ints_dp xs)
theorem ints_shaped (xs : List Int) : SeqAt.shaped (.list (xs.map PyData.int)) = true := by
  have h : ∀ ys : List Int, PyData.canLayAll0 (ys.map PyData.int) = true ∧ PyData.depthAll (ys.map PyData.int) = 0 := fun ys => by
    induction ys with
    | nil => exact ⟨by simp [PyData.canLayAll0], by simp [PyData.depthAll]⟩
    | cons y ys ih => exact ⟨by simp [PyData.canLayAll0, PyData.canLay0, ih.1], by simp [PyData.depthAll, PyData.depth, ih.2]⟩
  show (PyData.canLay0 _ && decide (PyData.depth _ ≤ 64)) = true
  rw [Bool.and_eq_true]
  exact ⟨by simp only [PyData.canLay0]; exact (h xs).1, decide_eq_true (by simp only [PyData.depth, (h xs).2]; omega)⟩
/-- what was tracked is tracked -/
theorem Kp.dom {p c : Addr} {H H' : Hp} (k : Kp p c H H') (D : Deck H' p c) {b : Addr} (h : H' b = none) : H b = none := by
  obtain ⟨xs, m, n, e1, e2, _⟩ := D.ex
  cases e : H b with
  | none => rfl
  | some o => rw [k b o (ne_of_none e1 h).symm (ne_of_none e2 h).symm e] at h; cases h
theorem Deck.inp {H : Hp} {p c : Addr} (D : Deck H p c) {b : Addr} (h : H b = none) : b ≠ p ∧ b ≠ c := by
  obtain ⟨xs, m, n, e1, e2, _⟩ := D.ex
  exact ⟨(ne_of_none e1 h).symm, (ne_of_none e2 h).symm⟩
theorem fmod_in {a b : Int} (h : 0 < b) : 0 ≤ a.fmod b ∧ a.fmod b < b := ⟨Int.fmod_nonneg_of_pos a h, Int.fmod_lt_of_pos a h⟩

section
variable {P : Program} {w : World} {K : PySem.W.Frag} {mg : Str → Option Value} {base : Heap}
theorem scDraw : FnScope ["_law_deck_here", "_law_many", "_law_number", "_law_cell"] ["_law_deck_here", "_law_many"] (defScope sDraw) := ⟨rfl, rfl, rfl, by decide +kernel, rfl, by decide +kernel, by decide +kernel⟩
theorem ok_draw {f : Addr} {fd : FuncData} (F : Fun K "_law_draw" "_law_draw" sDraw f fd) (T : Bi mg) : FnOk P w K mg base CX0 1 f fd ["_law_deck_here", "_law_many"] spDraw := by
  refine F.ok scDraw (fun vs H Q E h => ?_) (fun cdv A outer s H vs Q E hr h => ?_)
  · obtain ⟨p, c, n, rfl, _⟩ := h
    rfl
  · obtain ⟨p, c, n, rfl, D, n1, n2, k⟩ := h
    have hu := hu_of hr
    have hu6 : A.units + 3 + 64 < cLine := by have := hr.un; have e : (A.deeper (envOfC "_law_draw" (defScope sDraw) s.heap.objs.size f cdv)).units = A.units + 3 := rfl; omega
    obtain ⟨xs, m, j, h1, h2, h3⟩ := D.ex
    have npc : p ≠ c := ne_of h1 h2 (by intro z; cases z)
    refine ⟨_, pss_cons (ps_dput hu (pv 0) pe_str (pe_op op_add (pe_dget hu (pv 0) pe_str (fun _ _ => rfl)) pe_int) rfl)
      <| pss_cons (ps_set (i := 2) scDraw.nd rfl (.inl rfl) (pe_op op_add (pe_dget hu (pv 0) pe_str (fun _ _ => rfl)) (pe_op op_mul pe_int (pe_dget hu (pv 0) pe_str (fun _ _ => rfl)))))
      <| pss_cons (ps_if (pt_cmpR (op_neD hu6) (pe_dget hu (pv 0) pe_str (fun _ _ => rfl)) (pe_lst pa_nil) (nomark _))
          (pss_cons (ps_set (i := 3) scDraw.nd rfl (.inl rfl) (pe_bm0 PySem.F.plainAttrs_list PySem.F.slot_list_pop PySem.F.type_list_pop mt_pop (pe_dget hu (pv 0) pe_str (fun _ _ => rfl))))
          <| pss_cons (ps_if (pt_cmpR op_ge (pv 3) (pe_op op_pow pe_int pe_int) (nomark _))
              (pss_cons (ps_expr (pe_bm PySem.F.plainAttrs_list PySem.F.slot_list_append PySem.F.type_list_append mt_append (pe_dget hu (pv 0) pe_str (fun _ _ => rfl))
                (pa_cons (pe_op op_fdivN (pv 3) (pe_callB (call_max2 rfl) (by rfl) T.max (by decide +kernel) (pa_cons pe_int (pa_cons (pv 1) pa_nil)))) pa_nil)))
              <| pss_one (ps_ret (pe_op op_modN (pe_callTy call_int1 (by rfl) T.int (by decide +kernel) (pa_cons (pv 3) pa_nil)) (pv 1)))) pss_nil)
          <| pss_one (ps_set (i := 2) scDraw.nd rfl (.inl rfl) (pe_op op_add (pv 2) (pe_op op_modN (pe_callTy call_int1 (by rfl) T.int (by decide +kernel) (pa_cons (pv 3) pa_nil)) pe_int)))) pss_nil)
      <| pss_cons (ps_set (i := 2) scDraw.nd rfl (.inl rfl) (pe_op op_modN (pe_callTy call_int1 (by rfl) T.int (by decide +kernel) (pa_cons (pe_op op_add (pe_op op_mul (pv 2) pe_int) pe_int) pa_nil)) pe_int))
      <| pss_cons (ps_set (i := 2) scDraw.nd rfl (.inl rfl) (pe_op op_modN (pe_callTy call_int1 (by rfl) T.int (by decide +kernel) (pa_cons (pe_op op_add (pe_op op_add (pe_op op_mul (pv 2) (pv 2)) (pe_op op_mul pe_int (pe_dget hu (pv 0) pe_str (fun _ _ => rfl)))) pe_int) pa_nil)) pe_int))
      <| pss_cons (ps_set (i := 2) scDraw.nd rfl (.inl rfl) (pe_op op_modN (pe_callTy call_int1 (by rfl) T.int (by decide +kernel) (pa_cons (pe_op op_mul (pv 2) pe_int) pa_nil)) pe_int))
      <| pss_one (ps_ret (pe_op op_modN (pe_callTy call_int1 (by rfl) T.int (by decide +kernel) (pa_cons (pe_op op_fdivN (pv 2) pe_int) pa_nil)) (pv 1))), ?_⟩
    have g1 : DGet H p (.str "draws") (some (.int j)) := v_draws ▸ DGet.k (k := Sum.inr "draws") h1
    have q1 : DPut H p (.str "draws") (.int (j + 1)) (upd H p (.dK (dkv c m (j + 1)))) := by
      have z := DPut.k (k := Sum.inr "draws") (v := .int (j + 1)) h1 (show (3 : Nat) < sizeLine by rw [sizeLine_eq]; decide)
      rw [p_draws] at z
      exact z
    refine ⟨_, rfl, p, _, rfl, g1, _, _, rfl, rfl, _, rfl, p, _, rfl, q1, ?_⟩
    generalize hH1 : upd H p (.dK (dkv c m (j + 1))) = H1
    have e1 : H1 p = some (.dK (dkv c m (j + 1))) := by rw [← hH1]; exact upd_same
    have e2 : H1 c = some (.lst (xs.map V.int)) := by rw [← hH1, upd_ne npc.symm]; exact h2
    have K1 : Kp p c H H1 := by rw [← hH1]; exact kp_put (.inl rfl)
    have D1 : Deck H1 p c := ⟨xs, m, j + 1, e1, e2, h3⟩
    have gm : DGet H1 p (.str "mixed") (some (.int m)) := v_mixed ▸ DGet.k (k := Sum.inr "mixed") e1
    have gd : ∀ {H' : Hp}, H' p = some (.dK (dkv c m (j + 1))) → DGet H' p (.str "draws") (some (.int (j + 1))) := fun e => v_draws ▸ DGet.k (k := Sum.inr "draws") e
    have gc : ∀ {H' : Hp}, H' p = some (.dK (dkv c m (j + 1))) → DGet H' p (.str "cells") (some (.ref c)) := fun e => v_cells ▸ DGet.k (k := Sum.inr "cells") e
    refine ⟨_, rfl, p, _, rfl, gm, _, rfl, p, _, rfl, gd e1, _, _, rfl, rfl, .inl ⟨by decide, by decide⟩, _, _, rfl, rfl, ?_⟩
    refine ⟨_, rfl, p, _, rfl, gc e1, (by show 0 ≤ sizeLine; exact Nat.zero_le _), fun l hl => ?_⟩
    have e1l : (upd H1 l (.lst [])) p = some (.dK (dkv c m (j + 1))) := by rw [upd_ne (ne_of_none e1 hl)]; exact e1
    have e2l : (upd H1 l (.lst [])) c = some (.lst (xs.map V.int)) := by rw [upd_ne (ne_of_none e2 hl)]; exact e2
    have K2 : Kp p c H (upd H1 l (.lst [])) := K1.trans (kp_new hl)
    refine ⟨.list (xs.map PyData.int), .list [], Dp.lst (SqL.of e2l) (ints_dp xs), Dp.lst (SqL.of upd_same) .nil, ints_shaped xs, by decide, _, rfl, ?_⟩
    by_cases hx : xs = []
    · subst hx
      refine iteF ?_
      refine ⟨_, rfl, _, _, rfl, rfl, .inr ⟨by decide, by decide⟩, _, _, rfl, rfl, .inl ⟨_, rfl, _, _, rfl, rfl, (by show ¬ ((_ : Int) = 0); decide), ?_⟩⟩
      refine ⟨_, rfl, _, rfl, _, _, rfl, rfl, .inl ⟨Int.lt_of_lt_of_le (by decide) (fmod_in (by decide)).1, Int.lt_trans (fmod_in (by decide)).2 (by decide)⟩, _, rfl, p, _, rfl, gd e1l, _, _, rfl, rfl, .inl ⟨by decide, by decide⟩, _, _, rfl, rfl, _, _, rfl, rfl, .inl ⟨_, rfl, _, _, rfl, rfl, (by show ¬ ((_ : Int) = 0); decide), ?_⟩⟩
      refine ⟨_, rfl, _, _, rfl, rfl, .inr ⟨by decide, by decide⟩, .inl ⟨_, rfl, _, _, rfl, rfl, (by show ¬ ((_ : Int) = 0); decide), ?_⟩⟩
      exact ⟨_, rfl, _, _, rfl, rfl, ⟨by decide, by decide⟩, .inl ⟨_, rfl, _, rfl, _, _, rfl, rfl, by omega, k _ _ (fmod_in (by omega)).1 (fmod_in (by omega)).2 (D1.new hl) K2⟩⟩
    · have ev : PyData.eqv (.list (xs.map PyData.int)) (.list []) = false := by
        cases xs with
        | nil => exact absurd rfl hx
        | cons a r => simp [PyData.eqv, PyData.eqvAll]
      rw [ev]
      refine iteT ?_
      obtain ⟨z, z1, z2⟩ := ints_last hx
      refine ⟨_, rfl, p, _, rfl, gc e1l, .inl ⟨rfl, _, SqL.of e2l⟩, c, _, _, rfl, rfl, e2l, z1, ?_⟩
      rw [z2]
      generalize hH3 : upd (upd H1 l (.lst [])) c (.lst (xs.dropLast.map V.int)) = H3
      have e13 : H3 p = some (.dK (dkv c m (j + 1))) := by rw [← hH3, upd_ne npc]; exact e1l
      have e23 : H3 c = some (.lst (xs.dropLast.map V.int)) := by rw [← hH3]; exact upd_same
      have K3 : Kp p c H H3 := by rw [← hH3]; exact K2.trans (kp_put (.inr rfl))
      have l3 : xs.dropLast.length ≤ 62 := by rw [List.length_dropLast]; omega
      have D3 : Deck H3 p c := ⟨xs.dropLast, m, j + 1, e13, e23, by omega⟩
      refine ⟨_, rfl, _, _, rfl, rfl, ⟨by decide, by decide, by decide⟩, _, _, rfl, rfl, _, rfl, ?_⟩
      refine ite2 (fun _ => ?_) (fun _ => ?_)
      · refine ⟨_, rfl, p, _, rfl, gc e13, .inl ⟨rfl, _, SqL.of e23⟩, _, rfl, _, rfl, _, _, rfl, _, _, rfl, rfl, ⟨?_, ?_⟩, c, _, _, rfl, rfl, e23, ?_, ?_⟩
        · split <;> omega
        · split <;> omega
        · rw [List.length_map, sizeLine_eq]; omega
        · have D4 : Deck (upd H3 c (.lst (xs.dropLast.map V.int ++ [V.int (z.fdiv (if n > 2 then n else 2))]))) p c :=
            ⟨xs.dropLast ++ [z.fdiv (if n > 2 then n else 2)], m, j + 1, by rw [upd_ne npc]; exact e13, by rw [upd_same, List.map_append] <;> rfl, by rw [List.length_append]; show _ + 1 ≤ 63; omega⟩
          exact ⟨_, rfl, .inl ⟨_, rfl, _, rfl, _, _, rfl, rfl, by omega, k _ _ (fmod_in (by omega)).1 (fmod_in (by omega)).2 D4 (K3.trans (kp_put (.inr rfl)))⟩⟩
      · refine ⟨_, rfl, _, rfl, .inl ⟨_, rfl, _, _, rfl, rfl, (by show ¬ ((_ : Int) = 0); decide), _, _, rfl, rfl, ?_⟩⟩
        refine ⟨_, rfl, _, _, rfl, rfl, .inr ⟨by decide, by decide⟩, _, _, rfl, rfl, .inl ⟨_, rfl, _, _, rfl, rfl, (by show ¬ ((_ : Int) = 0); decide), ?_⟩⟩
        refine ⟨_, rfl, _, rfl, _, _, rfl, rfl, .inl ⟨Int.lt_of_lt_of_le (by decide) (fmod_in (by decide)).1, Int.lt_trans (fmod_in (by decide)).2 (by decide)⟩, _, rfl, p, _, rfl, gd e13, _, _, rfl, rfl, .inl ⟨by decide, by decide⟩, _, _, rfl, rfl, _, _, rfl, rfl, .inl ⟨_, rfl, _, _, rfl, rfl, (by show ¬ ((_ : Int) = 0); decide), ?_⟩⟩
        refine ⟨_, rfl, _, _, rfl, rfl, .inr ⟨by decide, by decide⟩, .inl ⟨_, rfl, _, _, rfl, rfl, (by show ¬ ((_ : Int) = 0); decide), ?_⟩⟩
        exact ⟨_, rfl, _, _, rfl, rfl, ⟨by decide, by decide⟩, .inl ⟨_, rfl, _, rfl, _, _, rfl, rfl, by omega, k _ _ (fmod_in (by omega)).1 (fmod_in (by omega)).2 D3 K3⟩⟩

/-- a def of the text that others call -/
structure Dn (P : Program) (w : World) (K : PySem.W.Frag) (mg : Str → Option Value) (base : Heap) (name : Str) (k : Nat) (ps : List Str) (sp : Sp) (f : Addr) (fd : FuncData) : Prop where
  g : mg name = some (.ref f)
  kp : PySem.W.keepIn K (.ref f) = true
  b : Binds K fd ps []
  ok : FnOk P w K mg base CX0 k f fd ps sp

/-- pick: an item of a list that stands beside the deck -/
def spPick : Sp := fun vs H Q _ => ∃ (p c l : Addr) (xs : List V), vs = [.ref p, .ref l] ∧ Deck H p c ∧ H l = some (.lst xs) ∧ l ≠ p ∧ l ≠ c ∧ 1 ≤ xs.length ∧ xs.length < 1000 ∧
  ∀ (i : Nat) (v : V) (H' : Hp), xs[i]? = some v → Deck H' p c → Kp p c H H' → Q v H'
theorem scPick : FnScope ["_law_deck_here", "_law_some"] ["_law_deck_here", "_law_some"] (defScope sPick) := ⟨rfl, rfl, rfl, by decide +kernel, rfl, by decide +kernel, by decide +kernel⟩
theorem ok_pick {f fD : Addr} {fd fdD : FuncData} (F : Fun K "_law_pick" "_law_pick" sPick f fd) (T : Bi mg) (G : Dn P w K mg base "_law_draw" 1 ["_law_deck_here", "_law_many"] spDraw fD fdD) :
    FnOk P w K mg base CX0 2 f fd ["_law_deck_here", "_law_some"] spPick := by
  refine F.ok scPick (fun vs H Q E h => ?_) (fun cdv A outer s H vs Q E hr h => ?_)
  · obtain ⟨p, c, l, xs, rfl, _⟩ := h
    rfl
  · obtain ⟨p, c, l, xs, rfl, D, hl, lp, lc, n1, n2, k⟩ := h
    refine ⟨_, pss_one (ps_ret (pe_ix ix_list (pv 1) (pe_call G.ok hr rfl G.g G.kp G.b .nil pass0
      (pa_cons (pv 0) (pa_cons (pe_callB call_len_seq (by rfl) T.len PySem.boot_len (pa_cons (pv 1) pa_nil)) pa_nil))) (fun _ _ => rfl))), ?_⟩
    refine ⟨_, rfl, _, rfl, _, rfl, l, _, rfl, .inl (SqL.of hl), p, c, _, rfl, D, by omega, by omega, fun r H' r0 r1 D' K' => ?_⟩
    have hl' := K' l _ lp lc hl
    obtain ⟨i, rfl⟩ : ∃ i : Nat, r = i := ⟨r.toNat, by omega⟩
    have hi : i < xs.length := by omega
    exact ⟨l, _, _, _, rfl, rfl, SqL.of hl', atI_nat (List.getElem?_eq_getElem hi), k i _ H' (List.getElem?_eq_getElem hi) D' K'⟩
end
end K0

set_option Elab.async false
set_option linter.all false
set_option maxRecDepth 100000
set_option maxHeartbeats 4000000
/-! The deck made; any value. -/
namespace K0
open PySem PySem.Spec PyProof.Rows L2

theorem cut63 (ns : List Int) : cutV (ns.map V.int) none (some 63) = (ns.take 63).map V.int := by
  unfold cutV
  rw [HT.sIx_none, show (some (63 : Int)) = some ((63 : Nat) : Int) from rfl, HT.sIx_nat, List.drop_zero, Nat.sub_zero, List.length_map, List.map_take]
  by_cases h : 63 ≤ ns.length
  · rw [Nat.min_eq_left h]
  · rw [Nat.min_eq_right (by omega), List.take_of_length_le (by rw [List.length_map]; exact Nat.le_refl _), List.take_of_length_le (by rw [List.length_map]; omega)]
theorem deck_kvs {c : Addr} {m : Int} : mergeK [] [(Sum.inr ("cells" : Str), V.ref c), (Sum.inr ("mixed" : Str), V.int m), (Sum.inr ("draws" : Str), V.int 0)] = dkv c m 0 := by
  have e1 : putK ([] : List (Key × V)) (Sum.inr ("cells" : Str)) (V.ref c) = [(Sum.inr ("cells" : Str), V.ref c)] := putK_new _ rfl
  have e2 : putK [(Sum.inr ("cells" : Str), V.ref c)] (Sum.inr ("mixed" : Str) : Key) (V.int m) = [(Sum.inr ("cells" : Str), V.ref c)] ++ [(Sum.inr ("mixed" : Str), V.int m)] := putK_new _ ((valV_neg nCM).trans rfl)
  have e3 : putK ([(Sum.inr ("cells" : Str), V.ref c)] ++ [(Sum.inr ("mixed" : Str), V.int m)]) (Sum.inr ("draws" : Str) : Key) (V.int 0) = ([(Sum.inr ("cells" : Str), V.ref c)] ++ [(Sum.inr ("mixed" : Str), V.int m)]) ++ [(Sum.inr ("draws" : Str), V.int 0)] :=
    putK_new _ ((valV_neg nCD).trans ((valV_neg nMD).trans rfl))
  unfold mergeK
  simp only [List.foldl_cons, List.foldl_nil]
  rw [e1, e2, e3]
  rfl
theorem int_of {ns : List Int} {i : Nat} {y : V} (h : (ns.map V.int)[i]? = some y) : ∃ z, y = V.int z := by
  rw [List.getElem?_map] at h
  cases e : ns[i]? with
  | none => rw [e] at h; cases h
  | some z => rw [e] at h; exact ⟨z, (Option.some.inj h).symm⟩

/-- the deck of a script -/
def spDeck (K : PySem.W.Frag) : Sp := fun vs H Q _ => ∃ (a : Addr) (ns : List Int), vs = [.ref a] ∧ SqL K H a (ns.map V.int) ∧ ∀ (p c : Addr) (H' : Hp), Deck H' p c → Same H H' → H p = none → H c = none → Q (.ref p) H'
section
variable {P : Program} {w : World} {K : PySem.W.Frag} {mg : Str → Option Value} {base : Heap}
theorem scDeck : FnScope ["_law_script", "_law_mixed", "_law_cell"] ["_law_script"] (defScope sDeck) := ⟨rfl, rfl, rfl, by decide +kernel, rfl, by decide +kernel, by decide +kernel⟩
theorem same_new {H : Hp} {l : Addr} {o : HO} (h : H l = none) : Same H (upd H l o) := fun b u e => by rw [upd_ne (ne_of_none e h)]; exact e
theorem ok_deck {f : Addr} {fd : FuncData} (F : Fun K "_law_deck" "_law_deck" sDeck f fd) (T : Bi mg) : FnOk P w K mg base CX0 1 f fd ["_law_script"] (spDeck K) := by
  refine F.ok scDeck (fun vs H Q E h => ?_) (fun cdv A outer s H vs Q E hr h => ?_)
  · obtain ⟨a, ns, rfl, _⟩ := h
    rfl
  · obtain ⟨a, ns, rfl, hS, k⟩ := h
    refine ⟨_, pss_cons (ps_set (i := 1) scDeck.nd rfl (.inl rfl) pe_int)
      <| pss_cons (ps_for PassesOwn.never rfl (pi_list (pe_slice sl_list (pv 0) po_none (po_some pe_int))) (pg_name (i := 2) scDeck.nd rfl (.inl rfl))
          (pss_one (ps_set (i := 1) scDeck.nd rfl (.inl rfl) (pe_op op_modN (pe_callTy call_int1 (by rfl) T.int (by decide +kernel) (pa_cons (pe_op op_add (pe_op op_add (pe_op op_mul (pv 1) pe_int)
            (pe_op op_modN (pe_callTy call_int1 (by rfl) T.int (by decide +kernel) (pa_cons (pv 2) pa_nil)) pe_int)) pe_int) pa_nil)) pe_int))))
      <| pss_one (ps_ret (pe_disp (pps_cons pe_str (pe_revL (pe_callTy call_list_of (by rfl) T.list (by decide +kernel) (pa_cons (pe_slice sl_list (pv 0) po_none (po_some pe_int)) pa_nil)))
          (pps_cons pe_str (pv 1) (pps_cons pe_str pe_int pps_nil))) rfl rfl (fun z => nomatch z) (by decide))), ?_⟩
    refine ⟨_, rfl, _, rfl, a, _, rfl, hS, fun p0 hp0 => ?_⟩
    rw [cut63]
    have s0 : Same H (upd H p0 (.lst ((ns.take 63).map V.int))) := same_new hp0
    refine ⟨p0, rfl, ⟨_, SqL.of upd_same⟩, for_list (K := K) (a := p0) (xs := (ns.take 63).map V.int) (fun i σ H2 => ∃ (m : Int) (v : Option V), σ = [some (.ref a), some (.int m), v] ∧ H2 = upd H p0 (.lst ((ns.take 63).map V.int)))
      ⟨_, none, rfl, rfl⟩ (fun i σ H2 _ ⟨_, _, _, e⟩ => by rw [e]; exact SqL.of upd_same) ?_ ?_⟩
    · rintro i y σ H2 hi ⟨m, v, rfl, rfl⟩
      obtain ⟨z, rfl⟩ := int_of hi
      exact ⟨_, rfl, _, _, rfl, rfl, .inr ⟨by decide, by decide⟩, _, rfl, .inl ⟨_, rfl, _, _, rfl, rfl, (by show ¬ ((_ : Int) = 0); decide), _, _, rfl, rfl, _, _, rfl, rfl, .inl ⟨_, rfl, _, _, rfl, rfl, (by show ¬ ((_ : Int) = 0); decide), _, _, rfl, rfl⟩⟩⟩
    · rintro σ H2 ⟨m, v, rfl, rfl⟩
      intro p hp
      have s1 : Same H (upd (upd H p0 (.lst ((ns.take 63).map V.int))) p (.dK [])) := s0.trans (same_new hp)
      refine ⟨_, rfl, _, rfl, a, _, rfl, s1.seq hS, fun p1 hp1 => ?_⟩
      rw [cut63]
      refine ⟨p1, _, rfl, .inl (SqL.of upd_same), fun l hl => ⟨l, _, rfl, SqL.of upd_same, fun c hc => ?_⟩⟩
      have s2 := ((s1.trans (same_new (o := .lst ((ns.take 63).map V.int)) hp1)).trans (same_new (o := .lst ((ns.take 63).map V.int)) hl)).trans (same_new (o := .lst ((ns.take 63).map V.int).reverse) hc)
      have np1 : p ≠ p1 := ne_of_none upd_same hp1
      have npl : p ≠ l := ne_of_none (o := .dK []) (by rw [upd_ne np1]; exact upd_same) hl
      have npc : p ≠ c := ne_of_none (o := .dK []) (by rw [upd_ne npl, upd_ne np1]; exact upd_same) hc
      refine ⟨_, rfl, ?_, [(Sum.inr ("cells" : Str), V.ref c), (Sum.inr ("mixed" : Str), V.int m), (Sum.inr ("draws" : Str), V.int 0)], rfl, (by show 3 ≤ 15; decide), ?_⟩
      · rw [upd_ne npc, upd_ne npl, upd_ne np1]
        exact upd_same
      · rw [deck_kvs]
        have hpH : H p = none := s0.free hp
        have hcH : H c = none := by
          have z := hc
          rw [upd_ne (ne_of_none upd_same hc).symm] at z
          exact ((s1.trans (same_new (o := .lst ((ns.take 63).map V.int)) hp1))).free z
        refine k p c _ ⟨(ns.take 63).reverse, m, 0, upd_same, ?_, ?_⟩ (fun b o e => ?_) hpH hcH
        · rw [upd_ne npc.symm, upd_same, List.map_reverse]
        · rw [List.length_reverse, List.length_take]; omega
        · rw [upd_ne (ne_of_none e hpH)]
          exact s2 b o e

theorem int_mem {ns : List Int} {i : Nat} {v : V} (h : (ns.map V.int)[i]? = some v) : ∃ z, z ∈ ns ∧ v = V.int z := by
  obtain ⟨z, h1, h2⟩ := List.mem_map.mp (List.mem_of_getElem? h)
  exact ⟨z, h1, h2.symm⟩
theorem str_mem {ns : List Str} {i : Nat} {v : V} (h : (ns.map V.str)[i]? = some v) : ∃ z, z ∈ ns ∧ v = V.str z := by
  obtain ⟨z, h1, h2⟩ := List.mem_map.mp (List.mem_of_getElem? h)
  exact ⟨z, h1, h2.symm⟩
theorem tame_plain {d : PyData} (h : (∃ b, d = .bool b) ∨ d = .none) (k : Nat) : Tame k d := by
  rcases h with ⟨b, rfl⟩ | rfl <;> exact ⟨by simp only [PyData.showable], by simp only [PyData.leavesShort], by simp only [PyData.depth]; omega, by simp only [PyData.bulk]; omega, by simp only [slimD]⟩
theorem items_snoc {R : V → PyData → Prop} {xs : List V} {ds : List PyData} {v : V} {d : PyData} (l : xs.length = ds.length) (h : ∀ (j : Nat) (a : V) (b : PyData), xs[j]? = some a → ds[j]? = some b → R a b) (r : R v d) :
    ∀ (j : Nat) (a : V) (b : PyData), (xs ++ [v])[j]? = some a → (ds ++ [d])[j]? = some b → R a b := fun j a b q1 q2 => by
  by_cases hj : j < xs.length
  · rw [List.getElem?_append_left hj] at q1
    rw [List.getElem?_append_left (by omega)] at q2
    exact h j a b q1 q2
  · rw [List.getElem?_append_right (by omega)] at q1
    rw [List.getElem?_append_right (by omega)] at q2
    have z : j - xs.length = 0 := by
      cases e : j - xs.length with
      | zero => rfl
      | succ n => rw [e] at q1; simp at q1
    rw [z] at q1
    rw [show j - ds.length = 0 by omega] at q2
    cases q1
    cases q2
    exact r
theorem dict_kvs {l : Addr} {n : Int} : mergeK [] [(Sum.inr ("key" : Str), V.ref l), (Sum.inl 1, V.int n)] = [(Sum.inr ("key" : Str), V.ref l), (Sum.inl 1, V.int n)] := by
  have e1 : putK ([] : List (Key × V)) (Sum.inr ("key" : Str)) (V.ref l) = [(Sum.inr ("key" : Str), V.ref l)] := putK_new _ rfl
  have e2 : putK [(Sum.inr ("key" : Str), V.ref l)] (Sum.inl 1 : Key) (V.int n) = [(Sum.inr ("key" : Str), V.ref l)] ++ [(Sum.inl 1, V.int n)] := putK_new _ ((valV_neg (p := (Sum.inr ("key" : Str), V.ref l)) (r := []) (fun z : (Sum.inr ("key" : Str) : Key) = Sum.inl 1 => by cases z)).trans rfl)
  unfold mergeK
  simp only [List.foldl_cons, List.foldl_nil]
  rw [e1, e2]
  rfl
/-- no tuple that is not known whole, none that is long -/
def NT (H : Hp) (v : V) : Prop := ∀ a xs, v = .ref a → H a ≠ some (.tup xs) ∧ (KR.TupX H a xs → xs.length ≤ 60)
theorem nt_int {H : Hp} {i : Int} : NT H (.int i) := fun _ _ z => nomatch z
theorem nt_str {H : Hp} {x : Str} : NT H (.str x) := fun _ _ z => nomatch z
theorem nt_bl {H : Hp} {b : Bool} : NT H (.bl b) := fun _ _ z => nomatch z
theorem nt_non {H : Hp} : NT H .non := fun _ _ z => nomatch z
theorem nt_at {H : Hp} {a : Addr} {o : HO} (e : H a = some o) (h : ∀ xs, o ≠ .tup xs) (h2 : ∀ ob xs, o ≠ .frz ob (.tup xs)) : NT H (.ref a) := fun b xs z => by
  cases z
  rw [e]
  refine ⟨fun q => h xs (Option.some.inj q), fun ⟨us, q⟩ => ?_⟩
  rw [e] at q
  exact absurd (Option.some.inj q) (h2 _ xs)
theorem nt_lst {H : Hp} {a : Addr} {ys : List V} (e : H a = some (.lst ys)) : NT H (.ref a) := nt_at e (fun _ z => nomatch z) fun _ _ z => nomatch z
theorem nt_dk {H : Hp} {a : Addr} {ys : List (Key × V)} (e : H a = some (.dK ys)) : NT H (.ref a) := nt_at e (fun _ z => nomatch z) fun _ _ z => nomatch z
theorem nt_frz {H : Hp} {a : Addr} {us : List Value} {ys : List V} (e : H a = some (.frz (KR.tobj us) (.tup ys))) (l : ys.length ≤ 60) : NT H (.ref a) := fun b xs z => by
  cases z
  refine ⟨fun q => ?_, fun t => ?_⟩
  · rw [e] at q
    cases q
  · rw [t.inj ⟨us, e⟩]
    exact l
/-- any value, at a depth below d -/
def spAny (d : Nat) : Sp := fun vs H Q _ => ∃ (p c : Addr) (k : Nat), vs = [.ref p, .int k] ∧ k < d ∧ Deck H p c ∧
  ∀ (v : V) (e : PyData) (H' : Hp), Tame k e → DV H' (fun a => H a = none) v e → NT H' v ∧ (∀ x, v = V.str x → x.length ≤ 12) → Deck H' p c → Kp p c H H' → Q v H'
abbrev nAny : List Str := ["_law_deck_here", "_law_deep", "_law_way", "_law_some", "_law_turn"]
theorem scAny : FnScope nAny ["_law_deck_here", "_law_deep"] (defScope sAny) := ⟨rfl, rfl, rfl, by decide +kernel, rfl, by decide +kernel, by decide +kernel⟩

/-- the menus -/
def menuI : List Int := [0, 1, -1, 2, 7, 12, 13, 40, 10 ^ 49 * 10 ^ 50, -(10 ^ 20)]
def menuS : List Str := ["", "a", "(0, 1)", "places 2\n0 1", "~", "lot", "True", "0"]
theorem int_tame : ∀ i ∈ menuI, PyData.showable (.int i) = true ∧ PyData.leavesShort 200 (.int i) = true := by decide +kernel
theorem str_tame : ∀ x ∈ menuS, PyData.leavesShort 200 (.str x) = true ∧ x.cps.size ≤ 12 := by decide +kernel
theorem tame_int {i : Int} (h : i ∈ menuI) (k : Nat) : Tame k (.int i) := ⟨(int_tame i h).1, (int_tame i h).2, by simp only [PyData.depth]; omega, by simp only [PyData.bulk]; omega, by simp only [slimD]⟩
theorem tame_str {x : Str} (h : x ∈ menuS) (k : Nat) : Tame k (.str x) := ⟨by simp only [PyData.showable], (str_tame x h).1, by simp only [PyData.depth]; omega, by
  have := (str_tame x h).2
  have := bb_le k
  simp only [PyData.bulk]; omega, by simp only [slimD]⟩

theorem ok_any {f fD fP : Addr} {fd fdD fdP : FuncData} (F : Fun K "_law_any" "_law_any" sAny f fd) (mf : mg "_law_any" = some (.ref f)) (bf : Binds K fd ["_law_deck_here", "_law_deep"] []) (T : Bi mg)
    (GD : Dn P w K mg base "_law_draw" 1 ["_law_deck_here", "_law_many"] spDraw fD fdD) (GP : Dn P w K mg base "_law_pick" 2 ["_law_deck_here", "_law_some"] spPick fP fdP) :
    ∀ d : Nat, FnOk P w K mg base CX0 (d + 2) f fd ["_law_deck_here", "_law_deep"] (spAny d) := by
  intro d
  induction d with
  | zero => exact ⟨fun vs H Q E ⟨p, c, k, _, hk, _⟩ => absurd hk (Nat.not_lt_zero _), fun A outer s H args us vs Q E _ _ _ _ ⟨p, c, k, _, hk, _⟩ => absurd hk (Nat.not_lt_zero _)⟩
  | succ d ih =>
    refine F.ok scAny (fun vs H Q E h => ?_) (fun cdv A outer s H vs Q E hr h => ?_)
    · obtain ⟨p, c, k, rfl, _⟩ := h
      rfl
    · obtain ⟨p, c, dk, rfl, hdk, D, k⟩ := h
      have hr1 : Room 1 (A.deeper (envOfC "_law_any" (defScope sAny) s.heap.objs.size f cdv)) := hr.mono (by omega)
      have hr2 : Room 2 (A.deeper (envOfC "_law_any" (defScope sAny) s.heap.objs.size f cdv)) := hr.mono (by omega)
      refine ⟨_, pss_cons (ps_set (i := 2) scAny.nd rfl (.inl rfl) (pe_call GD.ok hr1 rfl GD.g GD.kp GD.b .nil pass0 (pa_cons (pv 0) (pa_cons pe_int pa_nil))))
        <| pss_cons (ps_if (pt_cmpR op_lt (pv 2) pe_int (nomark _)) (pss_one (ps_ret (pe_call GP.ok hr2 rfl GP.g GP.kp GP.b .nil pass0 (pa_cons (pv 0) (pa_cons (pe_lst
            (pa_cons pe_int (pa_cons pe_int (pa_cons (pe_un un_neg pe_int) (pa_cons pe_int (pa_cons pe_int (pa_cons pe_int (pa_cons pe_int (pa_cons pe_int (pa_cons (pe_op op_mulW (pe_op op_pow pe_int pe_int) (pe_op op_pow pe_int pe_int))
            (pa_cons (pe_un un_neg (pe_op op_pow pe_int pe_int)) pa_nil))))))))))) pa_nil))))) pss_nil)
        <| pss_cons (ps_if (pt_cmpR op_lt (pv 2) pe_int (nomark _)) (pss_one (ps_ret (pe_call GP.ok hr2 rfl GP.g GP.kp GP.b .nil pass0 (pa_cons (pv 0) (pa_cons (pe_lst
            (pa_cons pe_str (pa_cons pe_str (pa_cons pe_str (pa_cons pe_str (pa_cons pe_str (pa_cons pe_str (pa_cons pe_str (pa_cons pe_str pa_nil))))))))) pa_nil))))) pss_nil)
        <| pss_cons (ps_if (pt_cmpR op_eq (pv 2) pe_int (nomark _)) (pss_one (ps_ret (pe_call GP.ok hr2 rfl GP.g GP.kp GP.b .nil pass0 (pa_cons (pv 0) (pa_cons (pe_lst (pa_cons pe_bl (pa_cons pe_bl (pa_cons pe_non pa_nil)))) pa_nil))))) pss_nil)
        <| pss_cons (ps_set (i := 3) scAny.nd rfl (.inl rfl) (pe_ifExp (pt_cmpR op_gt (pv 1) pe_int (nomark _))
            (pe_lc (own := [("_law_turn", 4)]) (g := gName 4) (tt := tYes) rfl scAny.nd (pi_range1 rfl T.range (pa_cons (pe_call GD.ok hr1 rfl GD.g GD.kp GD.b .nil pass0 (pa_cons (pv 0) (pa_cons pe_int pa_nil))) pa_nil))
              (blkOk_by (N := nAny) (sc := defScope sAny) (by decide +kernel)) (fun _ _ _ _ _ => pg_name (i := 4) scAny.nd rfl (Or.inl rfl)) (fun _ _ _ _ _ => pts_nil)
              (fun _ _ _ _ _ => pe_call ih hr rfl mf F.kp bf .nil pass0 (pa_cons (pv 0) (pa_cons (pe_op op_sub (pv 1) pe_int) pa_nil))))
            (pe_lst pa_nil)))
        <| pss_cons (ps_if (pt_cmpR op_eq (pv 2) pe_int (nomark _)) (pss_one (ps_ret (pv 3))) pss_nil)
        <| pss_one (ps_ret (pe_ifExp (pt_cmpR op_eq (pv 2) pe_int (nomark _)) (pe_disp (pps_cons pe_str (pv 3) (pps_cons pe_int (pe_callB call_len_seq (by rfl) T.len PySem.boot_len (pa_cons (pv 3) pa_nil)) pps_nil)) rfl rfl (fun z => nomatch z) (by decide))
            (pe_callTy KR.call_tupF (by rfl) T.tuple (by decide +kernel) (pa_cons (pv 3) pa_nil)))), ?_⟩
      have cp : ∀ {a : Int} {n : Nat}, n ≤ 1000 → a.natAbs < 2 ^ 64 → CPow a (n : Int) := fun h1 h2 => ⟨Int.natCast_nonneg _, by omega, h2⟩
      refine ⟨_, rfl, p, c, _, rfl, D, by decide, by decide, fun way H1 w0 w1 D1 K1 => ?_⟩
      refine ⟨_, rfl, _, _, rfl, rfl, _, rfl, ite2 (fun _ => ?_) (fun _ => ?_)⟩
      · refine ⟨_, rfl, _, rfl, _, _, rfl, rfl, cp (n := 49) (by decide) (by decide), _, _, rfl, rfl, cp (n := 50) (by decide) (by decide), _, _, rfl, rfl, ?_, _, _, rfl, rfl, cp (n := 20) (by decide) (by decide), _, rfl, ?_, fun l hl => ?_⟩
        · show CMulW (10 ^ 49) (10 ^ 50)
          unfold CMulW
          decide +kernel
        · show 10 ≤ sizeLine; rw [sizeLine_eq]; decide
        · obtain ⟨lp, lc⟩ := D1.inp hl
          refine ⟨p, c, l, _, rfl, D1.new hl, upd_same, lp, lc, (by show 1 ≤ 10; decide), (by show 10 < 1000; decide), fun i v H' e D' K' => ?_⟩
          obtain ⟨z, hz, rfl⟩ := int_mem (ns := menuI) e
          exact k _ _ H' (tame_int hz _) (.int z) ⟨nt_int, fun _ z => nomatch z⟩ D' (K1.trans ((kp_new hl).trans K'))
      refine ⟨_, rfl, _, _, rfl, rfl, _, rfl, ite2 (fun _ => ?_) (fun _ => ?_)⟩
      · refine ⟨_, rfl, ?_, fun l hl => ?_⟩
        · show 8 ≤ sizeLine; rw [sizeLine_eq]; decide
        · obtain ⟨lp, lc⟩ := D1.inp hl
          refine ⟨p, c, l, _, rfl, D1.new hl, upd_same, lp, lc, (by show 1 ≤ 8; decide), (by show 8 < 1000; decide), fun i v H' e D' K' => ?_⟩
          obtain ⟨z, hz, rfl⟩ := str_mem (ns := menuS) e
          exact k _ _ H' (tame_str hz _) (.str z) ⟨nt_str, fun _ e => by cases e; exact (str_tame _ hz).2⟩ D' (K1.trans ((kp_new hl).trans K'))
      refine ⟨_, rfl, rfl, _, rfl, ite2 (fun _ => ?_) (fun _ => ?_)⟩
      · refine ⟨_, rfl, ?_, fun l hl => ?_⟩
        · show 3 ≤ sizeLine; rw [sizeLine_eq]; decide
        · obtain ⟨lp, lc⟩ := D1.inp hl
          refine ⟨p, c, l, _, rfl, D1.new hl, upd_same, lp, lc, (by show 1 ≤ 3; decide), (by show 3 < 1000; decide), fun i v H' e D' K' => ?_⟩
          have hv : v = .bl true ∨ v = .bl false ∨ v = .non := by
            have q := List.mem_of_getElem? e
            simpa using q
          rcases hv with rfl | rfl | rfl
          · exact k _ (.bool true) H' (tame_plain (.inl ⟨_, rfl⟩) _) (.bl true) ⟨nt_bl, fun _ z => nomatch z⟩ D' (K1.trans ((kp_new hl).trans K'))
          · exact k _ (.bool false) H' (tame_plain (.inl ⟨_, rfl⟩) _) (.bl false) ⟨nt_bl, fun _ z => nomatch z⟩ D' (K1.trans ((kp_new hl).trans K'))
          · exact k _ .none H' (tame_plain (.inr rfl) _) (.non) ⟨nt_non, fun _ z => nomatch z⟩ D' (K1.trans ((kp_new hl).trans K'))
      refine ⟨_, rfl, _, _, rfl, rfl, _, rfl, ite2 (fun hgt => ?_) (fun hgt => ?_)⟩
      · have hk1 : 1 ≤ dk := by have := of_decide_eq_true hgt; omega
        refine ⟨_, rfl, p, c, _, rfl, D1, by decide, by decide, fun r H2 r0 r1 D2 K2 => ⟨_, rfl, by omega, by omega, fun l hl => ?_⟩⟩
        have K02 : Kp p c H H2 := K1.trans K2
        obtain ⟨lp, lc⟩ := D2.inp hl
        have hlH : H l = none := K02.dom D2 hl
        refine lc_range (n := r.toNat) (fun i H3 => ∃ (xs : List V) (ds : List PyData), H3 l = some (.lst xs) ∧ xs.length = i ∧ ds.length = i ∧ (∀ d ∈ ds, Tame (dk - 1) d) ∧ Deck H3 p c ∧ Kp p c H H3 ∧
            ∀ (j : Nat) (v : V) (d : PyData), xs[j]? = some v → ds[j]? = some d → DV H3 (fun a => H a = none ∧ a ≠ l) v d)
          ⟨[], [], upd_same, rfl, rfl, (fun _ z => nomatch z), D2.new hl, K02.trans (kp_new hl), fun j v d z => by simp at z⟩ ?_ ?_
        · rintro i H3 hi ⟨xs, ds, e1, e2, e3, e4, D3, K3, e5⟩
          refine ⟨rfl, ?_⟩
          unfold tYes
          refine iteT ?_
          refine ⟨_, rfl, _, rfl, _, _, rfl, rfl, p, c, dk - 1, ?_, by omega, D3, fun v e H4 t dv _ D4 K4 => ?_⟩
          · show [V.ref p, V.int ((dk : Int) - 1)] = [V.ref p, V.int ((dk - 1 : Nat) : Int)]
            rw [show ((dk : Int) - 1) = ((dk - 1 : Nat) : Int) by omega]
          · have e1' := K4 l _ lp lc e1
            refine ⟨xs, e1', by rw [e2, sizeLine_eq]; omega, xs ++ [v], ds ++ [e], upd_same, by rw [List.length_append, e2]; rfl, by rw [List.length_append, e3]; rfl, fun d' z => ?_, D4.put lp lc, fun b o h1 h2 q => ?_, items_snoc (e2.trans e3.symm) (fun j a b q1 q2 => ?_) ?_⟩
            · rcases List.mem_append.mp z with z | z
              · exact e4 _ z
              · rw [List.mem_singleton.mp z]; exact t
            · rw [upd_ne (ne_of_none q hlH)]
              exact K4 b o h1 h2 (K3 b o h1 h2 q)
            · refine (e5 j a b q1 q2).mono fun x o t' z => ⟨t', ?_⟩
              obtain ⟨x1, x2⟩ := D.inp t'.1
              rw [upd_ne t'.2]
              exact K4 x o x1 x2 z
            · refine dv.mono fun x o t' z => ?_
              have nx : x ≠ l := (ne_of_none e1 t').symm
              exact ⟨⟨K3.dom D3 t', nx⟩, by rw [upd_ne nx]; exact z⟩
        · rintro H3 ⟨xs, ds, e1, e2, e3, e4, D3, K3, e5⟩
          have tm : ∀ d, (d = .list ds ∨ d = .tuple ds ∨ d = .dict [(.str "key", .list ds), (.int 1, .int ds.length)]) → Tame dk d := fun d z => by
            obtain ⟨j, rfl⟩ : ∃ j, dk = j + 1 := ⟨dk - 1, by omega⟩
            have e4' : ∀ d ∈ ds, Tame j d := e4
            rcases z with rfl | rfl | rfl
            · exact tame_list e4' (by omega)
            · exact tame_tuple e4' (by omega)
            · exact tame_dict e4' (by omega)
          refine ⟨_, rfl, rfl, _, rfl, ite2 (fun _ => ?_) (fun _ => ?_)⟩
          · exact ⟨_, rfl, k (.ref l) (.list ds) H3 (tm _ (.inl rfl)) (.lst hlH e1 (e2.trans e3.symm) fun j v d q1 q2 => (e5 j v d q1 q2).mono fun a o t q => ⟨t.1, q⟩) ⟨nt_lst e1, fun _ z => nomatch z⟩ D3 K3⟩
          refine ⟨_, rfl, rfl, _, rfl, ite2 (fun _ => ?_) (fun _ => ?_)⟩
          · intro q hq
            have nlq : l ≠ q := ne_of_none e1 hq
            have e1q : (upd H3 q (.dK [])) l = some (.lst xs) := by rw [upd_ne nlq]; exact e1
            refine ⟨_, rfl, _, rfl, l, _, rfl, .inl (SqL.of e1q), upd_same, [(Sum.inr ("key" : Str), V.ref l), (Sum.inl 1, V.int xs.length)], rfl, (by show 2 ≤ 15; decide), ?_⟩
            rw [upd_upd, dict_kvs]
            have hqH : H q = none := K3.dom D3 hq
            obtain ⟨qp, qc⟩ := D3.inp hq
            refine k (.ref q) (.dict [(.str "key", .list ds), (.int 1, .int ds.length)]) _ (tm _ (.inr (.inr rfl))) ?_ ⟨nt_dk upd_same, fun _ z => nomatch z⟩ (D3.new hq) (K3.trans (kp_new hq))
            refine DV.dct (kvs := [(Sum.inr ("key" : Str), V.ref l), (Sum.inl 1, V.int xs.length)]) (ds := [.list ds, .int ds.length]) hqH upd_same rfl fun j v d q1 q2 => ?_
            match j, q1, q2 with
            | 0, q1, q2 =>
              cases q1
              cases q2
              exact .lst hlH (by rw [upd_ne nlq]; exact e1) (e2.trans e3.symm) fun j v d q1 q2 => (e5 j v d q1 q2).mono fun a o t z => ⟨t.1, by rw [upd_ne (ne_of_none z hq)]; exact z⟩
            | 1, q1, q2 =>
              cases q1
              cases q2
              rw [e2, e3]
              exact .int _
            | j + 2, q1, q2 => simp at q1
          · refine ⟨_, rfl, l, _, rfl, SqL.of e1, fun t us ht => ?_⟩
            exact k (.ref t) (.tuple ds) _ (tm _ (.inr (.inl rfl))) (.tup (K3.dom D3 ht) (.inr ⟨us, upd_same⟩) (e2.trans e3.symm) fun j v d q1 q2 => (e5 j v d q1 q2).mono fun a o t' z => ⟨t'.1, by rw [upd_ne (ne_of_none z ht)]; exact z⟩) ⟨nt_frz upd_same (by omega), fun _ z => nomatch z⟩ (D3.new ht) (K3.trans (kp_new ht))
      · refine ⟨Nat.zero_le _, fun l hl => ?_⟩
        have hlH : H l = none := K1.dom D1 hl
        obtain ⟨xs, hxs⟩ : ∃ xs : List V, xs = [] := ⟨_, rfl⟩
        obtain ⟨ds, hds⟩ : ∃ ds : List PyData, ds = [] := ⟨_, rfl⟩
        generalize hH3 : upd H1 l (.lst []) = H3
        have e1 : H3 l = some (.lst xs) := by rw [← hH3, hxs]; exact upd_same
        have D3 : Deck H3 p c := by rw [← hH3]; exact D1.new hl
        have K3 : Kp p c H H3 := by rw [← hH3]; exact K1.trans (kp_new hl)
        have e2 : xs.length = 0 := by rw [hxs]; rfl
        have e3 : ds.length = 0 := by rw [hds]; rfl
        have e5 : ∀ (j : Nat) (v : V) (d : PyData), xs[j]? = some v → ds[j]? = some d → DV H3 (fun a => H a = none ∧ a ≠ l) v d := fun j v d z => by rw [hxs] at z; simp at z
        have tm : ∀ d, (d = .list ds ∨ d = .tuple ds ∨ d = .dict [(.str "key", .list ds), (.int 1, .int ds.length)]) → Tame dk d := fun d z => by
          rw [hds] at z
          exact tame0 (by simpa using z) dk
        refine ⟨_, rfl, rfl, _, rfl, ite2 (fun _ => ?_) (fun _ => ?_)⟩
        · exact ⟨_, rfl, k (.ref l) (.list ds) H3 (tm _ (.inl rfl)) (.lst hlH e1 (e2.trans e3.symm) fun j v d q1 q2 => (e5 j v d q1 q2).mono fun a o t q => ⟨t.1, q⟩) ⟨nt_lst e1, fun _ z => nomatch z⟩ D3 K3⟩
        refine ⟨_, rfl, rfl, _, rfl, ite2 (fun _ => ?_) (fun _ => ?_)⟩
        · intro q hq
          have nlq : l ≠ q := ne_of_none e1 hq
          have e1q : (upd H3 q (.dK [])) l = some (.lst xs) := by rw [upd_ne nlq]; exact e1
          refine ⟨_, rfl, _, rfl, l, _, rfl, .inl (SqL.of e1q), upd_same, [(Sum.inr ("key" : Str), V.ref l), (Sum.inl 1, V.int xs.length)], rfl, (by show 2 ≤ 15; decide), ?_⟩
          rw [upd_upd, dict_kvs]
          have hqH : H q = none := K3.dom D3 hq
          obtain ⟨qp, qc⟩ := D3.inp hq
          refine k (.ref q) (.dict [(.str "key", .list ds), (.int 1, .int ds.length)]) _ (tm _ (.inr (.inr rfl))) ?_ ⟨nt_dk upd_same, fun _ z => nomatch z⟩ (D3.new hq) (K3.trans (kp_new hq))
          refine DV.dct (kvs := [(Sum.inr ("key" : Str), V.ref l), (Sum.inl 1, V.int xs.length)]) (ds := [.list ds, .int ds.length]) hqH upd_same rfl fun j v d q1 q2 => ?_
          match j, q1, q2 with
          | 0, q1, q2 =>
            cases q1
            cases q2
            exact .lst hlH (by rw [upd_ne nlq]; exact e1) (e2.trans e3.symm) fun j v d q1 q2 => (e5 j v d q1 q2).mono fun a o t z => ⟨t.1, by rw [upd_ne (ne_of_none z hq)]; exact z⟩
          | 1, q1, q2 =>
            cases q1
            cases q2
            rw [e2, e3]
            exact .int _
          | j + 2, q1, q2 => simp at q1
        · refine ⟨_, rfl, l, _, rfl, SqL.of e1, fun t us ht => ?_⟩
          exact k (.ref t) (.tuple ds) _ (tm _ (.inr (.inl rfl))) (.tup (K3.dom D3 ht) (.inr ⟨us, upd_same⟩) (e2.trans e3.symm) fun j v d q1 q2 => (e5 j v d q1 q2).mono fun a o t' z => ⟨t'.1, by rw [upd_ne (ne_of_none z ht)]; exact z⟩) ⟨nt_frz upd_same (by omega), fun _ z => nomatch z⟩ (D3.new ht) (K3.trans (kp_new ht))
end
end K0

set_option Elab.async false
set_option linter.all false
set_option maxRecDepth 100000
set_option maxHeartbeats 4000000
/-! Rows of pairs; an order, a pair, all pairs. -/
namespace K0
open PySem PySem.Spec PyProof.Rows L2
/-! ### rows of pairs -/
inductive Prs (H : Hp) : List V → List (Int × Int) → Prop
  | nil : Prs H [] []
  | cons {a : Addr} {q : Int × Int} {vs : List V} {L : List (Int × Int)} (h : H a = some (.tup [.int q.1, .int q.2])) (t : Prs H vs L) : Prs H (.ref a :: vs) (q :: L)
theorem Prs.len {H : Hp} {vs : List V} {L : List (Int × Int)} (p : Prs H vs L) : vs.length = L.length := by
  induction p with
  | nil => rfl
  | cons h t ih => rw [List.length_cons, List.length_cons, ih]
theorem Prs.mono {H H' : Hp} {vs : List V} {L : List (Int × Int)} (p : Prs H vs L) (s : ∀ a x, H a = some (.tup x) → H' a = some (.tup x)) : Prs H' vs L := by
  induction p with
  | nil => exact .nil
  | cons h t ih => exact .cons (s _ _ h) ih
theorem Prs.app {H : Hp} {vs ws : List V} {L M : List (Int × Int)} (p : Prs H vs L) (q : Prs H ws M) : Prs H (vs ++ ws) (L ++ M) := by
  induction p with
  | nil => exact q
  | cons h t ih => exact .cons h ih
theorem Prs.get {H : Hp} {vs : List V} {L : List (Int × Int)} (p : Prs H vs L) : ∀ {i : Nat} {v : V}, vs[i]? = some v → ∃ a q, v = .ref a ∧ L[i]? = some q ∧ H a = some (.tup [.int q.1, .int q.2]) := by
  induction p with
  | nil => intro i v h; simp at h
  | @cons a q vs L h t ih =>
    intro i v e
    cases i with
    | zero => cases e; exact ⟨a, q, rfl, rfl, h⟩
    | succ i => exact ih (by simpa using e)
theorem Prs.erase {H : Hp} {vs : List V} {L : List (Int × Int)} (p : Prs H vs L) : ∀ i : Nat, Prs H (vs.eraseIdx i) (L.eraseIdx i) := by
  induction p with
  | nil => intro i; simpa using Prs.nil
  | @cons a q vs L h t ih =>
    intro i
    cases i with
    | zero => simpa using t
    | succ i => simpa using Prs.cons h (ih i)
theorem Prs.perm {H : Hp} {vs ws : List V} (pm : ws.Perm vs) : ∀ {L : List (Int × Int)}, Prs H vs L → ∃ M, M.Perm L ∧ Prs H ws M := by
  induction pm with
  | nil => intro L p; exact ⟨L, .refl _, p⟩
  | cons v _ ih =>
    intro L p
    cases p with
    | cons h t =>
      obtain ⟨M, pm, pr⟩ := ih t
      exact ⟨_, pm.cons _, .cons h pr⟩
  | swap v w l =>
    intro L p
    cases p with
    | cons h t =>
      cases t with
      | cons h' t' => exact ⟨_, .swap _ _ _, .cons h' (.cons h t')⟩
  | trans _ _ ih1 ih2 =>
    intro L p
    obtain ⟨M, pm, pr⟩ := ih2 p
    obtain ⟨M', pm', pr'⟩ := ih1 pr
    exact ⟨M', pm'.trans pm, pr'⟩
theorem Kp.tup {p c : Addr} {H H' : Hp} (k : Kp p c H H') (D : Deck H p c) : ∀ a x, H a = some (.tup x) → H' a = some (.tup x) := fun a x e => by
  obtain ⟨xs, m, n, h1, h2, _⟩ := D.ex
  exact k a _ (ne_of e h1 (by intro z; cases z)) (ne_of e h2 (by intro z; cases z)) e
theorem same_tup {H H' : Hp} (s : Same H H') : ∀ a x, H a = some (.tup x) → H' a = some (.tup x) := fun a x e => s _ _ e
/-- a list of its own is written -/
theorem Kp.own {p c l : Addr} {H H1 : Hp} {o : HO} (k : Kp p c H H1) (h : H l = none) : Kp p c H (upd H1 l o) := fun b u h1 h2 e => by
  rw [upd_ne (ne_of_none e h)]
  exact k b u h1 h2 e
theorem upd_tup {l : Addr} {H : Hp} {o : HO} {ys : List V} (e : H l = some (.lst ys)) : ∀ a x, H a = some (.tup x) → (upd H l o) a = some (.tup x) := fun a x h => by
  rw [upd_ne (ne_of h e (by intro z; cases z))]
  exact h
theorem new_tup {l : Addr} {H : Hp} {o : HO} (e : H l = none) : ∀ a x, H a = some (.tup x) → (upd H l o) a = some (.tup x) := fun a x h => by
  rw [upd_ne (ne_of_none h e)]
  exact h
/-- a row of pairs in a list at l -/
def LP (H : Hp) (l : Addr) (L : List (Int × Int)) : Prop := ∃ vs, H l = some (.lst vs) ∧ Prs H vs L
theorem LP.mono {H H' : Hp} {l : Addr} {L : List (Int × Int)} (p : LP H l L) (e : ∀ ys, H l = some (.lst ys) → H' l = some (.lst ys)) (s : ∀ a x, H a = some (.tup x) → H' a = some (.tup x)) : LP H' l L := by
  obtain ⟨vs, h, q⟩ := p
  exact ⟨vs, e _ h, q.mono s⟩
theorem LP.kp {p c l : Addr} {H H' : Hp} {L : List (Int × Int)} (q : LP H l L) (D : Deck H p c) (k : Kp p c H H') (lp : l ≠ p) (lc : l ≠ c) : LP H' l L := q.mono (fun ys e => k _ _ lp lc e) (k.tup D)
/-- pairs in order, below n -/
def Bel (n : Int) (L : List (Int × Int)) : Prop := ∀ q ∈ L, 0 ≤ q.1 ∧ q.1 < q.2 ∧ q.2 < n
theorem Bel.nil {n : Int} : Bel n [] := fun _ z => nomatch z
theorem Bel.app {n : Int} {L M : List (Int × Int)} (a : Bel n L) (b : Bel n M) : Bel n (L ++ M) := fun q z => (List.mem_append.mp z).elim (a q) (b q)
theorem Bel.sub {n : Int} {L M : List (Int × Int)} (a : Bel n L) (s : ∀ q ∈ M, q ∈ L) : Bel n M := fun q z => a q (s q z)
theorem Bel.snoc {n : Int} {L : List (Int × Int)} {q : Int × Int} (a : Bel n L) (h : 0 ≤ q.1 ∧ q.1 < q.2 ∧ q.2 < n) : Bel n (L ++ [q]) := a.app fun r z => by rw [List.mem_singleton.mp z]; exact h

/-- names that are nobody's own -/
structure Bj (mg : Str → Option Value) : Prop extends Bi mg where
  min : mg "min" = none
  sorted : mg "sorted" = none
  set : mg "set" = none
  all : mg "all" = none
  isi : mg "isinstance" = none
  enu : mg "enumerate" = none
  bool : mg "bool" = none
  repr : mg "repr" = none
abbrev sOrder : Stmt := top 20
abbrev sPair : Stmt := top 21
abbrev sPairs : Stmt := top 22
abbrev sTies : Stmt := top 23
abbrev sWeb : Stmt := top 24
/-- an order of 0 .. n - 1 -/
def IsOrd (n : Nat) (os : List Int) : Prop := os.Perm ((List.range n).map fun i => ((i : Nat) : Int))
theorem IsOrd.len {n : Nat} {os : List Int} (h : IsOrd n os) : os.length = n := by rw [h.length_eq, List.length_map, List.length_range]
theorem IsOrd.mem {n : Nat} {os : List Int} (h : IsOrd n os) {i : Int} (hi : i ∈ os) : 0 ≤ i ∧ i < n := by
  obtain ⟨k, hk, rfl⟩ := List.mem_map.mp (h.mem_iff.mp hi)
  have := List.mem_range.mp hk
  omega
theorem IsOrd.nd {n : Nat} {os : List Int} (h : IsOrd n os) : os.Nodup := h.nodup_iff.mpr (List.pairwise_map.mpr (List.nodup_range.imp fun {a b} z e => z (by omega)))
theorem IsOrd.at {n : Nat} {os : List Int} (h : IsOrd n os) {i : Nat} (hi : i < n) : ∃ x, os[i]? = some x ∧ 0 ≤ x ∧ x < n := by
  have l := h.len
  exact ⟨os[i], List.getElem?_eq_getElem (by omega), h.mem (List.getElem_mem ..)⟩
theorem IsOrd.ne {n : Nat} {os : List Int} (h : IsOrd n os) {i j : Nat} {x y : Int} (hi : os[i]? = some x) (hj : os[j]? = some y) (ne : i ≠ j) : x ≠ y := by
  have nd := List.pairwise_iff_getElem.mp h.nd
  obtain ⟨i1, rfl⟩ := List.getElem?_eq_some_iff.mp hi
  obtain ⟨j1, rfl⟩ := List.getElem?_eq_some_iff.mp hj
  rcases Nat.lt_or_gt_of_ne ne with z | z
  · exact nd i j i1 j1 z
  · exact (nd j i j1 i1 z).symm
theorem rg_ints (n : Nat) : rgV 0 (n : Int) = ((List.range n).map fun i => ((i : Nat) : Int)).map V.int := by
  unfold rgV
  rw [List.map_map, show ((n : Int) - 0).toNat = n by omega]
  refine List.map_congr_left fun i _ => ?_
  show V.int (0 + (i : Nat)) = V.int (i : Nat)
  rw [Int.zero_add]
theorem iota_ord (n : Nat) : IsOrd n ((List.range n).map fun i => ((i : Nat) : Int)) := List.Perm.refl _

def spOrder : Sp := fun vs H Q _ => ∃ (p c : Addr) (n : Nat), vs = [.ref p, .int n] ∧ n ≤ 12 ∧ Deck H p c ∧ ∀ (l : Addr) (os : List Int) (H' : Hp), H l = none → H' l = some (.lst (os.map V.int)) → IsOrd n os → Deck H' p c → Kp p c H H' → Q (.ref l) H'
section
variable {P : Program} {w : World} {K : PySem.W.Frag} {mg : Str → Option Value} {base : Heap}
abbrev nOrder : List Str := ["_law_deck_here", "_law_n", "_law_left", "_law_found", "_law_turn"]
theorem scOrder : FnScope nOrder ["_law_deck_here", "_law_n"] (defScope sOrder) := ⟨rfl, rfl, rfl, by decide +kernel, rfl, by decide +kernel, by decide +kernel⟩
theorem perm_move : ∀ {l : List Int} {i : Nat} {x : Int}, l[i]? = some x → l.Perm (x :: l.eraseIdx i)
  | [], _, _, h => by simp at h
  | a :: l, 0, x, h => by cases h; exact .refl _
  | a :: l, i + 1, x, h => ((perm_move (l := l) (i := i) (by simpa using h)).cons a).trans (.swap _ _ _)
theorem erase_map (l : List Int) : ∀ i, (l.map V.int).eraseIdx i = (l.eraseIdx i).map V.int := by
  induction l with
  | nil => intro i; rfl
  | cons a l ih =>
    intro i
    cases i with
    | zero => rfl
    | succ i => simp only [List.map_cons, List.eraseIdx_cons_succ, ih i]
theorem ok_order {f fD : Addr} {fd fdD : FuncData} (F : Fun K "_law_order" "_law_order" sOrder f fd) (T : Bj mg) (GD : Dn P w K mg base "_law_draw" 1 ["_law_deck_here", "_law_many"] spDraw fD fdD) :
    FnOk P w K mg base CX0 2 f fd ["_law_deck_here", "_law_n"] spOrder := by
  refine F.ok scOrder (fun vs H Q E h => ?_) (fun cdv A outer s H vs Q E hr h => ?_)
  · obtain ⟨p, c, n, rfl, _⟩ := h
    rfl
  · obtain ⟨p, c, n, rfl, hn, D, k⟩ := h
    refine ⟨_, pss_cons (ps_par (i := 2) (j := 3) rfl scOrder.nd rfl rfl (by decide) rfl rfl (pa_cons (pe_listRg rfl (by rfl) T.list (prg_1 (by rfl) T.range (pv 1))) (pa_cons (pe_lst pa_nil) pa_nil)) (by rfl))
      <| pss_cons (ps_for PassesOwn.never rfl (pi_range1 (by rfl) T.range (pa_cons (pv 1) pa_nil)) (pg_name (i := 4) scOrder.nd rfl (.inl rfl))
        (pss_one (ps_expr (pe_bm PySem.F.plainAttrs_list PySem.F.slot_list_append PySem.F.type_list_append mt_append (pv 3) (pa_cons
          (pe_bm PySem.F.plainAttrs_list PySem.F.slot_list_pop PySem.F.type_list_pop mt_popAt (pv 2) (pa_cons (pe_call GD.ok hr rfl GD.g GD.kp GD.b .nil pass0 (pa_cons (pv 0) (pa_cons (pe_callB call_len_seq (by rfl) T.len PySem.boot_len (pa_cons (pv 2) pa_nil)) pa_nil))) pa_nil)) pa_nil)))))
      <| pss_one (ps_ret (pv 3)), ?_⟩
    refine ⟨_, rfl, _, rfl, .of_le (by omega) (by omega) (by omega) (by omega), fun q hq => ?_⟩
    rw [rg_ints]
    obtain ⟨qp, qc⟩ := D.inp hq
    refine ⟨Nat.zero_le _, fun l hl => ⟨_, _, rfl, ?_⟩⟩
    have D1 := D.new (o := .lst (((List.range n).map fun i => ((i : Nat) : Int)).map V.int)) hq
    obtain ⟨lp, lc⟩ := D1.inp hl
    have lq : l ≠ q := (ne_of_none upd_same hl).symm
    have hlH : H l = none := by rw [upd_ne lq] at hl; exact hl
    refine ⟨_, rfl, _, rfl, by omega, by omega, ?_⟩
    refine for_range (lo := 0) (n := (n : Int).toNat) (fun i σ M => ∃ (ls os : List Int) (o4 : Option V), σ = [some (.ref p), some (.int n), some (.ref q), some (.ref l), o4] ∧ M q = some (.lst (ls.map V.int)) ∧ M l = some (.lst (os.map V.int)) ∧ IsOrd n (os ++ ls) ∧ os.length = i ∧ Deck M p c ∧ Kp p c H M)
      ⟨_, [], none, rfl, by rw [upd_ne lq.symm]; exact upd_same, upd_same, iota_ord n, rfl, D1.new hl, ((kp_new hq).own hlH)⟩ ?_ ?_
    · rintro i σ M hi ⟨ls, os, o4, rfl, e1, e2, e3, e4, D2, K2⟩
      have len := e3.len
      rw [List.length_append, e4] at len
      refine ⟨_, rfl, .inl ⟨rfl, _, SqL.of e2⟩, _, rfl, .inl ⟨rfl, _, SqL.of e1⟩, _, rfl, _, rfl, q, _, rfl, .inl (SqL.of e1), p, c, _, rfl, D2, ?_, ?_, fun r M1 r0 r1 D3 K3 => ?_⟩
      · show (1 : Int) ≤ ((ls.map V.int).length : Nat); rw [List.length_map]; omega
      · show (((ls.map V.int).length : Nat) : Int) < 1000000; rw [List.length_map]; omega
      · have r1' : r < ls.length := by rw [List.length_map] at r1; exact r1
        obtain ⟨j, rfl⟩ : ∃ j : Nat, r = j := ⟨r.toNat, by omega⟩
        have hj : j < ls.length := by omega
        have e1' := K3 q _ qp qc e1
        have e2' := K3 l _ lp lc e2
        have si : seqIndex? (j : Int) (ls.map V.int).length = some j := (ixN_seq (n := (ls.map V.int).length) (by unfold ixN; rw [List.length_map, if_pos (by omega), if_pos (by omega)]; rfl)).1
        refine ⟨q, _, _, j, .int ls[j], rfl, rfl, e1', by omega, by omega, si, by simp [hj], ?_⟩
        refine ⟨l, _, _, rfl, rfl, by rw [upd_ne lq]; exact e2', by rw [List.length_map, sizeLine_eq]; omega, ls.eraseIdx j, os ++ [ls[j]], _, rfl, ?_, by rw [upd_same, List.map_append] <;> rfl, ?_, by rw [List.length_append, e4] <;> rfl, (D3.put qp qc).put lp lc, ?_⟩
        · rw [upd_ne lq.symm, upd_same, erase_map]
        · refine List.Perm.trans ?_ e3
          rw [List.append_assoc]
          exact List.Perm.append_left os (perm_move (List.getElem?_eq_getElem hj)).symm
        · exact ((K2.trans K3).own (D.new (o := .lst []) hq |> fun _ => hq)).own hlH
    · rintro σ M ⟨ls, os, o4, rfl, e1, e2, e3, e4, D2, K2⟩
      have len := e3.len
      rw [List.length_append, e4] at len
      have : ls = [] := List.length_eq_zero_iff.mp (by omega)
      subst this
      exact ⟨_, rfl, k l os M hlH e2 (by simpa using e3) D2 K2⟩
end
end K0

set_option Elab.async false
set_option linter.all false
set_option maxRecDepth 100000
set_option maxHeartbeats 4000000
/-! A pair in order; all pairs. -/
namespace K0
open PySem PySem.Spec PyProof.Rows L2
/-- the two in order -/
def mm (x y : Int) : Int × Int := (if y < x then y else x, if y > x then y else x)
theorem mm_bel {n x y : Int} (hx : 0 ≤ x ∧ x < n) (hy : 0 ≤ y ∧ y < n) (ne : x ≠ y) : 0 ≤ (mm x y).1 ∧ (mm x y).1 < (mm x y).2 ∧ (mm x y).2 < n := by
  unfold mm
  dsimp only
  split <;> split <;> omega
def spPair : Sp := fun vs H Q _ => ∃ (x y : Int), vs = [.int x, .int y] ∧ ∀ a, H a = none → Q (.ref a) (upd H a (.tup [.int (mm x y).1, .int (mm x y).2]))
def spPairs : Sp := fun vs H Q _ => ∃ n : Nat, vs = [.int n] ∧ n ≤ 12 ∧ ∀ (l : Addr) (L : List (Int × Int)) (H' : Hp), H l = none → LP H' l L → Bel n L → L.length ≤ 144 → Same H H' → Q (.ref l) H'
section
variable {P : Program} {w : World} {K : PySem.W.Frag} {mg : Str → Option Value} {base : Heap}
theorem scPair : FnScope ["_law_one", "_law_other"] ["_law_one", "_law_other"] (defScope sPair) := ⟨rfl, rfl, rfl, by decide +kernel, rfl, by decide +kernel, by decide +kernel⟩
theorem ok_pair {f : Addr} {fd : FuncData} (F : Fun K "_law_pair" "_law_pair" sPair f fd) (T : Bj mg) : FnOk P w K mg base CX0 1 f fd ["_law_one", "_law_other"] spPair := by
  refine F.ok scPair (fun vs H Q E h => ?_) (fun cdv A outer s H vs Q E hr h => ?_)
  · obtain ⟨x, y, rfl, _⟩ := h
    rfl
  · obtain ⟨x, y, rfl, k⟩ := h
    refine ⟨_, pss_one (ps_ret (pe_tup (pa_cons (pe_callB (call_min2 rfl) (by rfl) T.min (by decide +kernel) (pa_cons (pv 0) (pa_cons (pv 1) pa_nil))) (pa_cons (pe_callB (call_max2 rfl) (by rfl) T.max (by decide +kernel) (pa_cons (pv 0) (pa_cons (pv 1) pa_nil))) pa_nil)))), ?_⟩
    exact ⟨_, rfl, _, rfl, _, _, rfl, _, rfl, _, rfl, _, _, rfl, by show 2 ≤ sizeLine; decide, fun a ha => k a ha⟩
abbrev nPairs : List Str := ["_law_n", "_law_found", "_law_one", "_law_other"]
theorem scPairs : FnScope nPairs ["_law_n"] (defScope sPairs) := ⟨rfl, rfl, rfl, by decide +kernel, rfl, by decide +kernel, by decide +kernel⟩
theorem ok_pairs {f : Addr} {fd : FuncData} (F : Fun K "_law_pairs" "_law_pairs" sPairs f fd) (T : Bj mg) : FnOk P w K mg base CX0 1 f fd ["_law_n"] spPairs := by
  refine F.ok scPairs (fun vs H Q E h => ?_) (fun cdv A outer s H vs Q E hr h => ?_)
  · obtain ⟨n, rfl, _⟩ := h
    rfl
  · obtain ⟨n, rfl, hn, k⟩ := h
    refine ⟨_, pss_cons (ps_set (i := 1) scPairs.nd rfl (.inl rfl) (pe_lst pa_nil))
      <| pss_cons (ps_for PassesOwn.never rfl (pi_range1 (by rfl) T.range (pa_cons (pv 0) pa_nil)) (pg_name (i := 2) scPairs.nd rfl (.inr rfl))
        (pss_one (ps_set (i := 1) scPairs.nd rfl (.inl rfl) (pe_op op_cat (pv 1) (pe_lc (own := [("_law_other", 3)]) (g := gName 3) (tt := tYes) rfl scPairs.nd (pi_range2 (by rfl) T.range (pa_cons (pe_op op_add (pv 2) pe_int) (pa_cons (pv 0) pa_nil)))
          (blkOk_by (N := nPairs) (sc := defScope sPairs) (by decide +kernel)) (fun _ _ _ _ _ => pg_name (i := 3) scPairs.nd rfl (Or.inl rfl)) (fun _ _ _ _ _ => pts_nil)
          (fun _ _ _ _ _ => pe_tup (pa_cons (pv 2) (pa_cons (pv 3) pa_nil))))))))
      <| pss_one (ps_ret (pv 1)), ?_⟩
    refine ⟨Nat.zero_le _, fun l hl => ⟨_, rfl, _, rfl, by omega, by omega, ?_⟩⟩
    refine for_range (lo := 0) (n := (n : Int).toNat) (fun i σ M => ∃ (l' : Addr) (L : List (Int × Int)) (o2 : Option V), σ = [some (.int n), some (.ref l'), o2, none] ∧ H l' = none ∧ LP M l' L ∧ Bel n L ∧ L.length ≤ 12 * i ∧ Same H M)
      ⟨l, [], none, rfl, hl, ⟨[], upd_same, .nil⟩, .nil, Nat.zero_le _, same_new hl⟩ ?_ ?_
    · rintro i σ M hi ⟨l', L, o2, rfl, hl', ⟨vs, e1, e2⟩, e3, e4, sM⟩
      have len := e2.len
      refine ⟨_, rfl, _, rfl, _, _, rfl, rfl, _, rfl, _, _, rfl, ⟨by omega, by omega, by omega, by omega⟩, fun Da hD => ?_⟩
      have hDH : H Da = none := by
        cases e : H Da with
        | none => rfl
        | some o => rw [sM _ _ e] at hD; cases hD
      have nDl : l' ≠ Da := ne_of_none e1 hD
      refine lc_range (lo := (0 + (i : Int)) + 1) (n := ((n : Int) - ((0 + (i : Int)) + 1)).toNat) (fun j M2 => ∃ (ws : List V) (L2 : List (Int × Int)), M2 Da = some (.lst ws) ∧ Prs M2 ws L2 ∧ Bel n L2 ∧ L2.length = j ∧ M2 l' = some (.lst vs) ∧ Prs M2 vs L ∧ Same H M2)
        ⟨[], [], upd_same, .nil, .nil, rfl, by rw [upd_ne nDl]; exact e1, e2.mono (new_tup hD), sM.trans (same_new hD)⟩ ?_ ?_
      · rintro j M2 hj ⟨ws, L2, f1, f2, f3, f4, f5, f6, f7⟩
        refine ⟨rfl, ?_⟩
        unfold tYes
        refine iteT ?_
        refine ⟨_, rfl, _, rfl, by show 2 ≤ sizeLine; decide, fun t ht => ⟨ws, ?_, ?_, ws ++ [.ref t], L2 ++ [(0 + (i : Int), 0 + (i : Int) + 1 + (j : Int))], upd_same, ?_, f3.snoc ⟨?_, ?_, ?_⟩, by rw [List.length_append, f4] <;> rfl, ?_, ?_, ?_⟩⟩
        · rw [upd_ne (ne_of_none f1 ht)]; exact f1
        · rw [f2.len, f4, sizeLine_eq]; omega
        · have g1 : Prs (upd M2 t (.tup [.int (0 + (i : Int)), .int (0 + (i : Int) + 1 + (j : Int))])) ws L2 := f2.mono (new_tup ht)
          have e1' : (upd M2 t (.tup [V.int (0 + (i : Int)), V.int (0 + (i : Int) + 1 + (j : Int))])) Da = some (.lst ws) := by rw [upd_ne (ne_of_none f1 ht)]; exact f1
          exact (g1.app (.cons (q := (0 + (i : Int), 0 + (i : Int) + 1 + (j : Int))) upd_same .nil)).mono (upd_tup e1')
        · show (0 : Int) ≤ 0 + (i : Int); omega
        · show 0 + (i : Int) < 0 + (i : Int) + 1 + (j : Int); omega
        · show 0 + (i : Int) + 1 + (j : Int) < n; omega
        · rw [upd_ne nDl, upd_ne (ne_of_none f5 ht)]; exact f5
        · have e1' : (upd M2 t (.tup [V.int (0 + (i : Int)), V.int (0 + (i : Int) + 1 + (j : Int))])) Da = some (.lst ws) := by rw [upd_ne (ne_of_none f1 ht)]; exact f1
          exact (f6.mono (new_tup ht)).mono (upd_tup e1')
        · exact fun b o e => by rw [upd_ne (ne_of_none e hDH), upd_ne (ne_of_none (f7 _ _ e) ht)]; exact f7 _ _ e
      · rintro M2 ⟨ws, L2, f1, f2, f3, f4, f5, f6, f7⟩
        have l2 := f2.len
        refine ⟨l', Da, _, _, rfl, rfl, f5, f1, by rw [len, l2, sizeLine_eq]; omega, fun q hq => ?_⟩
        have hqH : H q = none := by
          cases e : H q with
          | none => rfl
          | some o => rw [f7 _ _ e] at hq; cases hq
        exact ⟨q, L ++ L2, _, rfl, hqH, ⟨_, upd_same, (f6.app f2).mono (new_tup hq)⟩, e3.app f3, by rw [List.length_append]; omega, f7.trans (same_new hq)⟩
    · rintro σ M ⟨l', L, o2, rfl, hl', e1, e3, e4, sM⟩
      exact ⟨_, rfl, k l' L M hl' e1 e3 (by omega) sM⟩
end
end K0

set_option Elab.async false
set_option linter.all false
set_option maxRecDepth 100000
set_option maxHeartbeats 8000000
/-! The drawn ties. -/
namespace K0
open PySem PySem.Spec L2
open PyProof.Rows hiding St
/-- what a comprehension over pairs has made: some of them -/
structure FI (p c : Addr) (H : Hp) (l : Addr) (vs : List V) (L : List (Int × Int)) (Da : Addr) (i : Nat) (M : Hp) : Prop where
  ex : ∃ (ws : List V) (L2 : List (Int × Int)), M Da = some (.lst ws) ∧ Prs M ws L2 ∧ (∀ q ∈ L2, q ∈ L) ∧ L2.length ≤ i
  src : M l = some (.lst vs)
  prs : Prs M vs L
  dk : Deck M p c
  kp : Kp p c H M
section
variable {p c l Da : Addr} {H M M' : Hp} {vs : List V} {L : List (Int × Int)} {i : Nat}
theorem FI.step (h : FI p c H l vs L Da i M) (n1 : l ≠ p) (n2 : l ≠ c) (n3 : Da ≠ p) (n4 : Da ≠ c) (D : Deck M' p c) (k : Kp p c M M') : FI p c H l vs L Da i M' := by
  obtain ⟨ws, L2, e1, e2, e3, e4⟩ := h.ex
  exact ⟨⟨ws, L2, k _ _ n3 n4 e1, e2.mono (k.tup h.dk), e3, e4⟩, k _ _ n1 n2 h.src, h.prs.mono (k.tup h.dk), D, h.kp.trans k⟩
theorem FI.skip (h : FI p c H l vs L Da i M) : FI p c H l vs L Da (i + 1) M := by
  obtain ⟨ws, L2, e1, e2, e3, e4⟩ := h.ex
  exact ⟨⟨ws, L2, e1, e2, e3, by omega⟩, h.src, h.prs, h.dk, h.kp⟩
theorem FI.put (h : FI p c H l vs L Da i M) (hD : H Da = none) (n0 : l ≠ Da) (n3 : Da ≠ p) (n4 : Da ≠ c) (hi : i ≤ 1000) {v : V} {j : Nat} (hv : vs[j]? = some v) :
    ∃ acc, M Da = some (.lst acc) ∧ acc.length < sizeLine ∧ FI p c H l vs L Da (i + 1) (upd M Da (.lst (acc ++ [v]))) := by
  obtain ⟨ws, L2, e1, e2, e3, e4⟩ := h.ex
  obtain ⟨a, q, rfl, hq, ha⟩ := h.prs.get hv
  refine ⟨ws, e1, by rw [e2.len, sizeLine_eq]; omega, ⟨ws ++ [.ref a], L2 ++ [q], upd_same, (e2.app (.cons ha .nil)).mono (upd_tup e1), fun r z => ?_, by rw [List.length_append]; show L2.length + 1 ≤ _; omega⟩, by rw [upd_ne n0]; exact h.src, h.prs.mono (upd_tup e1), h.dk.put n3 n4, h.kp.own hD⟩
  rcases List.mem_append.mp z with z | z
  · exact e3 r z
  · rw [List.mem_singleton.mp z]; exact List.mem_of_getElem? hq
end
/-- what a comprehension of new pairs has made, an order beside it -/
structure GI (p c : Addr) (H : Hp) (l : Addr) (os : List Int) (n : Int) (Da : Addr) (i : Nat) (M : Hp) : Prop where
  ex : ∃ (ws : List V) (L2 : List (Int × Int)), M Da = some (.lst ws) ∧ Prs M ws L2 ∧ Bel n L2 ∧ L2.length ≤ i
  src : M l = some (.lst (os.map V.int))
  dk : Deck M p c
  kp : Kp p c H M
section
variable {p c l Da : Addr} {H M M' : Hp} {os : List Int} {n : Int} {i : Nat}
theorem GI.step (h : GI p c H l os n Da i M) (n1 : l ≠ p) (n2 : l ≠ c) (n3 : Da ≠ p) (n4 : Da ≠ c) (D : Deck M' p c) (k : Kp p c M M') : GI p c H l os n Da i M' := by
  obtain ⟨ws, L2, e1, e2, e3, e4⟩ := h.ex
  exact ⟨⟨ws, L2, k _ _ n3 n4 e1, e2.mono (k.tup h.dk), e3, e4⟩, k _ _ n1 n2 h.src, D, h.kp.trans k⟩
theorem GI.put (h : GI p c H l os n Da i M) (hD : H Da = none) (n0 : l ≠ Da) (n3 : Da ≠ p) (n4 : Da ≠ c) (hi : i ≤ 1000) {a : Addr} {q : Int × Int} (ha : M a = none) (hq : 0 ≤ q.1 ∧ q.1 < q.2 ∧ q.2 < n) :
    ∃ acc, (upd M a (.tup [.int q.1, .int q.2])) Da = some (.lst acc) ∧ acc.length < sizeLine ∧ GI p c H l os n Da (i + 1) (upd (upd M a (.tup [.int q.1, .int q.2])) Da (.lst (acc ++ [.ref a]))) := by
  obtain ⟨ws, L2, e1, e2, e3, e4⟩ := h.ex
  have e1' : (upd M a (.tup [.int q.1, .int q.2])) Da = some (.lst ws) := by rw [upd_ne (ne_of_none e1 ha)]; exact e1
  refine ⟨ws, e1', by rw [e2.len, sizeLine_eq]; omega, ⟨ws ++ [.ref a], L2 ++ [q], upd_same, ((e2.mono (new_tup ha)).app (.cons upd_same .nil)).mono (upd_tup e1'), e3.snoc hq, by rw [List.length_append]; show L2.length + 1 ≤ _; omega⟩, ?_, (h.dk.new ha).put n3 n4, (h.kp.trans (kp_new ha)).own hD⟩
  rw [upd_ne n0, upd_ne (ne_of_none h.src ha)]
  exact h.src
end
def spTies : Sp := fun vs H Q _ => ∃ (p c : Addr) (n : Nat), vs = [.ref p, .int n] ∧ 1 ≤ n ∧ n ≤ 12 ∧ Deck H p c ∧ ∀ (l : Addr) (L : List (Int × Int)) (H' : Hp), H l = none → LP H' l L → Bel n L → L.length ≤ 160 → Deck H' p c → Kp p c H H' → Q (.ref l) H'
abbrev nTies : List Str := ["_law_deck_here", "_law_n", "_law_way", "_law_thick", "_law_order_here", "_law_some", "_law_near", "_law_turn", "_law_one", "_law_step", "_law_pair_here", "_law_at"]
/-- between the statements -/
def TJ (p c : Addr) (n : Nat) (H : Hp) (σ : St) (M : Hp) : Prop := ∃ (wy th : Int) (lo : Addr) (os : List Int) (ls : Addr) (L : List (Int × Int)) (o6 : Option V),
  σ = [some (.ref p), some (.int n), some (.int wy), some (.int th), some (.ref lo), some (.ref ls), o6, none, none, none, none, none] ∧ H ls = none ∧ LP M ls L ∧ Bel n L ∧ L.length ≤ 144 ∧
  IsOrd n os ∧ H lo = none ∧ M lo = some (.lst (os.map V.int)) ∧ Deck M p c ∧ Kp p c H M
/-- from one state of affairs to another -/
def tInv (J J' : St → Hp → Prop) : TS := fun D σ H => J σ H ∧ ∀ σ' H', J' σ' H' → D.nx σ' H'
theorem ps_inv {X : Cx} {st : Stmt} {t : TS} {J J' : St → Hp → Prop} (h : PS X st t) (w : ∀ D σ H, J σ H → (∀ σ' H', J' σ' H' → D.nx σ' H') → t D σ H) : PS X st (tInv J J') :=
  ⟨fun pins s σ H D I q => h.run pins s σ H D I (w D σ H q.1 q.2)⟩
theorem pe_imp {X : Cx} {e : Expr} {t t' : TE} (h : PE X e t) (w : ∀ σ H Q, t' σ H Q → t σ H Q) : PE X e t' := ⟨fun pins s σ H Q I q => h.run pins s σ H Q I (w σ H Q q)⟩
theorem Deck.same {p c : Addr} {H H' : Hp} (D : Deck H p c) (s : Same H H') : Deck H' p c := by
  obtain ⟨xs, m, n, h1, h2, h3⟩ := D.ex
  exact ⟨xs, m, n, s _ _ h1, s _ _ h2, h3⟩
theorem kp_same {p c : Addr} {H H' : Hp} (s : Same H H') : Kp p c H H' := fun b o _ _ e => s _ _ e
theorem range2_12 {n : Nat} (h1 : 1 ≤ n) (h2 : n ≤ 12) : RgC 0 ((n : Int) - 1) 2 (n / 2) := by
  have : n = 1 ∨ n = 2 ∨ n = 3 ∨ n = 4 ∨ n = 5 ∨ n = 6 ∨ n = 7 ∨ n = 8 ∨ n = 9 ∨ n = 10 ∨ n = 11 ∨ n = 12 := by omega
  rcases this with rfl | rfl | rfl | rfl | rfl | rfl | rfl | rfl | rfl | rfl | rfl | rfl <;> exact ⟨by decide, by decide, by decide, by decide⟩
theorem atI_neg1 {n : Nat} {os : List Int} (h : IsOrd n os) (hn : 1 ≤ n) : ∃ x, os[n - 1]? = some x ∧ atI (os.map V.int) (0 + ((0 : Nat) : Int) - 1) = some (.int x) := by
  obtain ⟨x, hx, _⟩ := h.at (i := n - 1) (by omega)
  refine ⟨x, hx, ?_⟩
  have l := h.len
  have e : ixN (os.map V.int).length (0 + ((0 : Nat) : Int) - 1) = some (n - 1) := by
    unfold ixN
    rw [List.length_map, l, if_neg (by omega), if_pos (by omega)]
    congr 1
    omega
  unfold atI
  rw [e]
  show (os.map V.int)[n - 1]? = _
  rw [List.getElem?_map, hx] <;> rfl
theorem os_at {n : Nat} {os : List Int} (h : IsOrd n os) {i : Nat} (hi : i < n) : ∃ x, os[i]? = some x ∧ (os.map V.int)[i]? = some (.int x) ∧ 0 ≤ x ∧ x < n := by
  obtain ⟨x, hx, h1, h2⟩ := h.at hi
  exact ⟨x, hx, by rw [List.getElem?_map, hx] <;> rfl, h1, h2⟩
section
variable {P : Program} {w : World} {K : PySem.W.Frag} {mg : Str → Option Value} {base : Heap}
theorem scTies : FnScope nTies ["_law_deck_here", "_law_n"] (defScope sTies) := ⟨rfl, rfl, rfl, by decide +kernel, rfl, by decide +kernel, by decide +kernel⟩
theorem ok_ties {f fD fO fP fA : Addr} {fd fdD fdO fdP fdA : FuncData} (F : Fun K "_law_drawn_ties" "_law_drawn_ties" sTies f fd) (T : Bj mg) (GD : Dn P w K mg base "_law_draw" 1 ["_law_deck_here", "_law_many"] spDraw fD fdD)
    (GO : Dn P w K mg base "_law_order" 2 ["_law_deck_here", "_law_n"] spOrder fO fdO) (GP : Dn P w K mg base "_law_pair" 1 ["_law_one", "_law_other"] spPair fP fdP) (GA : Dn P w K mg base "_law_pairs" 1 ["_law_n"] spPairs fA fdA) :
    FnOk P w K mg base CX0 3 f fd ["_law_deck_here", "_law_n"] spTies := by
  refine F.ok scTies (fun vs H Q E h => ?_) (fun cdv A outer s H vs Q E hr h => ?_)
  · obtain ⟨p, c, n, rfl, _⟩ := h
    rfl
  · obtain ⟨p, c, n, rfl, hn1, hn2, D, k⟩ := h
    have hr1 : Room 1 (A.deeper (envOfC "_law_drawn_ties" (defScope sTies) s.heap.objs.size f cdv)) := hr.mono (by decide)
    refine ⟨_, pss_cons (ps_asg (pe_tup (pa_cons (pe_call GD.ok hr1 rfl GD.g GD.kp GD.b .nil pass0 (pa_cons (pv 0) (pa_cons pe_int pa_nil)))
          (pa_cons (pe_op op_add pe_int (pe_call GD.ok hr1 rfl GD.g GD.kp GD.b .nil pass0 (pa_cons (pv 0) (pa_cons pe_int pa_nil)))) (pa_cons (pe_call GO.ok hr rfl GO.g GO.kp GO.b .nil pass0 (pa_cons (pv 0) (pa_cons (pv 1) pa_nil))) (pa_cons (pe_lst pa_nil) pa_nil)))))
          (pg_tup rfl (pgs_cons (pg_name (i := 2) scTies.nd rfl (.inl rfl)) (pgs_cons (pg_name (i := 3) scTies.nd rfl (.inr rfl)) (pgs_cons (pg_name (i := 4) scTies.nd rfl (.inr rfl)) (pgs_cons (pg_name (i := 5) scTies.nd rfl (.inl rfl)) pgs_nil))))))
      <| pss_cons (ps_inv (J := TJ p c n H) (J' := TJ p c n H) (ps_if (pt_cmpR op_lt (pv 2) pe_int (nomark _)) (pss_one (ps_setLc (i := 5) (own := [("_law_pair_here", 10)]) (g := gName 10) rfl scTies.nd rfl rfl (sw_true rfl rfl rfl (by decide +kernel))
          (pi_list (pe_call GA.ok hr1 rfl GA.g GA.kp GA.b .nil pass0 (pa_cons (pv 1) pa_nil))) (blkOk_by (N := nTies) (sc := defScope sTies) (by decide +kernel)) (fun _ _ _ _ _ => pg_name (i := 10) scTies.nd rfl (Or.inl rfl))
          (fun _ _ _ _ _ => pts_one (pt_cmpR op_lt (pe_call GD.ok hr1 rfl GD.g GD.kp GD.b .nil pass0 (pa_cons (pv 0) (pa_cons pe_int pa_nil))) (pv 3) (nomark _))) (fun _ _ _ _ _ => pv 10))) pss_nil) ?i1)
      <| pss_cons (ps_inv (J := TJ p c n H) (J' := TJ p c n H) (ps_if (pt_cmpR op_eq (pv 2) pe_int (nomark _))
          (pss_cons (ps_set (i := 6) scTies.nd rfl (.inr rfl) (pe_slice sl_list (pv 4) po_none (po_some (pe_op op_add pe_int (pe_call GD.ok hr1 rfl GD.g GD.kp GD.b .nil pass0 (pa_cons (pv 0) (pa_cons (pv 1) pa_nil)))))))
          <| pss_cons (ps_setLc (i := 5) (own := [("_law_pair_here", 10)]) (g := gName 10) rfl scTies.nd rfl rfl (sw_true rfl rfl rfl (by decide +kernel))
            (pi_list (pe_call GA.ok hr1 rfl GA.g GA.kp GA.b .nil pass0 (pa_cons (pv 1) pa_nil))) (blkOk_by (N := nTies) (sc := defScope sTies) (by decide +kernel)) (fun _ _ _ _ _ => pg_name (i := 10) scTies.nd rfl (Or.inl rfl))
            (fun _ _ _ _ _ => pts_one (pt_cmpR op_ne (pe_cmpR (show OpR _ (compareOp .In) (rIn K false) from op_in_seq) (pe_ix (show IxR _ (rIxT K) from ix_tup) (pv 10) pe_int (fun _ _ => rfl)) (pv 6) (by rfl)) (pe_cmpR (show OpR _ (compareOp .In) (rIn K false) from op_in_seq) (pe_ix (show IxR _ (rIxT K) from ix_tup) (pv 10) pe_int (fun _ _ => rfl)) (pv 6) (by rfl)) (nomark _))) (fun _ _ _ _ _ => pv 10))
          <| pss_one (ps_setLc (i := 5) (own := [("_law_pair_here", 10)]) (g := gName 10) rfl scTies.nd rfl rfl (sw_true rfl rfl rfl (by decide +kernel))
            (pi_list (pv 5)) (blkOk_by (N := nTies) (sc := defScope sTies) (by decide +kernel)) (fun _ _ _ _ _ => pg_name (i := 10) scTies.nd rfl (Or.inl rfl))
            (fun _ _ _ _ _ => pts_one (pt_cmpR op_le (pe_call GD.ok hr1 rfl GD.g GD.kp GD.b .nil pass0 (pa_cons (pv 0) (pa_cons pe_int pa_nil))) (pv 3) (nomark _))) (fun _ _ _ _ _ => pv 10))) pss_nil) ?i2)
      <| pss_cons (ps_inv (J := TJ p c n H) (J' := TJ p c n H) (ps_if (PW.pt (pw_and (pt_cmpR op_eq (pv 2) pe_int (nomark _)) (pw_and1 (pt_cmpR op_gt (pv 1) pe_int (nomark _)))))
          (pss_one (ps_setLc (i := 5) (own := [("_law_at", 11)]) (g := gName 11) (tt := tYes) rfl scTies.nd rfl rfl (sw_true rfl rfl rfl (by decide +kernel))
            (pi_range1 (by rfl) T.range (pa_cons (pv 1) pa_nil)) (blkOk_by (N := nTies) (sc := defScope sTies) (by decide +kernel)) (fun _ _ _ _ _ => pg_name (i := 11) scTies.nd rfl (Or.inl rfl)) (fun _ _ _ _ _ => pts_nil)
            (fun _ _ _ _ _ => pe_call GP.ok hr1 rfl GP.g GP.kp GP.b .nil pass0 (pa_cons (pe_ix (show IxR _ (rIxL K) from ix_list) (pv 4) (pe_op op_sub (pv 11) pe_int) (fun _ _ => rfl)) (pa_cons (pe_ix (show IxR _ (rIxL K) from ix_list) (pv 4) (pv 11) (fun _ _ => rfl)) pa_nil))))) pss_nil) ?i3)
      <| pss_cons (ps_inv (J := TJ p c n H) (J' := TJ p c n H) (ps_if (pt_cmpR op_eq (pv 2) pe_int (nomark _))
          (pss_one (ps_setLc (i := 5) (own := [("_law_at", 11)]) (g := gName 11) (tt := tYes) rfl scTies.nd rfl rfl (sw_true rfl rfl rfl (by decide +kernel))
            (pi_range2 (by rfl) T.range (pa_cons pe_int (pa_cons (pv 1) pa_nil))) (blkOk_by (N := nTies) (sc := defScope sTies) (by decide +kernel)) (fun _ _ _ _ _ => pg_name (i := 11) scTies.nd rfl (Or.inl rfl)) (fun _ _ _ _ _ => pts_nil)
            (fun _ _ _ _ _ => pe_call GP.ok hr1 rfl GP.g GP.kp GP.b .nil pass0 (pa_cons (pe_ix (show IxR _ (rIxL K) from ix_list) (pv 4) (pv 11) (fun _ _ => rfl)) (pa_cons (pe_ix (show IxR _ (rIxL K) from ix_list) (pv 4) (pe_call GD.ok hr1 rfl GD.g GD.kp GD.b .nil pass0 (pa_cons (pv 0) (pa_cons (pv 11) pa_nil))) (fun _ _ => rfl)) pa_nil))))) pss_nil) ?i4)
      <| pss_cons (ps_inv (J := TJ p c n H) (J' := TJ p c n H) (ps_if (pt_cmpR op_eq (pv 2) pe_int (nomark _))
          (pss_one (ps_setLc (i := 5) (own := [("_law_at", 11)]) (g := gName 11) (tt := tYes) rfl scTies.nd rfl rfl (sw_true rfl rfl rfl (by decide +kernel))
            (pi_range3 (by rfl) T.range (pa_cons pe_int (pa_cons (pe_op op_sub (pv 1) pe_int) (pa_cons pe_int pa_nil)))) (blkOk_by (N := nTies) (sc := defScope sTies) (by decide +kernel)) (fun _ _ _ _ _ => pg_name (i := 11) scTies.nd rfl (Or.inl rfl)) (fun _ _ _ _ _ => pts_nil)
            (fun _ _ _ _ _ => pe_call GP.ok hr1 rfl GP.g GP.kp GP.b .nil pass0 (pa_cons (pe_ix (show IxR _ (rIxL K) from ix_list) (pv 4) (pv 11) (fun _ _ => rfl)) (pa_cons (pe_ix (show IxR _ (rIxL K) from ix_list) (pv 4) (pe_op op_add (pv 11) pe_int) (fun _ _ => rfl)) pa_nil))))) pss_nil) ?i5)
      <| pss_cons (ps_for PassesOwn.never rfl (pi_range1 (by rfl) T.range (pa_cons (pe_imp (t' := fun σ M Q => TJ p c n H σ M ∧ ∀ (m : Nat) (M1 : Hp), m ≤ 5 → (m = 0 ∨ 2 ≤ n) → Deck M1 p c → Kp p c M M1 → Q (.int m) M1)
            (pe_ifExp (PW.pt (pw_and (pt_cmpR op_gt (pv 1) pe_int (nomark _)) (pw_and1 (pt_cmpR op_gt (pv 2) pe_int (nomark _)))))
            (pe_call GD.ok hr1 rfl GD.g GD.kp GD.b .nil pass0 (pa_cons (pv 0) (pa_cons pe_int pa_nil))) pe_int) ?i6) pa_nil)) (pg_name (i := 7) scTies.nd rfl (.inl rfl))
          (pss_cons (ps_par (i := 8) (j := 9) rfl scTies.nd rfl rfl (by decide) rfl rfl (pa_cons (pe_call GD.ok hr1 rfl GD.g GD.kp GD.b .nil pass0 (pa_cons (pv 0) (pa_cons (pv 1) pa_nil)))
              (pa_cons (pe_op op_add pe_int (pe_call GD.ok hr1 rfl GD.g GD.kp GD.b .nil pass0 (pa_cons (pv 0) (pa_cons (pe_op op_sub (pv 1) pe_int) pa_nil)))) pa_nil)) (by rfl))
            <| pss_one (ps_expr (pe_bm PySem.F.plainAttrs_list PySem.F.slot_list_append PySem.F.type_list_append mt_append (pv 5) (pa_cons (pe_call GP.ok hr1 rfl GP.g GP.kp GP.b .nil pass0
                (pa_cons (pv 8) (pa_cons (pe_op op_modN (pe_callTy call_int1 (by rfl) T.int (by decide +kernel) (pa_cons (pe_op op_add (pv 8) (pv 9)) pa_nil)) (pv 1)) pa_nil))) pa_nil)))))
      <| pss_one (ps_ret (pv 5)), ?i0⟩
    case i1 =>
      rintro D0 σ M ⟨wy, th, lo, os, ls, L, o6, rfl, hls, hL, hB, hlen, hos, hlo, src, D1, K1⟩ nx
      obtain ⟨np, nc⟩ := D.inp hlo
      refine ⟨_, rfl, _, _, rfl, rfl, _, rfl, ite2 (fun h1 => ?_) (fun h1 => nx _ _ ⟨wy, th, lo, os, ls, L, o6, rfl, hls, hL, hB, hlen, hos, hlo, src, D1, K1⟩)⟩
      refine ⟨_, rfl, n, rfl, hn2, fun l L1 M1 ln ⟨vs, e1, e2⟩ hB1 hlen1 s1 => ⟨l, rfl, ⟨_, SqL.of e1⟩, fun Da hD => ?_⟩⟩
      have hDa : H Da = none := K1.dom D1 (s1.free hD)
      obtain ⟨dp, dc⟩ := D.inp hDa
      obtain ⟨lp, lc⟩ := D1.inp ln
      have nlD : l ≠ Da := ne_of_none e1 hD
      have D2 := D1.same s1
      have no : lo ≠ Da := ne_of_none (s1 _ _ src) hD
      refine lc_list (xs := vs) (fun i M2 => FI p c H l vs L1 Da i M2 ∧ M2 lo = some (.lst (os.map V.int))) ⟨⟨⟨[], [], upd_same, .nil, (fun _ z => nomatch z), Nat.le_refl _⟩, by rw [upd_ne nlD]; exact e1, e2.mono (new_tup hD), D2.new hD, (K1.trans (kp_same s1)).trans (kp_new hD)⟩, by rw [upd_ne (ne_of_none (s1 _ _ src) hD)]; exact s1 _ _ src⟩ (fun i M2 _ fi => SqL.of fi.1.src) ?_ ?_
      · rintro i x M2 hx ⟨fi, so⟩
        have hi : i < vs.length := (List.getElem?_eq_some_iff.mp hx).1
        have := e2.len
        refine ⟨rfl, _, rfl, p, c, _, rfl, fi.dk, by decide, by decide, fun r M3 r0 r1 D3 K3 => ⟨_, rfl, _, _, rfl, rfl, _, rfl, ite2 (fun h2 => ?_) (fun h2 => ?_)⟩⟩
        · obtain ⟨acc, f1, f2, f3⟩ := (fi.step lp lc dp dc D3 K3).put hDa nlD dp dc (by omega) hx
          refine ⟨_, rfl, acc, f1, f2, f3, ?_⟩
          rw [upd_ne no]
          exact K3 _ _ np nc so
        · exact ⟨(fi.step lp lc dp dc D3 K3).skip, K3 _ _ np nc so⟩
      · rintro M2 ⟨fi, so⟩
        obtain ⟨ws, L2, f1, f2, f3, f4⟩ := fi.ex
        have := e2.len
        exact nx _ _ ⟨wy, th, lo, os, Da, L2, o6, rfl, hDa, ⟨ws, f1, f2⟩, hB1.sub f3, by omega, hos, hlo, so, fi.dk, fi.kp⟩
    case i2 =>
      rintro D0 σ M ⟨wy, th, lo, os, ls, L, o6, rfl, hls, hL, hB, hlen, hos, hlo, src, D1, K1⟩ nx
      obtain ⟨np, nc⟩ := D.inp hlo
      refine ⟨_, rfl, rfl, _, rfl, ite2 (fun h1 => ?_) (fun h1 => nx _ _ ⟨wy, th, lo, os, ls, L, o6, rfl, hls, hL, hB, hlen, hos, hlo, src, D1, K1⟩)⟩
      -- near = order[:1 + draw(n)]
      refine ⟨_, rfl, _, rfl, _, rfl, p, c, _, rfl, D1, by omega, by omega, fun r N r0 r1 DN KN => ⟨_, _, rfl, rfl, _, rfl, lo, _, rfl, SqL.of (KN _ _ np nc src), fun nr hnr => ?_⟩⟩
      have DN1 := DN.new (o := .lst (cutV (os.map V.int) none (some (1 + r)))) hnr
      have KN1 := (K1.trans KN).trans (kp_new (o := .lst (cutV (os.map V.int) none (some (1 + r)))) hnr)
      have hnrH : H nr = none := K1.dom D1 (KN.dom DN hnr)
      have nn : lo ≠ nr := ne_of_none (KN _ _ np nc src) hnr
      obtain ⟨rp, rc⟩ := D.inp hnrH
      have so1 : (upd N nr (.lst (cutV (os.map V.int) none (some (1 + r))))) lo = some (.lst (os.map V.int)) := by rw [upd_ne nn]; exact KN _ _ np nc src
      have flat : (cutV (os.map V.int) none (some (1 + r))).all flatV = true := by
        refine List.all_eq_true.mpr fun v hv => ?_
        obtain ⟨i, _, rfl⟩ := List.mem_map.mp (List.mem_of_mem_drop (List.mem_of_mem_take hv))
        rfl
      -- the pairs with one end in it
      refine ⟨_, rfl, n, rfl, hn2, fun l L1 M1 ln ⟨vs, e1, e2⟩ hB1 hlen1 s1 => ⟨l, rfl, ⟨_, SqL.of e1⟩, fun Da hD => ?_⟩⟩
      have hDa : H Da = none := KN1.dom DN1 (s1.free hD)
      have hlH : H l = none := KN1.dom DN1 ln
      obtain ⟨dp, dc⟩ := D.inp hDa
      obtain ⟨lp, lc⟩ := D.inp hlH
      have nlD : l ≠ Da := ne_of_none e1 hD
      have D2 := DN1.same s1
      have no : lo ≠ Da := ne_of_none (s1 _ _ so1) hD
      have nrD : nr ≠ Da := ne_of_none (s1 _ _ upd_same) hD
      refine lc_list (xs := vs) (fun i M2 => FI p c H l vs L1 Da i M2 ∧ M2 lo = some (.lst (os.map V.int)) ∧ M2 nr = some (.lst (cutV (os.map V.int) none (some (1 + r)))))
        ⟨⟨⟨[], [], upd_same, .nil, (fun _ z => nomatch z), Nat.le_refl _⟩, by rw [upd_ne nlD]; exact e1, e2.mono (new_tup hD), D2.new hD, (KN1.trans (kp_same s1)).trans (kp_new hD)⟩, by rw [upd_ne no]; exact s1 _ _ so1, by rw [upd_ne nrD]; exact s1 _ _ upd_same⟩ (fun i M2 _ fi => SqL.of fi.1.src) ?_ ?_
      · rintro i x M2 hx ⟨fi, so, sn⟩
        have hi : i < vs.length := (List.getElem?_eq_some_iff.mp hx).1
        have := e2.len
        obtain ⟨a, q, rfl, hq, ha⟩ := fi.prs.get hx
        refine ⟨rfl, _, rfl, a, _, _, _, rfl, rfl, SqT.of ha, atI_nat (j := 0) rfl, _, rfl, nr, _, rfl, .inl (SqL.of sn), rfl, flat, _, rfl, a, _, _, _, rfl, rfl, SqT.of ha, atI_nat (j := 1) rfl, _, rfl, nr, _, rfl, .inl (SqL.of sn), rfl, flat, rfl, _, rfl, ite2 (fun h2 => ?_) (fun h2 => ?_)⟩
        · obtain ⟨acc, f1, f2, f3⟩ := fi.put hDa nlD dp dc (by omega) hx
          exact ⟨_, rfl, acc, f1, f2, f3, by rw [upd_ne no]; exact so, by rw [upd_ne nrD]; exact sn⟩
        · exact ⟨fi.skip, so, sn⟩
      rintro M2 ⟨fi, so, sn⟩
      -- .. some of them
      obtain ⟨ws, L2, f1, f2, f3, f4⟩ := fi.ex
      have lL2 : L2.length ≤ 144 := by have := e2.len; omega
      refine ⟨_, rfl, Da, rfl, ⟨_, SqL.of f1⟩, fun Db hb => ?_⟩
      have hDb : H Db = none := fi.kp.dom fi.dk hb
      obtain ⟨bp, bc⟩ := D.inp hDb
      have nab : Da ≠ Db := ne_of_none f1 hb
      have nob : lo ≠ Db := ne_of_none so hb
      refine lc_list (xs := ws) (fun i M3 => FI p c H Da ws L2 Db i M3 ∧ M3 lo = some (.lst (os.map V.int)))
        ⟨⟨⟨[], [], upd_same, .nil, (fun _ z => nomatch z), Nat.le_refl _⟩, by rw [upd_ne nab]; exact f1, f2.mono (new_tup hb), fi.dk.new hb, fi.kp.trans (kp_new hb)⟩, by rw [upd_ne nob]; exact so⟩ (fun i M3 _ fj => SqL.of fj.1.src) ?_ ?_
      · rintro i x M3 hx ⟨fj, so⟩
        have hi : i < ws.length := (List.getElem?_eq_some_iff.mp hx).1
        have := f2.len
        refine ⟨rfl, _, rfl, p, c, _, rfl, fj.dk, by decide, by decide, fun r M4 r0 r1 D3 K3 => ⟨_, rfl, _, _, rfl, rfl, _, rfl, ite2 (fun h2 => ?_) (fun h2 => ?_)⟩⟩
        · obtain ⟨acc, g1, g2, g3⟩ := (fj.step dp dc bp bc D3 K3).put hDb nab bp bc (by omega) hx
          exact ⟨_, rfl, acc, g1, g2, g3, by rw [upd_ne nob]; exact K3 _ _ np nc so⟩
        · exact ⟨(fj.step dp dc bp bc D3 K3).skip, K3 _ _ np nc so⟩
      · rintro M3 ⟨fj, so⟩
        obtain ⟨ws', L3, g1, g2, g3, g4⟩ := fj.ex
        have := f2.len
        exact nx _ _ ⟨wy, th, lo, os, Db, L3, _, rfl, hDb, ⟨ws', g1, g2⟩, (hB1.sub f3).sub g3, by omega, hos, hlo, so, fj.dk, fj.kp⟩
    case i3 =>
      rintro D0 σ M ⟨wy, th, lo, os, ls, L, o6, rfl, hls, hL, hB, hlen, hos, hlo, src, D1, K1⟩ nx
      obtain ⟨np, nc⟩ := D.inp hlo
      have stay := nx _ _ ⟨wy, th, lo, os, ls, L, o6, rfl, hls, hL, hB, hlen, hos, hlo, src, D1, K1⟩
      refine ⟨_, rfl, rfl, _, rfl, ite2 (fun h1 => ⟨_, rfl, _, _, rfl, rfl, _, rfl, ite2 (fun h2 => ?_) (fun h2 => stay)⟩) (fun h1 => stay)⟩
      have n3 : 2 < n := by have := of_decide_eq_true h2; omega
      refine ⟨_, rfl, _, rfl, by omega, by omega, fun Da hD => ?_⟩
      have hDa : H Da = none := K1.dom D1 hD
      obtain ⟨dp, dc⟩ := D.inp hDa
      have nlD : lo ≠ Da := ne_of_none src hD
      refine lc_range (lo := 0) (n := (n : Int).toNat) (fun i M2 => GI p c H lo os n Da i M2) ⟨⟨[], [], upd_same, .nil, .nil, Nat.le_refl _⟩, by rw [upd_ne nlD]; exact src, D1.new hD, K1.trans (kp_new hD)⟩ ?_ ?_
      · rintro i M2 hi g
        obtain ⟨y, y1, y2, y3, y4⟩ := os_at hos (i := i) (by omega)
        obtain ⟨x, j, x1, x2, x3, x4, xj⟩ : ∃ (x : Int) (j : Nat), os[j]? = some x ∧ atI (os.map V.int) (0 + (i : Int) - 1) = some (.int x) ∧ 0 ≤ x ∧ x < n ∧ j ≠ i := by
          cases i with
          | zero =>
            obtain ⟨x, h1, h2⟩ := atI_neg1 hos hn1
            have := hos.mem (List.mem_of_getElem? h1)
            exact ⟨x, n - 1, h1, h2, this.1, this.2, by omega⟩
          | succ i =>
            obtain ⟨x, h1, h2, h3, h4⟩ := os_at hos (i := i) (by omega)
            refine ⟨x, i, h1, ?_, h3, h4, by omega⟩
            rw [show (0 + ((i + 1 : Nat) : Int) - 1) = (i : Int) by omega]
            exact atI_nat h2
        have e0 : atI (os.map V.int) (0 + (i : Int)) = some (.int y) := by rw [Int.zero_add]; exact atI_nat y2
        refine ⟨rfl, ?_⟩
        unfold tYes
        refine iteT ?_
        refine ⟨_, rfl, _, rfl, _, _, rfl, rfl, lo, _, _, _, rfl, rfl, SqL.of g.src, x2, _, rfl, _, rfl, lo, _, _, _, rfl, rfl, SqL.of g.src, e0, x, y, rfl, fun a ha => ?_⟩
        exact g.put hDa nlD dp dc (by omega) ha (mm_bel ⟨x3, x4⟩ ⟨y3, y4⟩ (hos.ne x1 y1 xj))
      · rintro M2 g
        obtain ⟨ws, L2, f1, f2, f3, f4⟩ := g.ex
        exact nx _ _ ⟨wy, th, lo, os, Da, L2, o6, rfl, hDa, ⟨ws, f1, f2⟩, f3, by omega, hos, hlo, g.src, g.dk, g.kp⟩
    case i4 =>
      rintro D0 σ M ⟨wy, th, lo, os, ls, L, o6, rfl, hls, hL, hB, hlen, hos, hlo, src, D1, K1⟩ nx
      obtain ⟨np, nc⟩ := D.inp hlo
      refine ⟨_, rfl, rfl, _, rfl, ite2 (fun h1 => ?_) (fun h1 => nx _ _ ⟨wy, th, lo, os, ls, L, o6, rfl, hls, hL, hB, hlen, hos, hlo, src, D1, K1⟩)⟩
      refine ⟨_, rfl, _, _, rfl, ⟨by omega, by omega, by omega, by omega⟩, fun Da hD => ?_⟩
      have hDa : H Da = none := K1.dom D1 hD
      obtain ⟨dp, dc⟩ := D.inp hDa
      have nlD : lo ≠ Da := ne_of_none src hD
      refine lc_range (lo := 1) (n := ((n : Int) - 1).toNat) (fun i M2 => GI p c H lo os n Da i M2) ⟨⟨[], [], upd_same, .nil, .nil, Nat.le_refl _⟩, by rw [upd_ne nlD]; exact src, D1.new hD, K1.trans (kp_new hD)⟩ ?_ ?_
      · rintro i M2 hi g
        obtain ⟨y, y1, y2, y3, y4⟩ := os_at hos (i := i + 1) (by omega)
        have e0 : atI (os.map V.int) (1 + (i : Int)) = some (.int y) := by rw [show (1 + (i : Int)) = ((i + 1 : Nat) : Int) by omega]; exact atI_nat y2
        refine ⟨rfl, ?_⟩
        unfold tYes
        refine iteT ?_
        refine ⟨_, rfl, _, rfl, lo, _, _, _, rfl, rfl, SqL.of g.src, e0, _, rfl, _, rfl, _, rfl, p, c, _, rfl, g.dk, by omega, by omega, fun r M3 r0 r1 D3 K3 => ?_⟩
        obtain ⟨j, rfl⟩ : ∃ j : Nat, r = j := ⟨r.toNat, by omega⟩
        obtain ⟨x, x1, x2, x3, x4⟩ := os_at hos (i := j) (by omega)
        have g3 := g.step np nc dp dc D3 K3
        refine ⟨lo, _, _, _, rfl, rfl, SqL.of g3.src, atI_nat x2, y, x, rfl, fun a ha => ?_⟩
        exact g3.put hDa nlD dp dc (by omega) ha (mm_bel ⟨y3, y4⟩ ⟨x3, x4⟩ (hos.ne y1 x1 (by omega)))
      · rintro M2 g
        obtain ⟨ws, L2, f1, f2, f3, f4⟩ := g.ex
        exact nx _ _ ⟨wy, th, lo, os, Da, L2, o6, rfl, hDa, ⟨ws, f1, f2⟩, f3, by omega, hos, hlo, g.src, g.dk, g.kp⟩
    case i5 =>
      rintro D0 σ M ⟨wy, th, lo, os, ls, L, o6, rfl, hls, hL, hB, hlen, hos, hlo, src, D1, K1⟩ nx
      obtain ⟨np, nc⟩ := D.inp hlo
      refine ⟨_, rfl, rfl, _, rfl, ite2 (fun h1 => ?_) (fun h1 => nx _ _ ⟨wy, th, lo, os, ls, L, o6, rfl, hls, hL, hB, hlen, hos, hlo, src, D1, K1⟩)⟩
      refine ⟨_, rfl, _, _, rfl, rfl, _, _, _, n / 2, rfl, range2_12 hn1 hn2, fun Da hD => ?_⟩
      have hDa : H Da = none := K1.dom D1 hD
      obtain ⟨dp, dc⟩ := D.inp hDa
      have nlD : lo ≠ Da := ne_of_none src hD
      refine lc_it walk_rangeC (fun i M2 => GI p c H lo os n Da i M2) ⟨⟨[], [], upd_same, .nil, .nil, Nat.le_refl _⟩, by rw [upd_ne nlD]; exact src, D1.new hD, K1.trans (kp_new hD)⟩ (fun _ _ _ _ => trivial) ?_ ?_
      · rintro i v M2 M2' hi g ⟨rfl, rfl⟩
        obtain ⟨y, y1, y2, y3, y4⟩ := os_at hos (i := i * 2) (by omega)
        obtain ⟨x, x1, x2, x3, x4⟩ := os_at hos (i := i * 2 + 1) (by omega)
        have e0 : atI (os.map V.int) (0 + (i : Int) * 2) = some (.int y) := by rw [show (0 + (i : Int) * 2) = ((i * 2 : Nat) : Int) by omega]; exact atI_nat y2
        have e1 : atI (os.map V.int) (0 + (i : Int) * 2 + 1) = some (.int x) := by rw [show (0 + (i : Int) * 2 + 1) = ((i * 2 + 1 : Nat) : Int) by omega]; exact atI_nat x2
        refine ⟨rfl, ?_⟩
        unfold tYes
        refine iteT ?_
        refine ⟨_, rfl, _, rfl, lo, _, _, _, rfl, rfl, SqL.of g.src, e0, _, rfl, _, rfl, _, _, rfl, rfl, lo, _, _, _, rfl, rfl, SqL.of g.src, e1, y, x, rfl, fun a ha => ?_⟩
        exact g.put hDa nlD dp dc (by omega) ha (mm_bel ⟨y3, y4⟩ ⟨x3, x4⟩ (hos.ne y1 x1 (by omega)))
      · rintro M2 g
        obtain ⟨ws, L2, f1, f2, f3, f4⟩ := g.ex
        exact nx _ _ ⟨wy, th, lo, os, Da, L2, o6, rfl, hDa, ⟨ws, f1, f2⟩, f3, by omega, hos, hlo, g.src, g.dk, g.kp⟩
    case i6 =>
      rintro σ M Q1 ⟨⟨wy, th, lo, os, ls, L, o6, rfl, _, _, _, _, _, _, _, D1, K1⟩, q⟩
      refine ⟨_, rfl, _, _, rfl, rfl, _, rfl, ite2 (fun h1 => ?_) (fun h1 => ?_)⟩
      · refine ⟨_, rfl, _, _, rfl, rfl, _, rfl, ite2 (fun h2 => ?_) (fun h2 => ?_)⟩
        · refine ⟨_, rfl, p, c, _, rfl, D1, by decide, by decide, fun r M1 r0 r1 D2 K2 => ?_⟩
          obtain ⟨j, rfl⟩ : ∃ j : Nat, r = j := ⟨r.toNat, by omega⟩
          have := of_decide_eq_true h1
          exact q j M1 (by omega) (.inr (by omega)) D2 K2
        · exact q 0 M (by decide) (.inl rfl) D1 fun _ _ _ _ e => e
      · exact q 0 M (by decide) (.inl rfl) D1 fun _ _ _ _ e => e
    case i0 =>
      refine ⟨_, rfl, p, c, _, rfl, D, by decide, by decide, fun wy H1 w0 w1 D1 K1 => ⟨_, rfl, p, c, _, rfl, D1, by decide, by decide, fun th H2 t0 t1 D2 K2 => ⟨_, _, rfl, rfl, _, rfl, _, rfl, p, c, n, rfl, hn2, D2, fun lo os H3 lon loe hos D3 K3 => ⟨Nat.zero_le _, fun ls hls => ⟨by show 4 ≤ sizeLine; decide, fun t ht => ?_⟩⟩⟩⟩⟩
      have D4 := (D3.new (o := .lst []) hls).new (o := .tup [.int wy, .int (1 + th), .ref lo, .ref ls]) ht
      have K4 : Kp p c H (upd (upd H3 ls (.lst [])) t (.tup [.int wy, .int (1 + th), .ref lo, .ref ls])) := ((((K1.trans K2).trans K3).trans (kp_new hls)).trans (kp_new ht))
      have K12 := K1.trans K2
      have hlsH : H ls = none := (K12.trans K3).dom D3 hls
      have hloH : H lo = none := K12.dom D2 lon
      have e1 : (upd (upd H3 ls (.lst [])) t (.tup [.int wy, .int (1 + th), .ref lo, .ref ls])) ls = some (.lst []) := by rw [upd_ne (ne_of_none upd_same ht)]; exact upd_same
      have e2 : (upd (upd H3 ls (.lst [])) t (.tup [.int wy, .int (1 + th), .ref lo, .ref ls])) lo = some (.lst (os.map V.int)) := by
        have q : (upd H3 ls (.lst [])) lo = some (.lst (os.map V.int)) := by rw [upd_ne (ne_of_none loe hls)]; exact loe
        rw [upd_ne (ne_of_none q ht)]
        exact q
      refine ⟨t, _, rfl, SqT.of upd_same, rfl, _, _, rfl, _, _, rfl, _, _, rfl, _, _, rfl, rfl, ?_⟩
      refine ⟨⟨wy, 1 + th, lo, os, ls, [], none, rfl, hlsH, ⟨[], e1, .nil⟩, .nil, Nat.zero_le _, hos, hloH, e2, D4, K4⟩, fun σ1 M1 j1 => ⟨j1, fun σ2 M2 j2 => ⟨j2, fun σ3 M3 j3 => ⟨j3, fun σ4 M4 j4 => ⟨j4, fun σ5 M5 j5 => ⟨j5, fun m M6 hm hm2 D6 K6 => ?_⟩⟩⟩⟩⟩⟩
      obtain ⟨wy', th', lo', os', ls', L, o6, rfl, hls', hL, hB, hlen, _, _, _, D5, K5⟩ := j5
      obtain ⟨lp, lc⟩ := D.inp hls'
      refine ⟨_, rfl, by omega, by omega, ?_⟩
      refine for_range (lo := 0) (n := (m : Int).toNat) (fun i σ M => ∃ (L : List (Int × Int)) (o7 o8 o9 : Option V), σ = [some (.ref p), some (.int n), some (.int wy'), some (.int th'), some (.ref lo'), some (.ref ls'), o6, o7, o8, o9, none, none] ∧ LP M ls' L ∧ Bel n L ∧ L.length ≤ 144 + i ∧ Deck M p c ∧ Kp p c H M)
        ⟨L, none, none, none, rfl, hL.kp D5 K6 lp lc, hB, hlen, D6, K5.trans K6⟩ ?_ ?_
      · rintro i σ M hi ⟨L, o7, o8, o9, rfl, hL, hB, hlen, D7, K7⟩
        have hn : 2 ≤ n := by omega
        refine ⟨_, rfl, _, rfl, p, c, _, rfl, D7, by omega, by omega, fun x N1 x0 x1 E1 G1 => ⟨_, rfl, _, rfl, _, _, rfl, rfl, p, c, _, rfl, E1, by omega, by omega, fun y N2 y0 y1 E2 G2 => ⟨_, _, rfl, rfl, _, _, rfl, ?_⟩⟩⟩
        have hL2 := (hL.kp D7 G1 lp lc).kp E1 G2 lp lc
        obtain ⟨vs, f1, f2⟩ := hL2
        have fm := fmod_in (a := x + (1 + y)) (b := (n : Int)) (by omega)
        have ne : x ≠ (x + (1 + y)).fmod n := by
          rw [Int.fmod_eq_emod_of_nonneg _ (by omega)]
          by_cases z : x + (1 + y) < n
          · rw [Int.emod_eq_of_lt (by omega) z]; omega
          · have : (x + (1 + y)) % (n : Int) = x + (1 + y) - n := by
              rw [← Int.sub_emod_right, Int.emod_eq_of_lt (by omega) (by omega)]
            rw [this]; omega
        refine ⟨_, rfl, .inl ⟨rfl, _, SqL.of f1⟩, _, rfl, _, rfl, _, rfl, _, _, rfl, rfl, .inl ⟨_, rfl, _, rfl, _, _, rfl, rfl, by omega, ?_⟩⟩
        refine ⟨_, _, rfl, fun a ha => ?_⟩
        have f1' : (upd N2 a (.tup [.int (mm x ((x + (1 + y)).fmod n)).1, .int (mm x ((x + (1 + y)).fmod n)).2])) ls' = some (.lst vs) := by rw [upd_ne (ne_of_none f1 ha)]; exact f1
        refine ⟨ls', _, _, rfl, rfl, f1', by rw [f2.len, sizeLine_eq]; omega, L ++ [mm x ((x + (1 + y)).fmod n)], _, _, _, rfl, ⟨_, upd_same, ((f2.mono (new_tup ha)).app (.cons upd_same .nil)).mono (upd_tup f1')⟩, hB.snoc (mm_bel ⟨x0, x1⟩ fm ne), by rw [List.length_append]; show L.length + 1 ≤ _; omega, (E2.new ha).put lp lc, ?_⟩
        exact ((((K7.trans G1).trans G2).trans (kp_new ha)).own hls')
      · rintro σ M ⟨L, o7, o8, o9, rfl, hL, hB, hlen, D7, K7⟩
        exact ⟨_, rfl, k ls' L M hls' hL hB (by omega) D7 K7⟩
end
end K0

set_option Elab.async false
set_option linter.all false
set_option maxRecDepth 100000
set_option maxHeartbeats 8000000
/-! A drawn web. -/
namespace K0
open PySem PySem.Spec L2
open PyProof.Rows hiding St
/-- a pair as data -/
def pd (q : Int × Int) : PyData := .tuple [.int q.1, .int q.2]
theorem Prs.dp {K : PySem.W.Frag} {H : Hp} {vs : List V} {L : List (Int × Int)} (p : Prs H vs L) : DpAll K H vs (L.map pd) := by
  induction p with
  | nil => exact .nil
  | cons h t ih => exact .cons (Dp.tup (SqT.of h) (.cons (.int _) (.cons (.int _) .nil))) ih
theorem pd_shaped (L : List (Int × Int)) : SeqAt.shaped (.list (L.map pd)) = true := by
  have h : ∀ M : List (Int × Int), PyData.canLayAll0 (M.map pd) = true ∧ PyData.depthAll (M.map pd) ≤ 1 := fun M => by
    induction M with
    | nil => exact ⟨by simp [PyData.canLayAll0], by simp [PyData.depthAll]⟩
    | cons y ys ih => exact ⟨by simp [pd, PyData.canLayAll0, PyData.canLay0, ih.1], by
        have := ih.2
        simp only [List.map_cons, pd, PyData.depthAll, PyData.depth] at this ⊢
        omega⟩
  show (PyData.canLay0 _ && decide (PyData.depth _ ≤ 64)) = true
  rw [Bool.and_eq_true]
  exact ⟨by simp only [PyData.canLay0]; exact (h L).1, decide_eq_true (by simp only [PyData.depth]; have := (h L).2; omega)⟩
theorem pd_eqv0 (L : List (Int × Int)) : PyData.eqv (.list (L.map pd)) (.list []) = decide (L = []) := by
  cases L with
  | nil => rfl
  | cons q L => simp [PyData.eqv, PyData.eqvAll]
/-- the order of pairs -/
def cd (q : Int × Int) : Int := q.1 * 64 + q.2
def Srt (L : List (Int × Int)) : Prop := L.Pairwise fun a b => cd a ≤ cd b
theorem Prs.mem {H : Hp} {vs : List V} {L : List (Int × Int)} (p : Prs H vs L) : ∀ {q : Int × Int}, q ∈ L → ∃ a, V.ref a ∈ vs ∧ H a = some (.tup [.int q.1, .int q.2]) := by
  induction p with
  | nil => intro q z; cases z
  | @cons a r vs L h t ih =>
    intro q z
    rcases List.mem_cons.mp z with rfl | z
    · exact ⟨a, List.mem_cons_self .., h⟩
    · obtain ⟨b, h1, h2⟩ := ih z
      exact ⟨b, List.mem_cons_of_mem _ h1, h2⟩
theorem Prs.memV {H : Hp} {vs : List V} {L : List (Int × Int)} (p : Prs H vs L) : ∀ {v : V}, v ∈ vs → ∃ a q, v = .ref a ∧ q ∈ L ∧ H a = some (.tup [.int q.1, .int q.2]) := by
  induction p with
  | nil => intro q z; cases z
  | @cons a r vs L h t ih =>
    intro v z
    rcases List.mem_cons.mp z with rfl | z
    · exact ⟨a, r, rfl, List.mem_cons_self .., h⟩
    · obtain ⟨b, q, h1, h2, h3⟩ := ih z
      exact ⟨b, q, h1, List.mem_cons_of_mem _ h2, h3⟩
theorem tupI_pr {K : PySem.W.Frag} {H : Hp} {a : Addr} {q : Int × Int} (h : H a = some (.tup [.int q.1, .int q.2])) : TupI K H (.ref a) [q.1, q.2] := ⟨a, rfl, SqT.of h⟩
theorem Prs.srt {K : PySem.W.Frag} {H : Hp} {ys : List V} {M : List (Int × Int)} (p : Prs H ys M) : ys.Pairwise (fun x y => ∀ n m, TupI K H x n → TupI K H y m → TS.code 64 n ≤ TS.code 64 m) → Srt M := by
  induction p with
  | nil => intro _; exact .nil
  | @cons a r vs L h t ih =>
    intro z
    obtain ⟨z1, z2⟩ := List.pairwise_cons.mp z
    refine List.pairwise_cons.mpr ⟨fun q hq => ?_, ih z2⟩
    obtain ⟨b, hb, eb⟩ := t.mem hq
    have := z1 _ hb _ _ (tupI_pr h) (tupI_pr eb)
    rw [code_pair, code_pair] at this
    exact this
theorem Prs.tups {K : PySem.W.Frag} {H : Hp} {vs : List V} {L : List (Int × Int)} {n : Int} (p : Prs H vs L) (hB : Bel n L) (hn : n ≤ 64) : ∀ x ∈ vs, ∃ ns, TupI K H x ns ∧ ns.length = 2 ∧ TS.Bd 64 ns := fun x hx => by
  obtain ⟨a, q, rfl, hq, h⟩ := p.memV hx
  have := hB q hq
  refine ⟨_, tupI_pr h, rfl, fun m hm => ?_⟩
  rcases List.mem_cons.mp hm with rfl | hm
  · omega
  · rw [List.mem_singleton.mp hm]; omega
/-- a web stands at w -/
structure Web (H : Hp) (w : Addr) (n : Nat) (L : List (Int × Int)) : Prop where
  ex : ∃ (t : Addr) (vs : List V), H w = some (.tup [.int n, .ref t]) ∧ H t = some (.tup vs) ∧ Prs H vs L
theorem Web.mono {H H' : Hp} {w : Addr} {n : Nat} {L : List (Int × Int)} (W : Web H w n L) (s : ∀ a x, H a = some (.tup x) → H' a = some (.tup x)) : Web H' w n L := by
  obtain ⟨t, vs, h1, h2, h3⟩ := W.ex
  exact ⟨t, vs, s _ _ h1, s _ _ h2, h3.mono s⟩
theorem Web.same {H H' : Hp} {w : Addr} {n : Nat} {L : List (Int × Int)} (W : Web H w n L) (s : Same H H') : Web H' w n L := W.mono (same_tup s)
/-- what a comprehension of new pairs has made -/
structure GJ (p c : Addr) (H : Hp) (n : Int) (Da : Addr) (i : Nat) (M : Hp) : Prop where
  ex : ∃ (ws : List V) (L2 : List (Int × Int)), M Da = some (.lst ws) ∧ Prs M ws L2 ∧ Bel n L2 ∧ L2.length ≤ i
  dk : Deck M p c
  kp : Kp p c H M
theorem GJ.put {p c Da : Addr} {H M : Hp} {n : Int} {i : Nat} (h : GJ p c H n Da i M) (hD : H Da = none) (n3 : Da ≠ p) (n4 : Da ≠ c) (hi : i ≤ 1000) {a : Addr} {q : Int × Int} (ha : M a = none) (hq : 0 ≤ q.1 ∧ q.1 < q.2 ∧ q.2 < n) :
    ∃ acc, (upd M a (.tup [.int q.1, .int q.2])) Da = some (.lst acc) ∧ acc.length < sizeLine ∧ GJ p c H n Da (i + 1) (upd (upd M a (.tup [.int q.1, .int q.2])) Da (.lst (acc ++ [.ref a]))) := by
  obtain ⟨ws, L2, e1, e2, e3, e4⟩ := h.ex
  have e1' : (upd M a (.tup [.int q.1, .int q.2])) Da = some (.lst ws) := by rw [upd_ne (ne_of_none e1 ha)]; exact e1
  exact ⟨ws, e1', by rw [e2.len, sizeLine_eq]; omega, ⟨ws ++ [.ref a], L2 ++ [q], upd_same, ((e2.mono (new_tup ha)).app (.cons upd_same .nil)).mono (upd_tup e1'), e3.snoc hq, by rw [List.length_append]; show L2.length + 1 ≤ _; omega⟩, (h.dk.new ha).put n3 n4, (h.kp.trans (kp_new ha)).own hD⟩
/-- a row of pairs stays while a new tuple and another list are written -/
theorem LP.past {M : Hp} {l a Da : Addr} {L : List (Int × Int)} {o : HO} {ws : List V} {acc : List V} (h : LP M l L) (ha : M a = none) (eD : (upd M a o) Da = some (.lst acc)) (ne : l ≠ Da) : LP (upd (upd M a o) Da (.lst ws)) l L :=
  (h.mono (fun ys e => by rw [upd_ne (ne_of_none e ha)]; exact e) (new_tup ha)).mono (fun ys e => by rw [upd_ne ne]; exact e) (upd_tup eD)
theorem LP.new {M : Hp} {l a : Addr} {L : List (Int × Int)} {o : HO} (h : LP M l L) (ha : M a = none) : LP (upd M a o) l L := h.mono (fun ys e => by rw [upd_ne (ne_of_none e ha)]; exact e) (new_tup ha)
def spWeb : Sp := fun vs H Q _ => ∃ (p c : Addr) (n m : Nat), vs = [.ref p, .int n, .int m] ∧ 1 ≤ n ∧ n ≤ 12 ∧ m ≤ 40 ∧ Deck H p c ∧ ∀ (w : Addr) (L : List (Int × Int)) (H' : Hp), H w = none → Web H' w n L → Bel n L → Srt L → L.length ≤ m → Deck H' p c → Kp p c H H' → Q (.ref w) H'
abbrev nWeb : List Str := ["_law_deck_here", "_law_n", "_law_most", "_law_near", "_law_some", "_law_order_here", "_law_turn", "_law_one", "_law_other"]
/-- between the statements -/
def WJ (p c : Addr) (n m : Nat) (H : Hp) (near b lb : Nat) (σ : St) (M : Hp) : Prop := ∃ (ls lo : Addr) (L : List (Int × Int)) (os : List Int) (o6 : Option V),
  σ = [some (.ref p), some (.int n), some (.int m), some (.int near), some (.ref ls), some (.ref lo), o6, none, none] ∧ 1 ≤ near ∧ near ≤ n ∧ H ls = none ∧ H lo = none ∧ LP M ls L ∧ L.length ≤ lb ∧
  IsOrd n os ∧ M lo = some (.lst (os.map V.int)) ∧ Deck M p c ∧ Kp p c H M ∧ Bel b L
section
variable {P : Program} {w : World} {K : PySem.W.Frag} {mg : Str → Option Value} {base : Heap}
theorem scWeb : FnScope nWeb ["_law_deck_here", "_law_n", "_law_most"] (defScope sWeb) := ⟨rfl, rfl, rfl, by decide +kernel, rfl, by decide +kernel, by decide +kernel⟩
theorem ok_web {f fD fO fP fT fK : Addr} {fd fdD fdO fdP fdT fdK : FuncData} (F : Fun K "_law_web" "_law_web" sWeb f fd) (T : Bj mg) (GD : Dn P w K mg base "_law_draw" 1 ["_law_deck_here", "_law_many"] spDraw fD fdD)
    (GO : Dn P w K mg base "_law_order" 2 ["_law_deck_here", "_law_n"] spOrder fO fdO) (GP : Dn P w K mg base "_law_pair" 1 ["_law_one", "_law_other"] spPair fP fdP) (GT : Dn P w K mg base "_law_drawn_ties" 3 ["_law_deck_here", "_law_n"] spTies fT fdT)
    (GK : Dn P w K mg base "_law_pick" 2 ["_law_deck_here", "_law_some"] spPick fK fdK) :
    FnOk P w K mg base CX0 4 f fd ["_law_deck_here", "_law_n", "_law_most"] spWeb := by
  refine F.ok scWeb (fun vs H Q E h => ?_) (fun cdv A outer s H vs Q E hr h => ?_)
  · obtain ⟨p, c, n, m, rfl, _⟩ := h
    rfl
  · obtain ⟨p, c, n, m, rfl, hn1, hn2, hm, D, k⟩ := h
    have hr1 : Room 1 (A.deeper (envOfC "_law_web" (defScope sWeb) s.heap.objs.size f cdv)) := hr.mono (by decide)
    have hr2 : Room 2 (A.deeper (envOfC "_law_web" (defScope sWeb) s.heap.objs.size f cdv)) := hr.mono (by decide)
    have hu6 : A.units + 3 + 64 < cLine := by have := hr.un; have e : (A.deeper (envOfC "_law_web" (defScope sWeb) s.heap.objs.size f cdv)).units = A.units + 3 := rfl; omega
    refine ⟨_, pss_cons (ps_set (i := 3) scWeb.nd rfl (.inr rfl) (pe_imp (t' := fun σ M Q => σ = start nWeb [.ref p, .int n, .int m] ∧ M = H ∧ ∀ (k : Nat) (M1 : Hp), 1 ≤ k → k ≤ n → Deck M1 p c → Kp p c H M1 → Q (.int k) M1)
          (pe_ifExp (pt_cmpR op_eq (pe_call GD.ok hr1 rfl GD.g GD.kp GD.b .nil pass0 (pa_cons (pv 0) (pa_cons pe_int pa_nil))) pe_int (nomark _))
            (pe_op op_add pe_int (pe_call GD.ok hr1 rfl GD.g GD.kp GD.b .nil pass0 (pa_cons (pv 0) (pa_cons (pv 1) pa_nil)))) (pv 1)) ?j1))
      <| pss_cons (ps_asg (pe_tup (pa_cons (pe_call GT.ok hr rfl GT.g GT.kp GT.b .nil pass0 (pa_cons (pv 0) (pa_cons (pv 3) pa_nil))) (pa_cons (pe_listRg rfl (by rfl) T.list (prg_1 (by rfl) T.range (pv 1))) pa_nil)))
          (pg_tup rfl (pgs_cons (pg_name (i := 4) scWeb.nd rfl (.inl rfl)) (pgs_cons (pg_name (i := 5) scWeb.nd rfl (.inr rfl)) pgs_nil))))
      <| pss_cons (ps_inv (J := fun σ M => ∃ near, WJ p c n m H near near 160 σ M) (J' := fun σ M => ∃ near, WJ p c n m H near n 320 σ M) (ps_if (pt_cmpR op_lt (pv 3) (pv 1) (nomark _))
          (pss_cons (ps_set (i := 4) scWeb.nd rfl (.inl rfl) (pe_op op_cat (pv 4) (pe_lc (own := [("_law_one", 7), ("_law_other", 8)]) (g := gTup K 2 (gCons (gName 7) (gCons (gName 8) gNil))) (tt := tYes) rfl scWeb.nd
              (pi_list (pe_call GT.ok hr rfl GT.g GT.kp GT.b .nil pass0 (pa_cons (pv 0) (pa_cons (pe_op op_sub (pv 1) (pv 3)) pa_nil)))) (blkOk_by (N := nWeb) (sc := defScope sWeb) (by decide +kernel))
              (fun _ _ _ _ _ => pg_tup rfl (pgs_cons (pg_name (i := 7) scWeb.nd rfl (.inl rfl) (.inr rfl)) (pgs_cons (pg_name (i := 8) scWeb.nd rfl (.inl rfl) (.inr rfl)) pgs_nil))) (fun _ _ _ _ _ => pts_nil)
              (fun _ _ _ _ _ => pe_tup (pa_cons (pe_op op_add (pv 7) (pv 3)) (pa_cons (pe_op op_add (pv 8) (pv 3)) pa_nil))))))
          <| pss_one (ps_set (i := 5) scWeb.nd rfl (.inr rfl) (pe_call GO.ok hr2 rfl GO.g GO.kp GO.b .nil pass0 (pa_cons (pv 0) (pa_cons (pv 1) pa_nil))))) pss_nil) ?j2)
      <| pss_cons (ps_inv (J := fun σ M => ∃ near, WJ p c n m H near n 320 σ M) (J' := fun σ M => ∃ near, WJ p c n m H near n 320 σ M) (ps_setLc (i := 4) (own := [("_law_one", 7), ("_law_other", 8)]) (g := gTup K 2 (gCons (gName 7) (gCons (gName 8) gNil))) (tt := tYes) rfl scWeb.nd rfl rfl (sw_true rfl rfl rfl (by decide +kernel))
              (pi_list (pv 4)) (blkOk_by (N := nWeb) (sc := defScope sWeb) (by decide +kernel))
              (fun _ _ _ _ _ => pg_tup rfl (pgs_cons (pg_name (i := 7) scWeb.nd rfl (.inl rfl) (.inr rfl)) (pgs_cons (pg_name (i := 8) scWeb.nd rfl (.inl rfl) (.inr rfl)) pgs_nil))) (fun _ _ _ _ _ => pts_nil)
              (fun _ _ _ _ _ => pe_call GP.ok hr1 rfl GP.g GP.kp GP.b .nil pass0 (pa_cons (pe_ix (show IxR _ (rIxL K) from ix_list) (pv 5) (pv 7) (fun _ _ => rfl)) (pa_cons (pe_ix (show IxR _ (rIxL K) from ix_list) (pv 5) (pv 8) (fun _ _ => rfl)) pa_nil)))) ?j3)
      <| pss_cons (ps_for PassesOwn.never rfl (pi_range1 (by rfl) T.range (pa_cons (pe_imp (t' := fun σ M Q => (∃ near, WJ p c n m H near n 320 σ M) ∧ ∀ (ls : Addr) (j : Nat) (M1 : Hp), σ[4]? = some (some (.ref ls)) → j ≤ 3 → (∀ L, LP M ls L → LP M1 ls L ∧ (j = 0 ∨ L ≠ [])) → Deck M1 p c → Kp p c H M1 → Q (.int j) M1)
            (pe_ifExp (pt_cmpR (op_neD hu6) (pv 4) (pe_lst pa_nil) (nomark _)) (pe_call GD.ok hr1 rfl GD.g GD.kp GD.b .nil pass0 (pa_cons (pv 0) (pa_cons pe_int pa_nil))) pe_int) ?j4) pa_nil)) (pg_name (i := 6) scWeb.nd rfl (.inl rfl))
          (pss_one (ps_expr (pe_bm PySem.F.plainAttrs_list PySem.F.slot_list_append PySem.F.type_list_append mt_append (pv 4) (pa_cons (pe_call GK.ok hr2 rfl GK.g GK.kp GK.b .nil pass0 (pa_cons (pv 0) (pa_cons (pv 4) pa_nil))) pa_nil)))))
      <| pss_cons (ps_for PassesOwn.never rfl (pi_range1 (by rfl) T.range (pa_cons (pe_op op_sub (pe_callB call_len_seq (by rfl) T.len PySem.boot_len (pa_cons (pv 4) pa_nil)) (pv 2)) pa_nil)) (pg_name (i := 6) scWeb.nd rfl (.inl rfl))
          (pss_one (ps_expr (pe_bm PySem.F.plainAttrs_list PySem.F.slot_list_pop PySem.F.type_list_pop mt_popAt (pv 4) (pa_cons (pe_call GD.ok hr1 rfl GD.g GD.kp GD.b .nil pass0 (pa_cons (pv 0) (pa_cons (pe_callB call_len_seq (by rfl) T.len PySem.boot_len (pa_cons (pv 4) pa_nil)) pa_nil))) pa_nil)))))
      <| pss_one (ps_ret (pe_tup (pa_cons (pv 1) (pa_cons (pe_callTy call_tuple_of (by rfl) T.tuple (by decide +kernel) (pa_cons (pe_callB (cr_sortT (d := 2) (B := 64) (by decide)) (by rfl) T.sorted (by decide +kernel) (pa_cons (pv 4) pa_nil)) pa_nil)) pa_nil)))), ?j0⟩
    case j1 =>
      rintro σ M Q1 ⟨rfl, rfl, q⟩
      refine ⟨_, rfl, p, c, _, rfl, D, by decide, by decide, fun r M1 r0 r1 D1 K1 => ⟨rfl, _, rfl, ite2 (fun h1 => ?_) (fun h1 => ⟨_, rfl, q n M1 hn1 (Nat.le_refl _) D1 K1⟩)⟩⟩
      refine ⟨_, rfl, _, rfl, p, c, _, rfl, D1, by omega, by omega, fun x M2 x0 x1 D2 K2 => ⟨_, _, rfl, rfl, ?_⟩⟩
      obtain ⟨j, rfl⟩ : ∃ j : Nat, x = j := ⟨x.toNat, by omega⟩
      have e := q (1 + j) M2 (by omega) (by omega) D2 (K1.trans K2)
      rwa [show ((1 + j : Nat) : Int) = 1 + (j : Int) by omega] at e
    case j4 =>
      rintro σ M Q1 ⟨⟨near, ls, lo, L, os, o6, rfl, n1, n2, hls, hlo, ⟨vs, e1, e2⟩, hlen, hos, src, D1, K1, hB⟩, q⟩
      obtain ⟨lp, lc⟩ := D.inp hls
      refine ⟨_, rfl, Nat.zero_le _, fun l hl => ?_⟩
      have e1' : (upd M l (.lst [])) ls = some (.lst vs) := by rw [upd_ne (ne_of_none e1 hl)]; exact e1
      refine ⟨.list (L.map pd), .list [], .lst (SqL.of e1') (e2.mono (new_tup hl)).dp, .lst (SqL.of upd_same) .nil, pd_shaped L, by decide, _, rfl, ?_⟩
      rw [pd_eqv0]
      have D2 := D1.new (o := .lst []) hl
      have keep : ∀ L, LP M ls L → LP (upd M l (.lst [])) ls L := fun L h => h.mono (fun ys e => by rw [upd_ne (ne_of_none e hl)]; exact e) (new_tup hl)
      have LPi : ∀ {L' : List (Int × Int)}, LP M ls L' → L ≠ [] → L' ≠ [] := fun ⟨ws, f1, f2⟩ hL hz => by
        rw [e1] at f1
        cases f1
        have a := e2.len
        have b := f2.len
        rw [hz] at b
        exact hL (List.length_eq_zero_iff.mp (by rw [← a, b]; rfl))
      by_cases hL : L = []
      · rw [decide_eq_true hL]
        exact q ls 0 _ rfl (by decide) (fun L' h => ⟨keep L' h, .inl rfl⟩) D2 (K1.trans (kp_new hl))
      · rw [decide_eq_false hL]
        refine ⟨_, rfl, p, c, _, rfl, D2, by decide, by decide, fun r M1 r0 r1 D3 K3 => ?_⟩
        obtain ⟨j, rfl⟩ : ∃ j : Nat, r = j := ⟨r.toNat, by omega⟩
        exact q ls j M1 rfl (by omega) (fun L' h => ⟨(keep L' h).kp D2 K3 lp lc, .inr (LPi h hL)⟩) D3 ((K1.trans (kp_new hl)).trans K3)
    case j2 =>
      rintro D0 σ M ⟨near, ls, lo, L, os, o6, rfl, n1, n2, hls, hlo, hL, hlen, hos, src, D1, K1, hB⟩ nx
      obtain ⟨sp, sc⟩ := D.inp hls
      refine ⟨_, rfl, _, rfl, _, _, rfl, rfl, _, rfl, ite2 (fun h1 => ?_) (fun h1 => nx _ _ ⟨near, ls, lo, L, os, o6, rfl, n1, n2, hls, hlo, hL, by omega, hos, src, D1, K1, ?_⟩)⟩
      · have h1' := of_decide_eq_true h1
        refine ⟨_, rfl, _, rfl, _, rfl, _, rfl, _, _, rfl, rfl, p, c, n - near, by show [V.ref p, V.int ((n : Int) - (near : Int))] = _; rw [show ((n : Int) - (near : Int)) = ((n - near : Nat) : Int) by omega], by omega, by omega, D1, fun l L1 M1 ln hL1 hB1 hlen1 D2 K2 => ?_⟩
        have hlH : H l = none := K1.dom D1 ln
        obtain ⟨lp, lc⟩ := D.inp hlH
        obtain ⟨vs, e1, e2⟩ := id hL1
        refine ⟨l, rfl, ⟨_, SqL.of e1⟩, fun Da hD => ?_⟩
        have K12 := K1.trans K2
        have hDa : H Da = none := K12.dom D2 hD
        obtain ⟨dp, dc⟩ := D.inp hDa
        have nlD : l ≠ Da := ne_of_none e1 hD
        have hLs := hL.kp D1 K2 sp sc
        have nsD : ls ≠ Da := by obtain ⟨ws, f1, _⟩ := hLs; exact ne_of_none f1 hD
        refine lc_list (xs := vs) (fun i M2 => GJ p c H n Da i M2 ∧ M2 l = some (.lst vs) ∧ Prs M2 vs L1 ∧ LP M2 ls L) ⟨⟨⟨[], [], upd_same, .nil, .nil, Nat.le_refl _⟩, D2.new hD, K12.trans (kp_new hD)⟩, by rw [upd_ne nlD]; exact e1, e2.mono (new_tup hD), hLs.new hD⟩ (fun i M2 _ g => SqL.of g.2.1) ?_ ?_
        · rintro i x M2 hx ⟨g, g1, g2, g3⟩
          have hi : i < vs.length := (List.getElem?_eq_some_iff.mp hx).1
          have := e2.len
          obtain ⟨a, q, rfl, hq, ha⟩ := g2.get hx
          have hb := hB1 q (List.mem_of_getElem? hq)
          refine ⟨a, _, rfl, SqT.of ha, rfl, _, _, rfl, _, _, rfl, rfl, rfl, ?_⟩
          unfold tYes
          refine iteT ?_
          refine ⟨_, rfl, _, rfl, _, _, rfl, rfl, _, rfl, _, rfl, _, _, rfl, rfl, by show 2 ≤ sizeLine; decide, fun t ht => ?_⟩
          obtain ⟨acc, f1, f2, f3⟩ := g.put (q := (q.1 + near, q.2 + near)) hDa dp dc (by omega) ht ⟨by show 0 ≤ q.1 + (near : Int); omega, by show q.1 + (near : Int) < q.2 + near; omega, by show q.2 + (near : Int) < n; omega⟩
          exact ⟨acc, f1, f2, f3, by rw [upd_ne nlD, upd_ne (ne_of_none g1 ht)]; exact g1, (g2.mono (new_tup ht)).mono (upd_tup f1), g3.past ht f1 nsD⟩
        · rintro M2 ⟨g, g1, g2, ws0, f1, f2⟩
          obtain ⟨ws, L2, d1, d2, d3, d4⟩ := g.ex
          have l0 := f2.len
          have l2 := d2.len
          have le := e2.len
          refine ⟨ls, Da, _, _, rfl, rfl, f1, d1, by rw [sizeLine_eq]; omega, fun b hb => ?_⟩
          have hbH : H b = none := g.kp.dom g.dk hb
          obtain ⟨bp, bc⟩ := D.inp hbH
          refine ⟨_, rfl, _, rfl, p, c, n, rfl, hn2, g.dk.new hb, fun lo' os' M3 ln' e3 hos' D3 K3 => ?_⟩
          have hlo' : H lo' = none := (g.kp.trans (kp_new hb)).dom (g.dk.new hb) ln'
          have hLb : LP (upd M2 b (.lst (ws0 ++ ws))) b (L ++ L2) := ⟨_, upd_same, (f2.app d2).mono (new_tup hb)⟩
          refine nx _ _ ⟨near, b, lo', L ++ L2, os', o6, rfl, n1, n2, hbH, hlo', hLb.kp (g.dk.new hb) K3 bp bc, by rw [List.length_append]; omega, hos', e3, D3, (g.kp.trans (kp_new hb)).trans K3, Bel.app (fun q z => ?_) d3⟩
          have := hB q z
          omega
      · have : near = n := by
          have h1' : ¬ ((near : Int) < n) := fun z => h1 (decide_eq_true z)
          omega
        rw [← this]
        exact hB
    case j3 =>
      rintro D0 σ M ⟨near, ls, lo, L, os, o6, rfl, n1, n2, hls, hlo, ⟨vs, e1, e2⟩, hlen, hos, src, D1, K1, hB⟩ nx
      obtain ⟨sp, sc⟩ := D.inp hls
      refine ⟨_, rfl, ls, rfl, ⟨_, SqL.of e1⟩, fun Da hD => ?_⟩
      have hDa : H Da = none := K1.dom D1 hD
      obtain ⟨dp, dc⟩ := D.inp hDa
      have nsD : ls ≠ Da := ne_of_none e1 hD
      have noD : lo ≠ Da := ne_of_none src hD
      refine lc_list (xs := vs) (fun i M2 => GJ p c H n Da i M2 ∧ M2 ls = some (.lst vs) ∧ Prs M2 vs L ∧ M2 lo = some (.lst (os.map V.int))) ⟨⟨⟨[], [], upd_same, .nil, .nil, Nat.le_refl _⟩, D1.new hD, K1.trans (kp_new hD)⟩, by rw [upd_ne nsD]; exact e1, e2.mono (new_tup hD), by rw [upd_ne noD]; exact src⟩ (fun i M2 _ g => SqL.of g.2.1) ?_ ?_
      · rintro i x M2 hx ⟨g, g1, g2, g3⟩
        have hi : i < vs.length := (List.getElem?_eq_some_iff.mp hx).1
        have := e2.len
        obtain ⟨a, q, rfl, hq, ha⟩ := g2.get hx
        have hb := hB q (List.mem_of_getElem? hq)
        obtain ⟨q1, q2⟩ := q
        have hb : 0 ≤ q1 ∧ q1 < q2 ∧ q2 < n := hb
        obtain ⟨i1, rfl⟩ : ∃ j : Nat, q1 = j := ⟨q1.toNat, by omega⟩
        obtain ⟨i2, rfl⟩ : ∃ j : Nat, q2 = j := ⟨q2.toNat, by omega⟩
        obtain ⟨x, x1, x2, x3, x4⟩ := os_at hos (i := i1) (by omega)
        obtain ⟨y, y1, y2, y3, y4⟩ := os_at hos (i := i2) (by omega)
        refine ⟨a, _, rfl, SqT.of ha, rfl, _, _, rfl, _, _, rfl, rfl, rfl, ?_⟩
        unfold tYes
        refine iteT ?_
        refine ⟨_, rfl, _, rfl, lo, _, _, _, rfl, rfl, SqL.of g3, atI_nat x2, _, rfl, _, rfl, lo, _, _, _, rfl, rfl, SqL.of g3, atI_nat y2, x, y, rfl, fun t ht => ?_⟩
        obtain ⟨acc, f1, f2, f3⟩ := g.put (q := mm x y) hDa dp dc (by omega) ht (mm_bel ⟨x3, x4⟩ ⟨y3, y4⟩ (hos.ne x1 y1 (by omega)))
        exact ⟨acc, f1, f2, f3, by rw [upd_ne nsD, upd_ne (ne_of_none g1 ht)]; exact g1, (g2.mono (new_tup ht)).mono (upd_tup f1), by rw [upd_ne noD, upd_ne (ne_of_none g3 ht)]; exact g3⟩
      · rintro M2 ⟨g, g1, g2, g3⟩
        obtain ⟨ws, L2, d1, d2, d3, d4⟩ := g.ex
        have le := e2.len
        exact nx _ _ ⟨near, Da, lo, L2, os, o6, rfl, n1, n2, hDa, hlo, ⟨ws, d1, d2⟩, by omega, hos, g3, g.dk, g.kp, d3⟩
    case j0 =>
      refine ⟨rfl, rfl, fun near M1 n1 n2 D1 K1 => ?_⟩
      refine ⟨_, rfl, _, rfl, p, c, near, rfl, n1, by omega, D1, fun ls L M2 ln hL hB hlen D2 K2 => ⟨_, rfl, _, rfl, .of_le (by omega) (by omega) (by omega) (by omega), fun lo hlo => ⟨by show 2 ≤ sizeLine; decide, fun t ht => ?_⟩⟩⟩
      rw [rg_ints] at ht ⊢
      have K12 := K1.trans K2
      have hlsH : H ls = none := K1.dom D1 ln
      have hloH : H lo = none := K12.dom D2 hlo
      obtain ⟨sp, sc⟩ := D.inp hlsH
      have D3 := (D2.new (o := .lst (((List.range n).map fun i => ((i : Nat) : Int)).map V.int)) hlo).new (o := .tup [.ref ls, .ref lo]) ht
      have K3 := (K12.trans (kp_new (o := .lst (((List.range n).map fun i => ((i : Nat) : Int)).map V.int)) hlo)).trans (kp_new (o := .tup [.ref ls, .ref lo]) ht)
      have eo : (upd (upd M2 lo (.lst (((List.range n).map fun i => ((i : Nat) : Int)).map V.int))) t (.tup [.ref ls, .ref lo])) lo = some (.lst (((List.range n).map fun i => ((i : Nat) : Int)).map V.int)) := by rw [upd_ne (ne_of_none upd_same ht)]; exact upd_same
      refine ⟨t, _, rfl, SqT.of upd_same, rfl, _, _, rfl, _, _, rfl, rfl, ?_⟩
      refine ⟨⟨near, ls, lo, L, _, none, rfl, n1, n2, hlsH, hloH, (hL.new hlo).new ht, by omega, iota_ord n, eo, D3, K3, hB⟩, fun σ1 M3 j3 => ⟨j3, fun σ2 M4 j4 => ⟨j4, fun ls' j M5 e4 hj hkeep D5 K5 => ?_⟩⟩⟩
      obtain ⟨near', ls2, lo', L, os, o6, rfl, _, _, hls, _, hL, hlen, _, _, _, _, hB⟩ := j4
      obtain rfl : ls2 = ls' := by cases e4; rfl
      obtain ⟨hL5, h5⟩ := hkeep L hL
      obtain ⟨lp, lc⟩ := D.inp hls
      refine ⟨_, rfl, by omega, by omega, ?_⟩
      refine for_range (lo := 0) (n := (j : Int).toNat) (fun i σ M => ∃ (L : List (Int × Int)) (o6 : Option V), σ = [some (.ref p), some (.int n), some (.int m), some (.int near'), some (.ref ls2), some (.ref lo'), o6, none, none] ∧ LP M ls2 L ∧ (j = 0 ∨ L ≠ []) ∧ Bel n L ∧ L.length ≤ 320 + i ∧ Deck M p c ∧ Kp p c H M)
        ⟨L, o6, rfl, hL5, h5, hB, hlen, D5, K5⟩ ?_ ?_
      · rintro i σ M hi ⟨L, o6, rfl, ⟨vs, f1, f2⟩, h0, hB, hlen, D6, K6⟩
        have len := f2.len
        have pos : L.length ≠ 0 := fun z => by
          rcases h0 with h0 | h0
          · omega
          · exact h0 (List.length_eq_zero_iff.mp z)
        refine ⟨_, rfl, .inl ⟨rfl, _, SqL.of f1⟩, _, rfl, _, rfl, p, c, ls2, vs, rfl, D6, f1, lp, lc, by omega, by omega, fun k v M6 hv D7 K7 => ?_⟩
        have f1' := K7 _ _ lp lc f1
        have f2' := f2.mono (K7.tup D6)
        obtain ⟨a, q, rfl, hq, ha⟩ := f2'.get hv
        exact ⟨ls2, _, _, rfl, rfl, f1', by rw [sizeLine_eq]; omega, L ++ [q], _, rfl, ⟨_, upd_same, (f2'.app (.cons ha .nil)).mono (upd_tup f1')⟩, .inr (by simp), hB.snoc (hB q (List.mem_of_getElem? hq)), by rw [List.length_append]; show L.length + 1 ≤ _; omega, D7.put lp lc, (K6.trans K7).own hls⟩
      · rintro σ M ⟨L, o6, rfl, ⟨vs, f1, f2⟩, h0, hB, hlen, D6, K6⟩
        have len := f2.len
        refine ⟨_, rfl, ls2, _, rfl, .inl (SqL.of f1), _, rfl, _, _, rfl, rfl, _, rfl, by omega, by omega, ?_⟩
        refine for_range (lo := 0) (n := (((vs.length : Nat) : Int) - (m : Int)).toNat) (fun i σ M' => ∃ (L' : List (Int × Int)) (o6 : Option V), σ = [some (.ref p), some (.int n), some (.int m), some (.int near'), some (.ref ls2), some (.ref lo'), o6, none, none] ∧ LP M' ls2 L' ∧ Bel n L' ∧ L'.length + i = L.length ∧ Deck M' p c ∧ Kp p c H M')
          ⟨L, o6, rfl, ⟨vs, f1, f2⟩, hB, rfl, D6, K6⟩ ?_ ?_
        · rintro i σ M' hi ⟨L', o6, rfl, ⟨ws, g1, g2⟩, hB', hl', D7, K7⟩
          have len' := g2.len
          refine ⟨_, rfl, .inl ⟨rfl, _, SqL.of g1⟩, _, rfl, _, rfl, ls2, _, rfl, .inl (SqL.of g1), p, c, _, rfl, D7, by omega, by omega, fun r M6 r0 r1 D8 K8 => ?_⟩
          obtain ⟨k, rfl⟩ : ∃ k : Nat, r = k := ⟨r.toNat, by omega⟩
          have g1' := K8 _ _ lp lc g1
          have hk : k < ws.length := by omega
          have si : seqIndex? (k : Int) ws.length = some k := (ixN_seq (n := ws.length) (by unfold ixN; rw [if_pos (by omega), if_pos (by omega)]; rfl)).1
          refine ⟨ls2, _, _, k, ws[k], rfl, rfl, g1', by omega, by omega, si, by simp [hk], L'.eraseIdx k, _, rfl, ⟨_, upd_same, ((g2.mono (K8.tup D7)).erase k).mono (upd_tup g1')⟩, hB'.sub fun q z => List.mem_of_mem_eraseIdx z, ?_, D8.put lp lc, (K7.trans K8).own hls⟩
          rw [List.length_eraseIdx, if_pos (by omega)]
          omega
        · rintro σ M' ⟨L', o6, rfl, ⟨ws, g1, g2⟩, hB', hl', D7, K7⟩
          have len' := g2.len
          have few : L'.length ≤ m := by omega
          refine ⟨_, rfl, _, rfl, ls2, ws, rfl, SqL.of g1, by omega, g2.tups hB' (by omega), fun ys b pm pw hb => ?_⟩
          obtain ⟨M2, pm2, pr⟩ := Prs.perm pm g2
          have sr := pr.srt pw
          refine ⟨b, ys, rfl, .inl ⟨SqL.of upd_same, fun t ht => ⟨by show 2 ≤ sizeLine; decide, fun wa hw => ?_⟩⟩⟩
          have hbt : b ≠ t := ne_of_none upd_same ht
          have htb : (upd M' b (.lst ys)) t = none := ht
          have pr' : Prs (upd (upd (upd M' b (.lst ys)) t (.tup ys)) wa (.tup [.int n, .ref t])) ys M2 := ((pr.mono (new_tup hb)).mono (new_tup ht)).mono (new_tup hw)
          have hwH : H wa = none := ((K7.trans (kp_new hb)).trans (kp_new ht)).dom ((D7.new hb).new ht) hw
          exact k wa M2 _ hwH ⟨t, ys, upd_same, by rw [upd_ne (ne_of_none upd_same hw)]; exact upd_same, pr'⟩ (hB'.sub fun q z => pm2.mem_iff.mp z) sr (by rw [pm2.length_eq]; exact few) (((D7.new hb).new ht).new hw) (((K7.trans (kp_new hb)).trans (kp_new ht)).trans (kp_new hw))
end
end K0

set_option Elab.async false
set_option linter.all false
set_option maxRecDepth 100000
set_option maxHeartbeats 4000000
/-! Own exceptions over WebError(Exception) whose making says super().__init__(text) and keeps one field, at the machine's level. -/
namespace PySem.EX
open PySem PySem.W PySem.Calls PyProof.Rows Builtin Builtin.ObjectAttr

/-- the mro behind the own classes -/
abbrev tailE : List Value := [.type "Exception", .type "BaseException", .type "object"]
/-- the text of such a class's making: its one parameter f, what it says, the places -/
def aA (f : Str) (p1 p2 : Pos) : Arguments :=
  { posonlyargs := [], args := [⟨"self", none, p1⟩, ⟨f, none, p2⟩], vararg := none, kwonlyargs := [], kw_defaults := [], kwarg := none, defaults := [] }
def aS (f : Str) : Scope :=
  { kind := .function, names := [("self", .local), (f, .local), ("__class__", .free), ("super", .globalImplicit)], isGenerator := false, isCoroutine := false, more := [] }
def sSay (txt : Str) (k : Nat) (q1 q2 q3 q4 q5 q6 : Pos) : Stmt :=
  .Expr (.Call (.Attribute (.Call (.Name "super" q1) [] [] q2) "__init__" q3) [.Constant (.str txt) k q4] [] q5) q6
def sKeep (f : Str) (q1 q2 q3 q4 : Pos) : Stmt := .Assign [.Attribute (.Name "self" q1) f q2] (.Name f q3) q4

/-- what the written part says of the class at C -/
structure ClsT (P : Program) (K : Frag) (C : Addr) : Prop where
  ex : excInitIn K C tailE "Exception.__new__" = true
  ov : excOver K C tailE = true
  sa : findIn K (.ref C) "__setattr__" = some (some (.builtin "object.__setattr__"))
  hd : hasDictIn K C = true
  su : ks_superIn K C C "__init__" = some (some (.builtin "Exception.__init__"))
  sE : subIn K (.ref C) (.type "Exception") = some true
  mr : mroIn K C (.ref C) = some true
  op : nsIn K cStatics "thirdparty.any" = some none
  kp : keepIn K (.ref C) = true
  file : (P.main.scope.names.lookup ("super" : Str)).isSome = false

/-- the def at fI is this class's making -/
structure IniT (P : Program) (K : Frag) (C fI : Addr) (args : Arguments) (body : List Stmt) (sc : Scope) : Prop where
  fi : findIn K (.ref C) "__init__" = some (some (.ref fI))
  ty : typeIn K (.ref fI) = some (.type "function")
  fn : ∃ (oc : Value) (od : Option Addr) (qual : Str) (dV kV doc pm : Value) (an : Option Addr) (cda : Addr) (ct : Value) (osl : Array (Option Value)) (cc : Addr),
    K.lookup fI = some ⟨oc, od, .func (ksFn "__init__" qual args body sc .none .none doc pm an (.ref cda) ct cc), osl⟩ ∧ codeIn K (.ref cda) qual = true ∧
    (∃ ccl cdd vs ccs file tf, K.lookup cda = some ⟨ccl, cdd, .fields vs, ccs⟩ ∧ vs[2]? = some (.str file tf) ∧ ((P.main.file : Str) == file) = true) ∧
    (∃ cl cld csl, K.lookup cc = some ⟨cl, cld, .cell (some (.ref C)), csl⟩)

section
variable {prog : Program} {w : World} {A : Around} {E : Value → Shared → Prop} {s : Shared} {K : Frag} {mg mb : Str → Option Value} {C fI : Addr}

/-- such a def's scope, its names ns -/
abbrev scp (ns : List (Str × NameKind)) : Scope := { kind := .function, names := ns, isGenerator := false, isCoroutine := false, more := [] }
theorem say {ns : List (Str × NameKind)} {L f cc cda : Addr} {m : Str → Option Value} {q : Str} {x t0 : Addr} {txt : Str} {n : Nat} {q1 q2 q3 q4 q5 q6 : Pos} {fd : FuncData} {of : Obj} {ar : Arg} {body : List Stmt} {Q : Flow → Shared → Prop}
    (T : ClsT prog K C) (X : K.In s.heap) (G : s.heap.Ns mainGlobals mg) (hs : mg "super" = none) (B : s.heap.Ns builtinsNs mb) (hb : mb "super" = some (.type "super"))
    (hl : s.heap.Ns L m) (hv : m ar.arg = some (.ref x)) (hx : s.heap.get? x = some (HandSPX.excO C t0)) (hnC : x ≠ C)
    (hf : s.heap.get? f = some of) (hfd : of.data = .func fd) (hp : (fd.params.posonlyargs ++ fd.params.args).head? = some ar)
    (hcode : ∃ ccl cdd vs ccs file tf, K.lookup cda = some ⟨ccl, cdd, .fields vs, ccs⟩ ∧ vs[2]? = some (.str file tf) ∧ ((prog.main.file : Str) == file) = true)
    (hcell : ∃ cl cld csl, K.lookup cc = some ⟨cl, cld, .cell (some (.ref C)), csl⟩)
    (hks : ns.lookup ("super" : Str) = some .globalImplicit) (hkc : ns.lookup ("__class__" : Str) = some .free) (hka : ns.lookup ar.arg = some .local)
    (hpos : (q3.endLine == q5.line) = true)
    (h : ∀ h' tk t1, (∀ b o, b ≠ x → s.heap.get? b = some o → h'.get? b = some o) → h'.get? x = some (HandSPX.excO C t1) → Q .next { s with heap := h', toks := tk }) :
    _root_.PySem.wpAt (model prog w) A (.func body (ksEnv q (scp ns) L f (.ref cda) cc)) (exec (sSay txt n q1 q2 q3 q4 q5 q6) (ksEnv q (scp ns) L f (.ref cda) cc)) Q E s := by
  obtain ⟨nm, N, qn, bs, bm, hdct, sn, sub, ab, col, dd, k0, k1, k2, k3, k5, hC, hT⟩ := excInit_of X T.ex
  obtain ⟨ccl, cdd, vs, ccs, file, tf, hc1, hc2, hc3⟩ := hcode
  obtain ⟨cl, cld, csl, hcc⟩ := hcell
  have I : InstAt s.heap x (HandSPX.excO C t0) C none := ⟨hx, rfl, rfl, trivial⟩
  obtain ⟨hp0, g, d, t, os⟩ := s
  unfold sSay
  refine ks_wpAt_Expr_any ?_
  refine ks_wpAt_MethodCall (pl := do return (← importBound (.Call (.Name "super" q1) [] [] q2) (ksEnv q (scp ns) L f (.ref cda) cc)).getD true) ?_ (by
    rw [arm_eval_Call]
    unfold methodCall methodCallPos calleeOf
    rw [show (methodCallForm ([Expr.Constant (Const.str txt) n q4].length + ([] : List Keyword).length) (backTo q5 (starEach [Expr.Constant (Const.str txt) n q4] (ksEnv q (scp ns) L f (.ref cda) cc))) (backToKw q5 (keywordEach [] (ksEnv q (scp ns) L f (.ref cda) cc)))) = true from rfl, hpos]
    simp only [Bool.not_true, Bool.false_or, if_true, pure_bind]
    rfl)
  refine ks_wpAt_super_base (env := ksEnv q (scp ns) L f (.ref cda) cc) hks hkc rfl rfl hf hfd hp rfl (X _ _ hc1) rfl hc2 hc3 T.file ?_
  refine ks_loadName_global rfl hks (loadGlobal_builtin (env := ksEnv q (scp ns) L f (.ref cda) cc) G hs B hb ⟨rfl, ?_⟩)
  refine wpAny_loadName_free rfl hkc rfl ⟨_, X _ _ hcc, rfl⟩ ?_
  refine wpAny_loadName_local rfl hka hl hv ?_
  refine ks_wpAny_isType_cls hC rfl ⟨rfl, ?_⟩
  refine ks_wpAny_call_super hC rfl hx rfl (fun c z => nomatch z) (looks_mroIn X T.mr) (fun h1 e1 k1 => ?_)
  have X1 : K.In h1 := X.keeps k1
  have I1 : InstAt h1 x (HandSPX.excO C t0) C none := ⟨k1 _ _ hx, rfl, rfl, trivial⟩
  have su := T.su
  unfold ks_superIn at su
  cases hc : clsIn K C with
  | none => rw [hc] at su; cases su
  | some cd =>
    rw [hc] at su
    refine PySem.ESX.getMethod_super e1 (looks_opaque X1 T.op) (l₀ := cd.mro) (fun A Q E s k z => wpAny_bind ((looks_clsIn X1 hc) A _ E s k (wpAny_pure z))) rfl X1 su hnC rfl (I1.type.andThen (looks_subIn X1 T.sE)) ?_
    refine PySem.ESX.callWith_bound (x := x) ?_
    show wpAny _ _ (spliced ((false, eval (.Constant (.str txt) n q4) (ksEnv q (scp ns) L f (.ref cda) cc)) :: [])) _ _ _
    refine spliced_cons (Constant_str (spliced_nil ⟨Heap.get?_push_size h1 rfl, ?_⟩))
    have kb : ∀ b o, hp0.get? b = some o → (h1.push (ESX.bw x)).get? b = some o := fun b o z => Heap.get?_push_of_some _ (k1 b o z)
    refine PySem.ESX.call_bw (C := C) (e := x) (kb _ _ hC) (kb _ _ hx) (Heap.get?_push_size h1 rfl) (by rw [sizeLine_eq]; exact (by decide : 1 ≤ 16777216)) fun h' t1 kk hx' => ?_
    exact h h' _ t1 (fun b o hb z => kk b o hb (kb b o z)) hx'

/-- self.f = v, the first field of an exception that has none -/
theorem keep {env : Env} {m : Str → Option Value} {f : Str} {x t0 : Addr} {v : Value} {q1 q2 q3 q4 : Pos} {Q : Flow → Shared → Prop}
    (T : ClsT prog K C) (X : K.In s.heap) (hno : findIn K (.ref C) f = some none) (hx : s.heap.get? x = some (HandSPX.excO C t0))
    (hl : s.heap.Ns env.locals m) (hf : m f = some v) (hs : m "self" = some (.ref x)) (hk : env.scope.kind = .function) (lf : env.kindOf f = some .local) (ls : env.kindOf "self" = some .local) (hd : (f == ("__debug__" : Str)) = false)
    (hsw : swapsWith (.Name f q3) (some (.Attribute (.Name "self" q1) f q2)) q4.line env = pure false)
    (h : ∀ h' tk dx, (∀ b o, b ≠ x → s.heap.get? b = some o → h'.get? b = some o) → s.heap.objs.size ≤ dx → dx ≠ x →
      h'.get? x = some { cls := .ref C, dict := some dx, data := .fields #[.ref t0, .none, .none, .none, .bool false, .none] } → h'.Ns1 dx (fun y => if y = f then some v else none) → Q .next { s with heap := h', toks := tk }) :
    wpAny (model prog w) A (exec (sKeep f q1 q2 q3 q4) env) Q E s := by
  unfold sKeep
  refine plainObj_wpAny_Assign_Attribute ?_ hsw
  refine wpAny_Name (wpAny_loadName_local hk lf hl hf ?_) hd
  refine wpAny_Name (wpAny_loadName_local hk ls hl hs ?_)
  refine set_plain X (ox := HandSPX.excO C t0) (od := none) ⟨hx, rfl, rfl, trivial⟩ T.sa ?_
  obtain ⟨cd, hc, hd'⟩ := any_some T.hd
  have ht : takerIn K C f = some none := by unfold takerIn; rw [hno] <;> rfl
  refine osa_openX (s := { s with toks := s.toks + 1 }) (od := none) F.store_Exception X ⟨hx, rfl, rfl, trivial⟩ T.ov ht fun b => ?_
  have hxs : x ≠ s.heap.objs.size := Nat.ne_of_lt (Heap.lt_size hx)
  refine wpAny_bind (wpAny_pure (wpAny_bind (instanceDict_exc (t := t0) (c2 := .none) hx (looks_clsIn X hc) hd' ?_)))
  show wpAny _ _ (storeInDict s.heap.objs.size (.str f s.toks) f v) _ _ _
  refine HandSPX.store_in_new ⟨_, #[], _, (Heap.get?_update_ne _ _ _ _ hxs.symm).trans (Heap.get?_push_size _ rfl), rfl, fun e he => absurd he (by simp), fun _ => rfl⟩ fun h' tk' hn' hs' => ?_
  have e1 : (s.heap.push (dictOf [] 0)).get? x = some (HandSPX.excO C t0) := Heap.get?_push_of_some _ hx
  refine h h' tk' s.heap.objs.size (fun b o hb ho => ?_) (Nat.le_refl _) hxs.symm ?_ hn'
  · exact (hs'.2 b (Nat.ne_of_lt (Heap.lt_size ho))).trans ((Heap.get?_update_ne _ _ _ _ hb).trans (Heap.get?_push_of_some _ ho))
  · exact (hs'.2 x hxs).trans (Heap.get?_update_self _ e1 rfl)
end
end PySem.EX

set_option Elab.async false
set_option linter.all false
set_option maxRecDepth 100000
set_option maxHeartbeats 4000000
/-! An own exception class called, by position and by name. -/
namespace PySem.EX
open PySem PySem.W PySem.Calls PyProof.Rows Builtin Builtin.ObjectAttr PySem.HandSPX
section
variable {prog : Program} {w : World} {M : Model} {A : Around} {E : Value → Shared → Prop} {R : Result → Shared → Prop} {h : Heap} {g : Array GenState} {d : Drawn} {t : Nat} {os : OsState}
variable {nm q : Str} {C N : Addr} {bs bm bmB : List Value} {hdct : Bool} {sn : List Str} {sub : List Value} {ab : Bool} {col : Option Bool} {dd : Option Addr} {k0 k1 k2 k3 k5 : Option Value} {B newId initId : String}

theorem chk_new (F : ExcBaseFacts B newId initId bmB) (hT : ∀ X : String, bm.contains (.type X) = bmB.contains (.type X)) {rest : List Value} {kw : List (Str × Value)} {Q : Unit → Shared → Prop}
    (hC : h.get? C = some (excClassObj nm q C N bs bm hdct sn sub ab col dd k0 k1 k2 k3 k5 newId)) (hq : Q () ⟨h, g, d, t, os⟩) : wpAny M A (checkBuiltinCall newId ⟨.ref C :: rest, kw⟩) Q E ⟨h, g, d, t, os⟩ := by
  have e1 : (Value.ref C :: bm).contains (.type B) = true := by rw [List.contains_cons, hT, F.hasB, Bool.or_true]
  have e2 := F.noStar
  simp only [checkBuiltinCall, F.newKind, F.newSplit, F.newRow]
  repeat (first
    | refine wpAny_loadPart_at hC ?_
    | (refine wpAny_isSubtype_exc hC ?_; rw [e1])
    | refine wpAny_staticBase_exc hC ?_
    | refine wpAny_madeBy_exc hC ?_
    | simp only [bne_self_eq_false, Bool.false_eq_true, if_false]
    | wp_step)
  all_goals exact hq

theorem mk_new (F : ExcBaseFacts B newId initId bmB) (hT : ∀ X : String, bm.contains (.type X) = bmB.contains (.type X)) {rest : List Value} {kw : List (Str × Value)} (hz : rest.length ≤ sizeLine)
    (hC : h.get? C = some (excClassObj nm q C N bs bm hdct sn sub ab col dd k0 k1 k2 k3 k5 newId))
    (hq : R (.ok (.ret (.ref (h.objs.size + 1)))) ⟨(h.push (kdv_tup rest)).push (excO C h.objs.size), g, d, t, os⟩) :
    codeAny (model prog w) A (.builtin newId ⟨.ref C :: rest, kw⟩) R ⟨h, g, d, t, os⟩ := by
  have e0 := F.ends
  have e1 : (Value.ref C :: bm).contains (.type B) = true := by rw [List.contains_cons, hT, F.hasB, Bool.or_true]
  have e2 : (Value.ref C :: bm).contains (.type "AttributeError") = false := by rw [List.contains_cons, hT, F.noAttr] <;> rfl
  have e3 : (Value.ref C :: bm).contains (.type "NameError") = false := by rw [List.contains_cons, hT, F.noName] <;> rfl
  refine codeAny_builtinAt F.entry (show _root_.PySem.wpAt _ _ _ (Builtin.«BaseException.__new__» _) _ _ _ from ?_)
  unfold Builtin.«BaseException.__new__»
  refine wpAt_bind (show _root_.PySem.wpAt _ _ _ (stack >>= _) _ _ _ from wpAt_bind (wpAt_stack fun _ _ => wpAt_of_wpAny ?_))
  wp_walk
  refine wpAt_of_wpAny ?_; rw [F.owner]
  repeat (first
    | with_reducible refine wpAny_madeHere_exc F.canon hC ?_
    | with_reducible refine wpAny_loadPart_at hC ?_
    | (with_reducible refine wpAny_isSubtype_exc hC ?_
       first | rw [e1] | rw [e2] | rw [e3])
    | wp_step)
  show R _ _; rw [Heap.size_push]; exact hq

theorem mk_type (F : ExcBaseFacts B newId initId bmB) (hT : ∀ X : String, bm.contains (.type X) = bmB.contains (.type X)) {rest : List Value} {kw : List (Str × Value)} {fI : Addr} {Q : Fin → Shared → Prop} (hz : rest.length ≤ sizeLine)
    (hC : h.get? C = some (excClassObj nm q C N bs bm hdct sn sub ab col dd k0 k1 k2 k3 k5 newId))
    (hi : W.Looks (model prog w) h (typeLookup (.ref C) "__init__") (some (.ref fI))) (hb : ∀ self, W.Looks (model prog w) h (bindSpecial (.ref fI) self) (.ref fI, [self]))
    (hq : codeAny (model prog w) A (.call (.ref fI) ⟨.ref (h.objs.size + 1) :: rest, kw⟩)
      (fun r s' => match r with | .ok (.ret v) => v = .none ∧ Q (.done (.ret (.ref (h.objs.size + 1)))) s' | .ok _ => False | .error e => E e s')
      ⟨(h.push (kdv_tup rest)).push (excO C h.objs.size), g, d, t, os⟩) :
    wpAny (model prog w) A (Builtin.«type.__call__» ⟨.ref C :: rest, kw⟩) Q E ⟨h, g, d, t, os⟩ := by
  repeat (first
    | with_reducible refine wpAny_loadPart_at hC ?_
    | with_reducible refine wpAny_madeBy_exc hC ?_
    | wp_step)
  refine codeAny_call_builtin_code (Code.quiet_builtin _ F.quiet) (chk_new F hT hC (mk_new F hT hz hC (show wpAny _ _ _ _ _ _ from ?_)))
  have kk : ∀ b o, h.get? b = some o → ((h.push (kdv_tup rest)).push (excO C h.objs.size)).get? b = some o := fun b o e => Heap.get?_push_of_some _ (Heap.get?_push_of_some _ e)
  have c1 := kk _ _ hC
  have c2 : ((h.push (kdv_tup rest)).push (excO C h.objs.size)).get? (h.objs.size + 1) = some (excO C h.objs.size) := by heap_get
  have c3 : (Value.ref C :: bm).contains (.ref C) = true := by simp
  unfold isInstance
  repeat (first
    | with_reducible refine wpAny_loadPart_at c2 ?_
    | (with_reducible refine wpAny_isSubtype_exc c1 ?_
       rw [c3])
    | wp_step)
  refine (show wpAny _ _ (typeLookup (.ref C) _) _ _ _ from (hi.keeps kk).at (wpAny_holding (wpAny_bind (((hb (.ref (h.objs.size + 1))).keeps kk).at ?_))))
  refine wpAny_bind (wpAny_call (codeAny_mono hq fun r s' z => ?_))
  cases r with
  | error e => exact z
  | ok fl =>
    cases fl with
    | ret v =>
      obtain ⟨rfl, z⟩ := z
      first | exact wpAny_pure (wpAny_pure z) | (wp_walk; exact z)
    | next => exact z.elim
    | brk => exact z.elim
    | cont => exact z.elim

theorem chk_type {rest : List Value} {kw : List (Str × Value)} {Q : Unit → Shared → Prop} (hC : h.get? C = some (excClassObj nm q C N bs bm hdct sn sub ab col dd k0 k1 k2 k3 k5 newId)) (hq : Q () ⟨h, g, d, t, os⟩) :
    wpAny M A (checkBuiltinCall "type.__call__" ⟨.ref C :: rest, kw⟩) Q E ⟨h, g, d, t, os⟩ := by
  have e1 := tc_sub
  have e2 : (⟨h, g, d, t, os⟩ : Shared).TypeIs (.ref C) "type" := ⟨_, hC, rfl⟩
  simp only [checkBuiltinCall, tc_kind, tc_split]
  repeat (any_goals (first
    | assumption
    | with_reducible refine wpAny_loadPart_at hC ?_
    | with_reducible refine wpAny_onRaise ?_
    | with_reducible refine wpAny_map ?_
    | wp_step))

theorem mk_call (F : ExcBaseFacts B newId initId bmB) (hT : ∀ X : String, bm.contains (.type X) = bmB.contains (.type X)) {rest : List Value} {kw : List (Str × Value)} {fI : Addr} (hz : rest.length ≤ sizeLine)
    (hC : h.get? C = some (excClassObj nm q C N bs bm hdct sn sub ab col dd k0 k1 k2 k3 k5 newId))
    (hi : W.Looks (model prog w) h (typeLookup (.ref C) "__init__") (some (.ref fI))) (hb : ∀ self, W.Looks (model prog w) h (bindSpecial (.ref fI) self) (.ref fI, [self]))
    (hq : codeAny (model prog w) (A.under (.builtin "type.__call__" ⟨.ref C :: rest, kw⟩)) (.call (.ref fI) ⟨.ref (h.objs.size + 1) :: rest, kw⟩) (W.InitBack (h.objs.size + 1) R)
      ⟨(h.push (kdv_tup rest)).push (excO C h.objs.size), g, d, t, os⟩) :
    codeAny (model prog w) A (.call (.ref C) ⟨rest, kw⟩) R ⟨h, g, d, t, os⟩ := by
  have e1 := tc_lookup
  have e2 := tc_bind (.ref C)
  have e3 : (⟨h, g, d, t, os⟩ : Shared).TypeIs (.ref C) "type" := ⟨_, hC, rfl⟩
  refine codeAny_of_tree (show wpAny _ _ (callAny (.ref C) _) _ _ _ from ?_)
  repeat (any_goals (first
    | assumption
    | with_reducible refine wpAny_loadPart_at hC ?_
    | wp_step))
  refine ⟨rfl, codeAny_call_builtin_at (Code.quiet_builtin _ (by decide +kernel)) entry_typeCall ?_⟩
  refine chk_type hC (mk_type F hT hz hC hi hb (codeAny_mono hq fun r s' z => ?_))
  cases r with
  | error e => exact z
  | ok fl => cases fl <;> exact z
end
end PySem.EX

set_option Elab.async false
set_option linter.all false
set_option maxRecDepth 100000
set_option maxHeartbeats 4000000
/-! An own exception made: what stands behind it. -/
namespace PySem.EX
open PySem PySem.W PySem.Calls PyProof.Rows Builtin Builtin.ObjectAttr PySem.HandSPX

/-- the names of a making with the parameter f, of one without -/
abbrev ns1 (f : Str) : List (Str × NameKind) := [("self", .local), (f, .local), ("__class__", .free), ("super", .globalImplicit)]
abbrev ns0 : List (Str × NameKind) := [("self", .local), ("__class__", .free), ("super", .globalImplicit)]
abbrev aA0 (p1 : Pos) : Arguments := { posonlyargs := [], args := [⟨"self", none, p1⟩], vararg := none, kwonlyargs := [], kw_defaults := [], kwarg := none, defaults := [] }
/-- the six names of parameters that the errors have -/
def fNames : List Str := ["thing", "number", "at", "pairing", "certificate", "place"]

/-- a made error with a field, one without -/
structure Made1 (h h' : Heap) (e C d : Addr) (f : Str) (v : Value) : Prop where
  keep : ∀ b o, h.get? b = some o → h'.get? b = some o
  new : h.objs.size ≤ e
  obj : ∃ t, h'.get? e = some { cls := .ref C, dict := some d, data := .fields #[.ref t, .none, .none, .none, .bool false, .none] }
  dbig : h.objs.size ≤ d
  dne : d ≠ e
  ns : h'.Ns1 d (fun y => if y = f then some v else none)
structure Made0 (h h' : Heap) (e C : Addr) : Prop where
  keep : ∀ b o, h.get? b = some o → h'.get? b = some o
  new : h.objs.size ≤ e
  obj : ∃ t, h'.get? e = some (excO C t)

/-- the making's def, as it stands behind the top -/
structure Fn1 (P : Program) (K : Frag) (C fI : Addr) (f : Str) : Prop where
  fi : findIn K (.ref C) "__init__" = some (some (.ref fI))
  ty : typeIn K (.ref fI) = some (.type "function")
  no : findIn K (.ref C) f = some none
  fn : ∃ (oc : Value) (od : Option Addr) (qual txt : Str) (doc pm : Value) (an : Option Addr) (cda : Addr) (ct : Value) (osl : Array (Option Value)) (cc : Addr) (p1 p2 q1 q2 q3 q4 q5 q6 r1 r2 r3 r4 : Pos),
    K.lookup fI = some ⟨oc, od, .func (ksFn "__init__" qual (aA f p1 p2) [sSay txt 0 q1 q2 q3 q4 q5 q6, sKeep f r1 r2 r3 r4] (scp (ns1 f)) .none .none doc pm an (.ref cda) ct cc), osl⟩ ∧ codeIn K (.ref cda) qual = true ∧ (q3.endLine == q5.line) = true ∧
    (∃ ccl cdd vs ccs file tf, K.lookup cda = some ⟨ccl, cdd, .fields vs, ccs⟩ ∧ vs[2]? = some (.str file tf) ∧ ((P.main.file : Str) == file) = true) ∧
    (∃ cl cld csl, K.lookup cc = some ⟨cl, cld, .cell (some (.ref C)), csl⟩)
structure Fn0 (P : Program) (K : Frag) (C fI : Addr) : Prop where
  fi : findIn K (.ref C) "__init__" = some (some (.ref fI))
  ty : typeIn K (.ref fI) = some (.type "function")
  fn : ∃ (oc : Value) (od : Option Addr) (qual txt : Str) (doc pm : Value) (an : Option Addr) (cda : Addr) (ct : Value) (osl : Array (Option Value)) (cc : Addr) (p1 q1 q2 q3 q4 q5 q6 : Pos),
    K.lookup fI = some ⟨oc, od, .func (ksFn "__init__" qual (aA0 p1) [sSay txt 0 q1 q2 q3 q4 q5 q6] (scp ns0) .none .none doc pm an (.ref cda) ct cc), osl⟩ ∧ codeIn K (.ref cda) qual = true ∧ (q3.endLine == q5.line) = true ∧
    (∃ ccl cdd vs ccs file tf, K.lookup cda = some ⟨ccl, cdd, .fields vs, ccs⟩ ∧ vs[2]? = some (.str file tf) ∧ ((P.main.file : Str) == file) = true) ∧
    (∃ cl cld csl, K.lookup cc = some ⟨cl, cld, .cell (some (.ref C)), csl⟩)

section
variable {prog : Program} {w : World} {A : Around} {R : Result → Shared → Prop} {s : Shared} {K : Frag} {mg mb : Str → Option Value} {C fI : Addr} {f : Str}

theorem init1 (T : ClsT prog K C) (F1 : Fn1 prog K C fI f) (hf : f ∈ fNames) {args : Args} {x t0 : Addr} {v : Value} (X : K.In s.heap) (hlim : s.heap.NoLimit) (G : s.heap.Ns mainGlobals mg) (hs : mg "super" = none) (B : s.heap.Ns builtinsNs mb) (hb : mb "super" = some (.type "super"))
    (ha : args = ⟨[.ref x, v], []⟩ ∨ args = ⟨[.ref x], [(f, v)]⟩) (hx : s.heap.get? x = some (excO C t0)) (hnx : K.lookup x = none) (hnC : x ≠ C) (hroom : A.depth < recursionLimit)
    (hq : ∀ h' tk dx t1, (∀ b o, b ≠ x → s.heap.get? b = some o → h'.get? b = some o) → s.heap.objs.size ≤ dx → dx ≠ x → h'.get? x = some { cls := .ref C, dict := some dx, data := .fields #[.ref t1, .none, .none, .none, .bool false, .none] } →
      h'.Ns1 dx (fun y => if y = f then some v else none) → R (.ok (.ret .none)) { s with heap := h', toks := tk }) :
    codeAny (model prog w) A (.call (.ref fI) args) R s := by
  obtain ⟨oc, od, qual, txt, doc, pm, an, cda, ct, osl, cc, p1, p2, q1, q2, q3, q4, q5, q6, r1, r2, r3, r4, ho, hcd, hpos, hcode, hcell⟩ := F1.fn
  have hfs : (("self" : Str) == f) = false ∧ (f == ("self" : Str)) = false ∧ (f == ("__debug__" : Str)) = false := by
    simp only [fNames, List.mem_cons, List.not_mem_nil, or_false] at hf
    rcases hf with rfl | rfl | rfl | rfl | rfl | rfl <;> decide +kernel
  have hbind : BindsTo s (ksFn "__init__" qual (aA f p1 p2) [sSay txt 0 q1 q2 q3 q4 q5 q6, sKeep f r1 r2 r3 r4] (scp (ns1 f)) .none .none doc pm an (.ref cda) ct cc) args [("self", .ref x), (f, v)] := by
    refine BindsTo.of_eq ?_
    simp only [fNames, List.mem_cons, List.not_mem_nil, or_false] at hf
    rcases ha with rfl | rfl <;> rcases hf with rfl | rfl | rfl | rfl | rfl | rfl <;> rfl
  have lf : (ns1 f).lookup f = some .local := by simp [ns1, List.lookup, hfs.2.1]
  have lk : (ns1 f).lookup ("super" : Str) = some .globalImplicit ∧ (ns1 f).lookup ("__class__" : Str) = some .free := by
    simp only [fNames, List.mem_cons, List.not_mem_nil, or_false] at hf
    rcases hf with rfl | rfl | rfl | rfl | rfl | rfl <;> exact ⟨rfl, rfl⟩
  refine ks_codeAny_call_defAt hroom (X _ _ ho) rfl hlim (codeRec_of X hcd) rfl hbind ?_ ?_ (fun h₁ hns hk₁ => ?_) rfl rfl rfl
  · intro y hy
    simp only [ns1, List.mem_cons, List.not_mem_nil, or_false] at hy
    rcases hy with rfl | rfl | rfl | rfl <;> exact fun z => nomatch z
  · intro y hy
    simp only [List.mem_cons, List.not_mem_nil, or_false] at hy
    rcases hy with rfl | rfl
    · rfl
    · exact lf
  have m1 : ([(("self" : Str), Value.ref x), (f, v)]).reverse.lookup ("self" : Str) = some (Value.ref x) := by simp [List.lookup, hfs.1]
  have m2 : ([(("self" : Str), Value.ref x), (f, v)]).reverse.lookup f = some v := by simp [List.lookup]
  show _root_.PySem.wpAt _ _ (.func _ (ksEnv qual (scp (ns1 f)) s.heap.objs.size fI (.ref cda) cc)) (execs _ (ksEnv qual (scp (ns1 f)) s.heap.objs.size fI (.ref cda) cc)) _ _ _
  refine ks_wpAt_execs_cons ?_
  have hL : s.heap.objs.size ≠ x := Nat.ne_of_gt (Heap.lt_size hx)
  refine say (s := { s with heap := h₁, toks := s.toks + 2 }) (ar := ⟨"self", none, p1⟩) T (X.keeps hk₁) (G.keeps hk₁) hs (B.keeps hk₁) hb hns m1 (hk₁ _ _ hx) hnC (hk₁ _ _ (X _ _ ho)) rfl rfl hcode hcell lk.1 lk.2 rfl hpos fun h₂ tk₂ t1 k2 hx2 => ?_
  have X2 : K.In h₂ := fun a o e => k2 a o (fun z => by rw [z, hnx] at e; cases e) (X.keeps hk₁ a o e)
  have hns2 : h₂.Ns s.heap.objs.size (fun y => ([(("self" : Str), Value.ref x), (f, v)]).reverse.lookup y) := by
    obtain ⟨o, es, ep, e, r⟩ := hns
    exact ⟨o, es, ep, k2 _ _ hL e, r⟩
  refine wpAt_of_wpAny (wpAny_execs_cons ?_)
  refine keep (s := { s with heap := h₂, toks := tk₂ }) (env := ksEnv qual (scp (ns1 f)) s.heap.objs.size fI (.ref cda) cc) T X2 F1.no hx2 hns2 m2 m1 rfl lf rfl hfs.2.2 ?_ fun h₃ tk₃ dx k3 dn dne hx3 hn3 => ?_
  · simp only [fNames, List.mem_cons, List.not_mem_nil, or_false] at hf
    rcases hf with rfl | rfl | rfl | rfl | rfl | rfl <;> rfl
  have z1 : s.heap.objs.size < h₂.objs.size := by
    obtain ⟨o, es, ep, e, r⟩ := hns2
    exact Heap.lt_size e
  exact wpAny_execs_nil (hq h₃ tk₃ dx t1 (fun b o hb e => k3 b o hb (k2 b o hb (hk₁ b o e))) (Nat.le_of_lt (Nat.lt_of_lt_of_le z1 dn)) dne hx3 hn3)

theorem init0 (T : ClsT prog K C) (F0 : Fn0 prog K C fI) {x t0 : Addr} (X : K.In s.heap) (hlim : s.heap.NoLimit) (G : s.heap.Ns mainGlobals mg) (hs : mg "super" = none) (B : s.heap.Ns builtinsNs mb) (hb : mb "super" = some (.type "super"))
    (hx : s.heap.get? x = some (excO C t0)) (hnC : x ≠ C) (hroom : A.depth < recursionLimit)
    (hq : ∀ h' tk t1, (∀ b o, b ≠ x → s.heap.get? b = some o → h'.get? b = some o) → h'.get? x = some (excO C t1) → R (.ok (.ret .none)) { s with heap := h', toks := tk }) :
    codeAny (model prog w) A (.call (.ref fI) ⟨[.ref x], []⟩) R s := by
  obtain ⟨oc, od, qual, txt, doc, pm, an, cda, ct, osl, cc, p1, q1, q2, q3, q4, q5, q6, ho, hcd, hpos, hcode, hcell⟩ := F0.fn
  refine ks_codeAny_call_defAt (binds := [("self", .ref x)]) hroom (X _ _ ho) rfl hlim (codeRec_of X hcd) rfl (BindsTo.of_eq rfl) (show ∀ y ∈ ns0, y.2 ≠ NameKind.cell by decide) ?_ (fun h₁ hns hk₁ => ?_) rfl rfl rfl
  · intro y hy
    simp only [List.mem_cons, List.not_mem_nil, or_false] at hy
    subst hy
    rfl
  show _root_.PySem.wpAt _ _ (.func _ (ksEnv qual (scp ns0) s.heap.objs.size fI (.ref cda) cc)) (execs _ (ksEnv qual (scp ns0) s.heap.objs.size fI (.ref cda) cc)) _ _ _
  refine ks_wpAt_execs_cons ?_
  refine say (s := { s with heap := h₁, toks := s.toks + 1 }) (ar := ⟨"self", none, p1⟩) T (X.keeps hk₁) (G.keeps hk₁) hs (B.keeps hk₁) hb hns (by rfl) (hk₁ _ _ hx) hnC (hk₁ _ _ (X _ _ ho)) rfl rfl hcode hcell rfl rfl rfl hpos fun h₂ tk₂ t1 k2 hx2 => ?_
  exact wpAt_of_wpAny (wpAny_execs_nil (hq h₂ tk₂ t1 (fun b o hb e => k2 b o hb (hk₁ b o e)) hx2))

theorem one_le (v : Value) : [v].length ≤ sizeLine := by rw [sizeLine_eq]; exact (by decide : 1 ≤ 16777216)

theorem made1 (T : ClsT prog K C) (F1 : Fn1 prog K C fI f) (hf : f ∈ fNames) {rest : List Value} {kw : List (Str × Value)} {v : Value} (X : K.In s.heap) (hlim : s.heap.NoLimit) (G : s.heap.Ns mainGlobals mg) (hs : mg "super" = none) (B : s.heap.Ns builtinsNs mb) (hb : mb "super" = some (.type "super"))
    (ha : (rest = [v] ∧ kw = []) ∨ (rest = [] ∧ kw = [(f, v)])) (hroom : A.depth + 1 < recursionLimit)
    (hq : ∀ h' tk e d, Made1 s.heap h' e C d f v → R (.ok (.ret (.ref e))) { s with heap := h', toks := tk }) : codeAny (model prog w) A (.call (.ref C) ⟨rest, kw⟩) R s := by
  obtain ⟨nm, N, qn, bs, bm, hdct, sn, sub, ab, col, dd, k0, k1, k2, k3, k5, hC, hT⟩ := excInit_of X T.ex
  obtain ⟨hp, g, dr, tk, os⟩ := s
  have kk : ∀ b o, hp.get? b = some o → ((hp.push (kdv_tup rest)).push (excO C hp.objs.size)).get? b = some o := fun b o e => Heap.get?_push_of_some _ (Heap.get?_push_of_some _ e)
  have hget : ((hp.push (kdv_tup rest)).push (excO C hp.objs.size)).get? (hp.objs.size + 1) = some (excO C hp.objs.size) := by heap_get
  have hnx : K.lookup (hp.objs.size + 1) = none := by
    cases e : K.lookup (hp.objs.size + 1) with
    | none => rfl
    | some o => exact absurd (Nat.lt_of_succ_lt (Heap.lt_size (show hp.get? (hp.objs.size + 1) = some o from X _ _ e))) (Nat.lt_irrefl _)
  have hnC : hp.objs.size + 1 ≠ C := fun z => absurd (Nat.lt_of_succ_lt (Heap.lt_size (show hp.get? (hp.objs.size + 1) = some _ from z ▸ hC))) (Nat.lt_irrefl _)
  have hz : rest.length ≤ sizeLine := by
    rcases ha with ⟨rfl, _⟩ | ⟨rfl, _⟩
    · exact one_le v
    · exact Nat.zero_le _
  refine mk_call F.excBase_Exception hT hz hC (looks_findIn X F1.fi) (fun self => bind_fn X self F1.ty) ?_
  refine init1 (s := ⟨(hp.push (kdv_tup rest)).push (excO C hp.objs.size), g, dr, tk, os⟩) T F1 hf (X.keeps kk) (hlim.keeps kk) (G.keeps kk) hs (B.keeps kk) hb (v := v) ?_ hget hnx hnC (show A.depth + 1 < recursionLimit from hroom) fun h' tk' dx t1 k' dn dne hx hns => ?_
  · rcases ha with ⟨rfl, rfl⟩ | ⟨rfl, rfl⟩
    · exact .inl rfl
    · exact .inr rfl
  · have z : hp.objs.size + 1 + 1 ≤ dx := by
      have q := dn
      dsimp only at q
      rw [Heap.size_push, Heap.size_push] at q
      exact q
    exact ⟨rfl, hq h' tk' (hp.objs.size + 1) dx ⟨fun b o e => k' b o (Nat.ne_of_lt (Nat.lt_succ_of_lt (Heap.lt_size e))) (kk b o e), Nat.le_succ _, ⟨t1, hx⟩, (show hp.objs.size ≤ dx by omega), dne, hns⟩⟩

theorem made0 (T : ClsT prog K C) (F0 : Fn0 prog K C fI) (X : K.In s.heap) (hlim : s.heap.NoLimit) (G : s.heap.Ns mainGlobals mg) (hs : mg "super" = none) (B : s.heap.Ns builtinsNs mb) (hb : mb "super" = some (.type "super"))
    (hroom : A.depth + 1 < recursionLimit) (hq : ∀ h' tk e, Made0 s.heap h' e C → R (.ok (.ret (.ref e))) { s with heap := h', toks := tk }) : codeAny (model prog w) A (.call (.ref C) ⟨[], []⟩) R s := by
  obtain ⟨nm, N, qn, bs, bm, hdct, sn, sub, ab, col, dd, k0, k1, k2, k3, k5, hC, hT⟩ := excInit_of X T.ex
  obtain ⟨hp, g, dr, tk, os⟩ := s
  have kk : ∀ b o, hp.get? b = some o → ((hp.push (kdv_tup [])).push (excO C hp.objs.size)).get? b = some o := fun b o e => Heap.get?_push_of_some _ (Heap.get?_push_of_some _ e)
  have hget : ((hp.push (kdv_tup [])).push (excO C hp.objs.size)).get? (hp.objs.size + 1) = some (excO C hp.objs.size) := by heap_get
  have hnC : hp.objs.size + 1 ≠ C := fun z => absurd (Nat.lt_of_succ_lt (Heap.lt_size (show hp.get? (hp.objs.size + 1) = some _ from z ▸ hC))) (Nat.lt_irrefl _)
  refine mk_call F.excBase_Exception hT (Nat.zero_le _) hC (looks_findIn X F0.fi) (fun self => bind_fn X self F0.ty) ?_
  refine init0 (s := ⟨(hp.push (kdv_tup [])).push (excO C hp.objs.size), g, dr, tk, os⟩) T F0 (X.keeps kk) (hlim.keeps kk) (G.keeps kk) hs (B.keeps kk) hb hget hnC (show A.depth + 1 < recursionLimit from hroom) fun h' tk' t1 k' hx => ?_
  exact ⟨rfl, hq h' tk' (hp.objs.size + 1) ⟨fun b o e => k' b o (Nat.ne_of_lt (Nat.lt_succ_of_lt (Heap.lt_size e))) (kk b o e), Nat.le_succ _, ⟨t1, hx⟩⟩⟩
end
end PySem.EX

set_option Elab.async false
set_option linter.all false
set_option maxRecDepth 100000
set_option maxHeartbeats 4000000
/-! Own errors over the tracked heap: made, read, asked for their class, raised. -/
namespace K0
open PySem PySem.Spec L2
open PyProof.Rows hiding St

abbrev exOb (C : Addr) (d : Option Addr) (t : Addr) : Obj := { cls := .ref C, dict := d, data := .fields #[.ref t, .none, .none, .none, .bool false, .none] }
/-- an error as a value: its class at C, its own dict d -/
def ExV (C : Addr) (d : Option Addr) (a : Addr) : HO := .ext fun h => ∃ t, h.get? a = some (exOb C d t)
theorem exv_ok {P : Program} {w : World} {H : Hp} {h : Heap} {a C t : Addr} {d : Option Addr} (e : h.get? a = some (exOb C d t)) : ObjOk P w H h a (ExV C d a) :=
  ⟨⟨t, e⟩, ⟨_, e⟩, fun _ _ ⟨t, q⟩ k => ⟨t, k _ q⟩⟩

/-- what the written part says of an own error's class -/
structure ErrC (P : Program) (K : PySem.W.Frag) (C : Addr) : Prop where
  cl : PySem.EX.ClsT P K C
  ga : PySem.W.findIn K (.ref C) "__getattribute__" = some (some (.builtin "BaseException.__getattribute__"))
  gg : PySem.W.findIn K (.ref C) "__getattr__" = some none
  eB : PySem.W.subIn K (.ref C) (.type "BaseException") = some true
  tC : PySem.W.typeIn K (.ref C) = some (.type "type")
  ha : PySem.W.findIn K (.ref C) "__class__" = some (some (.builtin "object.__class__"))
  hn : PySem.W.specialIn K (.builtin "object.__class__") "__get__" = some (some (.builtin "getset_descriptor.__get__"))
  ht : PySem.W.takesIn K (.builtin "object.__class__") = some true
  hm : PySem.W.mroIn K C (.type "object") = some true
theorem ErrC.xf {P : Program} {K : PySem.W.Frag} {C : Addr} (E : ErrC P K C) : XfC K C := ⟨E.ga, E.gg, E.eB, E.cl.hd⟩

section
variable {X : Cx} {C fI : Addr} {f x : Str} {k : Nat}
/-- the call of the class by position or by name, at the machine -/
theorem run_made1 {pins : List (Addr × Obj)} {σ : St} {H1 : Hp} {s1 : Shared} {v : V} {u : Value} {us : List Value} {kw : List (Str × Value)} {R : Value → Shared → Prop} (T : ErrC X.prog X.K C) (F1 : PySem.EX.Fn1 X.prog X.K C fI f) (hf : f ∈ PySem.EX.fNames) (hs : X.mg "super" = none) (hr : Room k X.A)
    (I1 : Inv X pins σ H1 s1) (rv : RelV v u) (ha : (us = [u] ∧ kw = []) ∨ (us = [] ∧ kw = [(f, u)]))
    (h : ∀ (a d t : Addr) (G : Heap) (h' : Heap) (tk : Nat), H1 a = none → H1 d = none → d ≠ a → Inv X pins σ (upd H1 d (.xd [(f, v)])) { s1 with heap := G, toks := tk } → (∀ b o, G.get? b = some o → h'.get? b = some o) → G.get? a = none → h'.get? a = some (exOb C (some d) t) → R (.ref a) { s1 with heap := h', toks := tk }) :
    wpAny (model X.prog X.w) X.A (call (.ref C) us kw) R X.xe s1 := by
  have hlim := I1.nolimit
  have hX := I1.kIn
  have hG : s1.heap.Ns mainGlobals X.mg := I1.mod.glob.keeps I1.bk
  obtain ⟨mb, hB, hBB⟩ := I1.mod.blt
  have hb : mb "super" = some (.type "super") := (hBB _ (by decide)).trans (by decide +kernel)
  have hB' : s1.heap.Ns builtinsNs mb := hB.keeps I1.bk
  refine wpAny_call (PySem.EX.made1 T.cl F1 hf hX hlim hG hs hB' hb ha (by have := hr.dp; omega) fun h' tk e d M => ?_)
  obtain ⟨t, ht⟩ := M.obj
  obtain ⟨G, g1, g2⟩ := restrict h' fun b => decide (b ≠ e)
  have gk : ∀ b, b ≠ e → G.get? b = h'.get? b := fun b hb => g1 b (decide_eq_true hb)
  have ge : G.get? e = none := g2 e (by simp)
  have old : ∀ b o, s1.heap.get? b = some o → G.get? b = some o := fun b o q => (gk b (Nat.ne_of_lt (Nat.lt_of_lt_of_le (Heap.lt_size q) M.new))).trans (M.keep b o q)
  have ob : ObjOk X.prog X.w (upd H1 d (.xd [(f, v)])) G d (.xd [(f, v)]) := ⟨_, M.ns.at (fun o q => (gk d M.dne).trans q), fun g => by
    by_cases hw : g = f
    · subst hw
      rw [if_pos rfl, show List.lookup g [(g, v)] = some v by simp [List.lookup]]
      exact rv
    · have qw : (g == f) = false := by simpa using hw
      rw [if_neg hw, show List.lookup g [(f, v)] = none by simp [List.lookup, qw]]
      trivial⟩
  have J : Inv X pins σ (upd H1 d (.xd [(f, v)])) { s1 with heap := G, toks := tk } := I1.laid (t' := tk) old M.dbig ob
  exact h e d t G h' tk (I1.hok.fresh M.new) (I1.hok.fresh M.dbig) M.dne J (fun b o q => by
    by_cases hb : b = e
    · rw [hb, ge] at q; cases q
    · exact (gk b hb).symm.trans q) ge ht

/-- X(e) -/
def tMk1 (C : Addr) (f : Str) (ta : TA) : TE := fun σ H Q => ta σ H fun vs H1 => ∃ v, vs = [v] ∧ ∀ a d, H1 a = none → H1 d = none → d ≠ a → Q (.ref a) (upd (upd H1 d (.xd [(f, v)])) a (ExV C (some d) a))
def tMkX1 (C : Addr) (f : Str) (ta : TA) : St → Hp → XK → Prop := fun σ H Q => ta σ H fun vs H1 => ∃ v, vs = [v] ∧ ∀ d, H1 d = none → Q (.ref C) (some d) (upd H1 d (.xd [(f, v)]))
theorem fin1 {pins : List (Addr × Obj)} {σ : St} {H1 : Hp} {s1 : Shared} {v : V} {Q : VK} {a d t : Addr} {G h' : Heap} {tk : Nat} (na : H1 a = none) (nd : d ≠ a) (J : Inv X pins σ (upd H1 d (.xd [(f, v)])) { s1 with heap := G, toks := tk })
    (k : ∀ b o, G.get? b = some o → h'.get? b = some o) (ga : G.get? a = none) (ha : h'.get? a = some (exOb C (some d) t)) (q : Q (.ref a) (upd (upd H1 d (.xd [(f, v)])) a (ExV C (some d) a))) : EP X pins σ Q (.ref a) { s1 with heap := h', toks := tk } :=
  ⟨.ref a, _, J.laidN (t' := tk) k ga (by rw [upd_ne nd.symm]; exact na) (exv_ok ha), rfl, q⟩
theorem finX {pins : List (Addr × Obj)} {σ : St} {H1 : Hp} {s1 : Shared} {v : V} {Q : XK} {a d t : Addr} {G h' : Heap} {tk : Nat} (T : ErrC X.prog X.K C) (bare : AllBare s1.gens) (na : H1 a = none) (nd : d ≠ a) (J : Inv X pins σ (upd H1 d (.xd [(f, v)])) { s1 with heap := G, toks := tk })
    (k : ∀ b o, G.get? b = some o → h'.get? b = some o) (ga : G.get? a = none) (ha : h'.get? a = some (exOb C (some d) t)) (q : Q (.ref C) (some d) (upd H1 d (.xd [(f, v)]))) : MkP X pins σ Q (.ref a) { s1 with heap := h', toks := tk } :=
  ⟨a, _, _, { s1 with heap := G, toks := tk }, _, .ref C, some d, rfl, J, k, ga, ha, ⟨rfl, rfl⟩, rfl, rfl, by rw [upd_ne nd.symm]; exact na, rfl, bare, raises_own T.eB T.tC, q⟩

section
variable {e : Expr} {ta : TA} {p pos : Pos} (T : ErrC X.prog X.K C) (F1 : PySem.EX.Fn1 X.prog X.K C fI f) (hf : f ∈ PySem.EX.fNames) (hs : X.mg "super" = none) (hr : Room k X.A) (hm : X.mg x = some (.ref C))
include T F1 hf hs hr hm
theorem pe_mk1 (ha : PA X [e] ta) (hg : Gl X x := by rfl) (he : starEach [e] X.env = (false, eval e X.env) :: starEach [] X.env := by rfl) (hpl : (backTo pos (starEach [] X.env)).any (·.1) = false := by rfl) (hdb : (x == ("__debug__" : Str)) = false := by decide) :
    PE X (.Call (.Name x p) [e] [] pos) (tMk1 C f ta) := by
  refine ⟨fun pins s σ H Q I h => ?_⟩
  refine wpAny_Call_Name_kw (ld_glob I hg hm ?_ hdb)
  refine PySem.W.callWith_K (h₀ := X.base) I.ok.mod.kin T.cl.kp (thn (ha.run pos pins s σ H _ I h) fun us s1 hh => ?_) he hpl
  obtain ⟨vs, H1, I1, r1, v, rfl, q1⟩ := hh
  obtain ⟨u, rfl, ru⟩ := vals1 r1
  exact ⟨I1.kIn, run_made1 T F1 hf hs hr I1 ru (.inl ⟨rfl, rfl⟩) fun a d t G h' tk na nd dne J k ga ha' => fin1 na dne J k ga ha' (q1 a d na nd dne)⟩
theorem pmk1 (ha : PA X [e] ta) (hg : Gl X x := by rfl) (he : starEach [e] X.env = (false, eval e X.env) :: starEach [] X.env := by rfl) (hpl : (backTo pos (starEach [] X.env)).any (·.1) = false := by rfl) (hdb : (x == ("__debug__" : Str)) = false := by decide) :
    PMk X (.Call (.Name x p) [e] [] pos) (tMkX1 C f ta) := by
  intro pins s σ H Q I h
  refine wpAny_Call_Name_kw (ld_glob I hg hm ?_ hdb)
  refine PySem.W.callWith_K (h₀ := X.base) I.ok.mod.kin T.cl.kp (thn (ha.run pos pins s σ H _ I h) fun us s1 hh => ?_) he hpl
  obtain ⟨vs, H1, I1, r1, v, rfl, q1⟩ := hh
  obtain ⟨u, rfl, ru⟩ := vals1 r1
  exact ⟨I1.kIn, run_made1 T F1 hf hs hr I1 ru (.inl ⟨rfl, rfl⟩) fun a d t G h' tk na nd dne J k ga ha' => finX T I1.bare na dne J k ga ha' (q1 d nd)⟩
theorem pe_mkK {kws : List Keyword} (ha : PK X kws ta) (hks : (backToKw pos (keywordEach kws X.env)).filterMap (·.1) = [f] := by rfl) (hall : (backToKw pos (keywordEach kws X.env)).all (·.1.isSome) = true := by rfl) (hg : Gl X x := by rfl)
    (hpl : ((backTo pos (starEach [] X.env)).any (·.1) || (backToKw pos (keywordEach kws X.env)).any (·.1.isNone)) = false := by rfl) (hdb : (x == ("__debug__" : Str)) = false := by decide) :
    PE X (.Call (.Name x p) [] kws pos) (tMk1 C f ta) := by
  refine ⟨fun pins s σ H Q I h => ?_⟩
  refine wpAny_Call_Name_kw (ld_glob I hg hm ?_ hdb)
  refine PySem.W.callWith_KW0 (h₀ := X.base) I.ok.mod.kin T.cl.kp hall (thn (ha.run pos pins s σ H _ I h) fun us s1 hh => ?_) hpl
  obtain ⟨vs, H1, I1, r1, v, rfl, q1⟩ := hh
  obtain ⟨u, rfl, ru⟩ := vals1 r1
  rw [hks]
  exact ⟨I1.kIn, run_made1 T F1 hf hs hr I1 ru (.inr ⟨rfl, rfl⟩) fun a d t G h' tk na nd dne J k ga ha' => fin1 na dne J k ga ha' (q1 a d na nd dne)⟩
theorem pmkK {kws : List Keyword} (ha : PK X kws ta) (hks : (backToKw pos (keywordEach kws X.env)).filterMap (·.1) = [f] := by rfl) (hall : (backToKw pos (keywordEach kws X.env)).all (·.1.isSome) = true := by rfl) (hg : Gl X x := by rfl)
    (hpl : ((backTo pos (starEach [] X.env)).any (·.1) || (backToKw pos (keywordEach kws X.env)).any (·.1.isNone)) = false := by rfl) (hdb : (x == ("__debug__" : Str)) = false := by decide) :
    PMk X (.Call (.Name x p) [] kws pos) (tMkX1 C f ta) := by
  intro pins s σ H Q I h
  refine wpAny_Call_Name_kw (ld_glob I hg hm ?_ hdb)
  refine PySem.W.callWith_KW0 (h₀ := X.base) I.ok.mod.kin T.cl.kp hall (thn (ha.run pos pins s σ H _ I h) fun us s1 hh => ?_) hpl
  obtain ⟨vs, H1, I1, r1, v, rfl, q1⟩ := hh
  obtain ⟨u, rfl, ru⟩ := vals1 r1
  rw [hks]
  exact ⟨I1.kIn, run_made1 T F1 hf hs hr I1 ru (.inr ⟨rfl, rfl⟩) fun a d t G h' tk na nd dne J k ga ha' => finX T I1.bare na dne J k ga ha' (q1 d nd)⟩
end
end
end K0

set_option Elab.async false
set_option linter.all false
set_option maxRecDepth 100000
set_option maxHeartbeats 4000000
/-! Own errors: those without a field; fields read; isinstance. -/
namespace K0
open PySem PySem.Spec L2
open PyProof.Rows hiding St

section
variable {X : Cx} {C fI : Addr} {f x : Str} {k : Nat}
theorem run_made0 {pins : List (Addr × Obj)} {σ : St} {H1 : Hp} {s1 : Shared} {R : Value → Shared → Prop} (T : ErrC X.prog X.K C) (F0 : PySem.EX.Fn0 X.prog X.K C fI) (hs : X.mg "super" = none) (hr : Room k X.A) (I1 : Inv X pins σ H1 s1)
    (h : ∀ (a t : Addr) (G : Heap) (h' : Heap) (tk : Nat), H1 a = none → Inv X pins σ H1 { s1 with heap := G, toks := tk } → (∀ b o, G.get? b = some o → h'.get? b = some o) → G.get? a = none → h'.get? a = some (exOb C none t) → R (.ref a) { s1 with heap := h', toks := tk }) :
    wpAny (model X.prog X.w) X.A (call (.ref C) []) R X.xe s1 := by
  have hlim := I1.nolimit
  have hG : s1.heap.Ns mainGlobals X.mg := I1.mod.glob.keeps I1.bk
  obtain ⟨mb, hB, hBB⟩ := I1.mod.blt
  have hb : mb "super" = some (.type "super") := (hBB _ (by decide)).trans (by decide +kernel)
  refine wpAny_call (PySem.EX.made0 T.cl F0 I1.kIn hlim hG hs (hB.keeps I1.bk) hb (by have := hr.dp; omega) fun h' tk e M => ?_)
  obtain ⟨t, ht⟩ := M.obj
  obtain ⟨G, g1, g2⟩ := restrict h' fun b => decide (b ≠ e)
  have gk : ∀ b, b ≠ e → G.get? b = h'.get? b := fun b hb => g1 b (decide_eq_true hb)
  have ge : G.get? e = none := g2 e (by simp)
  have old : ∀ b o, s1.heap.get? b = some o → G.get? b = some o := fun b o q => (gk b (Nat.ne_of_lt (Nat.lt_of_lt_of_le (Heap.lt_size q) M.new))).trans (M.keep b o q)
  exact h e t G h' tk (I1.hok.fresh M.new) (I1.kept (t' := tk) old) (fun b o q => by
    by_cases hb : b = e
    · rw [hb, ge] at q; cases q
    · exact (gk b hb).symm.trans q) ge ht
/-- X() -/
def tMk0 (C : Addr) : TE := fun _ H Q => ∀ a, H a = none → Q (.ref a) (upd H a (ExV C none a))
def tMkX0 (C : Addr) : St → Hp → XK → Prop := fun _ H Q => Q (.ref C) none H
theorem pe_mk0 {p pos : Pos} (T : ErrC X.prog X.K C) (F0 : PySem.EX.Fn0 X.prog X.K C fI) (hs : X.mg "super" = none) (hr : Room k X.A) (hm : X.mg x = some (.ref C)) (hg : Gl X x := by rfl) (hdb : (x == ("__debug__" : Str)) = false := by decide) :
    PE X (.Call (.Name x p) [] [] pos) (tMk0 C) := by
  refine ⟨fun pins s σ H Q I h => ?_⟩
  refine wpAny_Call_Name_kw (ld_glob I hg hm ?_ hdb)
  refine PySem.W.callWith_K0 I.kIn T.cl.kp (run_made0 T F0 hs hr I fun a t G h' tk na J kk ga ha => ?_)
  exact ⟨.ref a, _, J.laidN (t' := tk) kk ga na (exv_ok ha), rfl, h a na⟩
theorem pmk0 {p pos : Pos} (T : ErrC X.prog X.K C) (F0 : PySem.EX.Fn0 X.prog X.K C fI) (hs : X.mg "super" = none) (hr : Room k X.A) (hm : X.mg x = some (.ref C)) (hg : Gl X x := by rfl) (hdb : (x == ("__debug__" : Str)) = false := by decide) :
    PMk X (.Call (.Name x p) [] [] pos) (tMkX0 C) := by
  intro pins s σ H Q I h
  refine wpAny_Call_Name_kw (ld_glob I hg hm ?_ hdb)
  refine PySem.W.callWith_K0 I.kIn T.cl.kp (run_made0 T F0 hs hr I fun a t G h' tk na J kk ga ha => ?_)
  exact ⟨a, _, _, { s with heap := G, toks := tk }, _, .ref C, none, rfl, J, kk, ga, ha, ⟨rfl, rfl⟩, rfl, rfl, na, rfl, I.bare, raises_own T.eB T.tC, h⟩

/-- e.f, e an error that is tracked -/
def tFldE (P : Program) (K : PySem.W.Frag) (f : Str) (te : TE) : TE := fun σ H Q => te σ H fun y H1 => ∃ (a C d : Addr) (fs : List (Str × V)) (v : V), y = .ref a ∧ H1 a = some (ExV C (some d) a) ∧ H1 d = some (.xd fs) ∧ fs.lookup f = some v ∧ ErrC P K C ∧ PySem.W.findIn K (.ref C) f = some none ∧ Q v H1
theorem pe_fldE {e : Expr} {te : TE} {pos : Pos} (he : PE X e te) (hb : attributeBase e f X.env (eval e X.env) = eval e X.env := by rfl) : PE X (.Attribute e f pos) (tFldE X.prog X.K f te) := by
  refine ⟨fun pins s σ H Q I h => ?_⟩
  refine attr_of hb (thn (he.run pins s σ H _ I h) fun u s1 hh => ?_)
  obtain ⟨y, H1, I1, rx, a, C, d, fs, v, rfl, ea, ed, l, T, hno, q⟩ := hh
  obtain rfl : u = Value.ref a := rx
  obtain ⟨⟨t, ht⟩, _, _⟩ := (show ObjOk X.prog X.w H1 s1.heap a (ExV C (some d) a) from I1.hok a _ ea)
  obtain ⟨mA, hns, hr⟩ := (show ObjOk X.prog X.w H1 s1.heap d (.xd fs) from I1.hok d _ ed)
  obtain ⟨od, ho, hl⟩ := lookIn_ns hns
  obtain ⟨u, hu, ru⟩ := RelO.some_of (v := v) (o := mA f) (by rw [← l]; exact hr f)
  have J : PySem.W.InstAt s1.heap a (exOb C (some d) t) C (some od) := ⟨ht, rfl, rfl, ho⟩
  exact HandSPX.exc_get I1.kIn J T.ga T.gg T.eB (PySem.W.findObj_own T.cl.hd hno rfl (by rw [hl, hu])) (handed_of ru) ⟨v, H1, I1.tok _, ru, q⟩

/-- the own dict of an error, as the heap has it -/
theorem inst_of {pins : List (Addr × Obj)} {σ : St} {H1 : Hp} {s1 : Shared} {a t : Addr} {d : Option Addr} (I1 : Inv X pins σ H1 s1) (ht : s1.heap.get? a = some (exOb C d t)) (hd : d = none ∨ ∃ dd fs, d = some dd ∧ H1 dd = some (.xd fs)) :
    ∃ od, PySem.W.InstAt s1.heap a (exOb C d t) C od := by
  rcases hd with rfl | ⟨dd, fs, rfl, e⟩
  · exact ⟨none, ht, rfl, rfl, trivial⟩
  · obtain ⟨mA, hns, hr⟩ := (show ObjOk X.prog X.w H1 s1.heap dd (.xd fs) from I1.hok dd _ e)
    obtain ⟨od, ho, hl⟩ := lookIn_ns hns
    exact ⟨some od, ht, rfl, rfl, ho⟩
theorem kit_err {P : Program} {K : PySem.W.Frag} {a : Addr} {ox : Obj} {od : Option Obj} (T : ErrC P K C) : PySem.W.KitX K (.ref a) (.ref C) (fun h => PySem.W.InstAt h a ox C od) :=
  PySem.W.kitx_exc (by obtain ⟨cd, hc, _⟩ := PySem.W.any_some T.cl.hd; rw [hc]; rfl) T.ga T.gg T.eB T.ha T.hn T.ht T.hm
/-- isinstance(e, c), e a tracked error -/
def rIsT (P : Program) (K : PySem.W.Frag) : List V → Hp → VK → Prop := fun xs H Q => ∃ (a C : Addr) (d : Option Addr) (c : V) (cv : Value) (b : Bool), xs = [.ref a, c] ∧ ClsV c cv ∧ H a = some (ExV C d a) ∧ (d = none ∨ ∃ dd fs, d = some dd ∧ H dd = some (.xd fs)) ∧ ErrC P K C ∧ PySem.W.kitOne K (.ref C) cv = some b ∧ Q (.bl b) H
theorem call_isT : CallR X (.builtin "isinstance") (rIsT X.prog X.K) := by
  intro pins s σ H xs us Q I r h
  obtain ⟨a, C, d, c, cv, b, rfl, kc, ea, hd, T, e, q⟩ := h
  obtain ⟨u1, u2, rfl, r1, r2⟩ := vals2 r
  cases r1
  have e2 := kc.eq r2
  subst e2
  obtain ⟨⟨t, ht⟩, _, _⟩ := (show ObjOk X.prog X.w H s.heap a (ExV C d a) from I.hok a _ ea)
  obtain ⟨od, J⟩ := inst_of I ht hd
  exact PySem.W.kia_one (kit_err T) I.kIn J e (fun z => nomatch z) fun tk => ⟨.bl b, H, I.tok tk, rfl, q⟩
/-- isinstance(e, (c1, c2, ..)) -/
def rIsTs (P : Program) (K : PySem.W.Frag) : List V → Hp → VK → Prop := fun xs H Q => ∃ (a C tp : Addr) (d : Option Addr) (cs : List V) (us : List Value) (b : Bool), xs = [.ref a, .ref tp] ∧ H tp = some (.tup cs) ∧ Paired ClsV cs us ∧ H a = some (ExV C d a) ∧ (d = none ∨ ∃ dd fs, d = some dd ∧ H dd = some (.xd fs)) ∧ ErrC P K C ∧ PySem.W.kitAny K (.ref C) us = some b ∧ Q (.bl b) H
theorem call_isTs : CallR X (.builtin "isinstance") (rIsTs X.prog X.K) := by
  intro pins s σ H xs us Q I r h
  obtain ⟨a, C, tp, d, cs, ws, b, rfl, hT, kc, ea, hd, T, e, q⟩ := h
  obtain ⟨u1, u2, rfl, r1, r2⟩ := vals2 r
  cases r1
  cases r2
  obtain ⟨_, its, rv, o, h1, h2, n, h3⟩ := (show ObjOk X.prog X.w H s.heap tp (.tup cs) from I.hok tp _ hT)
  have e3 := ClsV.all kc rv
  subst e3
  obtain ⟨oc, od, dt, sl⟩ := o
  simp only at h2 h3
  subst h2 h3
  obtain ⟨⟨t, ht⟩, _, _⟩ := (show ObjOk X.prog X.w H s.heap a (ExV C d a) from I.hok a _ ea)
  obtain ⟨oi, J⟩ := inst_of I ht hd
  exact PySem.W.kia_tup (kit_err T) I.kIn J h1 e (fun z => nomatch z) fun tk => ⟨.bl b, H, I.tok tk, rfl, q⟩
/-- isinstance(e, c), e the error that the suite holds -/
def rIsS (P : Program) (K : PySem.W.Frag) (a : Addr) (cls : Value) (d : Option Addr) : List V → Hp → VK → Prop := fun xs H Q => ∃ (D : Addr) (c : V) (cv : Value) (b : Bool), xs = [.ref a, c] ∧ ClsV c cv ∧ cls = .ref D ∧ (d = none ∨ ∃ dd fs, d = some dd ∧ H dd = some (.xd fs)) ∧ ErrC P K D ∧ PySem.W.kitOne K (.ref D) cv = some b ∧ Q (.bl b) H
theorem call_isS {a : Addr} {oe : Obj} {cls : Value} {d : Option Addr} {pn : List (Addr × Obj)} (hz : Zc cls d oe) (hf : ∃ vs, oe.data = .fields vs) : CallR (X.suite a ((a, oe) :: pn)) (.builtin "isinstance") (rIsS X.prog X.K a cls d) := by
  intro pins s σ H xs us Q I r h
  obtain ⟨D, c, cv, b, rfl, kc, rfl, hd, T, e, q⟩ := h
  obtain ⟨u1, u2, rfl, r1, r2⟩ := vals2 r
  cases r1
  have e2 := kc.eq r2
  subst e2
  obtain ⟨hget, _⟩ := I.pin (a, oe) (List.mem_append.mpr (.inl List.mem_cons_self))
  obtain ⟨vs, hv⟩ := hf
  have J : ∃ od, PySem.W.InstAt s.heap a oe D od := by
    obtain ⟨oc, oo, oda, osl⟩ := oe
    obtain ⟨h1, h2⟩ := hz
    dsimp only at h1 h2 hv
    subst h1 h2 hv
    rcases hd with rfl | ⟨dd, fs, rfl, e⟩
    · exact ⟨none, hget, rfl, rfl, trivial⟩
    · obtain ⟨mA, hns, hr⟩ := (show ObjOk X.prog X.w H s.heap dd (.xd fs) from I.hok dd _ e)
      obtain ⟨od, ho, hl⟩ := lookIn_ns hns
      exact ⟨some od, hget, rfl, rfl, ho⟩
  obtain ⟨od, J⟩ := J
  exact PySem.W.kia_one (kit_err T) I.kIn J e (fun z => nomatch z) fun tk => ⟨.bl b, H, I.tok tk, rfl, q⟩
end
end K0

set_option Elab.async false
set_option linter.all false
set_option maxRecDepth 100000
set_option maxHeartbeats 4000000
/-! try: .. with several clauses, each of which keeps the error under one name, one of which takes whatever comes. -/
namespace K0
open PySem PySem.Spec L2
open PyProof.Rows hiding St

/-- behind a clause its name is gone -/
def gone (i : Nat) (D : Ends) : Ends := { nx := fun τ G => D.nx (τ.set i none) G, rt := D.rt, bk := fun τ G => D.bk (τ.set i none) G, ct := fun τ G => D.ct (τ.set i none) G }
abbrev Sui := Addr → Value → Option Addr → TS
def wAll (K : PySem.W.Frag) (i : Nat) (D : Ends) : List (Value × Sui) → WX
  | [] => fun _ _ _ _ => False
  | (c, ts) :: more => fun cls d τ G => ∃ b, PySem.W.exmOne K cls c = some b ∧ (b = true → ∀ a, G a = none → ts a cls d (gone i D) (τ.set i (some (.ref a))) G) ∧ (b = false → wAll K i D more cls d τ G)
inductive Cls (X : Cx) (n : Str) : List ExceptHandler → List (Value × Sui) → Prop
  | nil : Cls X n [] []
  | cons {x : Str} {c : Value} {ts : Sui} {b₀ : Stmt} {rest : List Stmt} {np qp : Pos} {hds : List ExceptHandler} {l : List (Value × Sui)} (hc : Names X x c)
      (hsu : ∀ (a : Addr) (ob : Obj) (cls : Value) (d : Option Addr) (pn : List (Addr × Obj)), Zc cls d ob → (∃ ws, ob.data = .fields ws) → PSs (X.suite a ((a, ob) :: pn)) (b₀ :: rest) (ts a cls d)) (more : Cls X n hds l) :
      Cls X n (.ExceptHandler (some (.Name x np)) (some n) (b₀ :: rest) qp :: hds) ((c, ts) :: l)
section
variable {X : Cx} {body : List Stmt} {h₀ : ExceptHandler} {hds : List ExceptHandler} {l : List (Value × Sui)} {pos : Pos} {tb : WX → TS} {n : Str} {i : Nat}
theorem ps_try_all (hs : X.stack = X.env :: X.outer) (hf : X.env.frame = some X.env.locals) (hN : X.N.Nodup) (hi : X.N[i]? = some n) (hln : X.env.kindOf n = some .local)
    (hb : ∀ (W : WX) (pn : List (Addr × Obj)) (xe : Value → Shared → Prop), Takes (X.tr pn xe) W → PassesOwn (model X.prog X.w) X.A X.env xe → PSs (X.tr pn xe) body (tb W)) (hh : Cls X n (h₀ :: hds) l) :
    PS X (.Try body (h₀ :: hds) [] [] pos) (fun D σ H => tb (fun cls d τ G => τ.length = X.N.length → wAll X.K i D l cls d τ G) D σ H) := by
  refine ⟨fun pins s σ H D I h => ?_⟩
  have okX := I.ok
  have frX : X.A.frames = some (X.env :: X.outer) := okX.frames.trans (congrArg some hs)
  refine wpAny_Try_except (wpAny_mono ((hb (fun cls d τ G => τ.length = X.N.length → wAll X.K i D l cls d τ G) (X.pn ++ pins) _ (fun u s' xx => ?_) PassesOwn.looking).run [] s σ H D (I.toTry _) h) (fun f s1 hsp => ?_) (fun _ _ z => z))
  · obtain ⟨a, B, sI, _, τ, G, cls, d, rfl, J0, nb, up, sk, na, os, ag, wish⟩ := xx
    have J : Inv X pins τ G sI := J0.ofTry okX
    refine (show wpAny (model X.prog X.w) X.A (noteFrame (.ref a) X.env) _ _ _ from Sky.land Zc.steady frX hf (by rw [← hs]; exact sk) fun g3 F3 u3 => ?_)
    have J3 : Inv X pins τ G { s' with heap := g3 } := J.landed nb F3.1 (up.trans u3) os ag
    obtain ⟨o3, w3, e3, z3, d3⟩ := F3.there
    have far : a ∉ frs (X.env :: X.outer) := fun hm => by
      obtain ⟨_, o', e', hn⟩ := F3.2.2.1.mem hm
      exact hn _ (by rw [e3] at e'; cases e'; exact d3)
    have nL : a ≠ X.env.locals := fun z => far (List.mem_filterMap.mpr ⟨X.env, .head _, hf.trans (congrArg some z.symm)⟩)
    have nF : a ∉ X.fs := fun hm => far (by
      obtain ⟨e, he, q⟩ := List.mem_filterMap.mp hm
      exact List.mem_filterMap.mpr ⟨e, .tail _ he, q⟩)
    have S3 := J3.suite e3 d3 na nL nF
    have hlo : Loc X.env.scope n := .inl hln
    have each : ∀ {hs' : List ExceptHandler} {l' : List (Value × Sui)}, Cls X n hs' l' → wAll X.K i D l' cls d τ G → wpAny (model X.prog X.w) X.A (handleBy (.ref a) X.env hs') (SP X pins D) X.xe { s' with heap := g3 } := by
      intro hs' l' hk
      induction hk with
      | nil => exact fun z => z.elim
      | @cons x c ts b₀ rest np qp hds2 l2 hc hsu more ih =>
        rintro ⟨b, hb1, yes, no⟩
        have LM := PySem.W.exm_one (M := model X.prog X.w) (J3.kIn) (fun A Q E s k q => wpAny_typeOf_ref (k _ _ e3) (by rw [z3.1]; exact q)) hb1
        refine wpAny_handleBy_cons (codeAny_handlers_test ?_) (fun z => nomatch z)
        have named : ∀ {Q : Value → Shared → Prop} {E : Value → Shared → Prop}, Q c { s' with heap := g3 } → wpAny (model X.prog X.w) (X.A.mark (some (.ref a))) (eval (.Name x np) X.env) Q E { s' with heap := g3 } := fun {Q E} q => by
          obtain ⟨y1, y2, y3 | ⟨y3, y4, y5⟩⟩ := hc
          · exact ld_glob (X := X.suite a ((a, o3) :: (X.pn ++ pins))) S3 y1 y3 q y2
          · exact ld_blt (X := X.suite a ((a, o3) :: (X.pn ++ pins))) S3 y1 y3 y4 q y5 y2
        refine named (LM.here ?_)
        cases b with
        | false => exact (show wpAny _ X.A (handleBy (.ref a) X.env hds2) _ _ _ from ih (no rfl))
        | true =>
          refine codeAny_handlers_suite_as (HandSPX.lands_againZ F3 fun g4 F4 u4 => ?_)
          have J4 : Inv X pins τ G { s' with heap := g4 } := J.landed nb F4.1 ((up.trans u3).trans u4) os ag
          obtain ⟨o4, w4, e4, z4, d4⟩ := F4.there
          refine store_ok (X := X.suite a ((a, o4) :: (X.pn ++ pins))) (v := .ref a) (J4.suite e4 d4 na nL nF) hN hi hlo rfl (fun s5 S5 => ?_) (.inr hln)
          refine wpAny_mono ((hsu a o4 cls d (X.pn ++ pins) z4 ⟨_, d4⟩).run [] s5 _ G _ S5 (yes rfl a na)) (fun f s6 r6 => ?_) (fun _ _ z => z.elim)
          have leave : ∀ {υ : St} {M : Hp} {Q : Shared → Prop}, Inv (X.suite a ((a, o4) :: (X.pn ++ pins))) [] υ M s6 → (∀ s7, Inv X pins (υ.set i none) M s7 → Q s7) →
              wpAny (model X.prog X.w) X.A (do bindName X.env n .none; unbindBehindTheSuite X.env n qp) (fun _ s7 => Q s7) X.xe s6 := fun S6 q => gone_ok (S6.unsuite okX) hN hi hln q
          cases f with
          | ret u => obtain ⟨v, υ, M, S6, rv, q⟩ := r6; exact leave S6 fun s7 J7 => ⟨v, _, _, J7, rv, q⟩
          | next => obtain ⟨υ, M, S6, q⟩ := r6; exact leave S6 fun s7 J7 => ⟨_, _, J7, q⟩
          | brk => obtain ⟨υ, M, S6, q⟩ := r6; exact leave S6 fun s7 J7 => ⟨_, _, J7, q⟩
          | cont => obtain ⟨υ, M, S6, q⟩ := r6; exact leave S6 fun s7 J7 => ⟨_, _, J7, q⟩
    exact each hh (wish J.len)
  · cases f with
    | ret u => obtain ⟨v, υ, M, J, r, q⟩ := hsp; exact ⟨v, υ, M, J.ofTry okX, r, q⟩
    | next => obtain ⟨υ, M, J, q⟩ := hsp; exact wpAny_execs_nil ⟨υ, M, J.ofTry okX, q⟩
    | brk => obtain ⟨υ, M, J, q⟩ := hsp; exact ⟨υ, M, J.ofTry okX, q⟩
    | cont => obtain ⟨υ, M, J, q⟩ := hsp; exact ⟨υ, M, J.ofTry okX, q⟩
end
end K0

set_option Elab.async false
set_option linter.all false
set_option maxRecDepth 100000
set_option maxHeartbeats 8000000
/-! The program's looks at webs. -/
namespace K0
open PySem PySem.Spec L2
open PyProof.Rows hiding St
open KR (TupX)
abbrev pWhole : Stmt := top 6
abbrev pBelow : Stmt := top 7
abbrev pPair2 : Stmt := top 8
abbrev pTie : Stmt := top 9
abbrev pWeb : Stmt := top 10
abbrev pCheckWeb : Stmt := top 11
/-- what kind of value stands here -/
inductive VT (H : Hp) : V → String → Prop
  | non : VT H .non "NoneType"
  | bl (b : Bool) : VT H (.bl b) "bool"
  | int (i : Int) : VT H (.int i) "int"
  | str (x : Str) : VT H (.str x) "str"
  | lst {a : Addr} {xs : List V} (e : H a = some (.lst xs)) : VT H (.ref a) "list"
  | tup {a : Addr} {xs : List V} (e : TT H a xs) : VT H (.ref a) "tuple"
  | dct {a : Addr} {kvs : List (Key × V)} (e : H a = some (.dK kvs)) : VT H (.ref a) "dict"
theorem VT.ty {K : PySem.W.Frag} {H : Hp} {v : V} {t : String} (h : VT H v t) : TyX K H v (.type t) := by
  cases h with
  | non => exact .base .non
  | bl b => exact .base (.bl b)
  | int i => exact .base (.int i)
  | str x => exact .base (.str x)
  | lst e => exact .base (.lst e)
  | tup e => exact e.elim (fun e => .base (.tup e)) fun ⟨_, e⟩ => .fTuple e
  | dct e => exact .base (.dK e)
theorem VT.mono {H H' : Hp} {v : V} {t : String} (h : VT H v t) (s : Same H H') : VT H' v t := by
  cases h with
  | non => exact .non
  | bl b => exact .bl b
  | int i => exact .int i
  | str x => exact .str x
  | lst e => exact .lst (s _ _ e)
  | tup e => exact .tup (e.keep fun o q => s _ _ q)
  | dct e => exact .dct (s _ _ e)
theorem VT.kit {K : PySem.W.Frag} {H : Hp} {v : V} {t : String} (h : VT H v t) : PySem.W.kitOne K (.type t) (.type "int") = some (decide (t = "int" ∨ t = "bool")) ∧ PySem.W.kitOne K (.type t) (.type "bool") = some (decide (t = "bool")) ∧ PySem.W.kitOne K (.type t) (.type "tuple") = some (decide (t = "tuple")) := by
  cases h <;> exact ⟨kit_ty (by decide +kernel), kit_ty (by decide +kernel), kit_ty (by decide +kernel)⟩
theorem DV.vt {H : Hp} {T : Addr → Prop} {v : V} {d : PyData} (D : DV H T v d) : ∃ t, VT H v t := by
  cases D with
  | non => exact ⟨_, .non⟩
  | bl b => exact ⟨_, .bl b⟩
  | int i => exact ⟨_, .int i⟩
  | str x => exact ⟨_, .str x⟩
  | lst _ e => exact ⟨_, .lst e⟩
  | tup _ e => exact ⟨_, .tup e⟩
  | dct _ e => exact ⟨_, .dct e⟩
def wholeV : V → Bool
  | .int _ => true
  | _ => false
theorem VT.whole {H : Hp} {v : V} {t : String} (h : VT H v t) : wholeV v = decide (t = "int") := by cases h <;> rfl
def belowV (v : V) (n : Int) : Bool := match v with
  | .int i => decide (0 ≤ i) && decide (i < n)
  | _ => false
/-- isinstance(x, T) -/
theorem isi_run {K : PySem.W.Frag} {H : Hp} {v : V} {t T : String} {b : Bool} {Q : VK} (h : VT H v t) (k : PySem.W.kitOne K (.type t) (.type T) = some b) (q : Q (.bl b) H) : rIsi K [v, .ty T] H Q := ⟨v, .ty T, .type t, .type T, b, rfl, .ty T, h.ty, k, q⟩
def spWhole : Sp := fun vs H Q _ => ∃ (v : V) (t : String), vs = [v] ∧ VT H v t ∧ Q (.bl (wholeV v)) H
def spBelow : Sp := fun vs H Q _ => ∃ (v : V) (t : String) (n : Int), vs = [v, .int n] ∧ VT H v t ∧ Q (.bl (belowV v n)) H
def spIsPair : Sp := fun vs H Q _ => ∃ (a : Addr) (x y : V), vs = [.ref a] ∧ H a = some (.tup [x, y]) ∧ Q (.bl true) H
def spIsTie : Sp := fun vs H Q _ => ∃ (a : Addr) (q : Int × Int) (n : Int), vs = [.ref a, .int n] ∧ H a = some (.tup [.int q.1, .int q.2]) ∧ (0 ≤ q.1 ∧ q.1 < q.2 ∧ q.2 < n) ∧ Q (.bl true) H
/-- a web that is one -/
structure GW (H : Hp) (w : Addr) (n : Nat) (L : List (Int × Int)) : Prop where
  web : Web H w n L
  n1 : 1 ≤ n
  n2 : n ≤ 12
  bel : Bel n L
  srt : Srt L
  few : L.length ≤ 60
theorem GW.same {H H' : Hp} {w : Addr} {n : Nat} {L : List (Int × Int)} (g : GW H w n L) (s : Same H H') : GW H' w n L := ⟨g.web.same s, g.n1, g.n2, g.bel, g.srt, g.few⟩
def spIsWeb : Sp := fun vs H Q _ => ∃ (w : Addr) (n : Nat) (L : List (Int × Int)), vs = [.ref w] ∧ GW H w n L ∧ ∀ H', Same H H' → Q (.bl true) H'
def spCheckWeb : Sp := fun vs H Q _ => ∃ (w : Addr) (n : Nat) (L : List (Int × Int)), vs = [.ref w] ∧ GW H w n L ∧ ∀ H', Same H H' → Q .non H'
theorem cd_inj {n : Int} {a b : Int × Int} (ha : 0 ≤ a.1 ∧ a.1 < a.2 ∧ a.2 < n) (hb : 0 ≤ b.1 ∧ b.1 < b.2 ∧ b.2 < n) (hn : n ≤ 12) (e : cd a = cd b) : a = b := by
  obtain ⟨a1, a2⟩ := a
  obtain ⟨b1, b2⟩ := b
  unfold cd at e
  dsimp only at ha hb e
  have h1 : a1 = b1 := by omega
  have h2 : a2 = b2 := by omega
  rw [h1, h2]
/-- what is sorted in one order is one row -/
theorem srt_uniq {n : Int} (hn : n ≤ 12) : ∀ {L M : List (Int × Int)}, L.Perm M → Bel n L → Srt L → Srt M → L = M
  | [], M, p, _, _, _ => (List.nil_perm.mp p).symm
  | a :: L, [], p, _, _, _ => absurd (List.perm_nil.mp p) (by simp)
  | a :: L, b :: M, p, hb, s1, s2 => by
    obtain ⟨s1a, s1b⟩ := List.pairwise_cons.mp s1
    obtain ⟨s2a, s2b⟩ := List.pairwise_cons.mp s2
    have ab : a = b := by
      have ha : a ∈ b :: M := p.mem_iff.mp (List.mem_cons_self ..)
      have hb' : b ∈ a :: L := p.mem_iff.mpr (List.mem_cons_self ..)
      refine cd_inj (hb a (List.mem_cons_self ..)) (hb b hb') hn ?_
      have h1 : cd b ≤ cd a := by
        rcases List.mem_cons.mp ha with e | e
        · rw [e]; exact Int.le_refl _
        · exact s2a _ e
      have h2 : cd a ≤ cd b := by
        rcases List.mem_cons.mp hb' with e | e
        · rw [e]; exact Int.le_refl _
        · exact s1a _ e
      omega
    subst ab
    rw [srt_uniq hn ((List.perm_cons a).mp p) (fun q z => hb q (List.mem_cons_of_mem _ z)) s1b s2b]
section
variable {P : Program} {w : World} {K : PySem.W.Frag} {mg : Str → Option Value} {base : Heap}
theorem scpWhole : FnScope ["thing"] ["thing"] (defScope pWhole) := ⟨rfl, rfl, rfl, by decide +kernel, rfl, by decide +kernel, by decide +kernel⟩
theorem ok_whole {f : Addr} {fd : FuncData} (F : Fun K "is_whole" "is_whole" pWhole f fd) (T : Bj mg) : FnOk P w K mg base CX0 1 f fd ["thing"] spWhole := by
  refine F.ok scpWhole (fun vs H Q E h => ?_) (fun cdv A outer s H vs Q E hr h => ?_)
  · obtain ⟨v, t, rfl, _⟩ := h
    rfl
  · obtain ⟨v, t, rfl, hv, k⟩ := h
    refine ⟨_, pss_one (ps_ret (pe_and (pe_callB call_isi (by rfl) T.isi (by decide +kernel) (pa_cons (pv 0) (pa_cons (pe_bltn (v := .ty "int") (u := .type "int") (by rfl) T.int (by decide +kernel) rfl) pa_nil)))
      (pe_one (pe_not (pe_callB call_isi (by rfl) T.isi (by decide +kernel) (pa_cons (pv 0) (pa_cons (pe_bltn (v := .ty "bool") (u := .type "bool") (by rfl) T.bool (by decide +kernel) rfl) pa_nil))))))), ?_⟩
    obtain ⟨k1, k2, _⟩ := hv.kit (K := K)
    have hw := hv.whole
    refine ⟨_, rfl, v, .ty "int", .type t, .type "int", _, rfl, .ty "int", hv.ty, k1, _, rfl, ?_⟩
    by_cases h1 : t = "int" ∨ t = "bool"
    · rw [if_pos (decide_eq_true h1)]
      refine ⟨_, rfl, v, .ty "bool", .type t, .type "bool", _, rfl, .ty "bool", hv.ty, k2, _, rfl, ?_⟩
      have e : (!decide (t = "bool")) = wholeV v := by
        rw [hw]
        rcases h1 with rfl | rfl <;> decide
      rw [e]
      exact k
    · rw [if_neg (by rw [decide_eq_false h1]; exact Bool.false_ne_true)]
      have e : false = wholeV v := by rw [hw, decide_eq_false (fun z => h1 (.inl z))]
      rw [e]
      exact k
theorem scpBelow : FnScope ["thing", "bound"] ["thing", "bound"] (defScope pBelow) := ⟨rfl, rfl, rfl, by decide +kernel, rfl, by decide +kernel, by decide +kernel⟩
theorem ok_below {f fW : Addr} {fd fdW : FuncData} (F : Fun K "is_below" "is_below" pBelow f fd) (GW : Dn P w K mg base "is_whole" 1 ["thing"] spWhole fW fdW) : FnOk P w K mg base CX0 2 f fd ["thing", "bound"] spBelow := by
  refine F.ok scpBelow (fun vs H Q E h => ?_) (fun cdv A outer s H vs Q E hr h => ?_)
  · obtain ⟨v, t, n, rfl, _⟩ := h
    rfl
  · obtain ⟨v, t, n, rfl, hv, k⟩ := h
    refine ⟨_, pss_one (ps_ret (pe_and (pe_call GW.ok hr rfl GW.g GW.kp GW.b .nil pass0 (pa_cons (pv 0) pa_nil)) (pe_one (pe_chain op_le op_lt pe_int (pv 0) (pv 1))))), ?_⟩
    refine ⟨_, rfl, v, t, rfl, hv, _, rfl, ?_⟩
    cases hv with
    | int i =>
      refine ⟨_, rfl, _, _, rfl, rfl, _, rfl, ?_⟩
      have kk : Q (.bl (decide (0 ≤ i) && decide (i < n))) H := k
      by_cases h0 : (0 : Int) ≤ i
      · rw [if_pos (decide_eq_true h0)]
        rw [decide_eq_true h0, Bool.true_and] at kk
        exact ⟨_, rfl, _, _, rfl, rfl, kk⟩
      · rw [if_neg (by rw [decide_eq_false h0]; exact Bool.false_ne_true)]
        rw [decide_eq_false h0, Bool.false_and] at kk
        exact kk
    | _ => exact k
theorem scpPair2 : FnScope ["thing"] ["thing"] (defScope pPair2) := ⟨rfl, rfl, rfl, by decide +kernel, rfl, by decide +kernel, by decide +kernel⟩
theorem ok_isPair {f : Addr} {fd : FuncData} (F : Fun K "is_pair" "is_pair" pPair2 f fd) (T : Bj mg) : FnOk P w K mg base CX0 1 f fd ["thing"] spIsPair := by
  refine F.ok scpPair2 (fun vs H Q E h => ?_) (fun cdv A outer s H vs Q E hr h => ?_)
  · obtain ⟨a, x, y, rfl, _⟩ := h
    rfl
  · obtain ⟨a, x, y, rfl, ha, k⟩ := h
    refine ⟨_, pss_one (ps_ret (pe_and (pe_callB call_isi (by rfl) T.isi (by decide +kernel) (pa_cons (pv 0) (pa_cons (pe_bltn (v := .ty "tuple") (u := .type "tuple") (by rfl) T.tuple (by decide +kernel) rfl) pa_nil)))
      (pe_one (pe_cmpR op_eq (pe_callB call_len_seq (by rfl) T.len PySem.boot_len (pa_cons (pv 0) pa_nil)) pe_int (nomark _))))), ?_⟩
    have hv : VT H (.ref a) "tuple" := .tup (.inl ha)
    refine ⟨_, rfl, .ref a, .ty "tuple", .type "tuple", .type "tuple", _, rfl, .ty "tuple", hv.ty, hv.kit.2.2, _, rfl, ?_⟩
    refine iteT ⟨_, rfl, a, _, rfl, .inr (SqT.of ha), rfl, k⟩
theorem scpTie : FnScope ["thing", "places"] ["thing", "places"] (defScope pTie) := ⟨rfl, rfl, rfl, by decide +kernel, rfl, by decide +kernel, by decide +kernel⟩
theorem ok_isTie {f fP fB : Addr} {fd fdP fdB : FuncData} (F : Fun K "is_tie" "is_tie" pTie f fd) (GP : Dn P w K mg base "is_pair" 1 ["thing"] spIsPair fP fdP) (GB : Dn P w K mg base "is_below" 2 ["thing", "bound"] spBelow fB fdB) :
    FnOk P w K mg base CX0 3 f fd ["thing", "places"] spIsTie := by
  refine F.ok scpTie (fun vs H Q E h => ?_) (fun cdv A outer s H vs Q E hr h => ?_)
  · obtain ⟨a, q, n, rfl, _⟩ := h
    rfl
  · obtain ⟨a, q, n, rfl, ha, hq, k⟩ := h
    have hr1 : Room 1 _ := hr.mono (by decide)
    refine ⟨_, pss_one (ps_ret (pe_and (pe_call GP.ok hr1 rfl GP.g GP.kp GP.b .nil pass0 (pa_cons (pv 0) pa_nil))
      (pe_and (pe_call GB.ok hr rfl GB.g GB.kp GB.b .nil pass0 (pa_cons (pe_ix ix_tup (pv 0) pe_int (fun _ _ => rfl)) (pa_cons (pv 1) pa_nil)))
        (pe_one (pe_call GB.ok hr rfl GB.g GB.kp GB.b .nil pass0 (pa_cons (pe_ix ix_tup (pv 0) pe_int (fun _ _ => rfl)) (pa_cons (pe_ix ix_tup (pv 0) pe_int (fun _ _ => rfl)) pa_nil))))))), ?_⟩
    have b2 : belowV (.int q.2) n = true := by show (decide _ && decide _) = true; rw [decide_eq_true (by omega), decide_eq_true (by omega)] <;> rfl
    have b1 : belowV (.int q.1) q.2 = true := by show (decide _ && decide _) = true; rw [decide_eq_true (by omega), decide_eq_true (by omega)] <;> rfl
    refine ⟨_, rfl, a, _, _, rfl, ha, _, rfl, iteT ⟨_, rfl, a, _, _, _, rfl, rfl, SqT.of ha, atI_nat (j := 1) rfl, _, rfl, _, "int", n, rfl, .int _, _, rfl, ?_⟩⟩
    rw [b2]
    refine iteT ⟨_, rfl, a, _, _, _, rfl, rfl, SqT.of ha, atI_nat (j := 0) rfl, _, rfl, a, _, _, _, rfl, rfl, SqT.of ha, atI_nat (j := 1) rfl, _, "int", q.2, rfl, .int _, ?_⟩
    rw [b1]
    exact k
end
end K0

set_option Elab.async false
set_option linter.all false
set_option maxRecDepth 100000
set_option maxHeartbeats 8000000
/-! A web is told as one. -/
namespace K0
open PySem PySem.Spec L2
open PyProof.Rows hiding St
/-- what the program's own names hold -/
structure Bk (mg : Str → Option Value) : Prop extends Bj mg where
  most : ∃ t, mg "MOST_PLACES" = some (.int 12 t)
  sup : mg "super" = none
theorem pd_eqv (L : List (Int × Int)) : PyData.eqv (.list (L.map pd)) (.list (L.map pd)) = true := SeqAt.eqv_refl _ (by
  have h := pd_shaped L
  unfold SeqAt.shaped at h
  rw [Bool.and_eq_true] at h
  exact h.1)
section
variable {P : Program} {w : World} {K : PySem.W.Frag} {mg : Str → Option Value} {base : Heap}
abbrev nIsWeb : List Str := ["thing", "places", "ties", "tie"]
theorem scIsWeb : FnScope nIsWeb ["thing"] (defScope pWeb) := ⟨rfl, rfl, rfl, by decide +kernel, rfl, by decide +kernel, by decide +kernel⟩
theorem ok_isWeb {f fP fW fT : Addr} {fd fdP fdW fdT : FuncData} (F : Fun K "is_web" "is_web" pWeb f fd) (T : Bk mg) (GP : Dn P w K mg base "is_pair" 1 ["thing"] spIsPair fP fdP) (GW' : Dn P w K mg base "is_whole" 1 ["thing"] spWhole fW fdW)
    (GT : Dn P w K mg base "is_tie" 3 ["thing", "places"] spIsTie fT fdT) : FnOk P w K mg base CX0 4 f fd ["thing"] spIsWeb := by
  refine F.ok scIsWeb (fun vs H Q E h => ?_) (fun cdv A outer s H vs Q E hr h => ?_)
  · obtain ⟨w, n, L, rfl, _⟩ := h
    rfl
  · obtain ⟨w, n, L, rfl, G, k⟩ := h
    have hr1 : Room 1 _ := hr.mono (by decide)
    have hu6 : A.units + 3 + 64 < cLine := by have := hr.un; have e : (A.deeper (envOfC "is_web" (defScope pWeb) s.heap.objs.size f cdv)).units = A.units + 3 := rfl; omega
    obtain ⟨tk, hmost⟩ := T.most
    refine ⟨_, pss_cons (ps_if (pt_not (pt_val (pe_call GP.ok hr1 rfl GP.g GP.kp GP.b .nil pass0 (pa_cons (pv 0) pa_nil)))) (pss_one (ps_ret pe_bl)) pss_nil)
      <| pss_cons (ps_asg (pv 0) (pg_tup rfl (pgs_cons (pg_name (i := 1) scIsWeb.nd rfl (.inr rfl)) (pgs_cons (pg_name (i := 2) scIsWeb.nd rfl (.inl rfl)) pgs_nil))))
      <| pss_cons (ps_if (PW.pt (pw_or (pt_not (pt_val (pe_call GW'.ok hr1 rfl GW'.g GW'.kp GW'.b .nil pass0 (pa_cons (pv 1) pa_nil))))
          (pw_or (pt_not (pt_chain op_le op_le pe_int (pv 1) (pe_glob rfl hmost (show RelV (.int 12) _ from ⟨_, rfl⟩))))
            (pw_or1 (pt_not (pt_val (pe_callB call_isi (by rfl) T.isi (by decide +kernel) (pa_cons (pv 2) (pa_cons (pe_bltn (v := .ty "tuple") (u := .type "tuple") (by rfl) T.tuple (by decide +kernel) rfl) pa_nil)))))))))
          (pss_one (ps_ret pe_bl)) pss_nil)
      <| pss_one (ps_ret (pe_and (pe_callB (cr_all rfl) (by rfl) T.all (by decide +kernel) (pa_cons (pe_lc (own := [("tie", 3)]) (g := gName 3) (tt := tYes) rfl scIsWeb.nd (pi_tup (pv 2)) (blkOk_by (N := nIsWeb) (sc := defScope pWeb) (by decide +kernel))
            (fun _ _ _ _ _ => pg_name (i := 3) scIsWeb.nd rfl (Or.inl rfl)) (fun _ _ _ _ _ => pts_nil) (fun _ _ _ _ _ => pe_call GT.ok hr rfl GT.g GT.kp GT.b .nil pass0 (pa_cons (pv 3) (pa_cons (pv 1) pa_nil)))) pa_nil))
          (pe_one (pe_cmpR (op_eqD hu6) (pe_callTy call_list_of (by rfl) T.list (by decide +kernel) (pa_cons (pv 2) pa_nil)) (pe_callB (KR.cr_sortTT (d := 2) (B := 64) (by decide)) (by rfl) T.sorted (by decide +kernel) (pa_cons (pv 2) pa_nil)) (nomark _))))), ?_⟩
    obtain ⟨t, vs, e1, e2, e3⟩ := G.web.ex
    have n1 := G.n1
    have n2 := G.n2
    have few := G.few
    have len := e3.len
    refine ⟨_, rfl, w, _, _, rfl, e1, _, rfl, ?_⟩
    refine ⟨_, rfl, w, _, rfl, SqT.of e1, rfl, _, _, rfl, _, _, rfl, rfl, ?_⟩
    have htup : VT H (.ref t) "tuple" := .tup (.inl e2)
    have c1 : decide ((1 : Int) ≤ n) = true := decide_eq_true (by omega)
    have c2 : decide ((n : Int) ≤ 12) = true := decide_eq_true (by omega)
    refine ⟨_, rfl, _, "int", rfl, .int _, _, rfl, _, rfl, _, _, rfl, rfl, _, rfl, ?_⟩
    rw [if_pos c1]
    refine ⟨_, _, rfl, rfl, ?_⟩
    refine ⟨_, rfl, iteNS (c := (n : Int) ≤ 12) (by omega) ?_⟩
    refine ⟨_, rfl, .ref t, .ty "tuple", .type "tuple", .type "tuple", _, rfl, .ty "tuple", htup.ty, htup.kit.2.2, _, rfl, iteNS (c := "tuple" = "tuple") rfl ?_⟩
    refine ⟨_, rfl, t, rfl, ⟨_, SqT.of e2⟩, fun Da hD => ?_⟩
    refine lc_it (walk_tup (xs := vs)) (fun i M => M Da = some (.lst (List.replicate i (.bl true))) ∧ Same H M) ⟨upd_same, same_new hD⟩ (fun i M _ g => SqT.of (g.2 _ _ e2)) ?_ ?_
    · rintro i x M M' hi ⟨g1, g2⟩ ⟨rfl, hx⟩
      obtain ⟨a, q, rfl, hq, ha⟩ := e3.get hx
      refine ⟨rfl, ?_⟩
      unfold tYes
      refine iteT ?_
      refine ⟨_, rfl, _, rfl, a, q, n, rfl, g2 _ _ ha, G.bel q (List.mem_of_getElem? hq), _, g1, by rw [List.length_replicate, sizeLine_eq]; omega, by rw [upd_same, List.replicate_succ'], fun b o e => by rw [upd_ne (ne_of_none e hD)]; exact g2 _ _ e⟩
    · rintro M ⟨g1, g2⟩
      have all1 : ∀ m : Nat, (List.replicate m true).all id = true := fun m => by
        induction m with
        | zero => rfl
        | succ m ih => rw [List.replicate_succ, List.all_cons, ih] <;> rfl
      refine ⟨Da, List.replicate vs.length true, rfl, SqL.of (by rw [g1, List.map_replicate]), _, rfl, ?_⟩
      rw [all1]
      refine iteT ?_
      refine ⟨_, rfl, t, vs, rfl, .inr (SqT.of (g2 _ _ e2)), fun l hl => ?_⟩
      have s1 : Same H (upd M l (.lst vs)) := g2.trans (same_new hl)
      refine ⟨_, rfl, t, vs, rfl, SqT.of (s1 _ _ e2), by omega, (e3.mono (same_tup s1)).tups G.bel (by omega), fun ys p pm pw hp => ?_⟩
      obtain ⟨M2, pm2, pr⟩ := Prs.perm pm (e3.mono (same_tup s1))
      have eM : M2 = L := (srt_uniq (n := n) (by omega) pm2.symm G.bel G.srt (pr.srt pw)).symm
      subst eM
      have s2 : Same H (upd (upd M l (.lst vs)) p (.lst ys)) := s1.trans (same_new hp)
      refine ⟨.list (M2.map pd), .list (M2.map pd), .lst (SqL.of (by rw [upd_ne (ne_of_none upd_same hp)]; exact upd_same)) (e3.mono (same_tup s2)).dp, .lst (SqL.of upd_same) (pr.mono (new_tup hp)).dp, pd_shaped M2, pd_shaped M2, ?_⟩
      rw [pd_eqv]
      exact k _ s2
theorem scCheckWeb : FnScope ["thing"] ["thing"] (defScope pCheckWeb) := ⟨rfl, rfl, rfl, by decide +kernel, rfl, by decide +kernel, by decide +kernel⟩
theorem ok_checkWeb {f fW : Addr} {fd fdW : FuncData} (F : Fun K "check_web" "check_web" pCheckWeb f fd) (GW' : Dn P w K mg base "is_web" 4 ["thing"] spIsWeb fW fdW) : FnOk P w K mg base CX0 5 f fd ["thing"] spCheckWeb := by
  refine F.ok scCheckWeb (fun vs H Q E h => ?_) (fun cdv A outer s H vs Q E hr h => ?_)
  · obtain ⟨w, n, L, rfl, _⟩ := h
    rfl
  · obtain ⟨w, n, L, rfl, G, k⟩ := h
    refine ⟨_, pss_one (ps_if (pt_not (pt_val (pe_call GW'.ok hr rfl GW'.g GW'.kp GW'.b .nil pass0 (pa_cons (pv 0) pa_nil)))) (pss_one ps_never) pss_nil), ?_⟩
    exact ⟨_, rfl, w, n, L, rfl, G, fun H' s1 => ⟨_, rfl, k H' s1⟩⟩
end
end K0

set_option Elab.async false
set_option linter.all false
set_option maxRecDepth 100000
set_option maxHeartbeats 8000000
/-! Lots: told, refused. -/
namespace K0
open PySem PySem.Spec L2
open PyProof.Rows hiding St
/-- a value that may be a lot: a tuple of such items, or none -/
inductive Th (H : Hp) : V → Option (List V) → Prop
  | tup {a : Addr} {xs : List V} (e : TT H a xs) (h : ∀ x ∈ xs, ∃ t, VT H x t) (l : xs.length ≤ 60) : Th H (.ref a) (some xs)
  | oth {v : V} {t : String} (h : VT H v t) (ne : t ≠ "tuple") : Th H v none
theorem Th.same {H H' : Hp} {v : V} {o : Option (List V)} (h : Th H v o) (s : Same H H') : Th H' v o := by
  cases h with
  | tup e h l => exact .tup (e.keep fun o q => s _ _ q) (fun x hx => let ⟨t, q⟩ := h x hx; ⟨t, q.mono s⟩) l
  | oth h ne => exact .oth (h.mono s) ne
def intV : V → Int
  | .int i => i
  | _ => 0
def lotD (n : Int) (xs : List V) : Bool := xs.all (belowV · n) && decide ((xs.map intV).Pairwise (· < ·))
def lotO (n : Int) : Option (List V) → Bool
  | some xs => lotD n xs
  | none => false
/-- a lot of the places below n -/
structure IsLot (n : Int) (ns : List Int) : Prop where
  bel : ∀ i ∈ ns, 0 ≤ i ∧ i < n
  inc : ns.Pairwise (· < ·)
theorem below_ints {n : Int} : ∀ {xs : List V}, xs.all (belowV · n) = true → xs = (xs.map intV).map V.int ∧ ∀ i ∈ xs.map intV, 0 ≤ i ∧ i < n
  | [], _ => ⟨rfl, fun _ z => nomatch z⟩
  | x :: xs, h => by
    rw [List.all_cons, Bool.and_eq_true] at h
    obtain ⟨h1, h2⟩ := h
    obtain ⟨e1, e2⟩ := below_ints h2
    cases x with
    | int i =>
      have h1 : (decide (0 ≤ i) && decide (i < n)) = true := h1
      rw [Bool.and_eq_true, decide_eq_true_eq, decide_eq_true_eq] at h1
      refine ⟨by rw [List.map_cons, List.map_cons, ← e1] <;> rfl, fun j hj => ?_⟩
      rw [List.map_cons] at hj
      rcases List.mem_cons.mp hj with rfl | z
      · exact h1
      · exact e2 j z
    | _ => cases h1
theorem lot_of {n : Int} {xs : List V} (h : lotD n xs = true) : xs = (xs.map intV).map V.int ∧ IsLot n (xs.map intV) := by
  unfold lotD at h
  rw [Bool.and_eq_true, decide_eq_true_eq] at h
  obtain ⟨e1, e2⟩ := below_ints h.1
  exact ⟨e1, e2, h.2⟩
theorem map_intV (ns : List Int) : (ns.map V.int).map intV = ns := by
  rw [List.map_map]
  exact (List.map_congr_left fun i _ => rfl).trans (List.map_id ns)
theorem of_lot {n : Int} {ns : List Int} (h : IsLot n ns) : lotD n (ns.map V.int) = true := by
  unfold lotD
  rw [map_intV, Bool.and_eq_true, decide_eq_true_eq]
  refine ⟨List.all_eq_true.mpr fun x hx => ?_, h.inc⟩
  obtain ⟨i, hi, rfl⟩ := List.mem_map.mp hx
  have := h.bel i hi
  show (decide _ && decide _) = true
  rw [decide_eq_true this.1, decide_eq_true this.2] <;> rfl
/-- rows that rise and have the same members are one -/
theorem inc_uniq : ∀ {a b : List Int}, a.Pairwise (· < ·) → b.Pairwise (· < ·) → (∀ k, k ∈ a ↔ k ∈ b) → a = b
  | [], [], _, _, _ => rfl
  | [], y :: b, _, _, h => absurd ((h y).mpr (List.mem_cons_self ..)) List.not_mem_nil
  | x :: a, [], _, _, h => absurd ((h x).mp (List.mem_cons_self ..)) List.not_mem_nil
  | x :: a, y :: b, ha, hb, h => by
    obtain ⟨a1, a2⟩ := List.pairwise_cons.mp ha
    obtain ⟨b1, b2⟩ := List.pairwise_cons.mp hb
    have e : x = y := by
      have hx := (h x).mp (List.mem_cons_self ..)
      have hy := (h y).mpr (List.mem_cons_self ..)
      rcases List.mem_cons.mp hx with e | z
      · exact e
      · rcases List.mem_cons.mp hy with e | z'
        · exact e.symm
        · have := b1 _ z
          have := a1 _ z'
          omega
    subst e
    rw [inc_uniq a2 b2 fun k => ⟨fun hk => ?_, fun hk => ?_⟩]
    · rcases List.mem_cons.mp ((h k).mp (List.mem_cons_of_mem _ hk)) with e | z
      · have := a1 _ hk; omega
      · exact z
    · rcases List.mem_cons.mp ((h k).mpr (List.mem_cons_of_mem _ hk)) with e | z
      · have := b1 _ hk; omega
      · exact z
theorem eqvAll_ints : ∀ a b : List Int, PyData.eqvAll (a.map PyData.int) (b.map PyData.int) = decide (a = b)
  | [], [] => by simp [PyData.eqvAll]
  | [], y :: b => by simp [PyData.eqvAll]
  | x :: a, [] => by simp [PyData.eqvAll]
  | x :: a, y :: b => by
    simp only [List.map_cons, PyData.eqvAll, PyData.eqv, eqvAll_ints a b, List.cons.injEq]
    by_cases h : x = y <;> by_cases g : a = b <;> simp [h, g]
theorem eqv_ints (a b : List Int) : PyData.eqv (.list (a.map PyData.int)) (.list (b.map PyData.int)) = decide (a = b) := by
  rw [← eqvAll_ints a b]
  simp only [PyData.eqv]
def spIsLotOf : Sp := fun vs H Q _ => ∃ (w : Addr) (n : Nat) (L : List (Int × Int)) (v : V) (o : Option (List V)), vs = [.ref w, v] ∧ GW H w n L ∧ Th H v o ∧ ∀ H', Same H H' → Q (.bl (lotO n o)) H'
/-- an error with a field -/
structure ErX (P : Program) (K : PySem.W.Frag) (mg : Str → Option Value) (nm : Str) (C fI : Addr) (f : Str) : Prop where
  er : ErrC P K C
  f1 : PySem.EX.Fn1 P K C fI f
  g : mg nm = some (.ref C)
/-- an error is raised that carries v -/
def Rz (C : Addr) (f : Str) (v : V) (H : Hp) (E : XK) : Prop := ∀ (d : Addr) (H' : Hp), Same H H' → H d = none → H' d = some (.xd [(f, v)]) → E (.ref C) (some d) H'
theorem Rz.same {C : Addr} {f : Str} {v : V} {H H1 : Hp} {E : XK} (r : Rz C f v H E) (s : Same H H1) : Rz C f v H1 E := fun d H' s' hd e => r d H' (s.trans s') (s.free hd) e
def spCheckLot (C : Addr) : Sp := fun vs H Q E => ∃ (w : Addr) (n : Nat) (L : List (Int × Int)) (v : V) (o : Option (List V)), vs = [.ref w, v] ∧ GW H w n L ∧ Th H v o ∧ (lotO n o = true → ∀ H', Same H H' → Q .non H') ∧ (lotO n o = false → Rz C "thing" v H E)
def spIsTieNo : Sp := fun vs H Q _ => ∃ (w : Addr) (n : Nat) (L : List (Int × Int)) (v : V) (t : String), vs = [.ref w, v] ∧ GW H w n L ∧ VT H v t ∧ Q (.bl (belowV v L.length)) H
def spCheckTie (C : Addr) : Sp := fun vs H Q E => ∃ (w : Addr) (n : Nat) (L : List (Int × Int)) (v : V) (t : String), vs = [.ref w, v] ∧ GW H w n L ∧ VT H v t ∧ (belowV v L.length = true → Q .non H) ∧ (belowV v L.length = false → Rz C "number" v H E)
section
variable {P : Program} {w0 : World} {K : PySem.W.Frag} {mg : Str → Option Value} {base : Heap}
abbrev nIsLotOf : List Str := ["web", "thing", "place"]
end
end K0

/-! Places as bits. -/
namespace K0
/-- a and b are tied -/
def Adj (L : List (Int × Int)) (a b : Nat) : Prop := ((a : Int), (b : Int)) ∈ L ∨ ((b : Int), (a : Int)) ∈ L
instance (L : List (Int × Int)) (a b : Nat) : Decidable (Adj L a b) := by unfold Adj; infer_instance
theorem Adj.symm {L : List (Int × Int)} {a b : Nat} (h : Adj L a b) : Adj L b a := Or.symm h
/-- the places that are joined with r within m -/
inductive Rch (L : List (Int × Int)) (m : Nat) (r : Nat) : Nat → Prop
  | refl (h : m.testBit r = true) : Rch L m r r
  | step {b c : Nat} (h : Rch L m r b) (a : Adj L b c) (k : m.testBit c = true) : Rch L m r c
theorem Rch.bit {L : List (Int × Int)} {m r i : Nat} (h : Rch L m r i) : m.testBit i = true := by
  cases h with
  | refl h => exact h
  | step _ _ k => exact k
theorem Rch.root {L : List (Int × Int)} {m r i : Nat} (h : Rch L m r i) : m.testBit r = true := by
  induction h with
  | refl h => exact h
  | step _ _ _ ih => exact ih
theorem Rch.mono {L : List (Int × Int)} {m m' r i : Nat} (h : Rch L m r i) (s : ∀ j, m.testBit j = true → m'.testBit j = true) : Rch L m' r i := by
  induction h with
  | refl h => exact .refl (s _ h)
  | step _ a k ih => exact .step ih a (s _ k)
/-- a set that is closed holds what is joined -/
theorem Rch.closed {L : List (Int × Int)} {m r i : Nat} (h : Rch L m r i) {S : Nat → Prop} (h0 : S r) (hs : ∀ b c, S b → Adj L b c → m.testBit c = true → S c) : S i := by
  induction h with
  | refl _ => exact h0
  | step _ a k ih => exact hs _ _ ih a k
theorem Rch.trans {L : List (Int × Int)} {m r i j : Nat} (h : Rch L m r i) (g : Rch L m i j) : Rch L m r j := g.closed h fun _ _ s a k => .step s a k
theorem Rch.symm {L : List (Int × Int)} {m r i : Nat} (h : Rch L m r i) : Rch L m i r := by
  induction h with
  | refl h => exact .refl h
  | step s a k ih => exact .trans (.step (.refl k) a.symm s.bit) ih
/-! ### bits -/
theorem sub_le {a b : Nat} (h : ∀ i, a.testBit i = true → b.testBit i = true) : a ≤ b := by
  have e : a &&& b = a := Nat.eq_of_testBit_eq fun i => by
    rw [Nat.testBit_and]
    cases z : a.testBit i with
    | false => rfl
    | true => rw [h i z] <;> rfl
  rw [← e]
  exact Nat.and_le_right
theorem bit_lt {a i n : Nat} (ha : a < 2 ^ n) (h : a.testBit i = true) : i < n := by
  rcases Nat.lt_or_ge i n with z | z
  · exact z
  · rw [Nat.testBit_lt_two_pow (Nat.lt_of_lt_of_le ha (Nat.pow_le_pow_right (by decide) z))] at h
    cases h
theorem or_grows {p f : Nat} (d : ∀ i, f.testBit i = true → p.testBit i = false) (h : f ≠ 0) : p < p ||| f := by
  have le : p ≤ p ||| f := sub_le fun i z => by rw [Nat.testBit_or, z, Bool.true_or]
  refine Nat.lt_of_le_of_ne le fun e => ?_
  obtain ⟨i, hi⟩ := Nat.exists_testBit_of_ne_zero h
  have := congrArg (·.testBit i) e
  simp only [Nat.testBit_or, hi, d i hi, Bool.or_true] at this
  cases this
theorem full_bit (n i : Nat) : (2 ^ n - 1).testBit i = decide (i < n) := Nat.testBit_two_pow_sub_one ..
/-- the places of a mask -/
def lotN (m : Nat) : List Nat := (List.range 12).filter m.testBit
theorem lotN_mem {m i : Nat} (h : m < 2 ^ 12) : i ∈ lotN m ↔ m.testBit i = true := by
  unfold lotN
  rw [List.mem_filter, List.mem_range]
  exact ⟨fun z => z.2, fun z => ⟨bit_lt h z, z⟩⟩
theorem lotN_inc (m : Nat) : (lotN m).Pairwise (· < ·) := List.pairwise_lt_range.filter _
/-! ### near places -/
/-- what stands in the list of near places -/
structure Near (L : List (Int × Int)) (n : Nat) (ms : List Nat) : Prop where
  len : ms.length = n
  bit : ∀ a b, a < n → (ms.getD a 0).testBit b = decide (Adj L a b)
theorem near_nil (n : Nat) : Near [] n (List.replicate n 0) := ⟨List.length_replicate, fun a b h => by
  have e : (List.replicate n 0).getD a 0 = 0 := by rw [List.getD_eq_getElem?_getD, List.getElem?_replicate]; split <;> rfl
  rw [e, Nat.zero_testBit]
  exact (decide_eq_false fun z => by unfold Adj at z; simp at z).symm⟩
theorem near_snoc {L : List (Int × Int)} {n : Nat} {ms : List Nat} (h : Near L n ms) {a b : Nat} (lt : a < b) (hb : b < n) :
    Near (L ++ [((a : Int), (b : Int))]) n ((ms.set a (ms.getD a 0 ||| 2 ^ b)).set b (((ms.set a (ms.getD a 0 ||| 2 ^ b)).getD b 0) ||| 2 ^ a)) := by
  have len := h.len
  refine ⟨by rw [List.length_set, List.length_set, len], fun x y hx => ?_⟩
  have e1 : (ms.set a (ms.getD a 0 ||| 2 ^ b)).getD b 0 = ms.getD b 0 := by
    rw [List.getD_eq_getElem?_getD, List.getElem?_set_ne (by omega), ← List.getD_eq_getElem?_getD]
  rw [e1]
  have adj : ∀ x y : Nat, Adj (L ++ [((a : Int), (b : Int))]) x y ↔ Adj L x y ∨ (x = a ∧ y = b) ∨ (x = b ∧ y = a) := fun x y => by
    unfold Adj
    simp only [List.mem_append, List.mem_singleton, Prod.mk.injEq, Int.natCast_inj]
    constructor
    · rintro ((z | z) | (z | z))
      · exact .inl (.inl z)
      · exact .inr (.inl z)
      · exact .inl (.inr z)
      · exact .inr (.inr ⟨z.2, z.1⟩)
    · rintro ((z | z) | z | z)
      · exact .inl (.inl z)
      · exact .inr (.inl z)
      · exact .inl (.inr z)
      · exact .inr (.inr ⟨z.2, z.1⟩)
  have key := h.bit x y hx
  by_cases hxb : x = b
  · subst hxb
    rw [List.getD_eq_getElem?_getD, List.getElem?_set_self (by rw [List.length_set]; omega)]
    show (ms.getD x 0 ||| 2 ^ a).testBit y = _
    rw [Nat.testBit_or, key, Nat.testBit_two_pow, ← Bool.decide_or]
    refine decide_eq_decide.mpr ?_
    rw [adj]
    constructor
    · rintro (z | z)
      · exact .inl z
      · exact .inr (.inr ⟨rfl, z.symm⟩)
    · rintro (z | z | z)
      · exact .inl z
      · omega
      · exact .inr z.2.symm
  · rw [List.getD_eq_getElem?_getD, List.getElem?_set_ne (fun z => hxb z.symm)]
    by_cases hxa : x = a
    · subst hxa
      rw [List.getElem?_set_self (by omega)]
      show (ms.getD x 0 ||| 2 ^ b).testBit y = _
      rw [Nat.testBit_or, key, Nat.testBit_two_pow, ← Bool.decide_or]
      refine decide_eq_decide.mpr ?_
      rw [adj]
      constructor
      · rintro (z | z)
        · exact .inl z
        · exact .inr (.inl ⟨rfl, z.symm⟩)
      · rintro (z | z | z)
        · exact .inl z
        · exact .inr z.2.symm
        · omega
    · rw [List.getElem?_set_ne (fun z => hxa z.symm), ← List.getD_eq_getElem?_getD, key]
      refine decide_eq_decide.mpr ?_
      rw [adj]
      constructor
      · exact .inl
      · rintro (z | z | z)
        · exact z
        · exact absurd z.1 hxa
        · exact absurd z.1 hxb
/-! ### parts -/
/-- p is the part of r within m -/
def IsPart (L : List (Int × Int)) (m r p : Nat) : Prop := ∀ i, p.testBit i = true ↔ Rch L m r i
/-- the state of the search -/
structure Flood (L : List (Int × Int)) (m r part fresh : Nat) : Prop where
  rch : ∀ i, part.testBit i = true → Rch L m r i
  root : part.testBit r = true
  fr : ∀ i, fresh.testBit i = true → part.testBit i = true
  cl : ∀ b c, part.testBit b = true → Adj L b c → m.testBit c = true → part.testBit c = true ∨ fresh.testBit b = true
theorem Flood.start {L : List (Int × Int)} {m r : Nat} (h : m.testBit r = true) : Flood L m r (2 ^ r) (2 ^ r) := by
  have e : ∀ i, (2 ^ r).testBit i = true ↔ r = i := fun i => by rw [Nat.testBit_two_pow, decide_eq_true_eq]
  refine ⟨fun i z => ?_, (e r).mpr rfl, fun _ z => z, fun b c z _ _ => .inr z⟩
  rw [← (e i).mp z]
  exact .refl h
theorem Flood.turn {L : List (Int × Int)} {m r part fresh met : Nat} (F : Flood L m r part fresh) (hm : ∀ c, met.testBit c = true ↔ ∃ b, fresh.testBit b = true ∧ Adj L b c) :
    Flood L m r (part ||| (met &&& (m ^^^ part))) (met &&& (m ^^^ part)) ∧ ∀ i, (met &&& (m ^^^ part)).testBit i = true → part.testBit i = false := by
  have mb : ∀ i, part.testBit i = true → m.testBit i = true := fun i z => (F.rch i z).bit
  have xb : ∀ i, (met &&& (m ^^^ part)).testBit i = true ↔ met.testBit i = true ∧ m.testBit i = true ∧ part.testBit i = false := fun i => by
    rw [Nat.testBit_and, Nat.testBit_xor]
    have := mb i
    cases h1 : met.testBit i <;> cases h2 : m.testBit i <;> cases h3 : part.testBit i <;> simp_all
  refine ⟨⟨fun i z => ?_, by rw [Nat.testBit_or, F.root, Bool.true_or], fun i z => by rw [Nat.testBit_or, z, Bool.or_true], fun b c z a k => ?_⟩, fun i z => ((xb i).mp z).2.2⟩
  · rw [Nat.testBit_or, Bool.or_eq_true] at z
    rcases z with z | z
    · exact F.rch i z
    · obtain ⟨h1, h2, _⟩ := (xb i).mp z
      obtain ⟨b, hb, ab⟩ := (hm i).mp h1
      exact .step (F.rch b (F.fr b hb)) ab h2
  · rw [Nat.testBit_or, Bool.or_eq_true] at z
    rw [Nat.testBit_or, Bool.or_eq_true]
    by_cases hc : part.testBit c = true
    · exact .inl (.inl hc)
    · have hc : part.testBit c = false := by cases q : part.testBit c <;> simp_all
      rcases z with z | z
      · rcases F.cl b c z a k with y | y
        · exact .inl (.inl y)
        · exact .inl (.inr ((xb c).mpr ⟨(hm c).mpr ⟨b, y, a⟩, k, hc⟩))
      · exact .inr z
theorem Flood.done {L : List (Int × Int)} {m r part : Nat} (F : Flood L m r part 0) : IsPart L m r part := fun i => ⟨F.rch i, fun h => h.closed F.root fun b c z a k => by
  rcases F.cl b c z a k with y | y
  · exact y
  · rw [Nat.zero_testBit] at y; cases y⟩
theorem Flood.lt {L : List (Int × Int)} {m r part fresh : Nat} (F : Flood L m r part fresh) (h : m < 4096) : part < 4096 ∧ fresh < 4096 := by
  have h1 : part ≤ m := sub_le fun i z => (F.rch i z).bit
  have h2 : fresh ≤ part := sub_le F.fr
  omega
/-- some parts, each with its least place, and what is left -/
structure Some_ (L : List (Int × Int)) (m left : Nat) (ps : List (Nat × Nat)) : Prop where
  sub : ∀ i, left.testBit i = true → m.testBit i = true
  cl : ∀ b c, m.testBit b = true → m.testBit c = true → Adj L b c → left.testBit b = left.testBit c
  part : ∀ q ∈ ps, m.testBit q.1 = true ∧ IsPart L m q.1 q.2 ∧ ∀ i, q.2.testBit i = true → q.1 ≤ i
  inc : ps.Pairwise fun a b => a.1 < b.1
  low : ∀ q ∈ ps, ∀ i, left.testBit i = true → q.1 < i
  all : ∀ i, m.testBit i = true → left.testBit i = true ∨ ∃ q ∈ ps, q.2.testBit i = true
theorem Some_.start (L : List (Int × Int)) (m : Nat) : Some_ L m m [] := ⟨fun _ z => z, fun b c hb hc _ => (by rw [hb, hc]), (fun _ z => nomatch z), .nil, (fun _ z => nomatch z), fun _ z => .inl z⟩
theorem Some_.turn {L : List (Int × Int)} {m left r p : Nat} {ps : List (Nat × Nat)} (S : Some_ L m left ps) (hr : left.testBit r = true) (lo : ∀ i, left.testBit i = true → r ≤ i) (hp : IsPart L left r p) :
    Some_ L m (left ^^^ p) (ps ++ [(r, p)]) ∧ left ^^^ p < left := by
  have pl : ∀ i, p.testBit i = true → left.testBit i = true := fun i z => ((hp i).mp z).bit
  have lb : ∀ i, (left ^^^ p).testBit i = true ↔ left.testBit i = true ∧ p.testBit i = false := fun i => by
    rw [Nat.testBit_xor]
    have := pl i
    cases h1 : left.testBit i <;> cases h2 : p.testBit i <;> simp_all
  have hp' : IsPart L m r p := fun i => ⟨fun z => ((hp i).mp z).mono S.sub, fun z => (hp i).mpr ?_⟩
  · refine ⟨⟨fun i z => S.sub i ((lb i).mp z).1, fun b c hb hc a => ?_, fun q hq => ?_, ?_, fun q hq i z => ?_, fun i z => ?_⟩, ?_⟩
    · rw [Nat.testBit_xor, Nat.testBit_xor, S.cl b c hb hc a]
      have e : p.testBit b = p.testBit c := by
        have h1 : ∀ b c, m.testBit b = true → m.testBit c = true → Adj L b c → p.testBit b = true → p.testBit c = true := fun b c hb hc a z => (hp c).mpr (.step ((hp b).mp z) a (by rw [← S.cl b c hb hc a]; exact pl b z))
        cases x : p.testBit b with
        | true => exact (h1 b c hb hc a x).symm
        | false =>
          cases y : p.testBit c with
          | false => rfl
          | true => rw [h1 c b hc hb a.symm y] at x; cases x
      rw [e]
    · rcases List.mem_append.mp hq with hq | hq
      · exact S.part q hq
      · rw [List.mem_singleton.mp hq]
        exact ⟨S.sub r hr, hp', fun i z => lo i (pl i z)⟩
    · refine List.pairwise_append.mpr ⟨S.inc, List.pairwise_singleton .., fun a ha b hb => ?_⟩
      rw [List.mem_singleton.mp hb]
      exact S.low a ha r hr
    · obtain ⟨z1, z2⟩ := (lb i).mp z
      rcases List.mem_append.mp hq with hq | hq
      · exact S.low q hq i z1
      · rw [List.mem_singleton.mp hq]
        refine Nat.lt_of_le_of_ne (lo i z1) fun e => ?_
        have e : r = i := e
        rw [← e, (hp r).mpr (.refl hr)] at z2
        cases z2
    · rcases S.all i z with y | ⟨q, hq, y⟩
      · cases x : p.testBit i with
        | true => exact .inr ⟨(r, p), List.mem_append_right _ (List.mem_singleton.mpr rfl), x⟩
        | false => exact .inl ((lb i).mpr ⟨y, x⟩)
      · exact .inr ⟨q, List.mem_append_left _ hq, y⟩
    · refine Nat.lt_of_le_of_ne (sub_le fun i z => ((lb i).mp z).1) fun e => ?_
      have := (lb r).mp (by rw [e]; exact hr)
      rw [(hp r).mpr (.refl hr)] at this
      cases this.2
  · refine z.closed (S := fun i => Rch L left r i) (.refl hr) fun b c s a k => .step s a ?_
    rw [← S.cl b c (S.sub b s.bit) k a]
    exact s.bit
/-- all parts of m -/
structure Parts (L : List (Int × Int)) (m : Nat) (ps : List (Nat × Nat)) : Prop where
  part : ∀ q ∈ ps, m.testBit q.1 = true ∧ IsPart L m q.1 q.2 ∧ ∀ i, q.2.testBit i = true → q.1 ≤ i
  inc : ps.Pairwise fun a b => a.1 < b.1
  all : ∀ i, m.testBit i = true → ∃ q ∈ ps, q.2.testBit i = true
theorem Some_.done {L : List (Int × Int)} {m : Nat} {ps : List (Nat × Nat)} (S : Some_ L m 0 ps) : Parts L m ps := ⟨S.part, S.inc, fun i z => (S.all i z).resolve_left fun y => by rw [Nat.zero_testBit] at y; cases y⟩
theorem inc_few : ∀ {ps : List (Nat × Nat)} {n k : Nat}, k ≤ n → (ps.Pairwise fun a b => a.1 < b.1) → (∀ q ∈ ps, k ≤ q.1 ∧ q.1 < n) → ps.length + k ≤ n
  | [], n, k, h, _, _ => by simpa using h
  | q :: ps, n, k, h, p, b => by
    obtain ⟨p1, p2⟩ := List.pairwise_cons.mp p
    have hq := b q (List.mem_cons_self ..)
    have := inc_few (k := q.1 + 1) hq.2 p2 fun r hr => ⟨p1 r hr, (b r (List.mem_cons_of_mem _ hr)).2⟩
    rw [List.length_cons]
    omega
end K0

/-! Rings of ties. -/
namespace K0
/-- the ends of the k-th tie -/
def tie (L : List (Int × Int)) (k : Nat) : Int × Int := L.getD k (0, 0)
def has (q : Int × Int) (p : Int) : Bool := decide (p = q.1) || decide (p = q.2)
def other (q : Int × Int) (p : Int) : Int := q.1 + q.2 - p
/-- the places that are met, the first one among them -/
def wk (L : List (Int × Int)) : Int → List Nat → List Int
  | s, [] => [s]
  | s, k :: r => s :: wk L (other (tie L k) s) r
def okW (L : List (Int × Int)) : Int → List Nat → Bool
  | _, [] => true
  | s, k :: r => has (tie L k) s && okW L (other (tie L k) s) r
/-- where it leads -/
def ed (L : List (Int × Int)) : Int → List Nat → Int
  | s, [] => s
  | s, k :: r => ed L (other (tie L k) s) r
section
variable {L : List (Int × Int)}
theorem has_iff {q : Int × Int} {p : Int} : has q p = true ↔ p = q.1 ∨ p = q.2 := by unfold has; simp
theorem other_has {q : Int × Int} {p : Int} (h : has q p = true) : has q (other q p) = true := by
  rw [has_iff] at h ⊢
  unfold other
  omega
theorem other_other (q : Int × Int) (p : Int) : other q (other q p) = p := by unfold other; omega
theorem wk_len : ∀ (ns : List Nat) (s : Int), (wk L s ns).length = ns.length + 1
  | [], _ => rfl
  | k :: r, s => by rw [wk, List.length_cons, wk_len r, List.length_cons]
theorem wk_head : ∀ (ns : List Nat) (s : Int), wk L s ns = s :: (wk L s ns).tail
  | [], _ => rfl
  | _ :: _, _ => rfl
theorem wk_app : ∀ (ns ms : List Nat) (s : Int), wk L s (ns ++ ms) = (wk L s ns).dropLast ++ wk L (ed L s ns) ms
  | [], _, _ => rfl
  | k :: r, ms, s => by
    rw [List.cons_append, wk, wk_app r, wk, ed]
    rw [wk_head r, List.dropLast_cons_cons, List.cons_append]
theorem wk_last : ∀ (ns : List Nat) (s : Int), wk L s ns = (wk L s ns).dropLast ++ [ed L s ns]
  | [], _ => rfl
  | k :: r, s => by
    rw [wk, ed]
    have h := wk_last r (other (tie L k) s)
    rw [wk_head r] at h ⊢
    rw [List.dropLast_cons_cons, List.cons_append, ← h]
theorem ok_app : ∀ (ns ms : List Nat) (s : Int), okW L s (ns ++ ms) = (okW L s ns && okW L (ed L s ns) ms)
  | [], _, _ => rfl
  | k :: r, ms, s => by rw [List.cons_append, okW, okW, ed, ok_app r, Bool.and_assoc]
theorem ed_app : ∀ (ns ms : List Nat) (s : Int), ed L s (ns ++ ms) = ed L (ed L s ns) ms
  | [], _, _ => rfl
  | k :: r, ms, s => by rw [List.cons_append, ed, ed, ed_app r]
/-- they lead round from s -/
structure Rnd (L : List (Int × Int)) (s : Int) (ns : List Nat) : Prop where
  ok : okW L s ns = true
  ed : ed L s ns = s
  nd : (wk L s ns).dropLast.Nodup
theorem Rnd.tail {s : Int} {k : Nat} {r : List Nat} (h : Rnd L s (k :: r)) : (wk L s (k :: r)).tail.Nodup := by
  have e := wk_last (L := L) r (other (tie L k) s)
  have nd := h.nd
  rw [wk, wk_head r, List.dropLast_cons_cons, ← wk_head r] at nd
  rw [wk, List.tail_cons, e, show K0.ed L (other (tie L k) s) r = s from h.ed]
  exact (List.perm_append_comm (l₁ := [s])).nodup_iff.mp nd
theorem Rnd.rot {s : Int} {k : Nat} {r : List Nat} (h : Rnd L s (k :: r)) : Rnd L (other (tie L k) s) (r ++ [k]) := by
  have hk := h.ok
  have he : K0.ed L (other (tie L k) s) r = s := h.ed
  rw [okW, Bool.and_eq_true] at hk
  refine ⟨?_, ?_, ?_⟩
  · rw [ok_app, hk.2, he, okW, hk.1] <;> rfl
  · rw [ed_app, he] <;> rfl
  · have e := wk_app (L := L) r [k] (other (tie L k) s)
    have w := wk_last (L := L) r (other (tie L k) s)
    rw [he] at e w
    rw [e, show wk L s [k] = [s, other (tie L k) s] from rfl, show (wk L (other (tie L k) s) r).dropLast ++ [s, other (tie L k) s] = ((wk L (other (tie L k) s) r).dropLast ++ [s]) ++ [other (tie L k) s] by rw [List.append_assoc] <;> rfl, List.dropLast_concat, ← w]
    exact h.tail
theorem rot_at {s : Int} {ns : List Nat} (h : Rnd L s ns) : ∀ i, i ≤ ns.length → ∃ t, Rnd L t (ns.drop i ++ ns.take i)
  | 0, _ => ⟨s, by simpa using h⟩
  | i + 1, hi => by
    obtain ⟨t, g⟩ := rot_at h i (by omega)
    rw [List.drop_eq_getElem_cons (by omega), List.cons_append] at g
    refine ⟨_, (?_ : ns.drop (i + 1) ++ ns.take i ++ [ns[i]] = _) ▸ g.rot⟩
    rw [List.append_assoc, List.take_add_one, List.getElem?_eq_getElem (by omega)] <;> rfl
theorem wk_rev : ∀ (ns : List Nat) (s : Int), okW L s ns = true → okW L (ed L s ns) ns.reverse = true ∧ wk L (ed L s ns) ns.reverse = (wk L s ns).reverse ∧ ed L (ed L s ns) ns.reverse = s
  | [], _, _ => ⟨rfl, rfl, rfl⟩
  | k :: r, s, h => by
    rw [okW, Bool.and_eq_true] at h
    obtain ⟨i1, i2, i3⟩ := wk_rev r _ h.2
    have oh := other_has h.1
    refine ⟨?_, ?_, ?_⟩
    · rw [List.reverse_cons, ed, ok_app, i1, i3, okW, oh] <;> rfl
    · have w := wk_last (L := L) r.reverse (ed L (other (tie L k) s) r)
      rw [i3] at w
      rw [List.reverse_cons, ed, wk_app, i3, show wk L s (k :: r) = s :: wk L (other (tie L k) s) r from rfl, List.reverse_cons, ← i2]
      rw [show wk L (other (tie L k) s) [k] = [other (tie L k) s, other (tie L k) (other (tie L k) s)] from rfl, other_other]
      conv => rhs; rw [w]
      rw [List.append_assoc] <;> rfl
    · rw [List.reverse_cons, ed, ed_app, i3]
      exact other_other _ _
theorem Rnd.rev {s : Int} {ns : List Nat} (h : Rnd L s ns) : Rnd L s ns.reverse := by
  obtain ⟨i1, i2, i3⟩ := wk_rev ns s h.ok
  rw [h.ed] at i1 i2 i3
  refine ⟨i1, i3, ?_⟩
  rw [i2]
  cases ns with
  | nil => exact .nil
  | cons k r =>
    have := h.tail
    rw [wk, List.tail_cons] at this
    rw [wk, List.reverse_cons, List.dropLast_concat]
    exact (List.reverse_perm _).nodup_iff.mpr this
/-- ties of a cut, along a way -/
def crB (mem : Int → Bool) (q : Int × Int) : Bool := mem q.1 != mem q.2
theorem cross (mem : Int → Bool) : ∀ (ns : List Nat) (s : Int), okW L s ns = true → (ns.filter fun k => crB mem (tie L k)).length % 2 = if mem s = mem (ed L s ns) then 0 else 1
  | [], s, _ => by simp [ed]
  | k :: r, s, h => by
    rw [okW, Bool.and_eq_true] at h
    have ih := cross mem r _ h.2
    have hs := has_iff.mp h.1
    have c : crB mem (tie L k) = (mem s != mem (other (tie L k) s)) := by
      unfold crB other
      rcases hs with e | e
      · rw [e, show (tie L k).1 + (tie L k).2 - (tie L k).1 = (tie L k).2 by omega]
      · rw [e, show (tie L k).1 + (tie L k).2 - (tie L k).2 = (tie L k).1 by omega]
        cases mem (tie L k).1 <;> cases mem (tie L k).2 <;> rfl
    rw [List.filter_cons, ed]
    cases x : mem s <;> cases y : mem (other (tie L k) s) <;> cases z : mem (ed L (other (tie L k) s) r) <;> simp only [c, x, y, z] at ih ⊢ <;> simp at ih ⊢ <;> omega
theorem Rnd.even {s : Int} {ns : List Nat} (h : Rnd L s ns) (mem : Int → Bool) : (ns.filter fun k => crB mem (tie L k)).length % 2 = 0 := by
  rw [cross mem ns s h.ok, h.ed, if_pos rfl]
theorem Rnd.col {s : Int} {ns : List Nat} (h : Rnd L s ns) {mem : Int → Bool} (c : ∀ k ∈ ns, crB mem (tie L k) = true) : ns.length % 2 = 0 := by
  have e := h.even mem
  rwa [List.filter_eq_self.mpr c] at e
/-! ### what is told of it -/
def rndB (L : List (Int × Int)) (s : Int) (ns : List Nat) : Bool := okW L s ns && decide (ed L s ns = s) && decide (wk L s ns).dropLast.Nodup
theorem rndB_iff {s : Int} {ns : List Nat} : rndB L s ns = true ↔ Rnd L s ns := by
  unfold rndB
  simp only [Bool.and_eq_true, decide_eq_true_eq]
  exact ⟨fun ⟨⟨a, b⟩, c⟩ => ⟨a, b, c⟩, fun ⟨a, b, c⟩ => ⟨⟨a, b⟩, c⟩⟩
def ringB (L : List (Int × Int)) (ns : List Nat) : Bool := decide (2 ≤ ns.length) && decide ns.Nodup && (rndB L (tie L (ns.getD 0 0)).1 ns || rndB L (tie L (ns.getD 0 0)).2 ns)
theorem ringB_of {s : Int} {ns : List Nat} (h : Rnd L s ns) (h2 : 2 ≤ ns.length) (nd : ns.Nodup) : ringB L ns = true := by
  unfold ringB
  rw [decide_eq_true h2, decide_eq_true nd]
  cases ns with
  | nil => simp at h2
  | cons k r =>
    have ok := h.ok
    rw [okW, Bool.and_eq_true] at ok
    show (true && true && (rndB L (tie L k).1 (k :: r) || rndB L (tie L k).2 (k :: r))) = true
    rcases has_iff.mp ok.1 with e | e
    · rw [← e, rndB_iff.mpr h] <;> rfl
    · rw [← e, rndB_iff.mpr h, Bool.or_true] <;> rfl
theorem of_ringB {ns : List Nat} (h : ringB L ns = true) : 2 ≤ ns.length ∧ ns.Nodup ∧ ∃ s, Rnd L s ns := by
  unfold ringB at h
  rw [Bool.and_eq_true, Bool.and_eq_true, decide_eq_true_eq, decide_eq_true_eq, Bool.or_eq_true] at h
  obtain ⟨⟨h1, h2⟩, h3⟩ := h
  exact ⟨h1, h2, h3.elim (fun z => ⟨_, rndB_iff.mp z⟩) fun z => ⟨_, rndB_iff.mp z⟩⟩
/-- a ring may be begun anywhere, and turned round -/
theorem ring_rot {ns : List Nat} (h : ringB L ns = true) {i : Nat} (hi : i ≤ ns.length) : ringB L (ns.drop i ++ ns.take i) = true := by
  obtain ⟨h1, h2, s, g⟩ := of_ringB h
  obtain ⟨t, g'⟩ := rot_at g i hi
  have p : (ns.drop i ++ ns.take i).Perm ns := List.perm_append_comm.trans (List.Perm.of_eq (List.take_append_drop i ns))
  exact ringB_of g' (by rw [p.length_eq]; exact h1) (p.nodup_iff.mpr h2)
theorem ring_rev {ns : List Nat} (h : ringB L ns = true) : ringB L ns.reverse = true := by
  obtain ⟨h1, h2, s, g⟩ := of_ringB h
  exact ringB_of g.rev (by rw [List.length_reverse]; exact h1) ((List.reverse_perm _).nodup_iff.mpr h2)
/-- ties are ties -/
def BelT (L : List (Int × Int)) : Prop := ∀ k, k < L.length → (tie L k).1 < (tie L k).2
theorem ring_two (B : BelT L) {i j : Nat} (hi : i < L.length) (hj : j < L.length) (ne : i ≠ j) : ringB L [i, j] = decide (tie L i = tie L j) := by
  have b1 := B i hi
  have b2 := B j hj
  have nd : [i, j].Nodup := by simp [ne]
  by_cases e : tie L i = tie L j
  · rw [decide_eq_true e]
    refine ringB_of (s := (tie L i).1) ⟨?_, ?_, ?_⟩ (Nat.le_refl 2) nd
    · simp only [okW, Bool.and_true, ← e, Bool.and_eq_true]
      exact ⟨has_iff.mpr (.inl rfl), other_has (has_iff.mpr (.inl rfl))⟩
    · simp only [ed, ← e]; exact other_other _ _
    · show [(tie L i).1, other (tie L i) (tie L i).1].Nodup
      unfold other
      simp only [List.nodup_cons, List.mem_singleton, List.not_mem_nil, not_false_eq_true, List.nodup_nil, and_true]
      omega
  · rw [decide_eq_false e]
    cases h : ringB L [i, j] with
    | false => rfl
    | true =>
      obtain ⟨_, _, s, ok, ed', _⟩ := of_ringB h
      simp only [okW, Bool.and_true, Bool.and_eq_true] at ok
      simp only [ed] at ed'
      have h1 := has_iff.mp ok.1
      have h2 := has_iff.mp ok.2
      unfold other at h2 ed'
      refine absurd (Prod.ext ?_ ?_) e <;> omega
/-- the program's look -/
def leadsP (L : List (Int × Int)) (start : Int) : Int → List Int → List Nat → Bool
  | p, _, [] => decide (p = start)
  | p, met, k :: r => if decide (p ∈ met) = true then false else if has (tie L k) p = true then leadsP L start (other (tie L k) p) (met ++ [p]) r else false
theorem leadsP_eq (start : Int) : ∀ (ns : List Nat) (p : Int) (met : List Int), met.Nodup → leadsP L start p met ns = (okW L p ns && decide (ed L p ns = start) && decide (met ++ (wk L p ns).dropLast).Nodup)
  | [], p, met, h => by
    rw [leadsP, okW, ed, wk, show ([p] : List Int).dropLast = [] from rfl, List.append_nil, decide_eq_true h, Bool.and_true, Bool.true_and]
  | k :: r, p, met, h => by
    rw [leadsP, okW, ed, wk, wk_head r, List.dropLast_cons_cons, ← wk_head r]
    by_cases hp : p ∈ met
    · rw [if_pos (decide_eq_true hp)]
      refine (Bool.and_eq_false_iff.mpr (.inr (decide_eq_false fun z => ?_))).symm
      exact (List.nodup_append.mp z).2.2 p hp p (List.mem_cons_self ..) rfl
    · rw [if_neg (by simpa using hp)]
      by_cases hh : has (tie L k) p = true
      · rw [if_pos hh, hh, leadsP_eq start r _ _ (List.nodup_append.mpr ⟨h, by simp, fun a ha b hb e => by rw [List.mem_singleton.mp hb] at e; exact hp (e ▸ ha)⟩), List.append_assoc, Bool.true_and] <;> rfl
      · rw [if_neg hh, show has (tie L k) p = false by cases q : has (tie L k) p <;> simp_all] <;> rfl
theorem leadsP_rnd (s : Int) (ns : List Nat) : leadsP L s s [] ns = rndB L s ns := by rw [leadsP_eq s ns s [] .nil, List.nil_append] <;> rfl
/-- the law's look: the place and what is met -/
def lawW (L : List (Int × Int)) : Int → List Int → List Nat → Int × List Int
  | p, met, [] => (p, met)
  | p, met, k :: r => if has (tie L k) p = true then lawW L (other (tie L k) p) (met ++ [other (tie L k) p]) r else lawW L p met r
theorem lawW_le : ∀ (ns : List Nat) (p : Int) (met : List Int), (lawW L p met ns).2.length ≤ met.length + ns.length
  | [], _, _ => Nat.le_refl _
  | k :: r, p, met => by
    rw [lawW]
    split
    · have := lawW_le r (other (tie L k) p) (met ++ [other (tie L k) p])
      rw [List.length_append, List.length_singleton] at this
      rw [List.length_cons]
      omega
    · have := lawW_le r p met
      rw [List.length_cons]
      omega
theorem lawW_ok : ∀ (ns : List Nat) (p : Int) (met : List Int), okW L p ns = true → lawW L p met ns = (ed L p ns, met ++ (wk L p ns).tail)
  | [], p, met, _ => by rw [lawW, ed, wk, List.tail_cons, List.append_nil]
  | k :: r, p, met, h => by
    rw [okW, Bool.and_eq_true] at h
    rw [lawW, if_pos h.1, lawW_ok r _ _ h.2, ed, wk, List.tail_cons]
    conv => rhs; rw [wk_head r]
    rw [List.append_assoc] <;> rfl
theorem lawW_no : ∀ (ns : List Nat) (p : Int) (met : List Int), okW L p ns = false → (lawW L p met ns).2.length < met.length + ns.length
  | [], _, _, h => by cases h
  | k :: r, p, met, h => by
    rw [lawW]
    by_cases hh : has (tie L k) p = true
    · rw [okW, hh, Bool.true_and] at h
      rw [if_pos hh]
      have := lawW_no r _ (met ++ [other (tie L k) p]) h
      rw [List.length_append, List.length_singleton] at this
      rw [List.length_cons]
      omega
    · rw [if_neg hh]
      have := lawW_le (L := L) r p met
      rw [List.length_cons]
      omega
theorem law_rnd {ns : List Nat} (s : Int) (h : ns ≠ []) : (decide ((lawW L s [] ns).1 = s) && (decide ((lawW L s [] ns).2.length = ns.length) && decide (lawW L s [] ns).2.Nodup)) = rndB L s ns := by
  cases ok : okW L s ns with
  | false =>
    have := lawW_no ns s [] ok
    simp only [List.length_nil, Nat.zero_add] at this
    unfold rndB
    rw [ok, decide_eq_false (p := (lawW L s [] ns).2.length = ns.length) (by omega)]
    simp
  | true =>
    rw [lawW_ok ns s [] ok, List.nil_append]
    unfold rndB
    rw [ok, Bool.true_and]
    have hl : (wk L s ns).tail.length = ns.length := by rw [List.length_tail, wk_len] <;> rfl
    rw [decide_eq_true hl, Bool.true_and]
    by_cases he : ed L s ns = s
    · rw [decide_eq_true he, Bool.true_and, Bool.true_and]
      refine decide_eq_decide.mpr ?_
      cases ns with
      | nil => exact absurd rfl h
      | cons k r =>
        have w := wk_last (L := L) r (other (tie L k) s)
        rw [show ed L (other (tie L k) s) r = s from he] at w
        have p : (wk L s (k :: r)).tail.Perm (wk L s (k :: r)).dropLast := by
          rw [wk, List.tail_cons]
          conv => rhs; rw [wk_head r, List.dropLast_cons_cons, ← wk_head r]
          conv => lhs; rw [w]
          exact List.perm_append_comm
        exact p.nodup_iff
    · rw [decide_eq_false he] <;> rfl
/-! ### a drawn walk -/
theorem wk_drop : ∀ (j : Nat) (ns : List Nat) (s : Int), j ≤ ns.length → okW L s ns = true → (wk L s ns).drop j = wk L (ed L s (ns.take j)) (ns.drop j) ∧ okW L (ed L s (ns.take j)) (ns.drop j) = true
  | 0, _, _, _, h => ⟨rfl, h⟩
  | j + 1, [], _, h, _ => by simp at h
  | j + 1, k :: r, s, h, ok => by
    rw [okW, Bool.and_eq_true] at ok
    rw [wk, List.drop_succ_cons, List.take_succ_cons, List.drop_succ_cons, ed]
    exact wk_drop j r _ (by simpa using h) ok.2
theorem walked_ring (B : BelT L) {p0 p : Int} {ns : List Nat} {ps : List Int} (ok : okW L p0 ns = true) (w : wk L p0 ns = ps ++ [p]) (nd : ps.Nodup) (nn : ns.Nodup) (lt : ∀ k ∈ ns, k < L.length) {j : Nat} (hj : ps[j]? = some p) : ringB L (ns.drop j) = true := by
  have len : ps.length = ns.length := by
    have := congrArg List.length w
    rw [wk_len, List.length_append, List.length_singleton] at this
    omega
  have jl : j < ps.length := (List.getElem?_eq_some_iff.mp hj).1
  obtain ⟨d1, d2⟩ := wk_drop j ns p0 (by omega) ok
  have d1' := d1
  rw [w, List.drop_append_of_le_length (by omega), List.drop_eq_getElem_cons jl] at d1
  have e : ps[j] = p := by rw [List.getElem?_eq_getElem jl] at hj; exact Option.some.inj hj
  rw [e] at d1
  have es : ed L p0 (ns.take j) = p := by
    rw [wk_head] at d1
    exact (List.cons.inj d1).1.symm
  rw [es] at d1 d2
  have wl := wk_last (L := L) (ns.drop j) p
  have r : Rnd L p (ns.drop j) := by
    have q : ps.drop j ++ [p] = (wk L p (ns.drop j)).dropLast ++ [ed L p (ns.drop j)] := by rw [← wl, ← d1, List.drop_eq_getElem_cons jl, e] 
    have q1 := List.append_inj' q rfl
    refine ⟨d2, (List.cons.inj q1.2).1.symm, ?_⟩
    rw [← q1.1]
    exact (List.drop_sublist j ps).nodup nd
  refine ringB_of r ?_ ((List.drop_sublist j ns).nodup nn)
  rw [List.length_drop]
  by_cases one : ns.length - j = 1
  · have : (ns.drop j).length = 1 := by rw [List.length_drop]; exact one
    obtain ⟨k, hk⟩ := List.length_eq_one_iff.mp this
    rw [hk] at r
    have kl : k < L.length := lt k (List.mem_of_mem_drop (by rw [hk]; exact List.mem_singleton.mpr rfl))
    have b := B k kl
    have o := r.ok
    have e := r.ed
    simp only [okW, Bool.and_true] at o
    simp only [ed] at e
    have := has_iff.mp o
    unfold other at e
    omega
  · omega
theorem wk_snoc {p0 p : Int} {ns : List Nat} {ps : List Int} (ok : okW L p0 ns = true) (w : wk L p0 ns = ps ++ [p]) {k : Nat} (h : has (tie L k) p = true) : okW L p0 (ns ++ [k]) = true ∧ wk L p0 (ns ++ [k]) = (ps ++ [p]) ++ [other (tie L k) p] := by
  have wl := wk_last (L := L) ns p0
  rw [w] at wl
  have q := List.append_inj' wl rfl
  have e : ed L p0 ns = p := (List.cons.inj q.2).1.symm
  refine ⟨by rw [ok_app, ok, e, okW, h] <;> rfl, ?_⟩
  rw [wk_app, e, show (wk L p0 ns).dropLast = ps by rw [w, List.dropLast_concat], List.append_assoc] <;> rfl
end
end K0

set_option Elab.async false
set_option linter.all false
set_option maxRecDepth 100000
set_option maxHeartbeats 8000000
/-! Plain webs, rests. -/
namespace K0
open PySem PySem.Spec L2
open PyProof.Rows hiding St
/-! ### members of a row of ints -/
theorem inV_ints (k : Int) (ns : List Int) : inV (.int k) (ns.map V.int) = decide (k ∈ ns) := by
  unfold inV
  rw [List.any_map]
  induction ns with
  | nil => rfl
  | cons n ns ih =>
    rw [List.any_cons, ih]
    show ((n == k) || decide (k ∈ ns)) = decide (k ∈ n :: ns)
    by_cases h : n = k
    · subst h
      simp
    · have h' : ¬ k = n := fun z => h z.symm
      simp [h, h', List.mem_cons]
theorem flat_ints (ns : List Int) : (ns.map V.int).all flatV = true := List.all_eq_true.mpr fun v hv => by
  obtain ⟨i, _, rfl⟩ := List.mem_map.mp hv
  rfl
/-- the places that are not in ns -/
def iota (n : Nat) : List Int := (List.range n).map fun i => ((i : Nat) : Int)
def restN (n : Nat) (ns : List Int) : List Int := (iota n).filter fun i => !decide (i ∈ ns)
theorem iota_succ (n : Nat) : iota (n + 1) = iota n ++ [(n : Int)] := by
  unfold iota
  rw [List.range_succ, List.map_append] <;> rfl
theorem rest_succ (n : Nat) (ns : List Int) : restN (n + 1) ns = if (!decide ((n : Int) ∈ ns)) = true then restN n ns ++ [(n : Int)] else restN n ns := by
  unfold restN
  rw [iota_succ, List.filter_append]
  by_cases h : (n : Int) ∈ ns
  · simp [h]
  · simp [h]
theorem iota_mem {n : Nat} {i : Int} : i ∈ iota n ↔ 0 ≤ i ∧ i < n := by
  unfold iota
  rw [List.mem_map]
  constructor
  · rintro ⟨k, hk, rfl⟩
    have := List.mem_range.mp hk
    omega
  · intro h
    exact ⟨i.toNat, List.mem_range.mpr (by omega), by omega⟩
theorem iota_inc (n : Nat) : (iota n).Pairwise (· < ·) := by
  unfold iota
  exact List.pairwise_map.mpr (List.pairwise_lt_range.imp fun {a b} z => by omega)
theorem rest_mem {n : Nat} {ns : List Int} {i : Int} : i ∈ restN n ns ↔ (0 ≤ i ∧ i < n) ∧ i ∉ ns := by
  unfold restN
  rw [List.mem_filter, iota_mem]
  simp
theorem rest_lot (n : Nat) (ns : List Int) : IsLot n (restN n ns) := ⟨fun i hi => (rest_mem.mp hi).1, (iota_inc n).filter _⟩
theorem rest_len (n : Nat) (ns : List Int) : (restN n ns).length ≤ n := by
  unfold restN iota
  refine Nat.le_trans (List.length_filter_le _ _) ?_
  rw [List.length_map, List.length_range]
  exact Nat.le_refl _
theorem inc_nd {ns : List Int} (h : ns.Pairwise (· < ·)) : ns.Nodup := h.imp fun {a b} z e => by omega
theorem nd_len : ∀ {α : Type} [DecidableEq α] {M L : List α}, M.Nodup → (∀ q ∈ M, q ∈ L) → M.length ≤ L.length
  | _, _, [], L, _, _ => Nat.zero_le _
  | _, _, q :: M, L, h, s => by
    obtain ⟨h1, h2⟩ := List.pairwise_cons.mp h
    have hq := s q (List.mem_cons_self ..)
    have := nd_len (M := M) (L := L.erase q) h2 fun r hr => (List.mem_erase_of_ne (fun e => h1 r hr e.symm)).mpr (s r (List.mem_cons_of_mem _ hr))
    rw [List.length_erase_of_mem hq] at this
    have pos := List.length_pos_of_mem hq
    rw [List.length_cons]
    omega
theorem lot_len {n : Nat} {ns : List Int} (h : IsLot n ns) : ns.length ≤ n := by
  have := nd_len (L := iota n) (inc_nd h.inc) fun i hi => iota_mem.mpr (h.bel i hi)
  rwa [iota, List.length_map, List.length_range] at this
/-! ### a web without doubled ties -/
structure IsPl (L M : List (Int × Int)) : Prop where
  nd : M.Nodup
  srt : Srt M
  mem : ∀ q, q ∈ M ↔ q ∈ L
theorem pl_uniq {n : Int} {L M M' : List (Int × Int)} (hn : n ≤ 12) (hB : Bel n L) (a : IsPl L M) (b : IsPl L M') : M = M' :=
  srt_uniq hn ((List.perm_ext_iff_of_nodup a.nd b.nd).mpr fun q => (a.mem q).trans (b.mem q).symm) (hB.sub fun q z => (a.mem q).mp z) a.srt b.srt
theorem pl_self {L M : List (Int × Int)} (a : IsPl L M) : IsPl M M := ⟨a.nd, a.srt, fun _ => Iff.rfl⟩
theorem pl_two {L M M' : List (Int × Int)} (a : IsPl L M) (b : IsPl M M') : IsPl L M' := ⟨b.nd, b.srt, fun q => (b.mem q).trans (a.mem q)⟩
theorem GW.pl {H : Hp} {w w' : Addr} {n : Nat} {L M : List (Int × Int)} (g : GW H w n L) (W : Web H w' n M) (p : IsPl L M) : GW H w' n M :=
  ⟨W, g.n1, g.n2, g.bel.sub fun q z => (p.mem q).mp z, p.srt, Nat.le_trans (nd_len p.nd fun q z => (p.mem q).mp z) g.few⟩
theorem Prs.ks {H : Hp} {vs : List V} {L : List (Int × Int)} (p : Prs H vs L) : ∃ ks : List (Addr × List Int), vs = ks.map (fun e => V.ref e.1) ∧ (∀ e ∈ ks, ∃ q ∈ L, e.2 = [q.1, q.2] ∧ H e.1 = some (.tup [.int q.1, .int q.2])) ∧ (∀ q ∈ L, ∃ e ∈ ks, e.2 = [q.1, q.2]) ∧ ks.length = L.length := by
  induction p with
  | nil => exact ⟨[], rfl, (fun _ z => nomatch z), (fun _ z => nomatch z), rfl⟩
  | @cons a r vs L h t ih =>
    obtain ⟨ks, e1, e2, e3, e4⟩ := ih
    refine ⟨(a, [r.1, r.2]) :: ks, by rw [e1] <;> rfl, fun e he => ?_, fun q hq => ?_, by rw [List.length_cons, List.length_cons, e4]⟩
    · rcases List.mem_cons.mp he with rfl | he
      · exact ⟨r, List.mem_cons_self .., rfl, h⟩
      · obtain ⟨q, q1, q2⟩ := e2 e he
        exact ⟨q, List.mem_cons_of_mem _ q1, q2⟩
    · rcases List.mem_cons.mp hq with rfl | hq
      · exact ⟨_, List.mem_cons_self .., rfl⟩
      · obtain ⟨e, e1, e2⟩ := e3 q hq
        exact ⟨e, List.mem_cons_of_mem _ e1, e2⟩
theorem ks_prs {H : Hp} {L : List (Int × Int)} : ∀ {ks : List (Addr × List Int)}, (∀ e ∈ ks, ∃ q ∈ L, e.2 = [q.1, q.2] ∧ H e.1 = some (.tup [.int q.1, .int q.2])) → ∃ M : List (Int × Int), Prs H (ks.map fun e => V.ref e.1) M ∧ ks.map (·.2) = M.map fun q => [q.1, q.2]
  | [], _ => ⟨[], .nil, rfl⟩
  | e :: ks, h => by
    obtain ⟨q, _, h1, h2⟩ := h e (List.mem_cons_self ..)
    obtain ⟨M, m1, m2⟩ := ks_prs (ks := ks) fun e z => h e (List.mem_cons_of_mem _ z)
    exact ⟨q :: M, .cons h2 m1, by rw [List.map_cons, List.map_cons, h1, m2]⟩
theorem pr_inj : ∀ {a b : Int × Int}, ([a.1, a.2] : List Int) = [b.1, b.2] → a = b := fun {a b} h => by
  obtain ⟨a1, a2⟩ := a
  obtain ⟨b1, b2⟩ := b
  simp only [List.cons.injEq, and_true] at h
  rw [h.1, h.2]
def spPlainOf : Sp := fun vs H Q _ => ∃ (w : Addr) (n : Nat) (L : List (Int × Int)), vs = [.ref w] ∧ GW H w n L ∧ ∀ (w' : Addr) (M : List (Int × Int)) (H' : Hp), Same H H' → H w' = none → Web H' w' n M → IsPl L M → Q (.ref w') H'
def spPlacesBut : Sp := fun vs H Q _ => ∃ (w a : Addr) (n : Nat) (L : List (Int × Int)) (ns : List Int), vs = [.ref w, .ref a] ∧ GW H w n L ∧ TT H a (ns.map V.int) ∧ ∀ (t : Addr) (H' : Hp), Same H H' → H t = none → H' t = some (.tup ((restN n ns).map V.int)) → Q (.ref t) H'
def spIsLot : Sp := fun vs H Q _ => ∃ (w : Addr) (n : Nat) (L : List (Int × Int)) (v : V) (o : Option (List V)), vs = [.ref w, v] ∧ GW H w n L ∧ Th H v o ∧ ∀ H', Same H H' → Q (.bl (lotO n o)) H'
/-- a def of a web and a lot, that refuses what is none -/
def spLot (C : Addr) (G : Hp → Addr → Nat → List (Int × Int) → List Int → VK → Prop) : Sp := fun vs H Q E => ∃ (w : Addr) (n : Nat) (L : List (Int × Int)) (v : V) (o : Option (List V)), vs = [.ref w, v] ∧ GW H w n L ∧ Th H v o ∧
  (∀ (a : Addr) (ns : List Int), v = .ref a → o = some (ns.map V.int) → IsLot n ns → TT H a (ns.map V.int) → G H a n L ns Q) ∧ (lotO n o = false → Rz C "thing" v H E)
def gRest : Hp → Addr → Nat → List (Int × Int) → List Int → VK → Prop := fun H _ n _ ns Q => ∀ (t : Addr) (H' : Hp), Same H H' → H t = none → H' t = some (.tup ((restN n ns).map V.int)) → Q (.ref t) H'
/-- it is a lot, or refused -/
theorem th_cases {H : Hp} {v : V} {o : Option (List V)} {n : Int} (h : Th H v o) : (lotO n o = true ∧ ∃ a ns, v = .ref a ∧ o = some (ns.map V.int) ∧ IsLot n ns ∧ TT H a (ns.map V.int)) ∨ lotO n o = false := by
  cases h with
  | oth _ _ => exact .inr rfl
  | @tup a xs e _ _ =>
    cases z : lotD n xs with
    | false => exact .inr z
    | true =>
      obtain ⟨e1, e2⟩ := lot_of z
      exact .inl ⟨z, a, _, rfl, congrArg some e1, e2, e1 ▸ e⟩
section
variable {P : Program} {w0 : World} {K : PySem.W.Frag} {mg : Str → Option Value} {base : Heap}
abbrev nPlacesBut : List Str := ["web", "lot", "place"]
end
end K0

set_option Elab.async false
set_option linter.all false
set_option maxRecDepth 100000
set_option maxHeartbeats 8000000
/-! Cuts, the web within a lot and without it, ends. -/
namespace K0
open PySem PySem.Spec L2
open PyProof.Rows hiding St
/-! ### cuts -/
def crs (L : List (Int × Int)) (ns : List Int) (i : Nat) : Bool := match L[i]? with
  | some q => decide (q.1 ∈ ns) != decide (q.2 ∈ ns)
  | none => false
def cutG (L : List (Int × Int)) (ns : List Int) (i : Nat) : List Int := ((List.range i).filter (crs L ns)).map fun i => ((i : Nat) : Int)
abbrev cutN (L : List (Int × Int)) (ns : List Int) : List Int := cutG L ns L.length
theorem cut_succ (L : List (Int × Int)) (ns : List Int) (i : Nat) : cutG L ns (i + 1) = if crs L ns i = true then cutG L ns i ++ [(i : Int)] else cutG L ns i := by
  unfold cutG
  rw [List.range_succ, List.filter_append]
  cases h : crs L ns i <;> simp [h]
theorem crs_at {L : List (Int × Int)} {ns : List Int} {i : Nat} {q : Int × Int} (h : L[i]? = some q) : crs L ns i = (decide (q.1 ∈ ns) != decide (q.2 ∈ ns)) := by
  unfold crs
  rw [h]
theorem cut_len (L : List (Int × Int)) (ns : List Int) (i : Nat) : (cutG L ns i).length ≤ i := by
  unfold cutG
  rw [List.length_map]
  refine Nat.le_trans (List.length_filter_le _ _) ?_
  rw [List.length_range]
  exact Nat.le_refl _
theorem ne_bl (a b : Bool) : (!decide (V.bl a = V.bl b)) = (a != b) := by cases a <;> cases b <;> decide
/-! ### the web within a lot -/
def idx (ns : List Int) (k : Int) : Int := ((ns.idxOf k : Nat) : Int)
def both (ns : List Int) (q : Int × Int) : Bool := decide (q.1 ∈ ns) && decide (q.2 ∈ ns)
def withinL (L : List (Int × Int)) (ns : List Int) : List (Int × Int) := (L.filter (both ns)).map fun q => (idx ns q.1, idx ns q.2)
theorem within_snoc (L : List (Int × Int)) (ns : List Int) (q : Int × Int) : withinL (L ++ [q]) ns = if both ns q = true then withinL L ns ++ [(idx ns q.1, idx ns q.2)] else withinL L ns := by
  unfold withinL
  rw [List.filter_append]
  cases h : both ns q <;> simp [h]
theorem within_len (L : List (Int × Int)) (ns : List Int) : (withinL L ns).length ≤ L.length := by
  unfold withinL
  rw [List.length_map]
  exact List.length_filter_le _ _
theorem take_snoc {α : Type} {L : List α} {i : Nat} {q : α} (h : L[i]? = some q) : L.take (i + 1) = L.take i ++ [q] := by rw [List.take_add_one, h] <;> rfl
theorem rest_len_eq {n : Nat} {ns : List Int} (h : IsLot n ns) : (restN n ns).length + ns.length = n := by
  have p : (restN n ns ++ ns).Perm (iota n) := by
    refine (List.perm_ext_iff_of_nodup ?_ (inc_nd (iota_inc n))).mpr fun i => ?_
    · refine List.nodup_append.mpr ⟨inc_nd (rest_lot n ns).inc, inc_nd h.inc, fun a ha b hb e => ?_⟩
      subst e
      exact (rest_mem.mp ha).2 hb
    · rw [List.mem_append, rest_mem, iota_mem]
      constructor
      · rintro (z | z)
        · exact z.1
        · exact h.bel i z
      · intro z
        by_cases m : i ∈ ns
        · exact .inr m
        · exact .inl ⟨z, m⟩
  have := p.length_eq
  rw [List.length_append, iota, List.length_map, List.length_range] at this
  exact this
/-- the dict of the places -/
def kvA : List Int → Int → List (Key × V)
  | [], _ => []
  | k :: r, s => (Sum.inl k, .int s) :: kvA r (s + 1)
theorem kv_len : ∀ (ns : List Int) (s : Int), (kvA ns s).length = ns.length
  | [], _ => rfl
  | k :: r, s => by rw [kvA, List.length_cons, List.length_cons, kv_len]
theorem kv_val (k : Int) : ∀ (ns : List Int) (s : Int), valV (kvA ns s) (Sum.inl k) = if k ∈ ns then some (.int (s + idx ns k)) else none
  | [], _ => rfl
  | j :: r, s => by
    by_cases h : j = k
    · subst h
      rw [if_pos (List.mem_cons_self ..)]
      show valV ((Sum.inl j, .int s) :: kvA r (s + 1)) (Sum.inl j) = _
      rw [valV_pos rfl]
      unfold idx
      rw [List.idxOf_cons_self]
      simp
    · show valV ((Sum.inl j, .int s) :: kvA r (s + 1)) (Sum.inl k) = _
      rw [valV_neg (fun z => h (Sum.inl.inj z)), kv_val k r (s + 1)]
      have h' : ¬ k = j := fun z => h z.symm
      have hb : (j == k) = false := by simpa using h
      by_cases g : k ∈ r
      · rw [if_pos g, if_pos (List.mem_cons_of_mem _ g)]
        unfold idx
        rw [List.idxOf_cons, hb]
        simp only [cond_false]
        congr 2
        omega
      · rw [if_neg g, if_neg (by rw [List.mem_cons]; exact fun z => z.elim h' g)]
theorem kv_put (k : Int) (ns : List Int) (h : k ∉ ns) : putK (kvA ns 0) (Sum.inl k) (.int (ns.length : Nat)) = kvA (ns ++ [k]) 0 := by
  rw [putK_new _ (by rw [kv_val, if_neg h])]
  have e : ∀ (ms : List Int) (s : Int), kvA ms s ++ [(Sum.inl k, V.int (s + (ms.length : Nat)))] = kvA (ms ++ [k]) s := fun ms => by
    induction ms with
    | nil => intro s; simp [kvA]
    | cons m ms ih =>
      intro s
      rw [List.cons_append, kvA, kvA, List.cons_append, ← ih (s + 1), show (s + (((m :: ms).length : Nat) : Int)) = (s + 1) + (ms.length : Nat) by rw [List.length_cons]; omega]
  have := e ns 0
  rw [Int.zero_add] at this
  exact this
theorem dc_it {J : It} {n : Nat} {G : Hp → Prop} {Y : Nat → Hp → V → Hp → Prop} (w : Walk J n G Y) {g : TG} {tt : L2.TT} {tk tv : TE} {vs : List Nat} {σ : St} {H1 : Hp} {D : Addr} {Qd : Hp → Prop} (Pv : Nat → Hp → Prop) (h0 : Pv 0 (upd H1 D (.dK []))) (hG : ∀ i H, i ≤ n → Pv i H → G H)
    (hs : ∀ i x H H', i < n → Pv i H → Y i H x H' → g x (wipe σ vs) H' fun σ2 H2 => wipe σ2 vs = wipe σ vs ∧ tt σ2 H2 fun b H3 =>
      if b = true then tk σ2 H3 fun y H4 => tv σ2 H4 fun z H5 => ∃ kvs k, y = kV k ∧ H5 D = some (.dK kvs) ∧ kvs.length < sizeLine ∧ Pv (i + 1) (upd H5 D (.dK (putK kvs k z))) else Pv (i + 1) H3) (hd : ∀ H, Pv n H → Qd H) :
    ∃ W : Nat → Nat → Hp → Prop, (∃ m, W 0 m (upd H1 D (.dK []))) ∧ ∀ i m H, W i m H →
      (J.stop i H ∧ Qd H) ∨ (J.go i H ∧ ∃ Nx : Hp → Prop, (∀ H', Nx H' → ∃ m', m' < m ∧ W (i + 1) m' H') ∧ ∀ x H', J.yld i H x H' → g x (wipe σ vs) H' fun σ2 H2 => wipe σ2 vs = wipe σ vs ∧ tt σ2 H2 fun b H3 =>
        if b = true then tk σ2 H3 fun y H4 => tv σ2 H4 fun z H5 => ∃ kvs k, y = kV k ∧ H5 D = some (.dK kvs) ∧ kvs.length < sizeLine ∧ Nx (upd H5 D (.dK (putK kvs k z))) else Nx H3) := by
  refine ⟨fun i m H => m = n - i ∧ i ≤ n ∧ Pv i H, ⟨n, by simp, Nat.zero_le _, h0⟩, ?_⟩
  rintro i m H ⟨rfl, hi, p⟩
  have q := hG i H hi p
  by_cases lt : i < n
  · exact .inr ⟨w.goes i H lt q, Pv (i + 1), fun H' p' => ⟨n - (i + 1), by omega, rfl, lt, p'⟩, fun x H' y => hs i x H H' lt p (w.yields i H x H' lt q y)⟩
  · have e : i = n := by omega
    subst e
    exact .inl ⟨w.stops H q, hd H p⟩
/-- a def of a web and a lot, that refuses what is none, and may refuse a lot too -/
def spLotX (C : Addr) (G : Hp → Addr → Nat → List (Int × Int) → List Int → VK → XK → Prop) : Sp := fun vs H Q E => ∃ (w : Addr) (n : Nat) (L : List (Int × Int)) (v : V) (o : Option (List V)), vs = [.ref w, v] ∧ GW H w n L ∧ Th H v o ∧
  (∀ (a : Addr) (ns : List Int), v = .ref a → o = some (ns.map V.int) → IsLot n ns → TT H a (ns.map V.int) → G H a n L ns Q E) ∧ (lotO n o = false → Rz C "thing" v H E)
def gCut : Hp → Addr → Nat → List (Int × Int) → List Int → VK → Prop := fun H _ _ L ns Q => ∀ (t : Addr) (H' : Hp), Same H H' → H t = none → H' t = some (.tup ((cutN L ns).map V.int)) → Q (.ref t) H'
def spCutTies : Sp := fun vs H Q _ => ∃ (w a : Addr) (n : Nat) (L : List (Int × Int)) (ns : List Int), vs = [.ref w, .ref a] ∧ GW H w n L ∧ TT H a (ns.map V.int) ∧ gCut H a n L ns Q
def gIn (H : Hp) (L : List (Int × Int)) (ns : List Int) (Q : VK) : Prop := ∀ (w' : Addr) (H' : Hp), Same H H' → H w' = none → Web H' w' ns.length (withinL L ns) → Q (.ref w') H'
def gWithin (C : Addr) : Hp → Addr → Nat → List (Int × Int) → List Int → VK → XK → Prop := fun H a _ L ns Q E => (ns ≠ [] → gIn H L ns Q) ∧ (ns = [] → Rz C "thing" (.ref a) H E)
def gWithout (C : Addr) : Hp → Addr → Nat → List (Int × Int) → List Int → VK → XK → Prop := fun H a n L ns Q E => (restN n ns ≠ [] → gIn H L (restN n ns) Q) ∧ (restN n ns = [] → Rz C "thing" (.ref a) H E)
def spWebOf : Sp := fun vs H Q _ => ∃ (w a : Addr) (n : Nat) (L : List (Int × Int)) (ns : List Int), vs = [.ref w, .ref a] ∧ GW H w n L ∧ TT H a (ns.map V.int) ∧ IsLot n ns ∧ gIn H L ns Q
def spEnds (C : Addr) : Sp := fun vs H Q E => ∃ (w : Addr) (n : Nat) (L : List (Int × Int)) (v : V) (t : String), vs = [.ref w, v] ∧ GW H w n L ∧ VT H v t ∧
  (∀ (i : Nat) (q : Int × Int), v = .int i → L[i]? = some q → ∀ (a : Addr) (H' : Hp), Same H H' → H' a = some (.tup [.int q.1, .int q.2]) → Q (.ref a) H') ∧ (belowV v L.length = false → Rz C "number" v H E)
section
variable {P : Program} {w0 : World} {K : PySem.W.Frag} {mg : Str → Option Value} {base : Heap}
abbrev nCutTies : List Str := ["web", "lot", "number", "a", "b"]
end
end K0

set_option Elab.async false
set_option linter.all false
set_option maxRecDepth 100000
set_option maxHeartbeats 8000000
/-! The program's masks. -/
namespace K0
open PySem PySem.Spec L2
open PyProof.Rows hiding St
def natV (i : Nat) : V := .int (i : Int)
theorem natV_ints (l : List Nat) : l.map natV = (l.map fun i => ((i : Nat) : Int)).map V.int := by rw [List.map_map] <;> rfl
/-! ### bits of ints -/
theorem and_nat (a b : Nat) : Builtin.bitAnd (a : Int) (b : Int) = ((a &&& b : Nat) : Int) := by rw [bitAnd_pp (by omega) (by omega)] <;> rfl
theorem or_nat (a b : Nat) : Builtin.bitOr (a : Int) (b : Int) = ((a ||| b : Nat) : Int) := by rw [Bits.bitOr_pp (by omega) (by omega)] <;> rfl
theorem xor_nat (a b : Nat) : Builtin.bitXor (a : Int) (b : Int) = ((a ^^^ b : Nat) : Int) := by rw [Bits.bitXor_pp (by omega) (by omega)] <;> rfl
theorem xor_lt {a b n : Nat} (ha : a < 2 ^ n) (hb : b < 2 ^ n) : a ^^^ b < 2 ^ n := Nat.xor_lt_two_pow ha hb
def lotT (m : Nat) : Bool := decide (Builtin.Int.intBits (m : Int) ≤ 12) && decide ((List.range (Builtin.Int.intBits (m : Int))).filter m.testBit = lotN m)
theorem lot_tbl : (List.range 4096).all lotT = true := by decide +kernel
theorem lot_at {m : Nat} (h : m < 4096) : Builtin.Int.intBits (m : Int) ≤ 12 ∧ (List.range (Builtin.Int.intBits (m : Int))).filter m.testBit = lotN m := by
  have := List.all_eq_true.mp lot_tbl m (List.mem_range.mpr h)
  unfold lotT at this
  rwa [Bool.and_eq_true, decide_eq_true_eq, decide_eq_true_eq] at this
def lowT (m : Nat) : Bool := match lotN m with
  | [] => m == 0
  | r :: _ => decide (Builtin.bitAnd (m : Int) (-(m : Int)) = ((2 ^ r : Nat) : Int))
theorem low_tbl : (List.range 4096).all lowT = true := by decide +kernel
/-- the least bit -/
theorem low_at {m : Nat} (h : m < 4096) (h0 : m ≠ 0) : ∃ r, Builtin.bitAnd (m : Int) (-(m : Int)) = ((2 ^ r : Nat) : Int) ∧ m.testBit r = true ∧ (∀ i, m.testBit i = true → r ≤ i) ∧ r < 12 ∧ ∃ t, lotN m = r :: t := by
  have := List.all_eq_true.mp low_tbl m (List.mem_range.mpr h)
  unfold lowT at this
  have mem : ∀ i, i ∈ lotN m ↔ m.testBit i = true := fun i => lotN_mem h
  have inc := lotN_inc m
  split at this
  · rename_i e
    exact absurd (by simpa using this) h0
  · rename_i r t e
    rw [decide_eq_true_eq] at this
    rw [e] at inc
    have hr := (mem r).mp (by rw [e]; exact List.mem_cons_self ..)
    refine ⟨r, this, hr, fun i hi => ?_, bit_lt h hr, t, e⟩
    have := (mem i).mpr hi
    rw [e] at this
    rcases List.mem_cons.mp this with z | z
    · omega
    · exact Nat.le_of_lt ((List.pairwise_cons.mp inc).1 i z)
theorem odd_bit (m i : Nat) : ((((m / 2 ^ i) % 2 : Nat) : Int) != 0) = m.testBit i := by
  rw [Nat.testBit_eq_decide_div_mod_eq]
  rcases Nat.mod_two_eq_zero_or_one (m / 2 ^ i) with e | e <;> rw [e] <;> rfl
def rNN (f : Nat → Nat → Nat) : R2 := fun x y H Q => ∃ a b : Nat, x = .int (a : Int) ∧ y = .int (b : Int) ∧ Q (.int ((f a b : Nat) : Int)) H
section
variable {X : Cx}
theorem iop_orN : OpR X (inplaceOp .BitOr) (rNN (· ||| ·)) := fun pins s σ H x y v u Q I rx ry h => by
  obtain ⟨a, b, rfl, rfl, q⟩ := h
  exact iop_or pins s σ H _ _ v u Q I rx ry ⟨_, _, rfl, rfl, by show Q (.int (Builtin.bitOr (a : Int) (b : Int))) H; rw [or_nat]; exact q⟩
theorem iop_xorN : OpR X (inplaceOp .BitXor) (rNN (· ^^^ ·)) := fun pins s σ H x y v u Q I rx ry h => by
  obtain ⟨a, b, rfl, rfl, q⟩ := h
  exact iop_xor pins s σ H _ _ v u Q I rx ry ⟨_, _, rfl, rfl, by show Q (.int (Builtin.bitXor (a : Int) (b : Int))) H; rw [xor_nat]; exact q⟩
theorem op_xorN : OpR X (binaryOp .BitXor) (rNN (· ^^^ ·)) := fun pins s σ H x y v u Q I rx ry h => by
  obtain ⟨a, b, rfl, rfl, q⟩ := h
  exact op_xor pins s σ H _ _ v u Q I rx ry ⟨_, _, rfl, rfl, by show Q (.int (Builtin.bitXor (a : Int) (b : Int))) H; rw [xor_nat]; exact q⟩
theorem op_andN : OpR X (binaryOp .BitAnd) (rNN (· &&& ·)) := fun pins s σ H x y v u Q I rx ry h => by
  obtain ⟨a, b, rfl, rfl, q⟩ := h
  exact op_and pins s σ H _ _ v u Q I rx ry ⟨_, _, rfl, rfl, by show Q (.int (Builtin.bitAnd (a : Int) (b : Int))) H; rw [and_nat]; exact q⟩
/-- 1 << k -/
def rOneN : R2 := fun x y H Q => ∃ k : Nat, x = .int 1 ∧ y = .int (k : Int) ∧ k ≤ 1000 ∧ Q (.int ((2 ^ k : Nat) : Int)) H
theorem op_oneN : OpR X (binaryOp .LShift) rOneN := fun pins s σ H x y v u Q I rx ry h => by
  obtain ⟨k, rfl, rfl, hk, q⟩ := h
  exact op_oneShl pins s σ H _ _ v u Q I rx ry ⟨k, rfl, rfl, by omega, by show Q (.int ((2 : Int) ^ k)) H; rw [show (2 : Int) ^ k = ((2 ^ k : Nat) : Int) by rw [Int.natCast_pow] <;> rfl]; exact q⟩
/-- n & -n -/
def rLow : R2 := fun x y H Q => ∃ m : Nat, x = .int (m : Int) ∧ y = .int (-(m : Int)) ∧ m < 4096 ∧ m ≠ 0 ∧ ∀ r : Nat, m.testBit r = true → (∀ i, m.testBit i = true → r ≤ i) → r < 12 → (∃ t, lotN m = r :: t) → Q (.int ((2 ^ r : Nat) : Int)) H
theorem op_low : OpR X (binaryOp .BitAnd) rLow := fun pins s σ H x y v u Q I rx ry h => by
  obtain ⟨m, rfl, rfl, h1, h2, q⟩ := h
  obtain ⟨r, r1, r2, r3, r4, r5⟩ := low_at h1 h2
  exact op_and pins s σ H _ _ v u Q I rx ry ⟨_, _, rfl, rfl, by show Q (.int (Builtin.bitAnd (m : Int) (-(m : Int)))) H; rw [r1]; exact q r r2 r3 r4 r5⟩
end
/-- a truth, named -/
def tTru (K : PySem.W.Frag) (ta : TE) : L2.TT := fun σ H Q => ta σ H fun x H' => ∃ k, TruV K x H' k ∧ Q k H'
theorem pt_truthK {X : Cx} {a : Expr} {ta : TE} {K0 : PySem.W.Frag} (hK : X.K = K0) (ha : PE X a ta) (he : ∀ whole, isTrue a X.env whole = (do let v ← whole; standAt a.pos; holding [v] (truthy v))) : PT X a (tTru K0 ta) := hK ▸ pt_truth ha he
def spLotOf : Sp := fun vs H Q _ => ∃ m : Nat, vs = [.int (m : Int)] ∧ m < 4096 ∧ ∀ (t : Addr) (H' : Hp), Same H H' → H t = none → H' t = some (.tup ((lotN m).map natV)) → Q (.ref t) H'
def spFull : Sp := fun vs H Q _ => ∃ (w : Addr) (n : Nat) (L : List (Int × Int)), vs = [.ref w] ∧ GW H w n L ∧ Q (.int ((2 ^ n - 1 : Nat) : Int)) H
def spNear : Sp := fun vs H Q _ => ∃ (w : Addr) (n : Nat) (L : List (Int × Int)), vs = [.ref w] ∧ GW H w n L ∧ ∀ (l : Addr) (ms : List Nat) (H' : Hp), Same H H' → H l = none → H' l = some (.lst (ms.map natV)) → Near L n ms → Q (.ref l) H'
def spPart : Sp := fun vs H Q _ => ∃ (l : Addr) (m r n : Nat) (ms : List Nat) (L : List (Int × Int)), vs = [.ref l, .int (m : Int), .int ((2 ^ r : Nat) : Int)] ∧ H l = some (.lst (ms.map natV)) ∧ Near L n ms ∧ n ≤ 12 ∧ Bel n L ∧ m < 2 ^ n ∧ m.testBit r = true ∧ ∀ (p : Nat) (H' : Hp), Same H H' → IsPart L m r p → Q (.int (p : Int)) H'
def spParts : Sp := fun vs H Q _ => ∃ (l : Addr) (m n : Nat) (ms : List Nat) (L : List (Int × Int)), vs = [.ref l, .int (m : Int)] ∧ H l = some (.lst (ms.map natV)) ∧ Near L n ms ∧ n ≤ 12 ∧ Bel n L ∧ m < 2 ^ n ∧ ∀ (a : Addr) (ps : List (Nat × Nat)) (H' : Hp), Same H H' → H a = none → H' a = some (.lst (ps.map fun q => natV q.2)) → Parts L m ps → Q (.ref a) H'
section
variable {P : Program} {w0 : World} {K : PySem.W.Frag} {mg : Str → Option Value} {base : Heap}
abbrev nLotOf : List Str := ["mask", "place"]
end
end K0

set_option Elab.async false
set_option linter.all false
set_option maxRecDepth 100000
set_option maxHeartbeats 8000000
/-! Near places, parts. -/
namespace K0
open PySem PySem.Spec L2
open PyProof.Rows hiding St
theorem ixN_n {n j : Nat} (hj : j < n) : ixN n (j : Int) = some j := by
  unfold ixN
  rw [if_pos (by omega), if_pos (by omega), Int.toNat_natCast]
theorem flat_zeros : ∀ n : Nat, (List.replicate n [V.int 0]).flatten = (List.replicate n 0).map natV
  | 0 => rfl
  | n + 1 => by rw [List.replicate_succ, List.flatten_cons, flat_zeros n, List.replicate_succ, List.map_cons] <;> rfl
theorem nat_get {ms : List Nat} {i : Nat} (h : i < ms.length) : (ms.map natV)[i]? = some (natV (ms.getD i 0)) := by
  rw [List.getElem?_map, List.getD_eq_getElem?_getD, List.getElem?_eq_getElem h] <;> rfl
theorem nat_set (ms : List Nat) (i x : Nat) : (ms.map natV).set i (natV x) = (ms.set i x).map natV := List.map_set.symm
theorem nat_set' (ms : List Nat) (i : Nat) (x : Nat) : some (HO.lst ((ms.map natV).set i (.int (x : Int)))) = some (.lst ((ms.set i x).map natV)) := congrArg (fun z => some (HO.lst z)) (nat_set ..)
theorem near_lt {L : List (Int × Int)} {n : Nat} {ms : List Nat} (h : Near L n ms) (hB : Bel n L) {a : Nat} (ha : a < n) : ms.getD a 0 < 2 ^ n := by
  refine Nat.lt_pow_two_of_testBit _ fun i hi => ?_
  rw [h.bit a i ha]
  refine decide_eq_false fun z => ?_
  unfold Adj at z
  rcases z with z | z
  · have := hB _ z
    dsimp only at this
    omega
  · have := hB _ z
    dsimp only at this
    omega
theorem while_ex {c : L2.TT} {tb : TS} {D : Ends} {σ : L2.St} {H : Hp} (Pv : L2.St → Hp → Prop) (μ : L2.St → Hp → Nat) (h0 : Pv σ H)
    (hs : ∀ σ H, Pv σ H → c σ H fun b H1 => if b = true then tb { D with nx := fun σ' H' => Pv σ' H' ∧ μ σ' H' < μ σ H, ct := fun σ' H' => Pv σ' H' ∧ μ σ' H' < μ σ H, bk := D.nx } σ H1 else D.nx σ H1)
    (mono : ∀ σ H Q Q', (∀ b H1, Q b H1 → Q' b H1) → c σ H Q → c σ H Q') : ∃ W : Nat → L2.St → Hp → Prop, (∃ m, W m σ H) ∧ ∀ m σ H, W m σ H →
      c σ H fun b H1 => if b = true then ∃ N : L2.St → Hp → Prop, (∀ σ' H', N σ' H' → ∃ m', m' < m ∧ W m' σ' H') ∧ tb { D with nx := N, ct := N, bk := D.nx } σ H1 else D.nx σ H1 := while_by Pv μ h0 hs mono
/-- lots at their places -/
inductive LotsAt (H : Hp) : List V → List (Nat × Nat) → Prop
  | nil : LotsAt H [] []
  | cons {a : Addr} {q : Nat × Nat} {vs : List V} {ps : List (Nat × Nat)} (h : H a = some (.tup ((lotN q.2).map natV))) (t : LotsAt H vs ps) : LotsAt H (.ref a :: vs) (q :: ps)
theorem LotsAt.mono {H H' : Hp} {vs : List V} {ps : List (Nat × Nat)} (p : LotsAt H vs ps) (s : ∀ a x, H a = some (.tup x) → H' a = some (.tup x)) : LotsAt H' vs ps := by
  induction p with
  | nil => exact .nil
  | cons h t ih => exact .cons (s _ _ h) ih
theorem LotsAt.app {H : Hp} {vs ws : List V} {ps qs : List (Nat × Nat)} (p : LotsAt H vs ps) (q : LotsAt H ws qs) : LotsAt H (vs ++ ws) (ps ++ qs) := by
  induction p with
  | nil => exact q
  | cons h t ih => exact .cons h ih
theorem LotsAt.len {H : Hp} {vs : List V} {ps : List (Nat × Nat)} (p : LotsAt H vs ps) : vs.length = ps.length := by
  induction p with
  | nil => rfl
  | cons h t ih => rw [List.length_cons, List.length_cons, ih]
theorem LotsAt.get {H : Hp} {vs : List V} {ps : List (Nat × Nat)} (p : LotsAt H vs ps) : ∀ {i : Nat} {v : V}, vs[i]? = some v → ∃ a q, v = .ref a ∧ ps[i]? = some q ∧ H a = some (.tup ((lotN q.2).map natV)) := by
  induction p with
  | nil => intro i v h; simp at h
  | @cons a q vs ps h t ih =>
    intro i v hv
    cases i with
    | zero =>
      simp only [List.getElem?_cons_zero, Option.some.injEq] at hv
      exact ⟨a, q, hv.symm, rfl, h⟩
    | succ i =>
      simp only [List.getElem?_cons_succ] at hv ⊢
      exact ih hv
def spPartLots : Sp := fun vs H Q _ => ∃ (w : Addr) (n : Nat) (L : List (Int × Int)), vs = [.ref w] ∧ GW H w n L ∧ ∀ (t : Addr) (us : List V) (ps : List (Nat × Nat)) (H' : Hp), Same H H' → H t = none → H' t = some (.tup us) → LotsAt H' us ps → Parts L (2 ^ n - 1) ps → Q (.ref t) H'
theorem set_same {H M : Hp} {a : Addr} {o : HO} (h : H a = none) (s : Same H M) : Same H (upd M a o) := fun b u e => by rw [upd_ne (ne_of_none e h)]; exact s _ _ e
section
variable {P : Program} {w0 : World} {K : PySem.W.Frag} {mg : Str → Option Value} {base : Heap}
abbrev nNear : List Str := ["web", "near", "a", "b"]
abbrev nPart : List Str := ["near", "mask", "start", "part", "fresh", "met", "place"]
def muPart : L2.St → Hp → Nat := fun σ _ => match σ with
  | [_, _, _, some (.int p), some (.int f), _, _] => 2 * (4096 - p.toNat) + (if f = 0 then 0 else 1)
  | _ => 0
abbrev nParts : List Str := ["near", "mask", "parts", "left", "part"]
def muParts : L2.St → Hp → Nat := fun σ _ => match σ with
  | [_, _, _, some (.int l), _] => l.toNat
  | _ => 0
abbrev nPartLots : List Str := ["web", "part"]
end
end K0

set_option Elab.async false
set_option linter.all false
set_option maxRecDepth 100000
set_option maxHeartbeats 8000000
/-! Calls where nothing is being shown; calls by name; the law called. -/
namespace K0
open PySem PySem.Spec L2
open PyProof.Rows hiding St
open PySem.W (Frag)
open LamX (ExtN Tabs TabB TabS)
/-! ### defs called where nothing is being shown -/
/-- a def's promise, where nothing is being shown -/
structure FnG (P : Program) (w : World) (K : PySem.W.Frag) (mg : Str → Option Value) (base : Heap) (CX : CXT) (k : Nat) (f : Addr) (fd : FuncData) (ps : List Str) (sp : Sp) : Prop where
  len : ∀ vs H Q E, sp vs H Q E → vs.length = ps.length
  run : ∀ (A : Around) (outer : List Env) (s : Shared) (H : Hp) (args : Args) (us : List Value) (vs : List V) (Q : VK) (E : XK), A.guards = some [] → Room k A → Env0 P w K mg base A outer s H → BindsTo s fd args (ps.zip us) → Vals vs us → sp vs H Q E →
    codeAny (model P w) A (.call (.ref f) args) (CR CX outer P w H s Q E) s
/-- as Fun, its code object told -/
structure FunC (K : PySem.W.Frag) (x qual : Str) (st : Stmt) (f : Addr) (fd : FuncData) (c : Addr) : Prop where
  ex : ∃ (oc : Value) (od : Option Addr) (kV doc pm : Value) (an : Option Addr) (ct : Value) (osl : Array (Option Value)),
    fd = PySem.W.fnOf x qual (defArgs st) (defBody st) (defScope st) .none kV doc pm an (.ref c) ct ∧ K.lookup f = some ⟨oc, od, .func fd, osl⟩ ∧ PySem.W.codeIn K (.ref c) qual = true
  kp : PySem.W.keepIn K (.ref f) = true
section
variable {P : Program} {w : World} {K : PySem.W.Frag} {mg : Str → Option Value} {base : Heap}
theorem FunC.fun {x qual : Str} {st : Stmt} {f c : Addr} {fd : FuncData} (F : FunC K x qual st f fd c) : Fun K x qual st f fd :=
  let ⟨oc, od, kV, doc, pm, an, ct, osl, h⟩ := F.ex; ⟨⟨oc, od, kV, doc, pm, an, .ref c, ct, osl, h⟩, F.kp⟩
/-- at one place: the body as a term of rules -/
theorem FunC.run1 {x qual : Str} {st : Stmt} {f c : Addr} {fd : FuncData} {N ps : List Str} {k : Nat} (F : FunC K x qual st f fd c) (S : FnScope N ps (defScope st))
    {A : Around} {outer : List Env} {s : Shared} {H : Hp} {args : Args} {us : List Value} {vs : List V} {Q : VK} {E : XK} (hr : Room (k + 1) A) (e0 : Env0 P w K mg base A outer s H) (hb : BindsTo s fd args (ps.zip us)) (r : Vals vs us) (hl : vs.length = ps.length)
    (hbody : Room k (A.deeper (envOfC qual (defScope st) s.heap.objs.size f (.ref c))) → ∃ t, PSs (cxOf CX0 P w K mg base N qual (defScope st) f (.ref c) A outer s H E).nox (defBody st) t ∧ t { nx := fun _ H' => Q .non H', rt := Q } (start N vs) H) :
    codeAny (model P w) A (.call (.ref f) args) (CR CX0 outer P w H s Q E) s := by
  obtain ⟨oc, od, kV, doc, pm, an, ct, osl, rfl, lk, hcd⟩ := F.ex
  exact LamX.run_ofS lk hcd S hr e0 hb r hl fun h => let ⟨t, h1, h2⟩ := hbody h; ⟨t, h1.nox, h2⟩
theorem FunC.okG {x qual : Str} {st : Stmt} {f c : Addr} {fd : FuncData} {N ps : List Str} {k : Nat} {sp : Sp} (F : FunC K x qual st f fd c) (S : FnScope N ps (defScope st)) (len : ∀ vs H Q E, sp vs H Q E → vs.length = ps.length)
    (hbody : ∀ (A : Around) (outer : List Env) (s : Shared) (H : Hp) (vs : List V) (Q : VK) (E : XK), A.guards = some [] → Room k (A.deeper (envOfC qual (defScope st) s.heap.objs.size f (.ref c))) → sp vs H Q E →
      ∃ t, PSs (cxOf CX0 P w K mg base N qual (defScope st) f (.ref c) A outer s H E).nox (defBody st) t ∧ t { nx := fun _ H' => Q .non H', rt := Q } (start N vs) H) : FnG P w K mg base CX0 (k + 1) f fd ps sp :=
  ⟨len, fun A outer s H args us vs Q E hg hr e0 hb r hsp => F.run1 S hr e0 hb r (len _ _ _ _ hsp) fun h => hbody A outer s H vs Q E hg h hsp⟩
end
section
variable {X : Cx} {CX : CXT} {k : Nat} {f : Addr} {fd : FuncData} {ps : List Str} {sp : Sp} {E : XK} {x : Str} {p pos : Pos} {e : Expr} {es : List Expr} {t : TA}
theorem pe_callG (F : FnG X.prog X.w X.K X.mg X.base CX k f fd ps sp) (gu : X.A.guards = some []) (hr : Room k X.A) (hg : Gl X x) (hm : X.mg x = some (.ref f)) (hk : PySem.W.keepIn X.K (.ref f) = true) (hb : Binds X.K fd ps []) (hx : Passes CX X E)
    (ha : PA X (e :: es) t) (hdb : (x == ("__debug__" : Str)) = false := by decide) (he : starEach (e :: es) X.env = (false, eval e X.env) :: starEach es X.env := by rfl) (hpl : (backTo pos (starEach es X.env)).any (·.1) = false := by rfl) :
    PE X (.Call (.Name x p) (e :: es) [] pos) (tCall sp [] E t) := by
  refine ⟨fun pins s σ H Q I h => wpAny_Call_Name_kw (ld_glob I hg hm ?_ hdb)⟩
  refine PySem.W.callWith_K (h₀ := X.base) I.ok.mod.kin hk (thn (ha.run pos pins s σ H _ I h) fun us s1 ⟨vs, H1, I1, r, q⟩ => ⟨I1.kIn, ?_⟩) he hpl
  have q : sp (vs ++ []) H1 Q E := q
  rw [List.append_nil] at q
  have hl : us.length = ps.length := by rw [← r.length]; exact F.len _ _ _ _ q
  have b := hb s1 us I1.kIn (by rw [List.append_nil]; exact hl)
  rw [List.append_nil] at b
  refine wpAny_call (codeAny_mono (F.run X.A X.stack s1 H1 ⟨us, []⟩ us vs Q E gu hr I1.env0 b r q) fun r s' hq => ?_)
  match r, hq with
  | .error e, hq => exact hx pins σ H1 s1 e s' I1 hq
  | .ok (.ret u), hq => exact I1.after hq
  | .ok .next, hq => exact False.elim hq
  | .ok .brk, hq => exact False.elim hq
  | .ok .cont, hq => exact False.elim hq
/-- all by name -/
theorem pe_callN {ks : List Str} {g : List Value → List Value} {gV : List V → List V} {kws : List Keyword} {tk : TA} (F : FnOk X.prog X.w X.K X.mg X.base CX k f fd ps sp) (hr : Room k X.A) (hg : Gl X x) (hm : X.mg x = some (.ref f)) (hk : PySem.W.keepIn X.K (.ref f) = true)
    (hb : ∀ (s : Shared) (ws : List Value), ws.length = ps.length → BindsTo s fd ⟨[], ks.zip ws⟩ (ps.zip (g ws))) (hgr : ∀ {zs : List V} {ws : List Value}, Vals zs ws → Vals (gV zs) (g ws)) (hgl : ∀ zs : List V, (gV zs).length = ps.length → zs.length = ps.length) (hx : Passes CX X E)
    (hkw : PK X kws tk) (hall : (backToKw pos (keywordEach kws X.env)).all (·.1.isSome) = true := by rfl) (hks : (backToKw pos (keywordEach kws X.env)).filterMap (·.1) = ks := by rfl) (hdb : (x == ("__debug__" : Str)) = false := by decide)
    (hpl : ((backTo pos (starEach [] X.env)).any (·.1) || (backToKw pos (keywordEach kws X.env)).any (·.1.isNone)) = false := by rfl) :
    PE X (.Call (.Name x p) [] kws pos) (fun σ H Q => tk σ H fun zs H2 => sp (gV zs) H2 Q E) := by
  refine ⟨fun pins s σ H Q I h => wpAny_Call_Name_kw (ld_glob I hg hm ?_ hdb)⟩
  refine PySem.W.callWith_KW0 (h₀ := X.base) I.ok.mod.kin hk hall (thn (hkw.run pos pins s σ H _ I h) fun ws s2 ⟨zs, H2, I2, rz, q2⟩ => ⟨I2.kIn, ?_⟩) hpl
  rw [hks]
  have q2 : sp (gV zs) H2 Q E := q2
  have hl := F.len _ _ _ _ q2
  have lz := hgl zs hl
  refine wpAny_call (codeAny_mono (F.run X.A X.stack s2 H2 ⟨[], ks.zip ws⟩ (g ws) (gV zs) Q E hr I2.env0 (hb s2 ws (by rw [← rz.length]; exact lz)) (hgr rz) q2) fun r s' hq => ?_)
  match r, hq with
  | .error e, hq => exact hx pins σ H2 s2 e s' I2 hq
  | .ok (.ret u), hq => exact I2.after hq
  | .ok .next, hq => exact False.elim hq
  | .ok .brk, hq => exact False.elim hq
  | .ok .cont, hq => exact False.elim hq
end
/-! ### calls by name -/
def Kw1 (fd : FuncData) (k : Str) : Prop := ∀ (s : Shared) (a : Value), BindsTo s fd ⟨[], [(k, a)]⟩ [(k, a)]
/-- two parameters, by name: in their order, and in the other one -/
def Kw2 (fd : FuncData) (k1 k2 : Str) : Prop := ∀ (s : Shared) (a b : Value), BindsTo s fd ⟨[], [(k1, a), (k2, b)]⟩ [(k1, a), (k2, b)] ∧ BindsTo s fd ⟨[], [(k2, b), (k1, a)]⟩ [(k1, a), (k2, b)]
def rev2 {α : Type} : List α → List α
  | [a, b] => [b, a]
  | _ => []
section
variable {X : Cx} {CX : CXT} {k : Nat} {f : Addr} {fd : FuncData} {sp : Sp} {E : XK} {x k1 k2 : Str} {p pos q1 q2 : Pos} {e1 e2 : Expr} {t1 t2 : TE}
theorem pe_kw1 (F : FnOk X.prog X.w X.K X.mg X.base CX k f fd [k1] sp) (hr : Room k X.A) (hg : Gl X x) (hm : X.mg x = some (.ref f)) (hk : PySem.W.keepIn X.K (.ref f) = true) (hb : Kw1 fd k1) (hx : Passes CX X E) (h1 : PE X e1 t1)
    (hdb : (x == ("__debug__" : Str)) = false := by decide) : PE X (.Call (.Name x p) [] [⟨some k1, e1, q1⟩] pos) (fun σ H Q => t1 σ H fun v H1 => sp [v] H1 Q E) := by
  have h := pe_callN (p := p) (pos := pos) (ks := [k1]) (g := id) (gV := id) F hr hg hm hk (fun s ws hl => match ws, hl with | [a], _ => hb s a) (fun h => h) (fun zs h => h) hx (pk_cons (kpos := q1) (nm := some k1) h1 pk_nil) (by rfl) (by rfl) hdb (by rfl)
  exact ⟨fun pins s σ H Q I z => h.run pins s σ H Q I z⟩
theorem pe_kw2 (F : FnOk X.prog X.w X.K X.mg X.base CX k f fd [k1, k2] sp) (hr : Room k X.A) (hg : Gl X x) (hm : X.mg x = some (.ref f)) (hk : PySem.W.keepIn X.K (.ref f) = true) (hb : Kw2 fd k1 k2) (hx : Passes CX X E) (h1 : PE X e1 t1) (h2 : PE X e2 t2)
    (hdb : (x == ("__debug__" : Str)) = false := by decide) : PE X (.Call (.Name x p) [] [⟨some k1, e1, q1⟩, ⟨some k2, e2, q2⟩] pos) (fun σ H Q => t1 σ H fun u H1 => t2 σ H1 fun v H2 => sp [u, v] H2 Q E) := by
  have h := pe_callN (p := p) (pos := pos) (ks := [k1, k2]) (g := id) (gV := id) F hr hg hm hk (fun s ws hl => match ws, hl with | [a, b], _ => (hb s a b).1) (fun h => h) (fun zs h => h) hx (pk_cons (kpos := q1) (nm := some k1) h1 (pk_cons (kpos := q2) (nm := some k2) h2 pk_nil)) (by rfl) (by rfl) hdb (by rfl)
  exact ⟨fun pins s σ H Q I z => h.run pins s σ H Q I z⟩
theorem pe_kw2r (F : FnOk X.prog X.w X.K X.mg X.base CX k f fd [k1, k2] sp) (hr : Room k X.A) (hg : Gl X x) (hm : X.mg x = some (.ref f)) (hk : PySem.W.keepIn X.K (.ref f) = true) (hb : Kw2 fd k1 k2) (hx : Passes CX X E) (h2 : PE X e2 t2) (h1 : PE X e1 t1)
    (hdb : (x == ("__debug__" : Str)) = false := by decide) : PE X (.Call (.Name x p) [] [⟨some k2, e2, q2⟩, ⟨some k1, e1, q1⟩] pos) (fun σ H Q => t2 σ H fun v H1 => t1 σ H1 fun u H2 => sp [u, v] H2 Q E) := by
  have h := pe_callN (p := p) (pos := pos) (ks := [k2, k1]) (g := rev2) (gV := rev2) F hr hg hm hk (fun s ws hl => match ws, hl with | [b, a], _ => (hb s a b).2)
    (fun {zs ws} h => match zs, ws, h with | _, _, .nil => .nil | _, _, .cons _ .nil => .nil | _, _, .cons r (.cons r2 .nil) => .cons r2 (.cons r .nil) | _, _, .cons _ (.cons _ (.cons _ _)) => .nil)
    (fun zs h => match zs, h with | [_, _], _ => rfl) hx (pk_cons (kpos := q2) (nm := some k2) h2 (pk_cons (kpos := q1) (nm := some k1) h1 pk_nil)) (by rfl) (by rfl) hdb (by rfl)
  exact ⟨fun pins s σ H Q I z => h.run pins s σ H Q I z⟩
end
/-! ### the law at the place from which it is called -/
section
variable {P : Program} {w : World} {K : Frag} {mg mb : Str → Option Value} {k : Nat} {fa a c0 : Addr} {fd : FuncData} {x name qual : Str} {st : Stmt} {N : List Str} {s₁ : Shared} {vs : List Value} {ns : List Int} {cs : List (Addr × Addr)}
/-- a code object and its empty table -/
def Tbl (K : Frag) (h : Heap) (p : Addr × Addr) : Prop := K.lookup p.2 = none ∧ PySem.W.CodeHd h p.1 p.2 ∧ h.get? p.2 = some (PySem.W.tabObj #[])
def HasMain (mg : Str → Option Value) (h : Heap) : Prop := ∃ (bm : Addr) (ob : Obj), mg "__builtins__" = some (.ref bm) ∧ bm ≠ builtinsNs ∧ h.get? bm = some ob ∧ ob.cls = .type "module" ∧ ob.dict = some builtinsNs ∧ ob.data = .plain
theorem law_outT (F : FunC K name qual st fa fd c0) (S : FnScope N [x] (defScope st)) (KX : K.In s₁.heap) (hns : s₁.heap.Ns mainGlobals mg) (hb : s₁.heap.Ns builtinsNs mb) (hbb : ∀ x : Str, x ≠ "__name__" → mb x = bootBuiltins x) (hlim : s₁.heap.NoLimit) (hg : s₁.gens = #[]) (hm : HasMain mg s₁.heap)
    (tabs : ∀ p ∈ cs, Tbl K s₁.heap p) (ha : s₁.heap.get? a = some { cls := .type "list", data := .seq vs.toArray }) (hi : IntsAre vs ns) (hl : ns.length ≤ sizeLine) (hr : Room (k + 1) callerA) (hbind : ∀ (s : Shared) (u : Value), BindsTo s fd ⟨[u], []⟩ [(x, u)])
    (body : ∀ (base : Heap) (H : Hp) (s : Shared), K.In base → base.Ns mainGlobals mg → (∀ p ∈ cs, TabB base mg p.1 p.2) → (∀ p ∈ cs, H p.2 = some (.tbl #[])) → SqL K H a (ns.map V.int) → Room k (callerA.deeper (envOfC qual (defScope st) s.heap.objs.size fa (.ref c0))) →
      ∃ t, PSs (cxOf CX0 P w K mg base N qual (defScope st) fa (.ref c0) callerA [] s H (fun _ _ _ => False)).nox (defBody st) t ∧ t { nx := fun _ H' => (V.non = .bl true : Prop), rt := fun v _ => v = .bl true } (start N [.ref a]) H) :
    codeAny (model P w) callerA (.call (.ref fa) ⟨[.ref a], []⟩) (fun r s' => r = .ok (.ret (.bool true)) ∧ OldK s₁.heap s'.heap ∧ s'.os = s₁.os ∧ AllBare s'.gens) s₁ := by
  -- over any abstract heap that tracks the script at most, and the tables
  have go : ∀ H : Hp, SqL K H a (ns.map V.int) → (∀ p ∈ cs, H p.2 = some (.tbl #[])) → HOk P w H s₁.heap → (∀ b u, H b = some u → (b = a ∧ K.lookup a = none ∧ ∃ o ys, u = .frz o (.lst ys)) ∨ ∃ p ∈ cs, b = p.2 ∧ u = .tbl #[]) →
      codeAny (model P w) callerA (.call (.ref fa) ⟨[.ref a], []⟩) (fun r s' => r = .ok (.ret (.bool true)) ∧ OldK s₁.heap s'.heap ∧ s'.os = s₁.os ∧ AllBare s'.gens) s₁ := by
    intro H hS hT hok only
    have free : ∀ {b : Addr} {o : Obj}, s₁.heap.get? b = some o → (∀ ys n, o.data ≠ .seq ys n) → o.data ≠ .fields #[] → H b = none := fun {b o} e n1 n2 => by
      cases q : H b with
      | none => rfl
      | some u =>
        rcases only b u q with ⟨z, _⟩ | ⟨p, hp, z, _⟩
        · rw [z, ha] at e
          cases e
          exact (n1 _ _ rfl).elim
        · rw [z, (tabs p hp).2.2] at e
          cases e
          exact (n2 rfl).elim
    have low : ∀ {b : Addr} {m : Str → Option Value}, s₁.heap.Ns b m → (hidT s₁.heap H).Ns b m := fun {b m} ⟨o, es, ep, e, d, r⟩ => ⟨o, es, ep, hidT_get e (free e (fun _ _ z => by rw [d] at z; cases z) fun z => by rw [d] at z; cases z), d, r⟩
    have KB : K.In (hidT s₁.heap H) := fun b o e => hidT_get (KX b o e) (by
      cases q : H b with
      | none => rfl
      | some u =>
        rcases only b u q with ⟨z, n, _⟩ | ⟨p, hp, z, _⟩
        · rw [z, n] at e
          cases e
        · rw [z, (tabs p hp).1] at e
          cases e)
    have TB : ∀ p ∈ cs, TabB (hidT s₁.heap H) mg p.1 p.2 := fun p hp => by
      obtain ⟨_, hC, hP⟩ := tabs p hp
      refine ⟨?_, ?_, fun z => ?_⟩
      · obtain ⟨o, us, i1, i2, i3, i4, i5, i6, i7, g1, g2, g3, g4, gs⟩ := hC
        refine ⟨o, us, i1, i2, i3, i4, i5, i6, i7, hidT_get g1 (free g1 (fun _ _ z => by rw [g3] at z; cases z) fun z => ?_), g2, g3, g4, gs⟩
        rw [g3] at z
        cases z
        simp at g4
      · obtain ⟨bm, ob, y1, y2, y3, y4, y5, y6⟩ := hm
        refine ⟨bm, ob, y1, y2, fun z => ?_, fun z => ?_, hidT_get y3 (free y3 (fun _ _ z => by rw [y6] at z; cases z) fun z => by rw [y6] at z; cases z), y4, y5, y6⟩
        · obtain ⟨o, es, ep, e, hd, _⟩ := hns
          rw [z, e] at y3
          cases y3
          rw [hd] at y6
          cases y6
        · rw [z, hP] at y3
          cases y3
          cases y6
      · obtain ⟨o, es, ep, e, hd, _⟩ := hns
        rw [z, hP] at e
        cases e
        cases hd
    have e0 : Env0 P w K mg (hidT s₁.heap H) callerA [] s₁ H := ⟨rfl, ⟨KB, low hns, ⟨mb, low hb, hbb⟩, hlim.imp fun mc z => ⟨low z.1, z.2⟩⟩, fun b o e => of_hidT e, Nat.le_of_eq (hidT_size _ _), trivial, fun b z => absurd z List.not_mem_nil, hok, .of_eq hg⟩
    refine codeAny_mono (F.run1 (Q := fun v _ => v = .bl true) (E := fun _ _ _ => False) (us := [.ref a]) (vs := [.ref a]) S hr e0 (hbind s₁ (.ref a)) (.cons rfl .nil) rfl fun hr' => body _ H s₁ KB (low hns) TB hT hS hr') fun r s' z => ?_
    match r, z with
    | .ok (.ret u), z =>
      obtain ⟨v, H', os, bare, un, ok', r', q⟩ := z
      have q' : v = .bl true := q
      subst q'
      obtain rfl : u = Value.bool true := r'
      have stays : ∀ b o, s₁.heap.get? b = some o → s'.heap.get? b = some o ∨ ∃ p ∈ cs, b = p.2 := fun b o e => by
        cases q : H b with
        | none => exact .inl (un.keep b o e q (fun y => absurd y List.not_mem_nil) (fun y => absurd y List.not_mem_nil))
        | some u =>
          rcases only b u q with ⟨_, _, ob, ys, rfl⟩ | ⟨p, hp, z, _⟩
          · have y1 := (hok b _ q).1
            rw [e] at y1
            cases y1
            exact .inl (ok' b _ (un.frzs b o _ q)).1
          · exact .inr ⟨p, hp, z⟩
      have grown : ∀ p ∈ cs, ∃ more : Array Value, s'.heap.get? p.2 = some (PySem.W.tabObj more) := fun p hp => (un.tbls p.2 #[] (hT p hp)).elim fun _ z => ⟨_, ok' p.2 _ z⟩
      refine ⟨rfl, ⟨fun b o e => ?_, fun b o e => ?_⟩, os, bare⟩
      · rcases stays b o e with z | ⟨p, hp, rfl⟩
        · exact .inl z
        · obtain ⟨_, hC, hP⟩ := tabs p hp
          rw [hP] at e
          cases e
          obtain ⟨more, hmore⟩ := grown p hp
          exact .inr (.inl ⟨(hC.tab hP).isCodeTable, rfl, #[], more, rfl, hmore.trans (by rw [Array.empty_append])⟩)
      · rcases stays b o e with z | ⟨p, hp, rfl⟩
        · exact ⟨o, z⟩
        · exact (grown p hp).imp' _ fun _ z => z
    | .ok .next, z => exact z.elim
    | .ok .brk, z => exact z.elim
    | .ok .cont, z => exact z.elim
    | .error _, z => exact False.elim z
  have rv := vals_ints hi
  have isT : ∀ p ∈ cs, ¬ a = p.2 := fun p hp z => by
    have e := (tabs p hp).2.2
    rw [← z, ha] at e
    cases e
  let isTab : Addr → Bool := fun b => cs.any fun p => p.2 == b
  have tabY : ∀ p ∈ cs, isTab p.2 = true := fun p hp => List.any_eq_true.mpr ⟨p, hp, beq_self_eq_true _⟩
  have tabN : ∀ b, isTab b = true → ∃ p ∈ cs, b = p.2 := fun b z => by
    obtain ⟨p, hp, e⟩ := List.any_eq_true.mp z
    exact ⟨p, hp, (beq_iff_eq.mp e).symm⟩
  cases hk : K.lookup a with
  | some o =>
    have e := KX a o hk
    rw [ha] at e
    cases e
    have look : ∀ {b : Addr} {u : HO}, (if isTab b = true then some (HO.tbl #[]) else none) = some u → ∃ p ∈ cs, b = p.2 ∧ u = .tbl #[] := fun {b u} z => by
      by_cases h : isTab b = true
      · rw [if_pos h] at z
        obtain ⟨p, hp, q⟩ := tabN b h
        exact ⟨p, hp, q, (Option.some.inj z).symm⟩
      · rw [if_neg h] at z
        cases z
    refine go (fun b => if isTab b = true then some (.tbl #[]) else none) (.inr ⟨_, vs.toArray, _, hk, rfl, rfl, rfl, by rw [List.size_toArray, hi.length]; exact hl, by simpa using rv⟩) (fun p hp => if_pos (tabY p hp)) (fun b u z => ?_) fun b u z => .inr (look z)
    obtain ⟨p, hp, rfl, rfl⟩ := look z
    exact (tabs p hp).2.2
  | none =>
    have look : ∀ {b : Addr} {u : HO}, (if b = a then some (HO.frz { cls := .type "list", data := .seq vs.toArray } (.lst (ns.map V.int))) else if isTab b = true then some (HO.tbl #[]) else none) = some u → (b = a ∧ u = .frz { cls := .type "list", data := .seq vs.toArray } (.lst (ns.map V.int))) ∨ ∃ p ∈ cs, b = p.2 ∧ u = .tbl #[] := fun {b u} z => by
      by_cases h : b = a
      · rw [if_pos h] at z
        exact .inl ⟨h, (Option.some.inj z).symm⟩
      · rw [if_neg h] at z
        by_cases h2 : isTab b = true
        · rw [if_pos h2] at z
          obtain ⟨p, hp, q⟩ := tabN b h2
          exact .inr ⟨p, hp, q, (Option.some.inj z).symm⟩
        · rw [if_neg h2] at z
          cases z
    refine go (fun b => if b = a then some (.frz { cls := .type "list", data := .seq vs.toArray } (.lst (ns.map V.int))) else if isTab b = true then some (.tbl #[]) else none) (.inl (.inr ⟨_, if_pos rfl⟩)) (fun p hp => (if_neg fun z => isT p hp z.symm).trans (if_pos (tabY p hp))) (fun b u z => ?_) fun b u z => (look z).imp (fun y => ⟨y.1, hk, _, _, y.2⟩) id
    rcases look z with ⟨rfl, rfl⟩ | ⟨p, hp, rfl, rfl⟩
    · exact ⟨ha, by rw [List.length_map]; exact hl, vs, _, rv, ha⟩
    · exact (tabs p hp).2.2
end
end K0

set_option Elab.async false
set_option linter.all false
set_option maxRecDepth 100000
set_option maxHeartbeats 4000000
/-! Lines of a text, words of a line; what a line tells. -/
namespace K0
open PySem PySem.Spec L2
open PyProof.Rows hiding St
/-! ### a sum over parts -/
structure Adds (φ : List Nat → Nat) : Prop where
  nil : φ [] = 0
  app : ∀ a b, φ (a ++ b) = φ a + φ b
theorem adds_len : Adds List.length := ⟨rfl, fun a b => List.length_append⟩
theorem adds_nl : Adds (List.count 10) := ⟨rfl, fun a b => List.count_append⟩
theorem joinL_sum {φ : List Nat → Nat} (h : Adds φ) (S : List Nat) : ∀ {ps : List (List Nat)}, ps ≠ [] → φ (TL.joinL S ps) + φ S = (ps.map fun p => φ p + φ S).sum
  | [], n => absurd rfl n
  | [p], _ => by simp [TL.joinL]
  | p :: q :: r, _ => by
    have ih := joinL_sum h S (ps := q :: r) (by simp)
    show φ (p ++ (S ++ TL.joinL S (q :: r))) + φ S = _
    rw [h.app, h.app, List.map_cons, List.sum_cons, ← ih]
    omega
/-! ### cut and joined -/
theorem spl_ne (S : List Nat) : ∀ (k : Nat) (acc l : List Nat), TL.spl S k acc l ≠ []
  | k, acc, [] => by rw [TL.spl_nil]; simp
  | 0, acc, c :: r => by
    unfold TL.spl
    split
    · simp
    · exact spl_ne S 0 _ r
  | k + 1, acc, c :: r => by
    show TL.spl S k acc r ≠ []
    exact spl_ne S k acc r
theorem joinL_cons (S p : List Nat) {l : List (List Nat)} (h : l ≠ []) : TL.joinL S (p :: l) = p ++ (S ++ TL.joinL S l) := by
  cases l with
  | nil => exact absurd rfl h
  | cons q r => rfl
theorem join_spl (s : Nat) : ∀ (l acc : List Nat), TL.joinL [s] (TL.spl [s] 0 acc l) = acc ++ l
  | [], acc => by rw [TL.spl_nil]; simp [TL.joinL]
  | c :: r, acc => by
    by_cases h : c = s
    · subst h
      rw [TL.spl_hit (show TL.pre [c] (c :: r) = true from TL.pre_self [c] r)]
      rw [joinL_cons _ _ (spl_ne _ _ _ _)]
      show acc ++ ([c] ++ TL.joinL [c] (TL.spl [c] 0 [] r)) = _
      rw [join_spl c r []]
      simp
    · rw [TL.spl_miss (TL.pre_of_head [] r h), join_spl s r]
      simp
/-- one plain sign -/
structure One (y : Str) (s : Nat) : Prop where
  tl : TL.tl y = [s]
  low : y.cps.all (· < 256) = true
theorem one_nl : One "\n" 10 := ⟨by decide +kernel, by decide +kernel⟩
theorem one_sp : One " " 32 := ⟨by decide +kernel, by decide +kernel⟩
theorem One.len {y : Str} {s : Nat} (o : One y s) : y.length = 1 := by rw [TL.len_tl, o.tl]; rfl
theorem One.spl {y : Str} {s : Nat} (o : One y s) (x : Str) : (Txt.split x y).map TL.tl = TL.spl [s] 0 [] (TL.tl x) := by
  rw [TL.split_spl x y (by rw [o.tl]; simp) (TL.kind_ok o.low), o.tl]
theorem One.back {y : Str} {s : Nat} (o : One y s) (x : Str) : Txt.join y (Txt.split x y) = x := by
  refine TL.ext_tl ?_
  rw [TL.join_eq, TL.tl_join, o.spl, o.tl, join_spl, List.nil_append]
theorem One.ne {y : Str} {s : Nat} (o : One y s) (x : Str) : Txt.split x y ≠ [] := fun e => by
  have h := o.spl x
  rw [e] at h
  exact spl_ne _ _ _ _ h.symm
theorem One.read {y : Str} {s : Nat} (o : One y s) {ps : List Str} (h : ps ≠ []) (hp : ∀ p ∈ ps, s ∉ TL.tl p) : Txt.split (Txt.join y ps) y = ps := TL.split_join o.tl o.low h hp
/-! ### how long, how many line feeds -/
abbrev nls (x : Str) : Nat := (TL.tl x).count 10
abbrev wide (ls : List Str) : Nat := (ls.map fun l => l.length + 1).sum
abbrev many (ls : List Str) : Nat := (ls.map fun l => nls l + 1).sum
theorem One.join_len {y : Str} {s : Nat} (o : One y s) {ps : List Str} (h : ps ≠ []) : (Txt.join y ps).length + 1 = wide ps := by
  have q := joinL_sum adds_len [s] (ps := ps.map TL.tl) (by simpa using h)
  rw [TL.len_tl, TL.join_eq, TL.tl_join, o.tl]
  rw [List.map_map] at q
  rw [show ([s] : List Nat).length = 1 from rfl] at q
  rw [q]
  unfold wide
  congr 1
theorem nl_join {ps : List Str} (h : ps ≠ []) : nls (Txt.join "\n" ps) + 1 = many ps := by
  have q := joinL_sum adds_nl [10] (ps := ps.map TL.tl) (by simpa using h)
  unfold nls
  rw [TL.join_eq, TL.tl_join, one_nl.tl]
  rw [List.map_map] at q
  exact q
theorem nl_words {ps : List Str} (h : ps ≠ []) : nls (Txt.join " " ps) = (ps.map nls).sum := by
  have q := joinL_sum adds_nl [32] (ps := ps.map TL.tl) (by simpa using h)
  unfold nls
  rw [TL.join_eq, TL.tl_join, one_sp.tl]
  rw [List.map_map] at q
  exact q
theorem split_many (x : Str) : (Txt.split x "\n").length ≤ nls x + 1 := by
  have e := nl_join (one_nl.ne x)
  rw [one_nl.back] at e
  rw [e]
  unfold many
  generalize Txt.split x "\n" = ls
  induction ls with
  | nil => exact Nat.zero_le _
  | cons l ls ih => simp only [List.map_cons, List.sum_cons, List.length_cons]; omega
theorem sum_len_le {c : Nat} : ∀ {ls : List Str}, (∀ l ∈ ls, l.length ≤ c) → (ls.map (·.length)).sum ≤ c * ls.length
  | [], _ => Nat.zero_le _
  | l :: ls, h => by
    have i := sum_len_le (c := c) (ls := ls) fun x hx => h x (List.mem_cons_of_mem _ hx)
    have j := h l (List.mem_cons_self ..)
    simp only [List.map_cons, List.sum_cons, List.length_cons, Nat.mul_succ]
    omega
theorem emp_app (x : Str) : Str.empty ++ x = x := TL.ext_tl (by rw [TL.tl_append]; rfl)
theorem app_len (x y : Str) : (x ++ y).length = x.length + y.length := by rw [TL.len_tl, TL.tl_append, List.length_append, ← TL.len_tl, ← TL.len_tl]
/-! ### rows changed at a place -/
theorem sum_set {α : Type} (f : α → Nat) : ∀ (l : List α) (i : Nat) (w : α), ((l.set i w).map f).sum ≤ (l.map f).sum + f w
  | [], i, w => by simp
  | a :: l, 0, w => by simp only [List.set_cons_zero, List.map_cons, List.sum_cons]; omega
  | a :: l, i + 1, w => by
    have := sum_set f l i w
    simp only [List.set_cons_succ, List.map_cons, List.sum_cons]
    omega
theorem sum_ins {α : Type} (f : α → Nat) (l : List α) (i : Nat) (w : α) : ((l.take i ++ [w] ++ l.drop i).map f).sum = (l.map f).sum + f w := by
  have e : (l.map f).sum = ((l.take i).map f).sum + ((l.drop i).map f).sum := by
    rw [← List.sum_append, ← List.map_append, List.take_append_drop]
  simp only [List.map_append, List.sum_append, List.map_cons, List.map_nil, List.sum_cons, List.sum_nil]
  omega
theorem sum_out {α : Type} (f : α → Nat) : ∀ (l : List α) (i : Nat), ((l.eraseIdx i).map f).sum ≤ (l.map f).sum
  | [], i => by simp
  | a :: l, 0 => by simp
  | a :: l, i + 1 => by
    have := sum_out f l i
    simp only [List.eraseIdx_cons_succ, List.map_cons, List.sum_cons]
    omega
theorem sum_rev {α : Type} (f : α → Nat) (l : List α) : (l.reverse.map f).sum = (l.map f).sum := by
  rw [List.map_reverse, List.sum_reverse]
theorem sum_get {α : Type} (f : α → Nat) : ∀ {l : List α} {i : Nat} {w : α}, l[i]? = some w → f w ≤ (l.map f).sum
  | [], i, w, h => by simp at h
  | a :: l, 0, w, h => by
    simp only [List.getElem?_cons_zero, Option.some.injEq] at h
    subst h
    simp only [List.map_cons, List.sum_cons]
    omega
  | a :: l, i + 1, w, h => by
    have := sum_get f (l := l) (i := i) (by simpa using h)
    simp only [List.map_cons, List.sum_cons]
    omega
theorem sum_swap {α : Type} (f : α → Nat) {l : List α} {i j : Nat} {x y : α} (hx : l[i]? = some x) (hy : l[j]? = some y) : (((l.set i y).set j x).map f).sum = (l.map f).sum := by
  obtain ⟨hi, rfl⟩ := List.getElem?_eq_some_iff.mp hx
  obtain ⟨hj, rfl⟩ := List.getElem?_eq_some_iff.mp hy
  exact ((List.set_set_perm hi hj).map f).sum_nat
end K0

set_option Elab.async false
set_option linter.all false
set_option maxRecDepth 100000
set_option maxHeartbeats 4000000
/-! What a text tells, line by line. -/
namespace K0
open PySem PySem.Spec L2
open PyProof.Rows hiding St
/-- the first line of a web of n places -/
def hd (n : Int) : Str := ("places " : Str) ++ ((toString n : String) : Str)
/-- the line of a tie -/
def pr (q : Int × Int) : Str := ((toString q.1 : String) : Str) ++ (" " : Str) ++ ((toString q.2 : String) : Str)
def numS (l : List Nat) : Int := l.foldl (fun (a : Int) (c : Nat) => 10 * a + ((c : Int) - 48)) 0
def decP (s : Str) : Int × Int := (numS ((TL.tl s).takeWhile (· != 32)), numS (((TL.tl s).dropWhile (· != 32)).drop 1))
def decH (s : Str) : Int := numS ((TL.tl s).drop 7)
theorem pr_fin : ∀ a : Fin 12, ∀ b : Fin 12, decP (pr ((a.val : Int), (b.val : Int))) = ((a.val : Int), (b.val : Int)) ∧ (TL.tl (pr ((a.val : Int), (b.val : Int)))).count 10 = 0 ∧ (pr ((a.val : Int), (b.val : Int))).length ≤ 5 := by decide +kernel
theorem hd_fin : ∀ n : Fin 13, decH (hd (n.val : Int)) = (n.val : Int) ∧ (TL.tl (hd (n.val : Int))).count 10 = 0 ∧ (hd (n.val : Int)).length ≤ 9 := by decide +kernel
theorem pr_facts {q : Int × Int} (h : 0 ≤ q.1 ∧ q.1 < q.2 ∧ q.2 < 12) : decP (pr q) = q ∧ nls (pr q) = 0 ∧ (pr q).length ≤ 5 := by
  obtain ⟨a, b⟩ := q
  obtain ⟨h0, h1, h2⟩ := h
  dsimp only at h0 h1 h2
  have z := pr_fin ⟨a.toNat, by omega⟩ ⟨b.toNat, by omega⟩
  have ea : ((a.toNat : Nat) : Int) = a := by omega
  have eb : ((b.toNat : Nat) : Int) = b := by omega
  simp only [ea, eb] at z
  exact z
theorem hd_facts {n : Int} (h0 : 0 ≤ n) (h1 : n ≤ 12) : decH (hd n) = n ∧ nls (hd n) = 0 ∧ (hd n).length ≤ 9 := by
  have z := hd_fin ⟨n.toNat, by omega⟩
  have e : ((n.toNat : Nat) : Int) = n := by omega
  simp only [e] at z
  exact z
theorem no_nl {x : Str} (h : nls x = 0) : 10 ∉ TL.tl x := List.count_eq_zero.mp h
/-- the tie that a line tells -/
def lineP (n : Int) (s : Str) : Option (Int × Int) := if (0 ≤ (decP s).1 ∧ (decP s).1 < (decP s).2 ∧ (decP s).2 < n) ∧ pr (decP s) = s then some (decP s) else none
theorem lineP_some {n : Int} {s : Str} {q : Int × Int} (hn : n ≤ 12) : lineP n s = some q ↔ (0 ≤ q.1 ∧ q.1 < q.2 ∧ q.2 < n) ∧ s = pr q := by
  unfold lineP
  constructor
  · intro h
    split at h
    · rename_i c
      cases h
      exact ⟨c.1, c.2.symm⟩
    · cases h
  · rintro ⟨h, rfl⟩
    rw [(pr_facts ⟨h.1, h.2.1, by omega⟩).1, if_pos ⟨h, rfl⟩]
theorem lineT_inj {p q : Int × Int} (hp : 0 ≤ p.1 ∧ p.1 < p.2 ∧ p.2 < 12) (hq : 0 ≤ q.1 ∧ q.1 < q.2 ∧ q.2 < 12) (e : pr p = pr q) : p = q := by
  rw [← (pr_facts hp).1, e, (pr_facts hq).1]
theorem lineH_inj {m n : Int} (hm : 0 ≤ m ∧ m ≤ 12) (hn : 0 ≤ n ∧ n ≤ 12) (e : hd m = hd n) : m = n := by
  rw [← (hd_facts hm.1 hm.2).1, e, (hd_facts hn.1 hn.2).1]
/-- the number that the first line tells -/
def headP (s : Str) : Option Nat := if (1 ≤ decH s ∧ decH s ≤ 12) ∧ hd (decH s) = s then some (decH s).toNat else none
theorem headP_some {s : Str} {n : Nat} : headP s = some n ↔ (1 ≤ n ∧ n ≤ 12) ∧ s = hd n := by
  unfold headP
  constructor
  · intro h
    split at h
    · rename_i c
      cases h
      exact ⟨by omega, by rw [show (((decH s).toNat : Nat) : Int) = decH s by omega]; exact c.2.symm⟩
    · cases h
  · rintro ⟨h, rfl⟩
    rw [(hd_facts (n := (n : Int)) (by omega) (by omega)).1, if_pos ⟨by omega, rfl⟩]
    simp
/-- a tie that is less than the one ahead -/
def bad (acc : List (Int × Int)) (q : Int × Int) : Bool := match acc.getLast? with
  | none => false
  | some l => decide (cd q < cd l)
def rdL (n : Int) : Nat → List (Int × Int) → List Str → Sum Nat (List (Int × Int))
  | _, acc, [] => .inr acc
  | k, acc, s :: r => match lineP n s with
    | none => .inl k
    | some q => if bad acc q = true then .inl k else rdL n (k + 1) (acc ++ [q]) r
def rdLs : List Str → Sum Nat (Nat × List (Int × Int))
  | [] => .inl 1
  | h :: r => match headP h with
    | none => .inl 1
    | some n => match rdL n 2 [] r with
      | .inl k => .inl k
      | .inr M => .inr (n, M)
def rdT (s : Str) : Sum Nat (Nat × List (Int × Int)) := rdLs (Txt.split s "\n")
def wlines (n : Nat) (L : List (Int × Int)) : List Str := hd n :: L.map pr
def wtext (n : Nat) (L : List (Int × Int)) : Str := Txt.join "\n" (wlines n L)
theorem rdL_none {n : Int} {k : Nat} {acc : List (Int × Int)} {s : Str} {r : List Str} (h : lineP n s = none) : rdL n k acc (s :: r) = .inl k := by
  show (match lineP n s with | none => Sum.inl k | some q => if bad acc q = true then Sum.inl k else rdL n (k + 1) (acc ++ [q]) r) = _
  rw [h]
theorem rdL_bad {n : Int} {k : Nat} {acc : List (Int × Int)} {s : Str} {r : List Str} {q : Int × Int} (h : lineP n s = some q) (b : bad acc q = true) : rdL n k acc (s :: r) = .inl k := by
  show (match lineP n s with | none => Sum.inl k | some q => if bad acc q = true then Sum.inl k else rdL n (k + 1) (acc ++ [q]) r) = _
  rw [h]
  exact if_pos b
theorem rdL_step {n : Int} {k : Nat} {acc : List (Int × Int)} {s : Str} {r : List Str} {q : Int × Int} (h : lineP n s = some q) (b : bad acc q = false) : rdL n k acc (s :: r) = rdL n (k + 1) (acc ++ [q]) r := by
  show (match lineP n s with | none => Sum.inl k | some q => if bad acc q = true then Sum.inl k else rdL n (k + 1) (acc ++ [q]) r) = _
  rw [h]
  exact if_neg (by rw [b]; exact Bool.false_ne_true)
theorem srt_snoc {acc : List (Int × Int)} {q : Int × Int} (s : Srt acc) : Srt (acc ++ [q]) ↔ bad acc q = false := by
  unfold bad
  rcases List.eq_nil_or_concat acc with rfl | ⟨xs, x, rfl⟩
  · exact ⟨fun _ => rfl, fun _ => by simp [Srt]⟩
  · rw [List.concat_eq_append] at s ⊢
    rw [List.getLast?_append]
    show _ ↔ decide (cd q < cd x) = false
    rw [decide_eq_false_iff_not]
    unfold Srt at s ⊢
    constructor
    · intro h
      have := (List.pairwise_append.mp h).2.2 x (List.mem_append_right _ (List.mem_singleton.mpr rfl)) q (List.mem_singleton.mpr rfl)
      omega
    · intro h
      refine List.pairwise_append.mpr ⟨s, List.pairwise_singleton .., fun a ha b hb => ?_⟩
      rw [List.mem_singleton.mp hb]
      rcases List.mem_append.mp ha with ha | ha
      · have := (List.pairwise_append.mp s).2.2 a ha x (List.mem_singleton.mpr rfl)
        omega
      · rw [List.mem_singleton.mp ha]
        omega
theorem rdL_told {n : Int} (hn : n ≤ 12) : ∀ {k : Nat} {acc M : List (Int × Int)} {ls : List Str}, rdL n k acc ls = .inr M → Bel n acc → Srt acc → ∃ N, M = acc ++ N ∧ ls = N.map pr ∧ Bel n M ∧ Srt M
  | k, acc, M, [], h, b, s => by
    cases h
    exact ⟨[], by simp, rfl, b, s⟩
  | k, acc, M, x :: r, h, b, s => by
    cases e : lineP n x with
    | none => rw [rdL_none e] at h; cases h
    | some q =>
      obtain ⟨hq, rfl⟩ := (lineP_some hn).mp e
      cases z : bad acc q with
      | true => rw [rdL_bad e z] at h; cases h
      | false =>
        rw [rdL_step e z] at h
        obtain ⟨N, e1, e2, e3, e4⟩ := rdL_told hn h (fun y hy => by
          rcases List.mem_append.mp hy with hy | hy
          · exact b y hy
          · rw [List.mem_singleton.mp hy]; exact hq) ((srt_snoc s).mpr z)
        exact ⟨q :: N, by rw [e1]; simp, by rw [e2]; rfl, e3, e4⟩
theorem rdL_of {n : Int} (hn : n ≤ 12) : ∀ {k : Nat} {acc N : List (Int × Int)}, Bel n N → Srt (acc ++ N) → rdL n k acc (N.map pr) = .inr (acc ++ N)
  | k, acc, [], _, _ => by rw [List.append_nil]; rfl
  | k, acc, q :: N, b, s => by
    have e : lineP n (pr q) = some q := (lineP_some hn).mpr ⟨b q (List.mem_cons_self ..), rfl⟩
    have s1 : Srt ((acc ++ [q]) ++ N) := by rw [List.append_assoc]; exact s
    have s2 : Srt (acc ++ [q]) := (List.pairwise_append.mp s1).1
    have z : bad acc q = false := (srt_snoc (List.pairwise_append.mp s2).1).mp s2
    rw [List.map_cons, rdL_step e z, rdL_of hn (fun y hy => b y (List.mem_cons_of_mem _ hy)) s1, List.append_assoc]
    rfl
theorem rdL_at {n : Int} : ∀ {k j : Nat} {acc : List (Int × Int)} {ls : List Str}, rdL n k acc ls = .inl j → k ≤ j ∧ j < k + ls.length
  | k, j, acc, [], h => by cases h
  | k, j, acc, x :: r, h => by
    rw [List.length_cons]
    cases e : lineP n x with
    | none => rw [rdL_none e] at h; cases h; omega
    | some q =>
      cases z : bad acc q with
      | true => rw [rdL_bad e z] at h; cases h; omega
      | false =>
        rw [rdL_step e z] at h
        have := rdL_at h
        omega
theorem wlines_plain {n : Nat} {L : List (Int × Int)} (h0 : n ≤ 12) (hB : Bel n L) : ∀ l ∈ wlines n L, nls l = 0 ∧ l.length ≤ 9 := fun l hl => by
  rcases List.mem_cons.mp hl with rfl | hl
  · exact (hd_facts (by omega) (by omega)).2
  · obtain ⟨q, hq, rfl⟩ := List.mem_map.mp hl
    have b := hB q hq
    have := (pr_facts (q := q) ⟨b.1, b.2.1, by omega⟩).2
    exact ⟨this.1, by omega⟩
theorem wtext_lines {n : Nat} {L : List (Int × Int)} (h0 : n ≤ 12) (hB : Bel n L) : Txt.split (wtext n L) "\n" = wlines n L :=
  one_nl.read (by simp [wlines]) fun l hl => no_nl (wlines_plain h0 hB l hl).1
theorem rdT_of {n : Nat} {L : List (Int × Int)} (h1 : 1 ≤ n) (h2 : n ≤ 12) (hB : Bel n L) (hs : Srt L) : rdT (wtext n L) = .inr (n, L) := by
  unfold rdT
  rw [wtext_lines h2 hB]
  show (match headP (hd n) with | none => Sum.inl 1 | some m => match rdL m 2 [] (L.map pr) with | .inl k => Sum.inl k | .inr M => Sum.inr (m, M)) = _
  rw [headP_some.mpr ⟨⟨h1, h2⟩, rfl⟩]
  show (match rdL n 2 [] (L.map pr) with | .inl k => Sum.inl k | .inr M => Sum.inr (n, M)) = _
  rw [rdL_of (acc := []) (by omega) hB hs]
  rfl
theorem rdLs_told {ls : List Str} {n : Nat} {L : List (Int × Int)} (h : rdLs ls = .inr (n, L)) : ls = wlines n L ∧ 1 ≤ n ∧ n ≤ 12 ∧ Bel n L ∧ Srt L := by
  cases ls with
  | nil => cases h
  | cons x r =>
    have h : (match headP x with | none => Sum.inl 1 | some m => match rdL m 2 [] r with | .inl k => Sum.inl k | .inr M => Sum.inr (m, M)) = Sum.inr (n, L) := h
    cases e : headP x with
    | none => rw [e] at h; cases h
    | some m =>
      rw [e] at h
      dsimp only at h
      cases z : rdL m 2 [] r with
      | inl k => rw [z] at h; cases h
      | inr M =>
        rw [z] at h
        cases h
        obtain ⟨⟨a1, a2⟩, rfl⟩ := headP_some.mp e
        obtain ⟨N, e1, e2, e3, e4⟩ := rdL_told (by omega) z (fun _ z => nomatch z) List.Pairwise.nil
        rw [List.nil_append] at e1
        subst e1
        exact ⟨by rw [e2]; rfl, a1, a2, e3, e4⟩
theorem rdT_told {s : Str} {n : Nat} {L : List (Int × Int)} (h : rdT s = .inr (n, L)) : s = wtext n L ∧ 1 ≤ n ∧ n ≤ 12 ∧ Bel n L ∧ Srt L ∧ L.length ≤ nls s := by
  obtain ⟨e, h1, h2, h3, h4⟩ := rdLs_told h
  have l := split_many s
  rw [e] at l
  refine ⟨?_, h1, h2, h3, h4, ?_⟩
  · unfold wtext
    rw [← e, one_nl.back]
  · simp only [wlines, List.length_cons, List.length_map] at l
    omega
theorem rdLs_at {ls : List Str} {k : Nat} (h : rdLs ls = .inl k) : 1 ≤ k ∧ k ≤ ls.length + 1 := by
  cases ls with
  | nil => cases h; exact ⟨Nat.le_refl _, Nat.le_refl _⟩
  | cons x r =>
    have h : (match headP x with | none => Sum.inl 1 | some m => match rdL m 2 [] r with | .inl k => Sum.inl k | .inr M => Sum.inr (m, M)) = (Sum.inl k : Sum Nat (Nat × List (Int × Int))) := h
    rw [List.length_cons]
    cases e : headP x with
    | none => rw [e] at h; cases h; omega
    | some m =>
      rw [e] at h
      dsimp only at h
      cases z : rdL m 2 [] r with
      | inl j =>
        rw [z] at h
        cases h
        have := rdL_at z
        omega
      | inr M => rw [z] at h; cases h
theorem wtext_len {n : Nat} {L : List (Int × Int)} (h0 : n ≤ 12) (hB : Bel n L) (hl : L.length ≤ 60) : (wtext n L).length ≤ 610 ∧ nls (wtext n L) = L.length := by
  have hne : wlines n L ≠ [] := by simp [wlines]
  have a := one_nl.join_len hne
  have b := nl_join hne
  have pl := wlines_plain h0 hB
  have len : (wlines n L).length = L.length + 1 := by simp [wlines]
  have key : ∀ ls : List Str, (∀ l ∈ ls, nls l = 0 ∧ l.length ≤ 9) → wide ls ≤ 10 * ls.length ∧ many ls = ls.length := fun ls => by
    induction ls with
    | nil => intro _; exact ⟨Nat.le_refl _, rfl⟩
    | cons l ls ih =>
      intro h
      obtain ⟨i1, i2⟩ := ih fun x hx => h x (List.mem_cons_of_mem _ hx)
      obtain ⟨j1, j2⟩ := h l (List.mem_cons_self ..)
      simp only [wide, many, List.map_cons, List.sum_cons, List.length_cons] at i1 i2 ⊢
      omega
  obtain ⟨k1, k2⟩ := key _ pl
  unfold wtext
  omega
end K0

set_option Elab.async false
set_option linter.all false
set_option maxRecDepth 100000
set_option maxHeartbeats 4000000
/-! Rules: a dict comprehension of two fors; enumerate(list, k); a text so often; a tuple less than a tuple. -/
namespace K0
open PySem PySem.Spec L2
open PyProof.Rows hiding St
section
variable {kx vx t0 i0 t1 i1 : Expr} {sc : Scope} {ps : Pos}
abbrev dc2 (kx vx t0 i0 t1 i1 : Expr) (sc : Scope) (ps : Pos) : Expr := .DictComp kx vx [⟨t0, i0, [], 0⟩, ⟨t1, i1, [], 0⟩] sc ps
theorem turn_o (j a : Value) (ev : Env) : compTurn (dc2 kx vx t0 i0 t1 i1 sc ps) 0 j a ev = (do
      standAt i0.pos
      match ← pyNext j with
      | none => pure (.done .next)
      | some u =>
        letOwnedTupleGo t0 j u
        assign t0 ev u
        let y ← eval i1 ev
        standAt i1.pos
        let y ← foldedSetIterable i1 ev y
        let _ ← runOwn (.compStart (dc2 kx vx t0 i0 t1 i1 sc ps) 1 (← holding [y] (pyIter y)) a ev) ev
        again (.compLoop (dc2 kx vx t0 i0 t1 i1 sc ps) 0 j a ev)) := by rfl
theorem turn_i (j : Value) (D : Addr) (ev : Env) : compTurn (dc2 kx vx t0 i0 t1 i1 sc ps) 1 j (.ref D) ev = (do
      standAt i1.pos
      match ← pyNext j with
      | none => pure (.done .next)
      | some u =>
        letOwnedTupleGo t1 j u
        assign t1 ev u
        (do
          let k ← eval kx ev
          let z ← holding [k] (eval vx ev)
          standAt { kx.pos with endLine := vx.pos.endLine, endCol := vx.pos.endCol }
          holding [k, z] (dictSet D k z))
        again (.compLoop (dc2 kx vx t0 i0 t1 i1 sc ps) 1 j (.ref D) ev)) := by rfl
variable {prog : Program} {w : World} {A : Around} {R : Result → Shared → Prop} {s : Shared} {j a : Value} {D : Addr} {ev : Env}
abbrev Zz (prog : Program) (w : World) (A : Around) (ev : Env) (R : Result → Shared → Prop) : Value → Shared → Prop := notedBy (model prog w) A ev fun e s' => R (.error e) s'
theorem loop_o (fs : ∀ x, foldedSetIterable i1 ev x = pure x) (J : Nat → Shared → Prop)
    (step : ∀ n s, J n s → wpAny (model prog w) A (pyNext j) (fun r s1 => match r with
      | none => R (.ok .next) s1
      | some u => wpAny (model prog w) A (letOwnedTupleGo t0 j u) (fun _ s2 => wpAny (model prog w) A (assign t0 ev u) (fun _ s3 => wpAny (model prog w) A (eval i1 ev) (fun y s4 => wpAny (model prog w) A (pyIter y) (fun j1 s5 =>
          codeAny (model prog w) A (.compStart (dc2 kx vx t0 i0 t1 i1 sc ps) 1 j1 a ev) (fun r s' => match r with | .ok _ => ∃ m, m < n ∧ J m s' | .error _ => False) s5) (Zz prog w A ev R) s4) (Zz prog w A ev R) s3) (Zz prog w A ev R) s2) (Zz prog w A ev R) s1) (Zz prog w A ev R) s)
    (n : Nat) (h : J n s) : codeAny (model prog w) A (.compLoop (dc2 kx vx t0 i0 t1 i1 sc ps) 0 j a ev) R s := by
  refine codeAny_loop rfl J (fun n s hJ => ?_) n h
  refine (show wpAny _ A ((compTurn (dc2 kx vx t0 i0 t1 i1 sc ps) 0 j a ev).onRaise fun x => do noteFrame x ev; theTreesLotGoes x) _ _ s from wpAny_noted ?_)
  rw [turn_o]
  refine wpAny_bind (wpAny_standAt (wpAny_bind (wpAny_mono (step n s hJ) (fun r s1 q1 => ?_) fun _ _ z => z)))
  match r, q1 with
  | none, q1 => exact wpAny_pure q1
  | some u, q1 =>
    refine wpAny_bind (wpAny_mono q1 (fun _ s2 q2 => wpAny_bind (wpAny_mono q2 (fun _ s3 q3 => wpAny_bind (wpAny_mono q3 (fun y s4 q4 => ?_) fun _ _ z => z)) fun _ _ z => z)) fun _ _ z => z)
    refine wpAny_bind (wpAny_standAt (wpAny_bind (wpAny_of_eq (fs y) (wpAny_bind (wpAny_holding (wpAny_mono q4 (fun j1 s5 q5 => ?_) fun _ _ z => z))))))
    refine wpAny_bind (wpAny_runOwn ?_)
    rw [Around.mark_none]
    refine codeAny_mono q5 fun r s' q => ?_
    match r, q with
    | .ok f, q => first
      | exact wpAny_pure ⟨rfl, q⟩
      | exact wpAny_bind (wpAny_pure (wpAny_pure ⟨rfl, q⟩))
    | .error e, q => exact q.elim
theorem loop_i (J : Nat → Shared → Prop)
    (step : ∀ n s, J n s → wpAny (model prog w) A (pyNext j) (fun r s1 => match r with
      | none => R (.ok .next) s1
      | some u => wpAny (model prog w) A (letOwnedTupleGo t1 j u) (fun _ s2 => wpAny (model prog w) A (assign t1 ev u) (fun _ s3 => wpAny (model prog w) A (eval kx ev) (fun y s4 => wpAny (model prog w) A (eval vx ev) (fun z s5 =>
          wpAny (model prog w) A (dictSet D y z) (fun _ s6 => ∃ m, m < n ∧ J m s6) (Zz prog w A ev R) s5) (Zz prog w A ev R) s4) (Zz prog w A ev R) s3) (Zz prog w A ev R) s2) (Zz prog w A ev R) s1) (Zz prog w A ev R) s)
    (n : Nat) (h : J n s) : codeAny (model prog w) A (.compLoop (dc2 kx vx t0 i0 t1 i1 sc ps) 1 j (.ref D) ev) R s := by
  refine codeAny_loop rfl J (fun n s hJ => ?_) n h
  refine (show wpAny _ A ((compTurn (dc2 kx vx t0 i0 t1 i1 sc ps) 1 j (.ref D) ev).onRaise fun x => do noteFrame x ev; theTreesLotGoes x) _ _ s from wpAny_noted ?_)
  rw [turn_i]
  refine wpAny_bind (wpAny_standAt (wpAny_bind (wpAny_mono (step n s hJ) (fun r s1 q1 => ?_) fun _ _ z => z)))
  match r, q1 with
  | none, q1 => exact wpAny_pure q1
  | some u, q1 =>
    refine wpAny_bind (wpAny_mono q1 (fun _ s2 q2 => wpAny_bind (wpAny_mono q2 (fun _ s3 q3 => ?_) fun _ _ z => z)) fun _ _ z => z)
    exact wpAny_bind (wpAny_bind (wpAny_mono q3 (fun y s4 q4 => wpAny_bind (wpAny_holding (wpAny_mono q4 (fun z s5 q5 => wpAny_bind (wpAny_standAt (wpAny_holding (wpAny_mono q5 (fun _ s6 q6 => wpAny_pure ⟨rfl, q6⟩) fun _ _ z => z)))) fun _ _ z => z))) fun _ _ z => z))
theorem start_i (q0 : codeAny (model prog w) A (.compLoop (dc2 kx vx t0 i0 t1 i1 sc ps) 1 j a ev) R s)
    (q1 : wpAny (model prog w) A (pyIter j) (fun j' s' => codeAny (model prog w) A (.compLoop (dc2 kx vx t0 i0 t1 i1 sc ps) 1 j' a ev) R s') (Zz prog w A ev R) s) : codeAny (model prog w) A (.compStart (dc2 kx vx t0 i0 t1 i1 sc ps) 1 j a ev) R s := by
  refine codeAny_of_tree (show wpAny _ _ ((compStart (dc2 kx vx t0 i0 t1 i1 sc ps) 1 j a ev).onRaise fun x => do noteFrame x ev; standAt theWindowsPlace) _ _ s from wpAny_notedAt ?_)
  unfold compStart
  refine (show wpAny _ _ (ask >>= _) _ _ s from wpAny_bind (wpAny_askSetting (wpAny_ite ?_)))
  split
  · first
      | exact wpAny_pure ⟨rfl, q0⟩
      | exact wpAny_bind (wpAny_pure (wpAny_pure ⟨rfl, q0⟩))
  · first
      | exact wpAny_bind (wpAny_rule (wpAny_bind (wpAny_standAt (wpAny_bind (wpAny_mono q1 (fun _ _ q => wpAny_pure ⟨rfl, q⟩) fun _ _ z => z)))))
      | (refine wpAny_bind (wpAny_rule (show wpAny _ _ (standAt i1.pos >>= _) _ _ s from ?_)); exact wpAny_bind (wpAny_standAt (wpAny_bind (wpAny_mono q1 (fun _ _ q => wpAny_pure ⟨rfl, q⟩) fun _ _ z => z))))
end
/-- wherever the block of a comprehension may stand -/
def InBlk (X : Cx) (sc : Scope) (F : Cx → Prop) : Prop := ∀ (s : Shared) (H : Hp) (C : Addr) (cl : List (PySem.Str × Addr)) (fp : List Addr), F (X.blk s H sc (compEnvC sc cl C X.env) fp)
def tDc2 (w0 : TI) (g0 : TG) (w1 : TI) (g1 : TG) (tk tv : TE) (vs vs1 : List Nat) : TE := fun σ H Q => w0 σ H fun J H1 => ∀ D, H1 D = none → ∃ W : Nat → Nat → Hp → Prop, (∃ m, W 0 m (upd H1 D (.dK []))) ∧ ∀ i m M, W i m M →
  (J.stop i M ∧ Q (.ref D) M) ∨ (J.go i M ∧ ∃ Nx : Hp → Prop, (∀ M', Nx M' → ∃ m', m' < m ∧ W (i + 1) m' M') ∧ ∀ x M', J.yld i M x M' → g0 x (wipe σ vs) M' fun σ2 M2 => wipe σ2 vs = wipe σ vs ∧ w1 σ2 M2 fun J1 M3 =>
    ∃ V1 : Nat → Nat → Hp → Prop, (∃ m, V1 0 m M3) ∧ ∀ j k N, V1 j k N → (J1.stop j N ∧ Nx N) ∨ (J1.go j N ∧ ∃ Ny : Hp → Prop, (∀ N', Ny N' → ∃ k', k' < k ∧ V1 (j + 1) k' N') ∧ ∀ x N', J1.yld j N x N' → g1 x (wipe σ2 vs1) N' fun σ3 N1 => wipe σ3 vs1 = wipe σ2 vs1 ∧
      tk σ3 N1 fun y N2 => tv σ3 N2 fun z N3 => ∃ kvs k, y = kV k ∧ N3 D = some (.dK kvs) ∧ kvs.length < sizeLine ∧ Ny (upd N3 D (.dK (putK kvs k z)))))
section
variable {X : Cx} {kx vx t0 i0 t1 i1 : Expr} {sc : Scope} {own : List (PySem.Str × Nat)} {vs1 : List Nat} {ps : Pos} {w0 w1 : TI} {g0 g1 : TG} {tk tv : TE}
/-- what is asked where the dict is whole -/
def LandD (X : Cx) (pins : List (Addr × Obj)) (σ : St) (Q : VK) (use : Option (Value → Sem Unit)) (Qf : Value → Shared → Prop) : Prop := ∀ (D C : Addr) (z : Shared) (m : PySem.Str → Option Value) (N : Hp), Inv X pins σ N z → Q (.ref D) N → z.heap.Ns C m → FpOk X pins N C →
  compPost (model X.prog X.w) X.A X.xe use Qf (.ref D) C (.ok .next) z
theorem land_val {pins : List (Addr × Obj)} {σ : St} {Q : VK} : LandD X pins σ Q none (EP X pins σ Q) := fun D C z m N I q hn fo =>
  ⟨m, hn, fun h sb => ⟨.ref D, N, I.turned (t' := z.toks) (fun b o hb e => (sb.2 b hb).trans e) fo.1 fo.2.1 fo.2.2.2.1 fo.2.2.2.2.1 fo.2.2.2.2.2, rfl, q⟩⟩
theorem land_set {pins : List (Addr × Obj)} {σ : St} {D0 : Ends} {i : Nat} {y : PySem.Str} {py : Pos} (nd : X.N.Nodup) (hy : X.N[i]? = some y) (loc : X.env.scope.names.lookup y = some .local) :
    LandD X pins σ (fun x M => gName i x σ M D0.nx) (some (assign (.Name y py) X.env)) (fun _ z => SP X pins D0 .next z) := fun D C z m N I q hn fo => by
  refine (show wpAny _ _ (assign (.Name y py) X.env (.ref D)) _ _ _ from wpAny_assign_Name (store_ok2 (v := V.ref D) I nd hy (.inl loc) rfl (fun z2 I2 ⟨a, sb, ha⟩ => ?_) (.inr loc)))
  have far : C ≠ a := ha.elim (fun e => e ▸ fo.2.1) fun e e2 => fo.2.2.2.2.1 y a e e2.symm
  exact ⟨m, hn.sameBut sb far, fun h sb3 => ⟨_, N, I2.turned (t' := z2.toks) (fun b o hb e => (sb3.2 b hb).trans e) fo.1 fo.2.1 fo.2.2.2.1 fo.2.2.2.2.1 fo.2.2.2.2.2, q⟩⟩
theorem run_dc2 {pins : List (Addr × Obj)} {s : Shared} {σ : St} {H : Hp} {Q : VK} {pq : Pos} {use : Option (Value → Sem Unit)} {Qf : Value → Shared → Prop} (calm : X.calm = true) (nd : X.N.Nodup) (I : Inv X pins σ H s) (hi : PI X t0 i0 w0) (ok : BlkOk X.N X.env.scope sc own) (sub : ∀ i ∈ vs1, i ∈ own.map (·.2)) (hg : InBlk X sc fun Y => PG Y t0 g0) (hi1 : InBlk X sc fun Y => PI Y t1 i1 w1) (hg1 : InBlk X sc fun Y => PG Y t1 g1)
    (hk : InBlk X sc fun Y => PE Y kx tk) (hv : InBlk X sc fun Y => PE Y vx tv) (fs : ∀ x, foldedSetIterable i0 X.env x = pure x) (fs1 : ∀ ev x, foldedSetIterable i1 ev x = pure x) (h : tDc2 w0 g0 w1 g1 tk tv (own.map (·.2)) vs1 σ H Q) (land : LandD X pins σ Q use Qf) :
    wpAny (model X.prog X.w) X.A (comprehension (dc2 kx vx t0 i0 t1 i1 sc ps) sc X.env pq newDict false (eval i0 X.env) use) Qf X.xe s := by
  have frees : ∀ y ∈ sc.names, y.2 = .free → ∃ c, X.env.cells.lookup y.1 = some c := fun y hy e => (ok.free y hy e).elim (fun z => I.ok.has _ (.inl z)) fun z => I.ok.has _ (.inr z)
  refine wpAny_comprehension_free (use := use) rfl fs (closure_ok frees) ok.kind (fun y hy e => by rw [ok.uniq y hy, e]) (thn (hi.run pins s σ H _ I h) fun xv s1 hx => thn hx fun itv s2 h2 => ?_)
  obtain ⟨it, fp, tn, J, H2, rfl, I2, T, st2, f2, q⟩ := h2
  refine wpAny_newObj_type (newEnv_comp ?_)
  generalize eD : s2.heap.objs.size = D
  have nD : H2 D = none := I2.hok.fresh (Nat.le_of_eq eD)
  obtain ⟨W, ⟨m0, W0⟩, turn⟩ := q D nD
  generalize e3 : ({ s2 with heap := s2.heap.push { cls := .type "dict", data := .dict #[] } } : Shared) = s3
  have h3 : s3.heap = s2.heap.push { cls := .type "dict", data := .dict #[] } := by rw [← e3]
  have I3 : Inv X pins σ (upd H2 D (.dK [])) s3 := by
    rw [← e3]
    exact I2.laid (t' := s2.toks) (fun b o e => Heap.get?_push_of_some _ e) (Nat.le_of_eq eD) (by rw [← eD]; exact dk_empty s2.heap I2.big)
  have f3 : ∀ b ∈ fp, FpOk X pins (upd H2 D (.dK [])) b ∧ b < s3.heap.objs.size := fun b hb => by
    obtain ⟨o, e, _⟩ := T.obj _ _ st2 b hb
    have lt : b < s2.heap.objs.size := Heap.lt_size e
    exact ⟨⟨(upd_ne (by rw [← eD]; exact Nat.ne_of_lt lt)).trans (f2 b hb).1, (f2 b hb).2⟩, by rw [h3, Heap.size_push]; exact Nat.lt_succ_of_lt lt⟩
  have st3 : tn 0 s3.heap := T.keep _ _ _ st2 fun b _ o e => by rw [h3]; exact Heap.get?_push_of_some _ e
  have I4 := block_start I3 ok nd f3
  have at_ : ∀ {F : Cx → Prop}, InBlk X sc F → F _ := fun {F} z => z s3 (upd H2 D (.dK [])) s3.heap.objs.size (cellsFrom (s3.heap.objs.size + 1) sc.names (cloFrom X.env.cells sc.names [])) fp
  have pg := at_ hg
  have pi1 := at_ hi1
  have pg1 := at_ hg1
  have pk := at_ hk
  have pv' := at_ hv
  clear at_
  show codeAny _ _ (.compStart (dc2 kx vx t0 i0 t1 i1 sc ps) 0 (.ref it) (.ref D) (compEnvC sc (cellsFrom (s3.heap.objs.size + 1) sc.names (cloFrom X.env.cells sc.names [])) s3.heap.objs.size X.env)) (compPost (model X.prog X.w) X.A X.xe use Qf (.ref D) s3.heap.objs.size)
    { s3 with heap := pushCells (s3.heap.push { cls := .type "dict", data := .dict #[] }) sc.names }
  have n3 : ∀ b ∈ fp, (upd H2 D (.dK [])) b = none := fun b hb => (f3 b hb).1.1
  generalize ece : compEnvC sc (cellsFrom (s3.heap.objs.size + 1) sc.names (cloFrom X.env.cells sc.names [])) s3.heap.objs.size X.env = ce at I4 pg pi1 pg1 pk pv' ⊢
  have lce : ce.locals = s3.heap.objs.size := by subst ece; rfl
  generalize eH3 : upd H2 D (.dK []) = H3 at I3 I4 pg pi1 pg1 pk pv' W0 n3 f3
  generalize e4 : ({ s3 with heap := pushCells (s3.heap.push { cls := .type "dict", data := .dict #[] }) sc.names } : Shared) = s4 at I4 ⊢
  have st4 : tn 0 s4.heap := T.keep _ _ _ st3 fun b _ o e => by rw [← e4]; exact pushCells_keeps _ _ _ _ (Heap.get?_push_of_some _ e)
  have own_ : ∀ {υ : St} {N : Hp} {z : Shared}, Inv (X.blk s3 H3 sc ce fp) [] υ N z → (∀ b ∈ fp, N b = none) → ∀ b ∈ fp, FpOk (X.blk s3 H3 sc ce fp) [] N b := fun {υ N z} I' hn b hb =>
    ⟨hn b hb, (I'.ok.exf b hb).1, I'.ok.exfs b hb, .inl hb, fun x c e => (I'.ok.exf b hb).2 x c e, fun p hp => absurd (show p ∈ ([] : List (Addr × Obj)) ++ [] from hp) (by simp)⟩
  let G : Nat → Shared → Prop := fun n z => ∃ i N, Inv (X.blk s3 H3 sc ce fp) [] (wipe σ (own.map (·.2))) N z ∧ tn i z.heap ∧ (∀ b ∈ fp, N b = none) ∧ W i n N
  have loop : codeAny (model X.prog X.w) X.A (.compLoop (dc2 kx vx t0 i0 t1 i1 sc ps) 0 (.ref it) (.ref D) ce) (compPost (model X.prog X.w) X.A X.xe use Qf (.ref D) s3.heap.objs.size) s4 := by
    refine loop_o (fs1 ce) G ?_ m0 ⟨0, H3, I4, st4, n3, W0⟩
    rintro n s5 ⟨i, H5, I5, st5, n5, W5⟩
    rcases turn i n H5 W5 with ⟨stop, fin⟩ | ⟨go, Nx, less, step⟩
    · refine thnF (T.done (X.blk s3 H3 sc ce fp) rfl rfl rfl calm i [] s5 _ H5 (fun _ _ => False) I5 (own_ I5 n5) st5 stop) fun r s6 ⟨er, I6⟩ => ?_
      subst er
      have I7 : Inv X pins σ H5 s6 := I3.call' (ch := fp) I6.os I6.base I6.hok I6.bare fun b hb => ⟨(f3 b hb).1.2.2.2.1, (f3 b hb).1.2.1, (f3 b hb).1.2.2.2.2.1, (f3 b hb).1.2.2.2.2.2⟩
      have nC : H5 s3.heap.objs.size = none := (congrArg H5 lce).symm.trans I6.free
      obtain ⟨m, hn, _⟩ := I6.loc
      have hn : s6.heap.Ns ce.locals m := hn
      rw [lce] at hn
      exact land D _ s6 m H5 I7 fin hn (I3.fpOk (Nat.le_refl _) nC)
    · refine thnF (T.item (X.blk s3 H3 sc ce fp) rfl rfl rfl calm i [] s5 _ H5 (fun _ _ => False) I5 (own_ I5 n5) st5 go) fun r s6 ⟨u, er, h6⟩ => ?_
      subst er
      refine thnF h6 fun _ s7 ⟨x, H7, I7, r7, y7, st7, n7⟩ => ?_
      refine thnF (pg.run _ s7 _ H7 x u _ (I7.pinned (own_ I7 n7) (T.obj _ _ st7)) r7 (step x H7 y7)) fun _ s8 ⟨σ8, H8, I8, w8, q8⟩ => ?_
      have l8 : (wipe σ (own.map (·.2))).length = σ8.length := by rw [← w8, wipe_length]
      have k8 : ∀ (j : Nat) v, (wipe σ (own.map (·.2)))[j]? = some (some v) → (wipe σ8 vs1)[j]? = some (some v) := fun j v e => by
        rw [← w8] at e
        obtain ⟨a1, a2⟩ := wipe_some e
        exact (wipe_out fun z => a2 (sub j z)).trans a1
      have back : ∀ {υ : St} {z : Shared} {N : Hp}, Inv (X.blk s3 H3 sc ce fp) ([] ++ pinsAt fp s7.heap) υ N z → (wipe σ (own.map (·.2))).length = υ.length → (∀ (j : Nat) v, (wipe σ (own.map (·.2)))[j]? = some (some v) → υ[j]? = some (some v)) → Nx N → ∃ m, m < n ∧ G m z := fun {υ z N} I' hl hk' nx => by
        obtain ⟨m', lt, w'⟩ := less N nx
        have pin : ∀ b ∈ fp, ∀ o, s7.heap.get? b = some o → z.heap.get? b = some o ∧ N b = none := fun b hb o e =>
          let y := I'.pin (b, o) (List.mem_append_right _ (List.mem_append_right _ (mem_pinsAt hb e)))
          ⟨y.1, y.2.1⟩
        refine ⟨m', lt, i + 1, N, (I'.unpinned (pins := [])).weak hl hk', T.keep _ _ _ st7 fun b hb o e => (pin b hb o e).1, fun b hb => ?_, w'⟩
        obtain ⟨o, e, _⟩ := T.obj _ _ st7 b hb
        exact (pin b hb o e).2
      refine thnF (pi1.run _ s8 σ8 H8 _ I8 q8) fun xv s10 hx => thnF hx fun itv s11 h11 => ?_
      obtain ⟨ii, fq, tm, J1, H11, rfl, I11, T1, st11, f11, V1, ⟨m1, V0⟩, turn1⟩ := h11
      have own1 : ∀ {N : Hp}, (∀ b ∈ fq, N b = none) → ∀ b ∈ fq, FpOk (X.blk s3 H3 sc ce fp) ([] ++ pinsAt fp s7.heap) N b := fun hn b hb => ⟨hn b hb, (f11 b hb).2⟩
      let G1 : Nat → Shared → Prop := fun k z => ∃ j N, Inv (X.blk s3 H3 sc ce fp) ([] ++ pinsAt fp s7.heap) (wipe σ8 vs1) N z ∧ tm j z.heap ∧ (∀ b ∈ fq, N b = none) ∧ V1 j k N
      have loop1 : codeAny (model X.prog X.w) X.A (.compLoop (dc2 kx vx t0 i0 t1 i1 sc ps) 1 (.ref ii) (.ref D) ce) (fun r z => match r with | .ok _ => ∃ m, m < n ∧ G m z | .error _ => False) s11 := by
        refine loop_i G1 ?_ m1 ⟨0, H11, I11.weak (wipe_length _ _) (fun j v e => (wipe_some e).1), st11, fun b hb => (f11 b hb).1, V0⟩
        rintro k s12 ⟨j, H12, I12, st12, n12, V12⟩
        rcases turn1 j k H12 V12 with ⟨stop1, nx1⟩ | ⟨go1, Ny, less1, step1⟩
        · refine thnF (T1.done (X.blk s3 H3 sc ce fp) rfl rfl rfl calm j _ s12 (wipe σ8 vs1) H12 (fun _ _ => False) I12 (own1 n12) st12 stop1) fun r s13 ⟨er, I13⟩ => ?_
          subst er
          exact back I13 (l8.trans (wipe_length σ8 vs1).symm) k8 nx1
        · refine thnF (T1.item (X.blk s3 H3 sc ce fp) rfl rfl rfl calm j _ s12 (wipe σ8 vs1) H12 (fun _ _ => False) I12 (own1 n12) st12 go1) fun r s13 ⟨u1, er, h13⟩ => ?_
          subst er
          refine thnF h13 fun _ s14 ⟨x1, H14, I14, r14, y14, st14, n14⟩ => ?_
          refine thnF (pg1.run _ s14 (wipe σ8 vs1) H14 x1 u1 _ (I14.pinned (own1 n14) (T1.obj _ _ st14)) r14 (step1 x1 H14 y14)) fun _ s15 ⟨σ15, H15, I15, w15, q15⟩ => ?_
          refine thnF (pk.run _ s15 σ15 H15 _ I15 q15) fun yk s16 ⟨yv, H16, I16, r16, q16⟩ => ?_
          refine thnF (pv'.run _ s16 σ15 H16 _ I16 q16) fun zk s17 ⟨zv, H17, I17, r17, kvs, key, ek, hD, hz, nx⟩ => ?_
          subst ek
          refine d_dictSet (X := X.blk s3 H3 sc ce fp) I17 hD hz r16 r17 fun s18 I18 => ?_
          obtain ⟨k', lt, w'⟩ := less1 _ nx
          have pin : ∀ b ∈ fq, ∀ o, s14.heap.get? b = some o → s18.heap.get? b = some o ∧ _ = none := fun b hb o e =>
            let y := I18.pin (b, o) (List.mem_append_right _ (List.mem_append_right _ (mem_pinsAt hb e)))
            ⟨y.1, y.2.1⟩
          refine ⟨k', lt, j + 1, _, I18.unpinned.weak (by rw [← w15, wipe_length]) (fun j v e => by rw [← w15] at e; exact (wipe_some e).1), T1.keep _ _ _ st14 fun b hb o e => (pin b hb o e).1, fun b hb => ?_, w'⟩
          obtain ⟨o, e, _⟩ := T1.obj _ _ st14 b hb
          exact (pin b hb o e).2
      exact start_i loop1 (T1.self X.A 0 _ _ _ st11 loop1)
  exact codeAny_compStart_dict loop (T.self X.A 0 _ _ _ st4 loop)
theorem pe_dc2 (calm : X.calm = true) (nd : X.N.Nodup) (hi : PI X t0 i0 w0) (ok : BlkOk X.N X.env.scope sc own) (sub : ∀ i ∈ vs1, i ∈ own.map (·.2)) (hg : InBlk X sc fun Y => PG Y t0 g0) (hi1 : InBlk X sc fun Y => PI Y t1 i1 w1) (hg1 : InBlk X sc fun Y => PG Y t1 g1)
    (hk : InBlk X sc fun Y => PE Y kx tk) (hv : InBlk X sc fun Y => PE Y vx tv) (fs : ∀ x, foldedSetIterable i0 X.env x = pure x := by intro _; rfl) (fs1 : ∀ ev x, foldedSetIterable i1 ev x = pure x := by intro _ _; rfl) :
    PE X (dc2 kx vx t0 i0 t1 i1 sc ps) (tDc2 w0 g0 w1 g1 tk tv (own.map (·.2)) vs1) := by
  refine ⟨fun pins s σ H Q I h => ?_⟩
  rw [arm_eval_DictComp]
  exact run_dc2 calm nd I hi ok sub hg hi1 hg1 hk hv fs fs1 h land_val
variable {i : Nat} {y : PySem.Str} {py spos : Pos}
theorem ps_dc2 (calm : X.calm = true) (nd : X.N.Nodup) (hy : X.N[i]? = some y) (loc : X.env.scope.names.lookup y = some .local) (sw : swapsWith (dc2 kx vx t0 i0 t1 i1 sc ps) (some (.Name y py)) spos.line X.env = pure true)
    (hi : PI X t0 i0 w0) (ok : BlkOk X.N X.env.scope sc own) (sub : ∀ i ∈ vs1, i ∈ own.map (·.2)) (hg : InBlk X sc fun Y => PG Y t0 g0) (hi1 : InBlk X sc fun Y => PI Y t1 i1 w1) (hg1 : InBlk X sc fun Y => PG Y t1 g1)
    (hk : InBlk X sc fun Y => PE Y kx tk) (hv : InBlk X sc fun Y => PE Y vx tv) (fs : ∀ x, foldedSetIterable i0 X.env x = pure x := by intro _; rfl) (fs1 : ∀ ev x, foldedSetIterable i1 ev x = pure x := by intro _ _; rfl) :
    PS X (.Assign [.Name y py] (dc2 kx vx t0 i0 t1 i1 sc ps) spos) (tAsg (tDc2 w0 g0 w1 g1 tk tv (own.map (·.2)) vs1) (gName i)) := by
  refine ⟨fun pins s σ H D I h => ?_⟩
  rw [exec_Assign_Name_used _ _ _ _ sw]
  refine wpAny_bind (wpAny_standAt (wpAny_bind ?_))
  refine (show wpAny _ X.A (do let _ ← comprehension (dc2 kx vx t0 i0 t1 i1 sc ps) sc X.env (firstIterPos [⟨t0, i0, [], 0⟩, ⟨t1, i1, [], 0⟩] ps) newDict false (eval i0 X.env) (some (assign (.Name y py) X.env))) _ _ s from ?_)
  exact wpAny_bind (thn (run_dc2 (Qf := fun _ z => SP X pins D .next z) calm nd I hi ok sub hg hi1 hg1 hk hv fs fs1 (show tDc2 w0 g0 w1 g1 tk tv (own.map (·.2)) vs1 σ H (fun x M => gName i x σ M D.nx) from h) (land_set nd hy loc)) fun _ z q => wpAny_pure (wpAny_pure q))
/-- one for -/
theorem ps_dc1 {tt : L2.TT} {ifs : List Expr} (calm : X.calm = true) (nd : X.N.Nodup) (hy : X.N[i]? = some y) (loc : X.env.scope.names.lookup y = some .local) (sw : swapsWith (.DictComp kx vx [⟨t0, i0, ifs, 0⟩] sc ps) (some (.Name y py)) spos.line X.env = pure true)
    (hi : PI X t0 i0 w0) (ok : BlkOk X.N X.env.scope sc own) (hg : InBlk X sc fun Y => PG Y t0 g0) (ht : InBlk X sc fun Y => PTs Y ifs tt) (hk : InBlk X sc fun Y => PE Y kx tk) (hv : InBlk X sc fun Y => PE Y vx tv) (fs : ∀ x, foldedSetIterable i0 X.env x = pure x := by intro _; rfl) :
    PS X (.Assign [.Name y py] (.DictComp kx vx [⟨t0, i0, ifs, 0⟩] sc ps) spos) (tAsg (tDc w0 g0 tt tk tv (own.map (·.2))) (gName i)) := by
  refine ⟨fun pins s σ H D I h => ?_⟩
  rw [exec_Assign_Name_used _ _ _ _ sw]
  refine wpAny_bind (wpAny_standAt (wpAny_bind ?_))
  refine (show wpAny _ X.A (do let _ ← comprehension (.DictComp kx vx [⟨t0, i0, ifs, 0⟩] sc ps) sc X.env (firstIterPos [⟨t0, i0, ifs, 0⟩] ps) newDict false (eval i0 X.env) (some (assign (.Name y py) X.env))) _ _ s from ?_)
  exact wpAny_bind (thn (dc_core (Qf := fun _ z => SP X pins D .next z) calm nd I hi ok hg ht hk hv fs (show tDc w0 g0 tt tk tv (own.map (·.2)) σ H (fun x M => gName i x σ M D.nx) from h) fun D1 C z m N J q hn fo => land_set nd hy loc D1 C z m N J q hn fo) fun _ z q => wpAny_pure (wpAny_pure q))
end
end K0

set_option Elab.async false
set_option linter.all false
set_option maxRecDepth 100000
set_option maxHeartbeats 4000000
/-! Rules: enumerate(list, k); a text so often; a pair less than a pair. -/
namespace KR
open PySem PySem.Spec L2
open PyProof.Rows hiding St
/-- the list at a, each item in a new pair with its number, counted from k -/
def Itf (K : PySem.W.Frag) (a : Addr) (k : Int) : It :=
  ⟨fun i H => ∃ (xs : List V) (x : V), SqL K H a xs ∧ xs[i]? = some x, fun i H v H' => ∃ T x, v = .ref T ∧ H T = none ∧ H' = upd H T (.tup [.int (k + (i : Nat)), x]) ∧ ∀ xs, SqL K H a xs → xs[i]? = some x, fun i H => ∃ xs : List V, SqL K H a xs ∧ xs.length = i⟩
theorem turn_enumF {P : Program} {w : World} {K : PySem.W.Frag} {elts : List Expr} {kk : Nat} {tpos : Pos} (a e it : Addr) (k : Int) :
    Turn P w K (.Tuple elts kk tpos) (Itf K a k) [e, it] e (fun i h => (∃ old, IsEnum h e it (k + ((i : Nat) : Int)) old) ∧ h.IsListIter it a i ∧ e ≠ it ∧ e ≠ a ∧ a ≠ it) where
  mem := by simp
  obj := fun i h st b hb => by
    obtain ⟨⟨old, he⟩, ⟨o, ho, _, hd⟩, _⟩ := st
    rcases (by simpa using hb : b = e ∨ b = it) with z | z
    · rw [z]; exact ⟨_, he, fun v q => nomatch q⟩
    · rw [z]; exact ⟨o, ho, fun v q => by rw [hd] at q; cases q⟩
  keep := fun i h h' st kp => let ⟨⟨old, he⟩, hi, r⟩ := st; ⟨⟨old, kp e (by simp) _ he⟩, hi.at fun o q => kp it (by simp) o q, r⟩
  item := by
    intro X hP hw hK hc i pins s σ H E I hf st hg
    subst hP hw hK
    obtain ⟨⟨old, he⟩, hit, ne1, ne2, ne3⟩ := st
    obtain ⟨xs, x, hq, hx⟩ := hg
    obtain ⟨its, rv, lp, _⟩ := I.list hq
    obtain ⟨u, hu, ru⟩ := rv.get hx
    have le : e < s.heap.objs.size := Heap.lt_size he
    have li : it < s.heap.objs.size := by obtain ⟨_, q, _⟩ := hit; exact Heap.lt_size q
    have hi : i < its.toArray.size := by rw [List.size_toArray]; exact (List.getElem?_eq_some_iff.mp hu).1
    have calm : X.A.in1.handled = none := by have := I.ok.hd hc; simpa using this
    refine wpAny_pyNext_enum_itemC (Draws.list calm it a ne3 its.toArray) he ⟨hit, lp.isList⟩ hi ne1 (by simp only [List.mem_cons, List.not_mem_nil, or_false, not_or]; exact ⟨ne1, ne2⟩) fun y h' tk hy ho st' hT _ hk => ?_
    obtain rfl : y = u := by
      have q : its[i]? = some y := by rw [← List.getElem?_toArray]; exact hy
      exact Option.some.inj (q.symm.trans hu)
    refine ⟨_, rfl, wpAny_letOwnedTupleGo_enum (s := { s with heap := h', toks := tk + 1 }) ho fun h'' he' sb => ?_⟩
    have hT2 : h''.get? s.heap.objs.size = some { cls := .type "tuple", data := .seq #[.int (k + (i : Int)) tk, y] } := (sb.2 _ (Nat.ne_of_gt le)).trans hT
    have I1 : Inv X pins σ (upd H s.heap.objs.size (.tup [.int (k + (i : Nat)), x])) { s with heap := h'', toks := tk + 1 } :=
      I.turnedNew (ch := [e, it]) (fun b ob hb q => (sb.2 b (fun z => hb (by simp [z]))).trans (hk b ob (fun z => hb (by simp [z])) (fun z => hb (by simp [z])) q)) hf (Nat.le_refl _)
        ⟨by show 2 ≤ sizeLine; decide, [.int (k + (i : Int)) tk, y], .cons ⟨_, rfl⟩ (.cons ru .nil), ⟨_, hT2, rfl, _, rfl⟩⟩
    refine ⟨.ref s.heap.objs.size, _, I1, rfl, ⟨_, x, rfl, I.hok.fresh (Nat.le_refl _), rfl, fun ys hy => by rw [I.list_inj hy hq]; exact hx⟩, ⟨⟨y, ?_⟩, st'.1.at fun o q => (sb.2 it (Ne.symm ne1)).trans q, ne1, ne2, ne3⟩, fun b hb => ?_⟩
    · rw [show k + ((i + 1 : Nat) : Int) = k + (i : Int) + 1 by omega]
      exact he'
    · have lb : b < s.heap.objs.size := by
        rcases (by simpa using hb : b = e ∨ b = it) with z | z
        · rw [z]; exact le
        · rw [z]; exact li
      rw [upd_ne (Nat.ne_of_lt lb)]
      exact (hf b hb).1
  done := by
    intro X hP hw hK hc i pins s σ H E I hf st hg
    subst hP hw hK
    obtain ⟨⟨old, he⟩, hit, ne1, ne2, ne3⟩ := st
    obtain ⟨xs, hq, hx⟩ := hg
    obtain ⟨its, rv, lp, _⟩ := I.list hq
    obtain ⟨f0, f1, f2, f3, f4, f5⟩ := hf it (by simp)
    have calm : X.A.in1.handled = none := by have := I.ok.hd hc; simpa using this
    have hn : its.toArray.size = i := by rw [List.size_toArray, ← rv.length, hx]
    exact wpAny_pyNext_enum_endD (Draws.list calm it a ne3 its.toArray) he ⟨by rw [hn]; exact hit, lp.isList⟩ fun h' eb => ⟨rfl, I.turned (t' := s.toks) (fun b o hb q => eb b o hb q) f0 f1 f3 f4 f5⟩
  self := fun A i s Q E st h => let ⟨⟨_, he⟩, _⟩ := st; wpAny_pyIter_enum he h
def iEnumF (K : PySem.W.Frag) (ta : TA) : TI := fun σ H R => ta σ H fun vs H1 => ∃ a xs k, vs = [.ref a, .int k] ∧ SqL K H1 a xs ∧ -(2 ^ 63) ≤ k ∧ k < 2 ^ 63 ∧ R (Itf K a k) H1
theorem pi_enumF {X : Cx} {e e2 : Expr} {ta : TA} {p pos tpos : Pos} {elts : List Expr} {kk : Nat} (hg : Gl X "enumerate") (hm : X.mg "enumerate" = none) (ha : PA X [e, e2] ta) (hs : starEach [e, e2] X.env = [(false, eval e X.env), (false, eval e2 X.env)] := by rfl) (hs2 : starEach [e2] X.env = [(false, eval e2 X.env)] := by rfl) :
    PI X (.Tuple elts kk tpos) (.Call (.Name "enumerate" p) [e, e2] [] pos) (iEnumF X.K ta) := by
  refine ⟨fun pins s σ H R I h => Call_ (ld_blt I hg hm boot_enumerate (PyProof.Rows.callWith_type1 (thn (ha.run pos pins s σ H _ I h) fun us s1 ⟨vs, H1, I1, r1, a, xs, k, ex, hq, k0, k1, q⟩ => ?_) (by rw [hs, hs2]) (by rw [hs2]; rfl)))⟩
  subst ex
  obtain ⟨its, rv, lp, _⟩ := I1.list hq
  have la : a < s1.heap.objs.size := by obtain ⟨_, z, _⟩ := lp.isList; exact Heap.lt_size z
  obtain ⟨u1, u2, rfl, ra, ⟨t, rk⟩⟩ := vals2 r1
  have ra : u1 = Value.ref a := ra
  subst ra rk
  refine enum_begins (begins_list a its.toArray) lp.isList k0 k1 fun hN he hit hz kp => wpAny_pyIter_enum he ?_
  refine ⟨s1.heap.objs.size + 1, [s1.heap.objs.size + 1, s1.heap.objs.size], _, _, H1, rfl, I1.kept (t' := s1.toks) kp, turn_enumF a (s1.heap.objs.size + 1) s1.heap.objs.size k, ⟨⟨.none, by rw [show k + ((0 : Nat) : Int) = k by omega]; exact he⟩, ⟨_, hit, rfl, rfl⟩, Nat.succ_ne_self _, Nat.ne_of_gt (Nat.lt_succ_of_lt la), Nat.ne_of_lt la⟩, fun b hb => ?_, q⟩
  have le : s1.heap.objs.size ≤ b := by
    rcases (by simpa using hb : b = s1.heap.objs.size + 1 ∨ b = s1.heap.objs.size) with z | z
    · rw [z]; exact Nat.le_succ _
    · rw [z]; exact Nat.le_refl _
  exact I1.fpOk le (I1.hok.fresh le)
theorem walk_enumF {K : PySem.W.Frag} {a : Addr} {xs : List V} {k : Int} : Walk (Itf K a k) xs.length (fun H => SqL K H a xs) (YPair (fun i => some (.int (k + (i : Nat)))) (fun i => xs[i]?)) := by
  refine ⟨fun i _ hi q => ⟨xs, xs[i], q, by simp [hi]⟩, fun _ q => ⟨xs, q, rfl⟩, fun i H v H' _ q y => ?_⟩
  obtain ⟨T, x, h1, h2, h3, h4⟩ := y
  exact ⟨T, .int (k + (i : Nat)), x, h1, h2, h3, rfl, h4 xs q⟩
/-- '..' * n -/
theorem op_mulS {X : Cx} : OpR X (binaryOp .Mult) (fun x y H Q => ∃ (a : Str) (n : Nat), x = .str a ∧ y = .int n ∧ 1 < n ∧ n ≤ 1000 ∧ 0 < a.length ∧ a.length ≤ 1000 ∧ ∀ b : Str, b = Txt.mul a n → Q (.str b) H) := by
  intro pins s σ H x y v u Q I rx ry h
  obtain ⟨a, n, rfl, rfl, n1, n2, a0, a1, q⟩ := h
  obtain ⟨t, rfl⟩ := rx
  obtain ⟨t', rfl⟩ := ry
  have pn : a.length * n ≤ 1000000 := Nat.le_trans (Nat.mul_le_mul a1 n2) (by decide)
  refine SB.mul ⟨by rw [decide_eq_false (by omega), decide_eq_false (by omega)]; rfl, fun _ _ => ?_, fun _ _ => ?_⟩ fun t1 k => ⟨.str _, H, I.tok _, ⟨_, rfl⟩, q _ rfl⟩
  · have : (1000 : Int) ≤ (2 ^ 63 - 1) / n := by
      refine Int.le_ediv_of_mul_le (by omega) ?_
      omega
    omega
  · have e : ((n : Int)).toNat = n := by omega
    rw [e]
    unfold Builtin.Str.tooLong
    have : sizeLine = 16777216 := by rw [sizeLine_eq]
    simp
    omega
/-- (a, b) < (c, d), whole numbers -/
def rLtT (K : PySem.W.Frag) : R2 := fun x y H Q => ∃ (a b : Addr) (p q : Int × Int), x = .ref a ∧ y = .ref b ∧ SqT K H a [.int p.1, .int p.2] ∧ SqT K H b [.int q.1, .int q.2] ∧ Q (.bl (decide (p.1 < q.1 ∨ p.1 = q.1 ∧ p.2 < q.2))) H
theorem op_ltT {X : Cx} (hu : X.A.units < cLine) : OpR X (compareOp .Lt) (rLtT X.K) := by
  intro pins s σ H x y v u Q I rx ry h
  obtain ⟨a, b, p, q, rfl, rfl, ha, hb, k⟩ := h
  cases rx
  cases ry
  obtain ⟨its, r1, p1, _⟩ := I.tuple ha
  obtain ⟨its2, r2, p2, _⟩ := I.tuple hb
  obtain ⟨u1, u2, rfl, ⟨t1, e1⟩, ⟨t2, e2⟩⟩ := vals2 r1
  obtain ⟨w1, w2, rfl, ⟨t3, e3⟩, ⟨t4, e4⟩⟩ := vals2 r2
  subst e1 e2 e3 e4
  have R := Ob.RcOp.tuples_lt (A := X.A) (s := s) (e := fun j => if j = 0 then (p.1 == q.1) else (p.2 == q.2)) (r := fun j => if j = 0 then decide (p.1 < q.1) else decide (p.2 < q.2)) p1 p2 hu (fun j h1 h2 => by
    match j, h1, h2 with
    | 0, h1, h2 => exact SeqAt.EqAt.int_int _ _ _ _
    | 1, h1, h2 => exact SeqAt.EqAt.int_int _ _ _ _
    | j + 2, h1, _ => exact absurd h1 (by simp)) (fun j h1 h2 _ => by
    match j, h1, h2 with
    | 0, h1, h2 => exact Ob.RcOp.lt_int _ _ _ _
    | 1, h1, h2 => exact Ob.RcOp.lt_int _ _ _ _
    | j + 2, h1, _ => exact absurd h1 (by simp))
  have z := R X.prog X.w X.xe (EP X pins σ Q) ⟨.bl _, H, I, rfl, ?_⟩
  · exact z
  · have e : Ob.lexAt (fun j => if j = 0 then (p.1 == q.1) else (p.2 == q.2)) (fun j => if j = 0 then decide (p.1 < q.1) else decide (p.2 < q.2)) (decide ((#[Value.int p.1 t1, Value.int p.2 t2] : Array Value).size < (#[Value.int q.1 t3, Value.int q.2 t4] : Array Value).size)) 0 2 = decide (p.1 < q.1 ∨ p.1 = q.1 ∧ p.2 < q.2) := by
      simp only [Ob.lexAt, if_true]
      by_cases c1 : p.1 = q.1
      · rw [c1]
        by_cases c2 : p.2 = q.2
        · simp [c2]
        · simp [c2]
      · simp [c1]
    exact e ▸ k
end KR
namespace K0
open PySem PySem.Spec L2
open PyProof.Rows hiding St
/-- any walk: Pv by the turn and the heap; what a turn does is body -/
theorem walk_al {J : It} {n : Nat} {G : Hp → Prop} {Y : Nat → Hp → V → Hp → Prop} (w : Walk J n G Y) {body : V → Hp → (Hp → Prop) → Prop} {H0 : Hp} {Qd : Hp → Prop} (Pv : Nat → Hp → Prop) (h0 : Pv 0 H0) (hG : ∀ i H, i ≤ n → Pv i H → G H)
    (hs : ∀ i x H H', i < n → Pv i H → Y i H x H' → body x H' (Pv (i + 1))) (hd : ∀ H, Pv n H → Qd H) :
    ∃ W : Nat → Nat → Hp → Prop, (∃ m, W 0 m H0) ∧ ∀ i m H, W i m H →
      (J.stop i H ∧ Qd H) ∨ (J.go i H ∧ ∃ Nx : Hp → Prop, (∀ H', Nx H' → ∃ m', m' < m ∧ W (i + 1) m' H') ∧ ∀ x H', J.yld i H x H' → body x H' Nx) := by
  refine ⟨fun i m H => m = n - i ∧ i ≤ n ∧ Pv i H, ⟨n, by simp, Nat.zero_le _, h0⟩, ?_⟩
  rintro i m H ⟨rfl, hi, p⟩
  have q := hG i H hi p
  by_cases hlt : i < n
  · exact .inr ⟨w.goes i H hlt q, Pv (i + 1), fun H' p' => ⟨n - (i + 1), by omega, rfl, hlt, p'⟩, fun x H' y => hs i x H H' hlt p (w.yields i H x H' hlt q y)⟩
  · have e : i = n := by omega
    subst e
    exact .inl ⟨w.stops H q, hd H p⟩
theorem yes_al {σ : L2.St} {H : Hp} {Q : Bool → Hp → Prop} (h : Q true H) : tYes σ H Q := h
/-- an f-string of parts -/
def tJoin (ts : List TE) : TE := fun σ H Q => tJs ts Str.empty σ H fun out H1 => Q (.str out) H1
theorem pe_joinT {X : Cx} {v1 v2 : Expr} {rest : List Expr} {ts : List TE} {pos : Pos} (h : PJ X (v1 :: v2 :: rest) ts) : PE X (.JoinedStr (v1 :: v2 :: rest) pos) (tJoin ts) := pe_joined h
end K0

set_option Elab.async false
set_option linter.all false
set_option maxRecDepth 100000
set_option maxHeartbeats 8000000
/-! A web's text. -/
namespace K0
open PySem PySem.Spec L2
open PyProof.Rows hiding St
open KR (TupX tobj)
abbrev pTextOf : Stmt := top 13
def spTextOf : Sp := fun vs H Q _ => ∃ (w : Addr) (n : Nat) (L : List (Int × Int)), vs = [.ref w] ∧ GW H w n L ∧ ∀ H', Same H H' → Q (.str (wtext n L)) H'
theorem log_small {i : Int} (h : 0 ≤ i ∧ i ≤ 100000) : i.natAbs.log2 < 1920 := by
  have h2 : i.natAbs < 2 ^ 17 := by omega
  by_cases z : i.natAbs = 0
  · rw [z]; decide
  · have := (Nat.log2_lt z).mpr h2
    omega
/-- '{a} {b}', piece by piece -/
theorem line_made {q : Int × Int} (h : 0 ≤ q.1 ∧ q.1 < q.2 ∧ q.2 < 12) : Str.empty ++ Str.ofString (toString q.1) ++ Str.ofString " " ++ Str.ofString (toString q.2) = pr q ∧
    (Str.empty ++ Str.ofString (toString q.1)).length ≤ sizeLine ∧ (Str.empty ++ Str.ofString (toString q.1) ++ Str.ofString " ").length ≤ sizeLine ∧ (Str.empty ++ Str.ofString (toString q.1) ++ Str.ofString " " ++ Str.ofString (toString q.2)).length ≤ sizeLine := by
  have e : Str.empty ++ Str.ofString (toString q.1) ++ Str.ofString " " ++ Str.ofString (toString q.2) = pr q := by rw [emp_app]; rfl
  have l := (pr_facts h).2.2
  have z : sizeLine = 16777216 := by rw [sizeLine_eq]
  have l2 := l
  rw [← e, app_len, app_len] at l2
  refine ⟨e, by omega, by rw [app_len]; omega, by rw [e]; omega⟩
theorem GW.bel12 {H : Hp} {w : Addr} {n : Nat} {L : List (Int × Int)} (g : GW H w n L) {q : Int × Int} (h : q ∈ L) : 0 ≤ q.1 ∧ q.1 < q.2 ∧ q.2 < 12 := by
  have := g.bel q h
  have := g.n2
  omega
section
variable {P : Program} {w0 : World} {K : PySem.W.Frag} {mg : Str → Option Value} {base : Heap}
abbrev nTextOf : List Str := ["web", "a", "b"]
theorem scTextOf : FnScope nTextOf ["web"] (defScope pTextOf) := ⟨rfl, rfl, rfl, by decide +kernel, rfl, by decide +kernel, by decide +kernel⟩
theorem ok_textOf {f fC : Addr} {fd fdC : FuncData} (F : Fun K "text_of" "text_of" pTextOf f fd) (T : Bk mg) (GC : Dn P w0 K mg base "check_web" 5 ["thing"] spCheckWeb fC fdC) : FnOk P w0 K mg base CX0 6 f fd ["web"] spTextOf := by
  refine F.ok scTextOf (fun vs H Q E h => ?_) (fun cdv A outer s H vs Q E hr h => ?_)
  · obtain ⟨w, n, L, rfl, _⟩ := h
    rfl
  · obtain ⟨w, n, L, rfl, G, k⟩ := h
    have sz : ∀ {m : Nat}, m ≤ 1000 → m ≤ sizeLine := fun h => by rw [sizeLine_eq]; omega
    refine ⟨_, pss_cons (ps_expr (pe_call GC.ok hr rfl GC.g GC.kp GC.b .nil pass0 (pa_cons (pv 0) pa_nil)))
      <| pss_one (ps_ret (pe_join pe_str (pe_op op_cat (pe_lst (pa_cons (pe_joinT (.cons pe_str (.cons (pe_fmt (pe_ix ix_tup (pv 0) pe_int (fun _ _ => rfl))) .nil))) pa_nil))
          (pe_lc (own := [("a", 1), ("b", 2)]) (g := gTup K 2 (gCons (gName 1) (gCons (gName 2) gNil))) (tt := tYes) rfl scTextOf.nd (pi_tup (pe_ix ix_tup (pv 0) pe_int (fun _ _ => rfl)))
            (blkOk_by (N := nTextOf) (sc := defScope pTextOf) (by decide +kernel)) (fun _ _ _ _ _ => pg_tup rfl (pgs_cons (pg_name (i := 1) scTextOf.nd rfl (.inl rfl) (.inr rfl)) (pgs_cons (pg_name (i := 2) scTextOf.nd rfl (.inl rfl) (.inr rfl)) pgs_nil)))
            (fun _ _ _ _ _ => pts_nil) (fun _ _ _ _ _ => pe_joinT (.cons (pe_fmt (pv 1)) (.cons pe_str (.cons (pe_fmt (pv 2)) .nil)))))))), ?_⟩
    have few := G.few
    have n2 := G.n2
    refine ⟨_, rfl, w, n, L, rfl, G, fun H1 s1 => ?_⟩
    obtain ⟨ta, vs, e1, e2, e3⟩ := (G.same s1).web.ex
    have len := e3.len
    have h9 := (hd_facts (n := (n : Int)) (by omega) (by omega)).2.2
    have lh : ("places " : Str).length = 7 := by decide +kernel
    refine ⟨⟨_, rfl⟩, _, rfl, sz (by rw [emp_app, lh]; decide), _, rfl, w, _, _, _, rfl, rfl, SqT.of e1, atI_nat (j := 0) rfl, .inr ⟨_, rfl, log_small (by omega), _, rfl, ?_⟩⟩
    have eh : Str.empty ++ Str.ofString "places " ++ Str.ofString (toString (n : Int)) = hd n := by rw [emp_app]; rfl
    rw [eh]
    refine ⟨sz (by omega), ?_⟩
    show 1 ≤ sizeLine ∧ _
    refine ⟨sz (by decide), fun l0 hl0 => ?_⟩
    have s2 := same_new (o := .lst [.str (hd n)]) hl0
    refine ⟨_, rfl, w, _, _, _, rfl, rfl, SqT.of (s2 _ _ e1), atI_nat (j := 1) rfl, ta, rfl, ⟨_, SqT.of (s2 _ _ e2)⟩, fun Da hD => ?_⟩
    have bel : ∀ q ∈ L, 0 ≤ q.1 ∧ q.1 < q.2 ∧ q.2 < 12 := fun q hq => G.bel12 hq
    refine lc_it (walk_tup (xs := vs)) (fun i N => N Da = some (.lst (((L.take i).map pr).map V.str)) ∧ Same (upd H1 l0 (.lst [.str (hd n)])) N) ⟨upd_same, same_new hD⟩ (fun i N _ g => SqT.of (g.2 _ _ (s2 _ _ e2))) ?_ ?_
    · rintro i x N N' hi ⟨f1, f2⟩ ⟨rfl, hx⟩
      obtain ⟨b, q, rfl, hq, hb⟩ := e3.get hx
      obtain ⟨m1, m2, m3, m4⟩ := line_made (bel q (List.mem_of_getElem? hq))
      refine ⟨b, _, rfl, SqT.of (f2 _ _ (s2 _ _ hb)), rfl, _, _, rfl, _, _, rfl, rfl, rfl, ?_⟩
      unfold tYes
      refine iteT ⟨_, rfl, .inr ⟨_, rfl, log_small (by have := bel q (List.mem_of_getElem? hq); omega), _, rfl, m2, _, rfl, m3, _, rfl, .inr ⟨_, rfl, log_small (by have := bel q (List.mem_of_getElem? hq); omega), _, rfl, m4, ?_⟩⟩⟩
      refine ⟨_, f1, by rw [List.length_map, List.length_map, List.length_take, sizeLine_eq]; omega, ?_, fun b o e => by rw [upd_ne (ne_of_none e hD)]; exact f2 _ _ e⟩
      rw [upd_same, take_snoc hq, List.map_append, List.map_append]
      show some (HO.lst (_ ++ [V.str _])) = _
      rw [m1]
      rfl
    rintro N ⟨f1, f2⟩
    rw [len, List.take_length] at f1
    refine ⟨l0, Da, _, _, rfl, rfl, f2 _ _ upd_same, f1, by rw [List.length_map, List.length_map, sizeLine_eq]; show 1 + _ ≤ _; omega, fun l1 hl1 => ?_⟩
    have pl := wlines_plain (n := n) n2 G.bel
    have sl := sum_len_le (c := 9) fun l hl => (pl l hl).2
    have ll : (wlines n L).length = L.length + 1 := by simp [wlines]
    refine ⟨_, l1, wlines n L, rfl, rfl, .inl (SqL.of upd_same), by rw [one_nl.len]; omega, k _ ((s1.trans s2).trans (f2.trans (same_new hl1)))⟩
end
end K0

set_option Elab.async false
set_option linter.all false
set_option maxRecDepth 100000
set_option maxHeartbeats 8000000
/-! The ties that lines tell. -/
namespace K0
open PySem PySem.Spec L2
open PyProof.Rows hiding St
open KR (TupX tobj)
abbrev pReadTies : Stmt := top 15
/-- the pairs of places below n, by the greater one -/
def plN (n : Nat) : List (Int × Int) := (List.range n).flatMap fun b => (List.range b).map fun (a : Nat) => ((a : Int), (b : Int))
theorem plN_mem {n : Nat} {q : Int × Int} : q ∈ plN n ↔ 0 ≤ q.1 ∧ q.1 < q.2 ∧ q.2 < n := by
  unfold plN
  simp only [List.mem_flatMap, List.mem_map, List.mem_range]
  constructor
  · rintro ⟨b, hb, a, ha, rfl⟩
    dsimp only
    omega
  · intro h
    exact ⟨q.2.toNat, by omega, q.1.toNat, by omega, by obtain ⟨x, y⟩ := q; dsimp only at h ⊢; rw [show ((x.toNat : Nat) : Int) = x by omega, show ((y.toNat : Nat) : Int) = y by omega]⟩
theorem plN_succ (n : Nat) : plN (n + 1) = plN n ++ (List.range n).map fun (a : Nat) => ((a : Int), (n : Int)) := by
  unfold plN
  rw [List.range_succ, List.flatMap_append]
  simp
theorem plN_len : ∀ {n : Nat}, n ≤ 12 → (plN n).length ≤ 12 * n
  | 0, _ => Nat.le_refl _
  | n + 1, h => by
    have := plN_len (n := n) (by omega)
    rw [plN_succ, List.length_append, List.length_map, List.length_range]
    omega
/-- a dict of lines: each leads to its pair -/
inductive KvP (H : Hp) : List (Key × V) → List (Int × Int) → Prop
  | nil : KvP H [] []
  | cons {b : Addr} {q : Int × Int} {kvs : List (Key × V)} {L : List (Int × Int)} (h : H b = some (.tup [.int q.1, .int q.2])) (t : KvP H kvs L) : KvP H ((.inr (pr q), .ref b) :: kvs) (q :: L)
theorem KvP.same {H H' : Hp} {kvs : List (Key × V)} {L : List (Int × Int)} (k : KvP H kvs L) (s : ∀ a x, H a = some (.tup x) → H' a = some (.tup x)) : KvP H' kvs L := by
  induction k with
  | nil => exact .nil
  | cons h t ih => exact .cons (s _ _ h) ih
theorem KvP.len {H : Hp} {kvs : List (Key × V)} {L : List (Int × Int)} (k : KvP H kvs L) : kvs.length = L.length := by
  induction k with
  | nil => rfl
  | cons h t ih => rw [List.length_cons, List.length_cons, ih]
theorem KvP.app {H : Hp} {kvs ks : List (Key × V)} {L M : List (Int × Int)} (k : KvP H kvs L) (m : KvP H ks M) : KvP H (kvs ++ ks) (L ++ M) := by
  induction k with
  | nil => exact m
  | cons h t ih => exact .cons h ih
theorem KvP.none {H : Hp} {kvs : List (Key × V)} {L : List (Int × Int)} {s : Str} (k : KvP H kvs L) (h : ∀ q ∈ L, pr q ≠ s) : valV kvs (Sum.inr s : Key) = none := by
  induction k with
  | nil => rfl
  | cons hb t ih =>
    rw [valV_neg (fun z => h _ (List.mem_cons_self ..) (Sum.inr.inj z))]
    exact ih fun q hq => h q (List.mem_cons_of_mem _ hq)
theorem KvP.get {H : Hp} {kvs : List (Key × V)} {L : List (Int × Int)} {q : Int × Int} (k : KvP H kvs L) (v : ∀ q ∈ L, 0 ≤ q.1 ∧ q.1 < q.2 ∧ q.2 < 12) (hq : q ∈ L) : ∃ b, valV kvs (Sum.inr (pr q) : Key) = some (.ref b) ∧ H b = some (.tup [.int q.1, .int q.2]) := by
  induction k with
  | nil => simp at hq
  | @cons b p kvs L hb t ih =>
    by_cases e : p = q
    · subst e
      exact ⟨b, valV_pos rfl, hb⟩
    · have hq' : q ∈ L := (List.mem_cons.mp hq).resolve_left fun z => e z.symm
      obtain ⟨c, e1, e2⟩ := ih (fun x hx => v x (List.mem_cons_of_mem _ hx)) hq'
      refine ⟨c, ?_, e2⟩
      rw [valV_neg fun z => e (lineT_inj (v _ (List.mem_cons_self ..)) (v _ hq) (Sum.inr.inj z))]
      exact e1
/-- pairs compared are codes compared -/
theorem cd_lt {n : Int} {a b : Int × Int} (ha : 0 ≤ a.1 ∧ a.1 < a.2 ∧ a.2 < n) (hb : 0 ≤ b.1 ∧ b.1 < b.2 ∧ b.2 < n) (hn : n ≤ 12) : (a.1 < b.1 ∨ a.1 = b.1 ∧ a.2 < b.2) ↔ cd a < cd b := by
  obtain ⟨a1, a2⟩ := a
  obtain ⟨b1, b2⟩ := b
  unfold cd
  dsimp only at ha hb ⊢
  omega
theorem cut1 {α : Type} (f : α → V) (xs : List α) : cutV (xs.map f) (some 1) none = (xs.drop 1).map f := by
  unfold cutV
  rw [HT.sIx_none, show (some (1 : Int)) = some ((1 : Nat) : Int) from rfl, HT.sIx_nat]
  rw [List.length_map, ← List.map_drop, ← List.map_take]
  congr 1
  by_cases h : 1 ≤ xs.length
  · rw [Nat.min_eq_left h, List.take_of_length_le (by rw [List.length_drop]; exact Nat.le_refl _)]
  · have : xs = [] := List.length_eq_zero_iff.mp (by omega)
    subst this
    simp
theorem Prs.last {H : Hp} {lq : Int × Int} : ∀ {us : List V} {ac : List (Int × Int)}, Prs H us (ac ++ [lq]) → ∃ us' bl, us = us' ++ [.ref bl] ∧ H bl = some (.tup [.int lq.1, .int lq.2])
  | _, [], p => by
    cases p with
    | cons h t => cases t; exact ⟨[], _, rfl, h⟩
  | _, x :: ac, p => by
    cases p with
    | cons h t =>
      obtain ⟨us', bl, rfl, hb⟩ := Prs.last t
      exact ⟨_ :: us', bl, rfl, hb⟩
def spReadTies (C : Addr) : Sp := fun vs H Q E => ∃ (l : Addr) (n : Nat) (ls : List Str), vs = [.ref l, .int n] ∧ n ≤ 12 ∧ H l = some (.lst (ls.map V.str)) ∧ ls.length ≤ 1000000 ∧
  (∀ M, rdL n 2 [] (ls.drop 1) = .inr M → ∀ (t : Addr) (us : List V) (H' : Hp), Same H H' → H' t = some (.tup us) → Prs H' us M → Q (.ref t) H') ∧ (∀ k : Nat, rdL n 2 [] (ls.drop 1) = .inl k → Rz C "at" (.int k) H E)
/-- behind i lines -/
def RdI (H : Hp) (l Dd Tt p : Addr) (n : Nat) (ls : List Str) (kvs : List (Key × V)) (i : Nat) (σ : L2.St) (M : Hp) : Prop := ∃ (oa ol : Option V) (acc : List (Int × Int)) (us : List V), σ = [some (.ref l), some (.int n), some (.ref Dd), some (.ref Tt), oa, ol, none, none] ∧ M Dd = some (.dK kvs) ∧ KvP M kvs (plN n) ∧ M Tt = some (.lst us) ∧ Prs M us acc ∧
  M p = some (.lst ((ls.drop 1).map V.str)) ∧ Same H M ∧ Bel n acc ∧ acc.length = i ∧ rdL n (2 + i) acc ((ls.drop 1).drop i) = rdL n 2 [] (ls.drop 1)
section
variable {P : Program} {w0 : World} {K : PySem.W.Frag} {mg : Str → Option Value} {base : Heap}
abbrev nReadTies : List Str := ["lines", "places", "pairs", "ties", "at", "line", "a", "b"]
theorem scReadTies : FnScope nReadTies ["lines", "places"] (defScope pReadTies) := ⟨rfl, rfl, rfl, by decide +kernel, rfl, by decide +kernel, by decide +kernel⟩
theorem ok_readTies {f C fC : Addr} {fd : FuncData} (F : Fun K "read_ties" "read_ties" pReadTies f fd) (T : Bk mg) (R : ErX P K mg "BadText" C fC "at") : FnOk P w0 K mg base (L2.CX P w0) 1 f fd ["lines", "places"] (spReadTies C) := by
  refine F.okX scReadTies (fun vs H Q E h => ?_) (fun cdv A outer s H vs Q E hr h => ?_)
  · obtain ⟨l, n, ls, rfl, _⟩ := h
    rfl
  · obtain ⟨l, n, ls, rfl, hn, hl, few, k, kx⟩ := h
    have hu := hu_of hr
    have hu6 : (A.deeper (envOfC "read_ties" (defScope pReadTies) s.heap.objs.size f cdv)).units < cLine := by omega
    refine ⟨_, pss_cons (ps_dc2 (i := 2) (own := [("a", 6), ("b", 7)]) (vs1 := [6]) (g0 := gName 7) (g1 := gName 6) rfl scReadTies.nd rfl rfl rfl (pi_range1 (by rfl) T.range (pa_cons (pv 1) pa_nil))
          (blkOk_by (N := nReadTies) (sc := defScope pReadTies) (by decide +kernel)) (by decide) (fun _ _ _ _ _ => pg_name (i := 7) scReadTies.nd rfl (Or.inl rfl)) (fun _ _ _ _ _ => pi_range1 (by rfl) T.range (pa_cons (pv 7) pa_nil)) (fun _ _ _ _ _ => pg_name (i := 6) scReadTies.nd rfl (Or.inl rfl))
          (fun _ _ _ _ _ => pe_joinT (.cons (pe_fmt (pv 6)) (.cons pe_str (.cons (pe_fmt (pv 7)) .nil)))) (fun _ _ _ _ _ => pe_tup (pa_cons (pv 6) (pa_cons (pv 7) pa_nil))))
      <| pss_cons (ps_set (i := 3) scReadTies.nd rfl (.inl rfl) (pe_lst pa_nil))
      <| pss_cons (ps_for (passes_of rfl) rfl (KR.pi_enumF (by rfl) T.enu (pa_cons (pe_slice sl_list (pv 0) (po_some pe_int) po_none) (pa_cons pe_int pa_nil))) (pg_tup rfl (pgs_cons (pg_name (i := 4) scReadTies.nd rfl (.inl rfl)) (pgs_cons (pg_name (i := 5) scReadTies.nd rfl (.inl rfl)) pgs_nil)))
          (pss_cons (ps_if (PW.pt (pw_or (pt_cmp (pc_dnotin hu (pv 5) (pv 2))) (pw_or1 (PW.pt (pw_and (pt_truthK (K0 := K) rfl (pv 3) (by intro _; rfl)) (pw_and1 (pt_cmpR (KR.op_ltT hu6) (pe_dget hu (pv 2) (pv 5) (fun _ _ => rfl)) (pe_ix ix_list (pv 3) (pe_un un_neg pe_int) (fun _ _ => rfl)) (nomark _))))))))
              (pss_one (ps_raise rfl (takes_of rfl rfl rfl rfl) (pmk1 R.er R.f1 (by decide) T.sup hr R.g (pa_cons (pv 4) pa_nil)))) pss_nil)
          <| pss_one (ps_expr (pe_bm PySem.F.plainAttrs_list PySem.F.slot_list_append PySem.F.type_list_append mt_append (pv 3) (pa_cons (pe_dget hu (pv 2) (pv 5) (fun _ _ => rfl)) pa_nil)))))
      <| pss_one (ps_ret (pe_callTy call_tuple_of (by rfl) T.tuple (by decide +kernel) (pa_cons (pv 3) pa_nil))), ?_⟩
    have sz : ∀ {m : Nat}, m ≤ 1000 → m < sizeLine := fun h => by rw [sizeLine_eq]; omega
    -- the dict
    refine ⟨_, rfl, _, rfl, by omega, by omega, fun Dd hDd => ?_⟩
    refine walk_al (walk_range (lo := 0) (n := ((n : Nat) : Int).toNat)) (fun i N => ∃ kvs, N Dd = some (.dK kvs) ∧ KvP N kvs (plN i) ∧ Same H N) ⟨[], upd_same, .nil, same_new hDd⟩ (fun _ _ _ _ => trivial) ?_ ?_
    · rintro i x N N' hi ⟨kvs, g1, g2, g3⟩ ⟨rfl, hx⟩
      have hx : x = .int (i : Int) := hx.trans (congrArg V.int (Int.zero_add _))
      subst hx
      have hi' : i < n := by omega
      refine ⟨rfl, _, rfl, _, rfl, by omega, by omega, ?_⟩
      refine walk_al (walk_range (lo := 0) (n := ((i : Nat) : Int).toNat)) (fun j M => ∃ ks, M Dd = some (.dK ks) ∧ KvP M ks (plN i ++ (List.range j).map fun (a : Nat) => ((a : Int), (i : Int))) ∧ Same H M) ⟨kvs, g1, by simpa using g2, g3⟩ (fun _ _ _ _ => trivial) ?_ ?_
      · rintro j x M M' hj ⟨ks, f1, f2, f3⟩ ⟨rfl, hx⟩
        have hx : x = .int (j : Int) := hx.trans (congrArg V.int (Int.zero_add _))
        subst hx
        have hj' : j < i := by omega
        have val : ∀ q ∈ plN i ++ (List.range j).map (fun (a : Nat) => ((a : Int), (i : Int))), (0 ≤ q.1 ∧ q.1 < q.2 ∧ q.2 < 12) ∧ (q.2 < i ∨ q.1 < j) := fun q hq => by
          rcases List.mem_append.mp hq with hq | hq
          · have := plN_mem.mp hq
            omega
          · obtain ⟨a, ha, rfl⟩ := List.mem_map.mp hq
            have := List.mem_range.mp ha
            dsimp only
            omega
        have vq : 0 ≤ ((j : Int), (i : Int)).1 ∧ ((j : Int), (i : Int)).1 < ((j : Int), (i : Int)).2 ∧ ((j : Int), (i : Int)).2 < 12 := by dsimp only; omega
        obtain ⟨m1, m2, m3, m4⟩ := line_made vq
        have l2 := plN_len (n := i) (by omega)
        have fl := f2.len
        rw [List.length_append, List.length_map, List.length_range] at fl
        have new : valV ks (Sum.inr (pr ((j : Int), (i : Int))) : Key) = none := f2.none fun q hq e => by
          obtain ⟨v1, v2⟩ := val q hq
          have := lineT_inj v1 vq e
          subst this
          dsimp only at v2
          omega
        refine ⟨rfl, _, rfl, .inr ⟨_, rfl, log_small (by omega), _, rfl, m2, _, rfl, m3, _, rfl, .inr ⟨_, rfl, log_small (by omega), _, rfl, m4, ?_⟩⟩⟩
        refine ⟨_, rfl, _, rfl, show 2 ≤ sizeLine from Nat.le_of_lt (sz (by decide)), fun t ht => ⟨ks, Sum.inr (pr ((j : Int), (i : Int))), congrArg V.str m1, by rw [upd_ne (ne_of_none f1 ht)]; exact f1, sz (by omega), ?_⟩⟩
        rw [putK_new _ new]
        have tD : t ≠ Dd := (ne_of_none f1 ht).symm
        refine ⟨_, upd_same, ?_, fun b o e => ?_⟩
        · rw [List.range_succ, List.map_append, ← List.append_assoc]
          refine (f2.same fun a y e => ?_).app (.cons ?_ .nil)
          · rw [upd_ne (fun z => by rw [z, f1] at e; cases e), upd_ne (ne_of_none e ht)]
            exact e
          · rw [upd_ne tD]
            exact upd_same
        · rw [upd_ne (ne_of_none e hDd), upd_ne (ne_of_none (f3 _ _ e) ht)]
          exact f3 _ _ e
      · rintro M ⟨ks, f1, f2, f3⟩
        rw [Int.toNat_natCast, ← plN_succ] at f2
        exact ⟨ks, f1, f2, f3⟩
    rintro N ⟨kvs, g1, g2, g3⟩
    rw [Int.toNat_natCast] at g2
    have val : ∀ q ∈ plN n, 0 ≤ q.1 ∧ q.1 < q.2 ∧ q.2 < 12 := fun q hq => by have := plN_mem.mp hq; omega
    refine ⟨Nat.zero_le _, fun Tt hT => ?_⟩
    have s1 : Same H (upd N Tt (.lst [])) := g3.trans (same_new hT)
    refine ⟨_, rfl, _, rfl, l, _, rfl, SqL.of (s1 _ _ hl), fun p hp => ?_⟩
    rw [cut1]
    have s2 : Same H (upd (upd N Tt (.lst [])) p (.lst ((ls.drop 1).map V.str))) := s1.trans (same_new hp)
    have Dt : Dd ≠ Tt := ne_of_none g1 hT
    have pT : p ≠ Tt := (ne_of_none (o := .lst []) upd_same hp).symm
    have pD : p ≠ Dd := (ne_of_none (o := .dK kvs) (by rw [upd_ne Dt]; exact g1) hp).symm
    refine ⟨p, _, 2, rfl, SqL.of upd_same, by decide, by decide, ?_⟩
    generalize hM0 : upd (upd N Tt (.lst [])) p (.lst ((ls.drop 1).map V.str)) = M0 at s2
    have b1 : M0 Dd = some (.dK kvs) := by rw [← hM0, upd_ne pD.symm, upd_ne Dt]; exact g1
    have b2 : M0 Tt = some (.lst []) := by rw [← hM0, upd_ne pT.symm]; exact upd_same
    have b3 : M0 p = some (.lst ((ls.drop 1).map V.str)) := by rw [← hM0]; exact upd_same
    have b4 : KvP M0 kvs (plN n) := g2.same fun a y e => by
      rw [← hM0]
      exact ((same_new hT).trans (same_new hp)) _ _ e
    have fHT : H Tt = none := g3.free hT
    clear hM0 g1 g2 s1 hp hT
    have len : ((ls.drop 1).map V.str).length = ls.length - 1 := by rw [List.length_map, List.length_drop]
    refine for_it (KR.walk_enumF (xs := (ls.drop 1).map V.str)) (RdI H l Dd Tt p n ls kvs) ⟨none, none, [], [], rfl, b1, b4, b2, .nil, b3, s2, (fun _ z => nomatch z), rfl, rfl⟩ (fun i σ M _ ⟨_, _, _, _, _, _, _, _, _, g, _⟩ => SqL.of g) ?_ ?_
    · rintro i x σ M M' hi ⟨oa, ol, acc, us, rfl, c1, c2, c3, c4, c5, c6, c7, c8, c9⟩ ⟨T0, u, y, rfl, hT0, rfl, e1, e2⟩
      cases e1
      have e2 : ((ls.drop 1).map V.str)[i]? = some y := e2
      rw [List.getElem?_map] at e2
      have hi' : i < (ls.drop 1).length := by rw [List.length_map] at hi; exact hi
      rw [List.getElem?_eq_getElem hi'] at e2
      cases e2
      rw [List.drop_eq_getElem_cons hi'] at c9
      generalize (ls.drop 1)[i] = x at c9 ⊢
      have hq : (2 : Int) + ((i : Nat) : Int) = ((2 + i : Nat) : Int) := by omega
      rw [hq]
      have sM := same_new (H := M) (o := .tup [.int ((2 + i : Nat) : Int), .str x]) hT0
      generalize hM1 : upd M T0 (.tup [.int ((2 + i : Nat) : Int), .str x]) = M1 at sM ⊢
      have hT1 : M1 T0 = some (.tup [.int ((2 + i : Nat) : Int), .str x]) := by rw [← hM1]; exact upd_same
      have d1 := sM _ _ c1
      have d3 := sM _ _ c3
      have sHM : Same H M1 := c6.trans sM
      have few2 := c4.len
      refine ⟨T0, _, rfl, SqT.of hT1, rfl, _, _, rfl, _, _, rfl, rfl, ?_⟩
      cases ex : lineP n x with
      | none =>
        have no : valV kvs (Sum.inr x : Key) = none := c2.none fun q hq e => by
          have := (lineP_some (n := (n : Int)) (s := x) (q := q) (by omega)).mpr ⟨plN_mem.mp hq, e.symm⟩
          rw [ex] at this
          cases this
        rw [rdL_none ex] at c9
        have dg : DGet M1 Dd (.str x) none := no ▸ DGet.k (k := Sum.inr x) d1
        refine ⟨_, rfl, _, rfl, Dd, none, rfl, dg, _, rfl, iteT ?_⟩
        exact ⟨_, rfl, _, rfl, fun d hd => kx _ c9.symm d _ (sHM.trans (same_new hd)) (sHM.free hd) upd_same⟩
      | some q =>
        obtain ⟨vq, rfl⟩ := (lineP_some (n := (n : Int)) (by omega)).mp ex
        obtain ⟨b, gb, hb⟩ := c2.get val (plN_mem.mpr vq)
        have hb1 := sM _ _ hb
        have dg : ∀ {M2 : Hp}, M2 Dd = some (.dK kvs) → DGet M2 Dd (.str (pr q)) (some (.ref b)) := fun e => gb ▸ DGet.k (k := Sum.inr (pr q)) e
        refine ⟨_, rfl, _, rfl, Dd, some (.ref b), rfl, dg d1, _, rfl, iteF ?_⟩
        refine ⟨_, rfl, !us.isEmpty, .inl ⟨us, SqL.of d3, rfl⟩, ?_⟩
        have go : bad acc q = false → ∀ oa' ol', RdI H l Dd Tt p n ls kvs (i + 1) [some (.ref l), some (.int n), some (.ref Dd), some (.ref Tt), oa', ol', none, none] (upd M1 Tt (.lst (us ++ [.ref b]))) := fun hb0 oa' ol' => by
          refine ⟨oa', ol', acc ++ [q], us ++ [.ref b], rfl, by rw [upd_ne Dt]; exact d1, c2.same fun a y e => ?_, upd_same, ?_, by rw [upd_ne pT]; exact sM _ _ c5, fun a o e => by rw [upd_ne (ne_of_none e fHT)]; exact sHM _ _ e, fun y hy => ?_, by rw [List.length_append, c8]; rfl, ?_⟩
          · rw [upd_ne (fun z => by rw [z, c3] at e; cases e)]
            exact sM _ _ e
          · exact (c4.app (.cons hb .nil)).mono fun a y e => by
              rw [upd_ne (fun z => by rw [z, c3] at e; cases e)]
              exact sM _ _ e
          · rcases List.mem_append.mp hy with hy | hy
            · exact c7 y hy
            · rw [List.mem_singleton.mp hy]; exact vq
          · rw [← c9, rdL_step ex hb0, Nat.add_assoc]
        have end_ : bad acc q = false → ∀ D : Ends, D.nx = RdI H l Dd Tt p n ls kvs (i + 1) → tDrop (tBM K "list" rAppend (tVar 3) (tCons (tDGet (tVar 2) (tVar 5)) tNil)) D [some (.ref l), some (.int n), some (.ref Dd), some (.ref Tt), some (.int ((2 + i : Nat) : Int)), some (.str (pr q)), none, none] M1 := fun hb0 D hD => by
          have ul : us.length < sizeLine := by
            rw [few2, c8, sizeLine_eq]
            rw [List.length_drop] at hi'
            omega
          refine ⟨_, rfl, .inl ⟨rfl, _, SqL.of d3⟩, _, rfl, _, rfl, Dd, _, rfl, dg d1, Tt, _, _, rfl, rfl, d3, ul, ?_⟩
          show D.nx _ _
          rw [hD]
          exact go hb0 _ _
        rcases List.eq_nil_or_concat acc with rfl | ⟨ac, lq, rfl⟩
        · cases c4
          refine iteF (iteF ?_)
          exact end_ rfl _ rfl
        · rw [List.concat_eq_append] at c4 c7 c8 c9 end_
          obtain ⟨us', bl, rfl, hbl⟩ := c4.last
          have ne : (!(us' ++ [V.ref bl]).isEmpty) = true := by simp
          rw [ne]
          refine iteT ?_
          have vl := c7 lq (List.mem_append_right _ (List.mem_singleton.mpr rfl))
          have bd : bad (ac ++ [lq]) q = decide (cd q < cd lq) := by
            unfold bad
            rw [List.getLast?_append]
            rfl
          refine ⟨_, rfl, _, rfl, Dd, _, rfl, dg d1, _, rfl, _, rfl, Tt, _, _, _, rfl, rfl, SqL.of d3, atI_last _ _, b, bl, q, lq, rfl, rfl, SqT.of hb1, SqT.of (sM _ _ hbl), _, rfl, ?_⟩
          cases hbd : bad (ac ++ [lq]) q with
          | true =>
            have : decide (q.1 < lq.1 ∨ q.1 = lq.1 ∧ q.2 < lq.2) = true := decide_eq_true ((cd_lt vq vl (by omega)).mpr (of_decide_eq_true (bd ▸ hbd)))
            rw [this]
            rw [rdL_bad ex hbd] at c9
            refine iteT ?_
            exact ⟨_, rfl, _, rfl, fun d hd => kx _ c9.symm d _ (sHM.trans (same_new hd)) (sHM.free hd) upd_same⟩
          | false =>
            have : decide (q.1 < lq.1 ∨ q.1 = lq.1 ∧ q.2 < lq.2) = false := decide_eq_false fun z => (of_decide_eq_false (bd ▸ hbd)) ((cd_lt vq vl (by omega)).mp z)
            rw [this]
            exact iteF (end_ hbd _ rfl)
    · rintro σ M ⟨oa, ol, acc, us, rfl, c1, c2, c3, c4, c5, c6, c7, c8, c9⟩
      have e0 : (ls.drop 1).drop ((ls.drop 1).map V.str).length = [] := by rw [List.length_map, List.drop_length]
      rw [e0] at c9
      exact ⟨_, rfl, Tt, us, rfl, .inl ⟨SqL.of c3, fun t ht => k acc c9.symm t us _ (c6.trans (same_new ht)) upd_same (c4.mono (same_tup (same_new ht)))⟩⟩
end
end K0

set_option Elab.async false
set_option linter.all false
set_option maxRecDepth 100000
set_option maxHeartbeats 8000000
/-! The web that a text tells. -/
namespace K0
open PySem PySem.Spec L2
open PyProof.Rows hiding St
open KR (TupX tobj)
abbrev pReadWeb : Stmt := top 14
structure Bs (mg : Str → Option Value) : Prop extends Bk mg where
  str : mg "str" = none
theorem VT.kitS {K : PySem.W.Frag} {H : Hp} {v : V} {t : String} (h : VT H v t) : PySem.W.kitOne K (.type t) (.type "str") = some (decide (t = "str")) := by
  cases h <;> exact kit_ty (by decide +kernel)
theorem valV_mem {k : Key} {v : V} : ∀ {kvs : List (Key × V)}, (k, v) ∈ kvs → (∀ v', (k, v') ∈ kvs → v' = v) → valV kvs k = some v
  | [], h, _ => by simp at h
  | (k0, v0) :: kvs, h, u => by
    by_cases e : k0 = k
    · subst e
      rw [valV_pos rfl, u v0 (List.mem_cons_self ..)]
    · rw [valV_neg e]
      exact valV_mem ((List.mem_cons.mp h).resolve_left fun z => e (congrArg Prod.fst z).symm) fun v' h' => u v' (List.mem_cons_of_mem _ h')
theorem valV_no {k : Key} : ∀ {kvs : List (Key × V)}, (∀ p ∈ kvs, p.1 ≠ k) → valV kvs k = none
  | [], _ => rfl
  | p :: kvs, h => by
    rw [valV_neg (h p (List.mem_cons_self ..))]
    exact valV_no fun q hq => h q (List.mem_cons_of_mem _ hq)
/-- the first lines of the webs of up to i places -/
def hdK (i : Nat) : List (Key × V) := (List.range i).map fun j => (Sum.inr (hd ((1 + j : Nat) : Int)), V.int ((1 + j : Nat) : Int))
theorem hdK_mem {i : Nat} {p : Key × V} : p ∈ hdK i ↔ ∃ j, j < i ∧ p = (Sum.inr (hd ((1 + j : Nat) : Int)), V.int ((1 + j : Nat) : Int)) := by
  unfold hdK
  simp only [List.mem_map, List.mem_range]
  exact ⟨fun ⟨j, h, e⟩ => ⟨j, h, e.symm⟩, fun ⟨j, h, e⟩ => ⟨j, h, e.symm⟩⟩
theorem hdK_new {i : Nat} (h : i < 12) : valV (hdK i) (Sum.inr (hd ((1 + i : Nat) : Int)) : Key) = none := valV_no fun p hp e => by
  obtain ⟨j, hj, rfl⟩ := hdK_mem.mp hp
  have := lineH_inj (m := ((1 + j : Nat) : Int)) (n := ((1 + i : Nat) : Int)) (by omega) (by omega) (Sum.inr.inj e)
  omega
theorem hdK_get {n : Nat} (h1 : 1 ≤ n) (h2 : n ≤ 12) : valV (hdK 12) (Sum.inr (hd (n : Int)) : Key) = some (.int n) := by
  refine valV_mem (hdK_mem.mpr ⟨n - 1, by omega, by rw [show 1 + (n - 1) = n by omega]⟩) fun v' hv => ?_
  obtain ⟨j, hj, e⟩ := hdK_mem.mp hv
  have e1 := lineH_inj (m := (n : Int)) (n := ((1 + j : Nat) : Int)) (by omega) (by omega) (Sum.inr.inj (congrArg Prod.fst e))
  have e2 : v' = V.int ((1 + j : Nat) : Int) := congrArg Prod.snd e
  rw [e2, e1]
theorem hdK_none {s : Str} (h : headP s = none) : valV (hdK 12) (Sum.inr s : Key) = none := valV_no fun p hp e => by
  obtain ⟨j, hj, rfl⟩ := hdK_mem.mp hp
  have := headP_some.mpr (⟨⟨by omega, by omega⟩, (Sum.inr.inj e).symm⟩ : (1 ≤ 1 + j ∧ 1 + j ≤ 12) ∧ s = hd ((1 + j : Nat) : Int))
  rw [h] at this
  cases this
def spReadWeb (C : Addr) : Sp := fun vs H Q E => ∃ (v : V) (t : String), vs = [v] ∧ VT H v t ∧
  (∀ s, v = .str s → s.length ≤ 900000 ∧ (∀ n L, rdT s = .inr (n, L) → ∀ (w : Addr) (H' : Hp), Same H H' → Web H' w n L → Q (.ref w) H') ∧ ∀ k : Nat, rdT s = .inl k → Rz C "at" (.int k) H E) ∧ ((∀ s, v ≠ .str s) → Rz C "at" (.int 0) H E)
theorem split_len_le (x : Str) : (Txt.split x "\n").length ≤ x.length + 1 := by
  have h := split_many x
  have : nls x ≤ (TL.tl x).length := List.count_le_length
  rw [TL.len_tl]
  omega
section
variable {P : Program} {w0 : World} {K : PySem.W.Frag} {mg : Str → Option Value} {base : Heap}
abbrev nReadWeb : List Str := ["text", "lines", "heads", "places"]
theorem scReadWeb : FnScope nReadWeb ["text"] (defScope pReadWeb) := ⟨rfl, rfl, rfl, by decide +kernel, rfl, by decide +kernel, by decide +kernel⟩
theorem ok_readWeb {f fT C fC : Addr} {fd fdT : FuncData} (F : Fun K "read_web" "read_web" pReadWeb f fd) (T : Bs mg) (R : ErX P K mg "BadText" C fC "at")
    (GT : FnOk P w0 K mg base (L2.CX P w0) 1 fT fdT ["lines", "places"] (spReadTies C)) (gT : mg "read_ties" = some (.ref fT)) (kT : PySem.W.keepIn K (.ref fT) = true) (bT : Binds K fdT ["lines", "places"] []) :
    FnOk P w0 K mg base (L2.CX P w0) 2 f fd ["text"] (spReadWeb C) := by
  refine F.okX scReadWeb (fun vs H Q E h => ?_) (fun cdv A outer s H vs Q E hr h => ?_)
  · obtain ⟨v, t, rfl, _⟩ := h
    rfl
  · obtain ⟨v, t, rfl, hv, k, kx⟩ := h
    have hu := hu_of hr
    have sz : ∀ {m : Nat}, m ≤ 1000 → m ≤ sizeLine := fun h => by rw [sizeLine_eq]; omega
    obtain ⟨tk, hmost⟩ := T.most
    refine ⟨_, pss_cons (ps_if (pt_not (pt_val (pe_callB call_isi (by rfl) T.isi (by decide +kernel) (pa_cons (pv 0) (pa_cons (pe_bltn (v := .ty "str") (u := .type "str") (by rfl) T.str (by decide +kernel) rfl) pa_nil)))))
          (pss_one (ps_raise rfl (takes_of rfl rfl rfl rfl) (pmk1 R.er R.f1 (by decide) T.sup hr R.g (pa_cons pe_int pa_nil)))) pss_nil)
      <| pss_cons (ps_set (i := 1) scReadWeb.nd rfl (.inl rfl) (pe_split (pv 0) pe_str))
      <| pss_cons (ps_dc1 (i := 2) (own := [("places", 3)]) (g0 := gName 3) (tt := tYes) rfl scReadWeb.nd rfl rfl rfl (pi_range2 (by rfl) T.range (pa_cons pe_int (pa_cons (pe_op op_add (pe_glob rfl hmost (show RelV (.int 12) _ from ⟨_, rfl⟩)) pe_int) pa_nil)))
          (blkOk_by (N := nReadWeb) (sc := defScope pReadWeb) (by decide +kernel)) (fun _ _ _ _ _ => pg_name (i := 3) scReadWeb.nd rfl (Or.inl rfl)) (fun _ _ _ _ _ => pts_nil) (fun _ _ _ _ _ => pe_joinT (.cons pe_str (.cons (pe_fmt (pv 3)) .nil))) (fun _ _ _ _ _ => pv 3))
      <| pss_cons (ps_if (pt_cmp (pc_dnotin hu (pe_ix ix_list (pv 1) pe_int (fun _ _ => rfl)) (pv 2)))
          (pss_one (ps_raise rfl (takes_of rfl rfl rfl rfl) (pmk1 R.er R.f1 (by decide) T.sup hr R.g (pa_cons pe_int pa_nil)))) pss_nil)
      <| pss_cons (ps_set (i := 3) scReadWeb.nd rfl (.inl rfl) (pe_dget hu (pv 2) (pe_ix ix_list (pv 1) pe_int (fun _ _ => rfl)) (fun _ _ => rfl)))
      <| pss_one (ps_ret (pe_tup (pa_cons (pv 3) (pa_cons (pe_call GT hr rfl gT kT bT .nil (passes_call (takes_of rfl rfl rfl rfl) (fun _ _ _ _ h => h)) (pa_cons (pv 1) (pa_cons (pv 3) pa_nil))) pa_nil)))), ?_⟩
    refine ⟨_, rfl, v, .ty "str", .type t, .type "str", _, rfl, .ty "str", hv.ty, hv.kitS, _, rfl, ?_⟩
    by_cases ht : t = "str"
    case neg =>
      rw [decide_eq_false ht]
      refine iteT ⟨_, rfl, fun d hd => kx (fun s e => ?_) d _ (same_new hd) hd upd_same⟩
      subst e
      cases hv
      exact ht rfl
    obtain ⟨x, rfl⟩ : ∃ x, v = .str x := by
      cases hv with
      | str x => exact ⟨x, rfl⟩
      | _ => exact absurd ht (by decide)
    rw [decide_eq_true ht]
    obtain ⟨xl, kr, ke⟩ := k x rfl
    refine iteF ⟨_, rfl, ⟨_, rfl⟩, _, _, rfl, rfl, by decide +kernel, by rw [sizeLine_eq]; omega, fun l hl => ?_⟩
    have ll := split_len_le x
    have ne := one_nl.ne x
    have kr : ∀ n L, rdLs (Txt.split x "\n") = .inr (n, L) → ∀ (w : Addr) (H' : Hp), Same H H' → Web H' w n L → Q (.ref w) H' := kr
    have ke : ∀ k : Nat, rdLs (Txt.split x "\n") = .inl k → Rz C "at" (.int k) H E := ke
    have hL : (upd H l (.lst ((Txt.split x "\n").map V.str))) l = some (.lst ((Txt.split x "\n").map V.str)) := upd_same
    have s1 := same_new (H := H) (o := .lst ((Txt.split x "\n").map V.str)) hl
    generalize upd H l (.lst ((Txt.split x "\n").map V.str)) = H1 at hL s1 ⊢
    generalize hls : Txt.split x "\n" = ls at hL ll ne kr ke
    obtain ⟨h0, r, rfl⟩ : ∃ h0 r, ls = h0 :: r := by
      cases ls with
      | nil => exact absurd rfl ne
      | cons a b => exact ⟨a, b, rfl⟩
    refine ⟨_, _, rfl, rfl, _, _, rfl, ⟨by decide, by decide, by decide, by decide⟩, fun Dd hD => ?_⟩
    have lh : ("places " : Str).length = 7 := by decide +kernel
    refine dc_it (walk_range (lo := 1) (n := (12 + 1 - 1 : Int).toNat)) (fun i N => N Dd = some (.dK (hdK i)) ∧ Same H1 N) ⟨upd_same, same_new hD⟩ (fun _ _ _ _ => trivial) ?_ ?_
    · rintro i x N N' hi ⟨g1, g2⟩ ⟨rfl, hx⟩
      have hi' : i < 12 := hi
      have hx : x = .int ((1 + i : Nat) : Int) := hx.trans (congrArg V.int (by omega))
      subst hx
      have e : Str.empty ++ Str.ofString "places " ++ Str.ofString (toString (((1 + i : Nat) : Int))) = hd ((1 + i : Nat) : Int) := by rw [emp_app]; rfl
      have h9 := (hd_facts (n := ((1 + i : Nat) : Int)) (by omega) (by omega)).2.2
      refine ⟨rfl, yes_al (iteT ⟨_, rfl, sz (by rw [emp_app, lh]; decide), _, rfl, .inr ⟨_, rfl, log_small (by omega), _, rfl, by rw [e]; exact sz (by omega), _, rfl, ?_⟩⟩)⟩
      refine ⟨hdK i, Sum.inr (hd ((1 + i : Nat) : Int)), congrArg V.str e, g1, by simp only [hdK, List.length_map, List.length_range]; rw [sizeLine_eq]; omega, ?_, fun b o e => by rw [upd_ne (ne_of_none e hD)]; exact g2 _ _ e⟩
      rw [putK_new _ (hdK_new hi'), upd_same]
      unfold hdK
      rw [List.range_succ, List.map_append]
      rfl
    rintro N ⟨g1, g2⟩
    have g1 : N Dd = some (.dK (hdK 12)) := g1
    have s2 := s1.trans g2
    have hL2 := g2 _ _ hL
    have h00 : atI ((h0 :: r).map V.str) 0 = some (.str h0) := atI_nat (j := 0) rfl
    refine ⟨_, rfl, l, _, _, _, rfl, rfl, SqL.of hL2, h00, _, rfl, Dd, valV (hdK 12) (Sum.inr h0), rfl, DGet.k (k := Sum.inr h0) g1, _, rfl, ?_⟩
    cases eh : headP h0 with
    | none =>
      rw [hdK_none eh]
      refine iteT ⟨_, rfl, fun d hd => ke 1 ?_ d _ (s2.trans (same_new hd)) (s2.free hd) upd_same⟩
      show (match headP h0 with | none => Sum.inl 1 | some n => match rdL n 2 [] r with | .inl k => Sum.inl k | .inr M => Sum.inr (n, M)) = _
      rw [eh]
    | some n =>
      obtain ⟨⟨n1, n2⟩, rfl⟩ := headP_some.mp eh
      rw [hdK_get n1 n2]
      have dg : DGet N Dd (.str (hd (n : Int))) (some (.int n)) := hdK_get n1 n2 ▸ DGet.k (k := Sum.inr (hd (n : Int))) g1
      refine iteF ⟨_, rfl, _, rfl, l, _, _, _, rfl, rfl, SqL.of hL2, h00, Dd, _, rfl, dg, _, rfl, _, rfl, _, rfl, l, n, _, rfl, n2, hL2, by omega, fun M eM t us H' sH et pu => ?_, fun k ek d H' sH hd' e => ke k ?_ d H' (s2.trans sH) (s2.free hd') e⟩
      · refine ⟨show 2 ≤ sizeLine from sz (by decide), fun w hw => kr n M ?_ w _ ((s2.trans sH).trans (same_new hw)) ⟨t, us, upd_same, same_new hw _ _ et, pu.mono (same_tup (same_new hw))⟩⟩
        show (match headP (hd n) with | none => Sum.inl 1 | some n => match rdL n 2 [] r with | .inl k => Sum.inl k | .inr M => Sum.inr (n, M)) = _
        have eM : rdL n 2 [] r = .inr M := eM
        rw [eh]
        show (match rdL n 2 [] r with | .inl k => Sum.inl k | .inr M => Sum.inr (n, M)) = _
        rw [eM]
      · show (match headP (hd n) with | none => Sum.inl 1 | some n => match rdL n 2 [] r with | .inl k => Sum.inl k | .inr M => Sum.inr (n, M)) = _
        have ek : rdL n 2 [] r = .inl k := ek
        rw [eh]
        show (match rdL n 2 [] r with | .inl k => Sum.inl k | .inr M => Sum.inr (n, M)) = _
        rw [ek]
end
end K0

set_option Elab.async false
set_option linter.all false
set_option maxRecDepth 100000
set_option maxHeartbeats 8000000
/-! All pairs of places. -/
namespace K0
open PySem PySem.Spec L2
open PyProof.Rows hiding St
open KR (TupX tobj)
def spPairsF : Sp := fun vs H Q _ => ∃ n : Nat, vs = [.int n] ∧ n ≤ 12 ∧ ∀ (l : Addr) (L : List (Int × Int)) (H' : Hp), H l = none → LP H' l L → Bel n L → (∀ q : Int × Int, 0 ≤ q.1 → q.1 < q.2 → q.2 < n → q ∈ L) → L.length ≤ 144 → Same H H' → Q (.ref l) H'
section
variable {P : Program} {w : World} {K : PySem.W.Frag} {mg : Str → Option Value} {base : Heap}
theorem ok_pairsF {f : Addr} {fd : FuncData} (F : Fun K "_law_pairs" "_law_pairs" sPairs f fd) (T : Bj mg) : FnOk P w K mg base CX0 1 f fd ["_law_n"] spPairsF := by
  refine F.ok scPairs (fun vs H Q E h => ?_) (fun cdv A outer s H vs Q E hr h => ?_)
  · obtain ⟨n, rfl, _⟩ := h
    rfl
  · obtain ⟨n, rfl, hn, k⟩ := h
    refine ⟨_, pss_cons (ps_set (i := 1) scPairs.nd rfl (.inl rfl) (pe_lst pa_nil))
      <| pss_cons (ps_for PassesOwn.never rfl (pi_range1 (by rfl) T.range (pa_cons (pv 0) pa_nil)) (pg_name (i := 2) scPairs.nd rfl (.inr rfl))
        (pss_one (ps_set (i := 1) scPairs.nd rfl (.inl rfl) (pe_op op_cat (pv 1) (pe_lc (own := [("_law_other", 3)]) (g := gName 3) (tt := tYes) rfl scPairs.nd (pi_range2 (by rfl) T.range (pa_cons (pe_op op_add (pv 2) pe_int) (pa_cons (pv 0) pa_nil)))
          (blkOk_by (N := nPairs) (sc := defScope sPairs) (by decide +kernel)) (fun _ _ _ _ _ => pg_name (i := 3) scPairs.nd rfl (Or.inl rfl)) (fun _ _ _ _ _ => pts_nil)
          (fun _ _ _ _ _ => pe_tup (pa_cons (pv 2) (pa_cons (pv 3) pa_nil))))))))
      <| pss_one (ps_ret (pv 1)), ?_⟩
    refine ⟨Nat.zero_le _, fun l hl => ⟨_, rfl, _, rfl, by omega, by omega, ?_⟩⟩
    refine for_range (lo := 0) (n := (n : Int).toNat) (fun i σ M => ∃ (l' : Addr) (L : List (Int × Int)) (o2 : Option V), σ = [some (.int n), some (.ref l'), o2, none] ∧ H l' = none ∧ LP M l' L ∧ Bel n L ∧ L.length ≤ 12 * i ∧ Same H M ∧ ∀ q : Int × Int, 0 ≤ q.1 → q.1 < q.2 → q.2 < n → q.1 < i → q ∈ L)
      ⟨l, [], none, rfl, hl, ⟨[], upd_same, .nil⟩, .nil, Nat.zero_le _, same_new hl, fun q h0 _ _ h1 => absurd h1 (by omega)⟩ ?_ ?_
    · rintro i σ M hi ⟨l', L, o2, rfl, hl', ⟨vs, e1, e2⟩, e3, e4, sM, al⟩
      have len := e2.len
      refine ⟨_, rfl, _, rfl, _, _, rfl, rfl, _, rfl, _, _, rfl, ⟨by omega, by omega, by omega, by omega⟩, fun Da hD => ?_⟩
      have hDH : H Da = none := by
        cases e : H Da with
        | none => rfl
        | some o => rw [sM _ _ e] at hD; cases hD
      have nDl : l' ≠ Da := ne_of_none e1 hD
      refine lc_range (lo := (0 + (i : Int)) + 1) (n := ((n : Int) - ((0 + (i : Int)) + 1)).toNat) (fun j M2 => ∃ (ws : List V) (L2 : List (Int × Int)), M2 Da = some (.lst ws) ∧ Prs M2 ws L2 ∧ Bel n L2 ∧ L2.length = j ∧ M2 l' = some (.lst vs) ∧ Prs M2 vs L ∧ Same H M2 ∧ ∀ q : Int × Int, q.1 = i → q.1 < q.2 → q.2 < i + 1 + j → q ∈ L2)
        ⟨[], [], upd_same, .nil, .nil, rfl, by rw [upd_ne nDl]; exact e1, e2.mono (new_tup hD), sM.trans (same_new hD), fun q h0 h1 h2 => absurd h1 (by omega)⟩ ?_ ?_
      · rintro j M2 hj ⟨ws, L2, f1, f2, f3, f4, f5, f6, f7, al2⟩
        refine ⟨rfl, ?_⟩
        unfold tYes
        refine iteT ?_
        refine ⟨_, rfl, _, rfl, by show 2 ≤ sizeLine; decide, fun t ht => ⟨ws, ?_, ?_, ws ++ [.ref t], L2 ++ [(0 + (i : Int), 0 + (i : Int) + 1 + (j : Int))], upd_same, ?_, f3.snoc ⟨?_, ?_, ?_⟩, by rw [List.length_append, f4] <;> rfl, ?_, ?_, ?_, fun q h0 h1 h2 => ?_⟩⟩
        · rw [upd_ne (ne_of_none f1 ht)]; exact f1
        · rw [f2.len, f4, sizeLine_eq]; omega
        · have g1 : Prs (upd M2 t (.tup [.int (0 + (i : Int)), .int (0 + (i : Int) + 1 + (j : Int))])) ws L2 := f2.mono (new_tup ht)
          have e1' : (upd M2 t (.tup [V.int (0 + (i : Int)), V.int (0 + (i : Int) + 1 + (j : Int))])) Da = some (.lst ws) := by rw [upd_ne (ne_of_none f1 ht)]; exact f1
          exact (g1.app (.cons (q := (0 + (i : Int), 0 + (i : Int) + 1 + (j : Int))) upd_same .nil)).mono (upd_tup e1')
        · show (0 : Int) ≤ 0 + (i : Int); omega
        · show 0 + (i : Int) < 0 + (i : Int) + 1 + (j : Int); omega
        · show 0 + (i : Int) + 1 + (j : Int) < n; omega
        · rw [upd_ne nDl, upd_ne (ne_of_none f5 ht)]; exact f5
        · have e1' : (upd M2 t (.tup [V.int (0 + (i : Int)), V.int (0 + (i : Int) + 1 + (j : Int))])) Da = some (.lst ws) := by rw [upd_ne (ne_of_none f1 ht)]; exact f1
          exact (f6.mono (new_tup ht)).mono (upd_tup e1')
        · exact fun b o e => by rw [upd_ne (ne_of_none e hDH), upd_ne (ne_of_none (f7 _ _ e) ht)]; exact f7 _ _ e
        · by_cases h3 : q.2 < i + 1 + j
          · exact List.mem_append_left _ (al2 q h0 h1 h3)
          · refine List.mem_append_right _ (List.mem_singleton.mpr ?_)
            obtain ⟨x, y⟩ := q
            dsimp only at h0 h1 h2 h3
            have e1 : x = 0 + (i : Int) := by omega
            have e2 : y = 0 + (i : Int) + 1 + (j : Int) := by omega
            rw [e1, e2]
      · rintro M2 ⟨ws, L2, f1, f2, f3, f4, f5, f6, f7, al2⟩
        have l2 := f2.len
        refine ⟨l', Da, _, _, rfl, rfl, f5, f1, by rw [len, l2, sizeLine_eq]; omega, fun q hq => ?_⟩
        have hqH : H q = none := by
          cases e : H q with
          | none => rfl
          | some o => rw [f7 _ _ e] at hq; cases hq
        refine ⟨q, L ++ L2, _, rfl, hqH, ⟨_, upd_same, (f6.app f2).mono (new_tup hq)⟩, e3.app f3, by rw [List.length_append]; omega, f7.trans (same_new hq), fun y h0 h1 h2 h3 => ?_⟩
        by_cases h4 : y.1 < i
        · exact List.mem_append_left _ (al y h0 h1 h2 h4)
        · exact List.mem_append_right _ (al2 y (by omega) h1 (by omega))
    · rintro σ M ⟨l', L, o2, rfl, hl', e1, e3, e4, sM, al⟩
      exact ⟨_, rfl, k l' L M hl' e1 e3 (fun q h0 h1 h2 => al q h0 h1 h2 (by omega)) (by omega) sM⟩
end
end K0

set_option Elab.async false
set_option linter.all false
set_option maxRecDepth 100000
set_option maxHeartbeats 8000000
/-! What is due of a text. -/
namespace K0
open PySem PySem.Spec L2
open PyProof.Rows hiding St
open KR (TupX tobj)
abbrev wDue : Stmt := top 27
theorem flatS : ∀ ls : List Str, (ls.map V.str).all flatV = true
  | [] => rfl
  | x :: ls => by rw [List.map_cons, List.all_cons, flatS ls]; rfl
theorem inS (x : Str) : ∀ ls : List Str, inV (.str x) (ls.map V.str) = decide (x ∈ ls)
  | [] => rfl
  | y :: ls => by
    have ih := inS x ls
    unfold inV at ih ⊢
    rw [List.map_cons, List.any_cons, ih]
    show ((y == x) || _) = _
    by_cases e : y = x
    · subst e; simp
    · have e' : x ≠ y := fun z => e z.symm
      simp [e, e']
theorem eqS (x y : Str) : eqV (.str x) (.str y) = decide (x = y) := by
  show (x == y) = _
  by_cases e : x = y
  · subst e; simp
  · simp [e]
/-- the first place where it stands -/
theorem first_at {x : Str} : ∀ {ls : List Str}, x ∈ ls → ∃ j : Nat, ls[j]? = some x ∧ ∀ (m : Nat) (y : Str), m < j → ls[m]? = some y → y ≠ x
  | [], h => by simp at h
  | y :: ls, h => by
    by_cases e : y = x
    · subst e
      exact ⟨0, rfl, fun m z hm => absurd hm (by omega)⟩
    · obtain ⟨j, h1, h2⟩ := first_at ((List.mem_cons.mp h).resolve_left fun z => e z.symm)
      refine ⟨j + 1, by simpa using h1, fun m z hm hz => ?_⟩
      cases m with
      | zero => cases hz; exact e
      | succ m => exact h2 m z (by omega) (by simpa using hz)
/-- what index asks of texts -/
theorem index_s {K : PySem.W.Frag} {H : Hp} {a : Addr} {ls : List Str} {x : Str} {j : Nat} {Q : VK} (e : SqL K H a (ls.map V.str)) (hj : ls[j]? = some x) (hm : ∀ (m : Nat) (y : Str), m < j → ls[m]? = some y → y ≠ x) (q : Q (.int (j : Nat)) H) : rIndex K (.ref a) [.str x] H Q := by
  refine ⟨a, _, .str x, j, .str x, rfl, rfl, e, rfl, flatS ls, by rw [List.getElem?_map, hj]; rfl, by rw [eqS]; exact decide_eq_true rfl, fun m z lt hz => ?_, q⟩
  rw [List.getElem?_map] at hz
  cases h : ls[m]? with
  | none => rw [h] at hz; cases hz
  | some y =>
    rw [h] at hz
    cases hz
    rw [eqS]
    exact decide_eq_false (hm m y lt h)
/-- what is due of v stands at a -/
def DueAt (H : Hp) (a : Addr) (v : V) : Prop :=
  (∃ (s : Str) (n : Nat) (L : List (Int × Int)) (w : Addr), v = .str s ∧ rdT s = .inr (n, L) ∧ H a = some (.tup [.str "told", .ref w]) ∧ Web H w n L) ∨
  ∃ k : Nat, ((∃ s, v = .str s ∧ rdT s = .inl k) ∨ ((∀ s, v ≠ .str s) ∧ k = 0)) ∧ H a = some (.tup [.str "text", .int k])
def spDue : Sp := fun vs H Q _ => ∃ (v : V) (t : String), vs = [v] ∧ VT H v t ∧ (∀ s, v = .str s → s.length ≤ 900000) ∧ ∀ (a : Addr) (H' : Hp), Same H H' → DueAt H' a v → Q (.ref a) H'
theorem eqv_prs {H : Hp} {vs : List V} {L : List (Int × Int)} (p : Prs H vs L) : vs.isEmpty = decide (L = []) := by
  cases p <;> simp
/-- what is known in the loop over the lines -/
def DuI (H : Hp) (v : V) (l hh Tt Pl Kn p : Addr) (n : Nat) (ls : List Str) (PL : List (Int × Int)) (i : Nat) (σ : L2.St) (M : Hp) : Prop := ∃ (oa ol : Option V) (acc : List (Int × Int)) (us vs : List V),
  σ = [some v, some (.ref l), some (.ref hh), some (.int n), some (.ref Tt), some (.ref Pl), some (.ref Kn), oa, ol, none, none] ∧ M Pl = some (.lst vs) ∧ Prs M vs PL ∧ M Kn = some (.lst ((PL.map pr).map V.str)) ∧ M Tt = some (.lst us) ∧ Prs M us acc ∧
  M p = some (.lst ((ls.drop 1).map V.str)) ∧ Same H M ∧ Bel n acc ∧ acc.length = i ∧ rdL n (2 + i) acc ((ls.drop 1).drop i) = rdL n 2 [] (ls.drop 1)
theorem tt_lt {K : PySem.W.Frag} {A B : TE} {σ : L2.St} {M : Hp} {Q : Bool → Hp → Prop} (h : A σ M fun x M1 => B σ M1 fun y M2 => KR.rLtT K x y M2 fun z M3 => ∃ k, z = .bl k ∧ Q k M3) : tTest (tOp (KR.rLtT K) A B) σ M Q := h
/-- the pair that belongs to a line -/
theorem at_line {K : PySem.W.Frag} {Pl Kn b : Addr} {PL : List (Int × Int)} {vs : List V} {q : Int × Int} {j : Nat} {σ : L2.St} {M : Hp} {Q : VK} (h5 : σ[5]? = some (some (.ref Pl))) (h6 : σ[6]? = some (some (.ref Kn))) (h8 : σ[8]? = some (some (.str (pr q)))) (e1 : M Pl = some (.lst vs)) (e2 : M Kn = some (.lst ((PL.map pr).map V.str)))
    (hj : (PL.map pr)[j]? = some (pr q)) (hm : ∀ (m : Nat) (y : Str), m < j → (PL.map pr)[m]? = some y → y ≠ pr q) (hb : vs[j]? = some (.ref b)) (k : Q (.ref b) M) : tOp (rIxL K) (tVar 5) (tBM K "list" (rIndex K) (tVar 6) (tCons (tVar 8) tNil)) σ M Q := by
  refine ⟨_, h5, _, h6, .inl ⟨rfl, _, SqL.of e2⟩, _, h8, ?_⟩
  dsimp only [tNil]
  exact index_s (SqL.of e2) hj hm ⟨Pl, _, _, _, rfl, rfl, SqL.of e1, atI_nat hb, k⟩
theorem arg_of {t : TE} {σ : L2.St} {M : Hp} {Q : List V → Hp → Prop} (h : t σ M fun x M1 => Q [x] M1) : tCons t tNil σ M Q := h
section
variable {P : Program} {w0 : World} {K : PySem.W.Frag} {mg : Str → Option Value} {base : Heap}
abbrev nDue : List Str := ["_law_text", "_law_lines", "_law_heads", "_law_n", "_law_some", "_law_pairs_here", "_law_known", "_law_number", "_law_line", "_law_one", "_law_other"]
theorem scDue : FnScope nDue ["_law_text"] (defScope wDue) := ⟨rfl, rfl, rfl, by decide +kernel, rfl, by decide +kernel, by decide +kernel⟩
theorem ok_due {f fP : Addr} {fd fdP : FuncData} (F : Fun K "_law_due" "_law_due" wDue f fd) (T : Bs mg) (GP : Dn P w0 K mg base "_law_pairs" 1 ["_law_n"] spPairsF fP fdP) : FnOk P w0 K mg base CX0 2 f fd ["_law_text"] spDue := by
  refine F.ok scDue (fun vs H Q E h => ?_) (fun cdv A outer s H vs Q E hr h => ?_)
  · obtain ⟨v, t, rfl, _⟩ := h
    rfl
  · obtain ⟨v, t, rfl, hv, hlen, k⟩ := h
    have hu := hu_of hr
    have hu6 : A.units + 3 + 64 < cLine := by have := hr.un; have e : (A.deeper (envOfC "_law_due" (defScope wDue) s.heap.objs.size f cdv)).units = A.units + 3 := rfl; omega
    have hu7 : (A.deeper (envOfC "_law_due" (defScope wDue) s.heap.objs.size f cdv)).units < cLine := by omega
    have sz : ∀ {m : Nat}, m ≤ 1000 → m ≤ sizeLine := fun h => by rw [sizeLine_eq]; omega
    refine ⟨_, pss_cons (ps_if (pt_not (pt_val (pe_callB call_isi (by rfl) T.isi (by decide +kernel) (pa_cons (pv 0) (pa_cons (pe_bltn (v := .ty "str") (u := .type "str") (by rfl) T.str (by decide +kernel) rfl) pa_nil)))))
          (pss_one (ps_ret (pe_tup (pa_cons pe_str (pa_cons pe_int pa_nil))))) pss_nil)
      <| pss_cons (ps_set (i := 1) scDue.nd rfl (.inl rfl) (pe_split (pv 0) pe_str))
      <| pss_cons (ps_setLc (i := 2) (own := [("_law_n", 3)]) (g := gName 3) (tt := tYes) rfl scDue.nd rfl rfl (sw_true rfl rfl rfl (by decide +kernel)) (pi_range2 (by rfl) T.range (pa_cons pe_int (pa_cons pe_int pa_nil))) (blkOk_by (N := nDue) (sc := defScope wDue) (by decide +kernel))
          (fun _ _ _ _ _ => pg_name (i := 3) scDue.nd rfl (Or.inl rfl)) (fun _ _ _ _ _ => pts_nil) (fun _ _ _ _ _ => pe_op op_add_str pe_str (pe_callTy call_str_int (by rfl) T.str (by decide +kernel) (pa_cons (pv 3) pa_nil))))
      <| pss_cons (ps_if (pt_cmpR (show OpR _ (compareOp .NotIn) (rIn K true) from op_notIn_seq) (pe_ix ix_list (pv 1) pe_int (fun _ _ => rfl)) (pv 2) (by rfl)) (pss_one (ps_ret (pe_tup (pa_cons pe_str (pa_cons pe_int pa_nil))))) pss_nil)
      <| pss_cons (ps_par (i := 3) (j := 4) rfl scDue.nd rfl rfl (by decide) rfl rfl (pa_cons (pe_op op_add (pe_bm PySem.F.plainAttrs_list PySem.F.slot_list_index PySem.F.type_list_index mt_index (pv 2) (pa_cons (pe_ix ix_list (pv 1) pe_int (fun _ _ => rfl)) pa_nil)) pe_int) (pa_cons (pe_lst pa_nil) pa_nil)) (by rfl))
      <| pss_cons (ps_set (i := 5) scDue.nd rfl (.inl rfl) (pe_call GP.ok hr rfl GP.g GP.kp GP.b .nil pass0 (pa_cons (pv 3) pa_nil)))
      <| pss_cons (ps_setLc (i := 6) (own := [("_law_one", 9), ("_law_other", 10)]) (g := gTup K 2 (gCons (gName 9) (gCons (gName 10) gNil))) (tt := tYes) rfl scDue.nd rfl rfl (sw_true rfl rfl rfl (by decide +kernel)) (pi_list (pv 5)) (blkOk_by (N := nDue) (sc := defScope wDue) (by decide +kernel))
          (fun _ _ _ _ _ => pg_tup rfl (pgs_cons (pg_name (i := 9) scDue.nd rfl (.inl rfl) (.inr rfl)) (pgs_cons (pg_name (i := 10) scDue.nd rfl (.inl rfl) (.inr rfl)) pgs_nil))) (fun _ _ _ _ _ => pts_nil)
          (fun _ _ _ _ _ => pe_op op_add_str (pe_op op_add_str (pe_callTy call_str_int (by rfl) T.str (by decide +kernel) (pa_cons (pv 9) pa_nil)) pe_str) (pe_callTy call_str_int (by rfl) T.str (by decide +kernel) (pa_cons (pv 10) pa_nil))))
      <| pss_cons (ps_for PassesOwn.never rfl (pi_enum (by rfl) T.enu (pa_cons (pe_slice sl_list (pv 1) (po_some pe_int) po_none) pa_nil)) (pg_tup rfl (pgs_cons (pg_name (i := 7) scDue.nd rfl (.inl rfl)) (pgs_cons (pg_name (i := 8) scDue.nd rfl (.inl rfl)) pgs_nil)))
          (pss_cons (ps_if (PW.pt (pw_or (pt_cmpR (show OpR _ (compareOp .NotIn) (rIn K true) from op_notIn_seq) (pv 8) (pv 6) (by rfl)) (pw_or1 (PW.pt (pw_and (pt_cmpR (op_neD hu6) (pv 4) (pe_lst pa_nil) (nomark _))
              (pw_and1 (pt_cmpR (KR.op_ltT hu7) (pe_ix ix_list (pv 5) (pe_bm PySem.F.plainAttrs_list PySem.F.slot_list_index PySem.F.type_list_index mt_index (pv 6) (pa_cons (pv 8) pa_nil)) (fun _ _ => rfl)) (pe_ix ix_list (pv 4) (pe_un un_neg pe_int) (fun _ _ => rfl)) (nomark _))))))))
              (pss_one (ps_ret (pe_tup (pa_cons pe_str (pa_cons (pe_op op_add (pv 7) pe_int) pa_nil))))) pss_nil)
          <| pss_one (ps_expr (pe_bm PySem.F.plainAttrs_list PySem.F.slot_list_append PySem.F.type_list_append mt_append (pv 4)
              (pa_cons (pe_ix ix_list (pv 5) (pe_bm PySem.F.plainAttrs_list PySem.F.slot_list_index PySem.F.type_list_index mt_index (pv 6) (pa_cons (pv 8) pa_nil)) (fun _ _ => rfl)) pa_nil)))))
      <| pss_one (ps_ret (pe_tup (pa_cons pe_str (pa_cons (pe_tup (pa_cons (pv 3) (pa_cons (pe_callTy call_tuple_of (by rfl) T.tuple (by decide +kernel) (pa_cons (pv 4) pa_nil)) pa_nil))) pa_nil)))), ?_⟩
    refine ⟨_, rfl, v, .ty "str", .type t, .type "str", _, rfl, .ty "str", hv.ty, hv.kitS, _, rfl, ?_⟩
    by_cases ht : t = "str"
    case neg =>
      rw [decide_eq_false ht]
      have ns : ∀ s, v ≠ .str s := fun s e => by
        subst e
        cases hv
        exact ht rfl
      exact iteT ⟨show 2 ≤ sizeLine from sz (by decide), fun a ha => k a _ (same_new ha) (.inr ⟨0, .inr ⟨ns, rfl⟩, upd_same⟩)⟩
    obtain ⟨x, rfl⟩ : ∃ x, v = .str x := by
      cases hv with
      | str x => exact ⟨x, rfl⟩
      | _ => exact absurd ht (by decide)
    rw [decide_eq_true ht]
    have xl := hlen x rfl
    refine iteF ⟨_, rfl, ⟨_, rfl⟩, _, _, rfl, rfl, by decide +kernel, by rw [sizeLine_eq]; omega, fun l hl => ?_⟩
    have ll := split_len_le x
    have ne := one_nl.ne x
    have hL : (upd H l (.lst ((Txt.split x "\n").map V.str))) l = some (.lst ((Txt.split x "\n").map V.str)) := upd_same
    have s1 := same_new (H := H) (o := .lst ((Txt.split x "\n").map V.str)) hl
    generalize upd H l (.lst ((Txt.split x "\n").map V.str)) = H1 at hL s1 ⊢
    generalize hls : Txt.split x "\n" = ls at hL ll ne
    obtain ⟨h0, r, rfl⟩ : ∃ h0 r, ls = h0 :: r := by
      cases ls with
      | nil => exact absurd rfl ne
      | cons a b => exact ⟨a, b, rfl⟩
    refine ⟨_, _, rfl, ⟨by decide, by decide, by decide, by decide⟩, fun Dd hD => ?_⟩
    have lh : ("places " : Str).length = 7 := by decide +kernel
    refine lc_it (walk_range (lo := 1) (n := (13 - 1 : Int).toNat)) (fun i N => N Dd = some (.lst (((List.range i).map fun (j : Nat) => hd ((1 + j : Nat) : Int)).map V.str)) ∧ Same H1 N) ⟨upd_same, same_new hD⟩ (fun _ _ _ _ => trivial) ?_ ?_
    · rintro i x N N' hi ⟨g1, g2⟩ ⟨rfl, hx⟩
      have hi' : i < 12 := hi
      have hx : x = .int ((1 + i : Nat) : Int) := hx.trans (congrArg V.int (by omega))
      subst hx
      have h9 := (hd_facts (n := ((1 + i : Nat) : Int)) (by omega) (by omega)).2.2
      refine ⟨rfl, yes_al (iteT ⟨_, rfl, _, rfl, log_small (by omega), _, _, rfl, rfl, ?_, ?_⟩)⟩
      · have : (hd ((1 + i : Nat) : Int)).length = ("places " : Str).length + (Str.ofString (toString ((1 + i : Nat) : Int))).length := app_len _ _
        rw [sizeLine_eq]
        omega
      · refine ⟨_, g1, by simp only [List.length_map, List.length_range]; rw [sizeLine_eq]; omega, ?_, fun b o e => by rw [upd_ne (ne_of_none e hD)]; exact g2 _ _ e⟩
        rw [upd_same, List.range_succ, List.map_append, List.map_append]
        rfl
    rintro N ⟨g1, g2⟩
    have g1 : N Dd = some (.lst (((List.range 12).map fun (j : Nat) => hd ((1 + j : Nat) : Int)).map V.str)) := g1
    have s2 := s1.trans g2
    have hL2 := g2 _ _ hL
    have h00 : atI ((h0 :: r).map V.str) 0 = some (.str h0) := atI_nat (j := 0) rfl
    have hm : h0 ∈ ((List.range 12).map fun (j : Nat) => hd ((1 + j : Nat) : Int)) ↔ ∃ n, headP h0 = some n := by
      rw [List.mem_map]
      constructor
      · rintro ⟨j, hj, e⟩
        have := List.mem_range.mp hj
        exact ⟨1 + j, headP_some.mpr ⟨⟨by omega, by omega⟩, e.symm⟩⟩
      · rintro ⟨n, e⟩
        obtain ⟨⟨n1, n2⟩, e⟩ := headP_some.mp e
        exact ⟨n - 1, List.mem_range.mpr (by omega), by rw [show 1 + (n - 1) = n by omega]; exact e.symm⟩
    have rds : rdT x = rdLs (h0 :: r) := by unfold rdT; rw [hls]
    refine ⟨_, rfl, l, _, _, _, rfl, rfl, SqL.of hL2, h00, _, rfl, Dd, _, rfl, .inl (SqL.of g1), rfl, flatS _, _, rfl, ?_⟩
    show if (!inV (.str h0) (((List.range 12).map fun (j : Nat) => hd ((1 + j : Nat) : Int)).map V.str)) = true then _ else _
    rw [inS]
    cases eh : headP h0 with
    | none =>
      rw [decide_eq_false (fun z => by obtain ⟨n, e⟩ := hm.mp z; rw [eh] at e; cases e)]
      refine iteT ⟨show 2 ≤ sizeLine from sz (by decide), fun a ha => k a _ (s2.trans (same_new ha)) (.inr ⟨1, .inl ⟨x, rfl, ?_⟩, upd_same⟩)⟩
      rw [rds]
      show (match headP h0 with | none => Sum.inl 1 | some n => match rdL n 2 [] r with | .inl k => Sum.inl k | .inr M => Sum.inr (n, M)) = _
      rw [eh]
    | some n =>
      have hin := hm.mpr ⟨n, eh⟩
      rw [decide_eq_true hin]
      obtain ⟨⟨n1, n2⟩, rfl⟩ := headP_some.mp eh
      have rds2 : rdT x = (match rdL n 2 [] r with | .inl k => Sum.inl k | .inr M => Sum.inr (n, M)) := by
        rw [rds]
        show (match headP (hd n) with | none => Sum.inl 1 | some n => match rdL n 2 [] r with | .inl k => Sum.inl k | .inr M => Sum.inr (n, M)) = _
        rw [eh]
      obtain ⟨j, hj, hfirst⟩ := first_at hin
      have ej : j + 1 = n := by
        have hj12 : j < 12 := by
          have := (List.getElem?_eq_some_iff.mp hj).1
          rw [List.length_map, List.length_range] at this
          exact this
        rw [List.getElem?_map, List.getElem?_range hj12] at hj
        have e := lineH_inj (m := ((1 + j : Nat) : Int)) (n := (n : Int)) (by omega) (by omega) (Option.some.inj hj)
        omega
      refine iteF ⟨_, rfl, .inl ⟨rfl, _, SqL.of g1⟩, _, rfl, l, _, _, _, rfl, rfl, SqL.of hL2, h00, ?_⟩
      dsimp only [tNil]
      refine index_s (SqL.of g1) hj hfirst ⟨_, _, rfl, rfl, Nat.zero_le _, fun Tt hT => ⟨_, _, rfl, ?_⟩⟩
      dsimp only
      rw [show ((j : Nat) : Int) + 1 = (n : Int) by omega]
      have s3 := s2.trans (same_new (o := .lst []) hT)
      have hL3 := same_new (o := .lst []) hT _ _ hL2
      have hT3 : (upd N Tt (.lst [])) Tt = some (.lst []) := upd_same
      have fHT : H Tt = none := s2.free hT
      generalize upd N Tt (.lst []) = N3 at s3 hL3 hT3 ⊢
      refine ⟨_, rfl, n, rfl, n2, fun Pl PL H4 hPl lp bel all_ plen s34 => ?_⟩
      obtain ⟨vs, e1, e2⟩ := lp
      have vl := e2.len
      have s4 := s3.trans s34
      have hL4 := s34 _ _ hL3
      have hT4 := s34 _ _ hT3
      refine ⟨_, rfl, Pl, rfl, ⟨_, SqL.of e1⟩, fun Kn hKn => ?_⟩
      have bel12 : ∀ q ∈ PL, 0 ≤ q.1 ∧ q.1 < q.2 ∧ q.2 < 12 := fun q hq => by have := bel q hq; omega
      refine lc_it (walk_list (xs := vs)) (fun i M => M Kn = some (.lst (((PL.take i).map pr).map V.str)) ∧ Same H4 M) ⟨upd_same, same_new hKn⟩ (fun i M _ g => SqL.of (g.2 _ _ e1)) ?_ ?_
      · rintro i y M M' hi ⟨f1, f2⟩ ⟨rfl, hx⟩
        obtain ⟨b, q, rfl, hq, hb⟩ := e2.get hx
        have vq := bel12 q (List.mem_of_getElem? hq)
        obtain ⟨m1, m2, m3, m4⟩ := line_made vq
        rw [emp_app] at m1 m2 m3 m4
        refine ⟨b, _, rfl, SqT.of (f2 _ _ hb), rfl, _, _, rfl, _, _, rfl, rfl, rfl, yes_al (iteT ?_)⟩
        refine ⟨_, rfl, _, rfl, log_small (by omega), _, _, rfl, rfl, by rw [app_len] at m3; exact m3, _, rfl, _, rfl, log_small (by omega), _, _, rfl, rfl, by rw [app_len] at m4; exact m4, ?_⟩
        refine ⟨_, f1, by rw [List.length_map, List.length_map, List.length_take, sizeLine_eq]; omega, ?_, fun a o e => by rw [upd_ne (ne_of_none e hKn)]; exact f2 _ _ e⟩
        rw [upd_same, take_snoc hq, List.map_append, List.map_append]
        show some (HO.lst (_ ++ [V.str _])) = _
        rw [m1]
        rfl
      rintro N5 ⟨f1, f2⟩
      rw [vl, List.take_length] at f1
      have hL5 := f2 _ _ hL4
      have hT5 := f2 _ _ hT4
      have e15 := f2 _ _ e1
      have e25 : Prs N5 vs PL := e2.mono (same_tup f2)
      have s5 := s4.trans f2
      refine ⟨_, rfl, _, rfl, l, _, rfl, SqL.of hL5, fun p hp => ?_⟩
      rw [cut1]
      have s56 := same_new (H := N5) (o := .lst (((hd (n : Int) :: r).drop 1).map V.str)) hp
      have s6 := s5.trans s56
      have b1 := s56 _ _ e15
      have b2 := e25.mono (same_tup s56)
      have b3 := s56 _ _ f1
      have b4 := s56 _ _ hT5
      have b5 : (upd N5 p (.lst (((hd (n : Int) :: r).drop 1).map V.str))) p = some (.lst (((hd (n : Int) :: r).drop 1).map V.str)) := upd_same
      have nPT : Pl ≠ Tt := (ne_of_none hT3 hPl).symm
      have nKT : Kn ≠ Tt := (ne_of_none hT4 hKn).symm
      have npT : p ≠ Tt := (ne_of_none hT5 hp).symm
      generalize upd N5 p (.lst (((hd (n : Int) :: r).drop 1).map V.str)) = M0 at s6 b1 b2 b3 b4 b5 ⊢
      generalize hlsd : (hd (n : Int) :: r) = ls at b5 hls ll ⊢
      have hr1 : r = ls.drop 1 := by rw [← hlsd]; rfl
      rw [hr1] at rds2
      refine ⟨p, _, rfl, SqL.of b5, ?_⟩
      refine for_it (walk_enum (xs := (ls.drop 1).map V.str)) (DuI H (.str x) l Dd Tt Pl Kn p n ls PL) ⟨none, none, [], [], vs, rfl, b1, b2, b3, b4, .nil, b5, s6, (fun _ z => nomatch z), rfl, rfl⟩ (fun i σ M _ ⟨_, _, _, _, _, _, _, _, _, _, _, g, _⟩ => SqL.of g) ?_ ?_
      · rintro i y σ M M' hi ⟨oa, ol, acc, us, vs, rfl, c1, c2, c3, c4, c5, c6, c7, c8, c9, c10⟩ ⟨T0, u, y, rfl, hT0, rfl, e1, e2⟩
        cases e1
        have e2 : ((ls.drop 1).map V.str)[i]? = some y := e2
        rw [List.getElem?_map] at e2
        have hi' : i < (ls.drop 1).length := by rw [List.length_map] at hi; exact hi
        rw [List.getElem?_eq_getElem hi'] at e2
        cases e2
        rw [List.drop_eq_getElem_cons hi'] at c10
        generalize (ls.drop 1)[i] = z at c10 ⊢
        have sM := same_new (H := M) (o := .tup [.int ((i : Nat) : Int), .str z]) hT0
        have hT1 : (upd M T0 (.tup [.int ((i : Nat) : Int), .str z])) T0 = some (.tup [.int ((i : Nat) : Int), .str z]) := upd_same
        generalize upd M T0 (.tup [.int ((i : Nat) : Int), .str z]) = M1 at sM hT1 ⊢
        have d1 := sM _ _ c1
        have d3 := sM _ _ c3
        have d4 := sM _ _ c4
        have sHM : Same H M1 := c7.trans sM
        have few2 := c5.len
        have vl := c2.len
        have back : rdT x = (match rdL n 2 [] (ls.drop 1) with | .inl k => Sum.inl k | .inr M => Sum.inr (n, M)) := rds2
        have bad_ : rdL n 2 [] (ls.drop 1) = .inl (2 + i) → ∀ {M2 : Hp}, Same H M2 → tRet (tTup (tCons (tC (.str "text")) (tCons (tOp (rI0 fun i j => V.int (i + j)) (tVar 7) (tC (.int 2))) tNil))) { nx := fun _ M' => Q .non M', rt := Q } [some (.str x), some (.ref l), some (.ref Dd), some (.int n), some (.ref Tt), some (.ref Pl), some (.ref Kn), some (.int ((i : Nat) : Int)), some (.str z), none, none] M2 := fun e M2 s2' => by
          refine ⟨_, rfl, _, _, rfl, rfl, show 2 ≤ sizeLine from sz (by decide), fun a ha => k a _ (s2'.trans (same_new ha)) (.inr ⟨2 + i, .inl ⟨x, rfl, ?_⟩, ?_⟩)⟩
          · rw [back, e]
          · rw [upd_same]
            show some (HO.tup [V.str "text", V.int (((i : Nat) : Int) + 2)]) = _
            rw [show ((i : Nat) : Int) + 2 = ((2 + i : Nat) : Int) by omega]
        refine ⟨T0, _, rfl, SqT.of hT1, rfl, _, _, rfl, _, _, rfl, rfl, ?_⟩
        refine ⟨_, rfl, _, rfl, Kn, _, rfl, .inl (SqL.of d3), rfl, flatS _, _, rfl, ?_⟩
        show if (!inV (.str z) ((PL.map pr).map V.str)) = true then _ else _
        rw [inS]
        cases ex : lineP n z with
        | none =>
          rw [decide_eq_false (fun h => by
            obtain ⟨q, hq, e⟩ := List.mem_map.mp h
            have := (lineP_some (n := (n : Int)) (s := z) (q := q) (by omega)).mpr ⟨bel q hq, e.symm⟩
            rw [ex] at this
            cases this)]
          rw [rdL_none ex] at c10
          exact iteT (bad_ c10.symm sHM)
        | some q =>
          obtain ⟨vq, rfl⟩ := (lineP_some (n := (n : Int)) (by omega)).mp ex
          have qin : pr q ∈ PL.map pr := List.mem_map.mpr ⟨q, all_ q vq.1 vq.2.1 vq.2.2, rfl⟩
          rw [decide_eq_true qin]
          obtain ⟨jj, hjj, hfj⟩ := first_at qin
          have hjq : PL[jj]? = some q := by
            rw [List.getElem?_map] at hjj
            cases e : PL[jj]? with
            | none => rw [e] at hjj; cases hjj
            | some q' =>
              rw [e] at hjj
              have := lineT_inj (bel12 q' (List.mem_of_getElem? e)) ⟨vq.1, vq.2.1, by omega⟩ (Option.some.inj hjj)
              rw [this]
          have hjl : jj < vs.length := by rw [vl]; exact (List.getElem?_eq_some_iff.mp hjq).1
          obtain ⟨b, q', eb, hq', hb⟩ := c2.get (List.getElem?_eq_getElem hjl)
          rw [hjq] at hq'
          cases hq'
          have hvb : vs[jj]? = some (.ref b) := by rw [List.getElem?_eq_getElem hjl, eb]
          refine iteF ?_
          refine ⟨_, rfl, Nat.zero_le _, fun l2 hl2 => ?_⟩
          have s12 := same_new (H := M1) (o := .lst []) hl2
          have d4' := s12 _ _ d4
          refine ⟨.list (acc.map pd), .list [], .lst (SqL.of d4') ((c5.mono (same_tup sM)).mono (same_tup s12)).dp, .lst (SqL.of upd_same) .nil, pd_shaped acc, by decide, _, rfl, ?_⟩
          rw [pd_eqv0]
          have g1' := s12 _ _ d1
          have g3' := s12 _ _ d3
          have sH2 := sHM.trans s12
          have sM2 := sM.trans s12
          generalize upd M1 l2 (.lst []) = M2 at d4' g1' g3' sH2 sM2 ⊢
          have end_ : bad acc q = false → ∀ D : Ends, D.nx = DuI H (.str x) l Dd Tt Pl Kn p n ls PL (i + 1) → tDrop (tBM K "list" rAppend (tVar 4) (tCons (tOp (rIxL K) (tVar 5) (tBM K "list" (rIndex K) (tVar 6) (tCons (tVar 8) tNil))) tNil)) D
              [some (.str x), some (.ref l), some (.ref Dd), some (.int n), some (.ref Tt), some (.ref Pl), some (.ref Kn), some (.int ((i : Nat) : Int)), some (.str (pr q)), none, none] M2 := fun hb0 D hD => by
            have ul : us.length < sizeLine := by
              rw [few2, c9, sizeLine_eq]
              rw [List.length_drop] at hi'
              omega
            refine ⟨_, rfl, .inl ⟨rfl, _, SqL.of d4'⟩, arg_of (at_line rfl rfl rfl g1' g3' hjj hfj hvb ⟨Tt, _, _, rfl, rfl, d4', ul, ?_⟩)⟩
            show D.nx _ _
            rw [hD]
            have kp : ∀ a y, M a = some (.tup y) → (upd M2 Tt (.lst (us ++ [.ref b]))) a = some (.tup y) := fun a y e => by
              rw [upd_ne (fun z => by rw [z, c4] at e; cases e)]
              exact sM2 _ _ e
            refine ⟨_, _, acc ++ [q], us ++ [.ref b], vs, rfl, by rw [upd_ne nPT]; exact g1', c2.mono kp, by rw [upd_ne nKT]; exact g3', upd_same, (c5.app (.cons hb .nil)).mono kp, by rw [upd_ne npT]; exact sM2 _ _ c6, fun a o e => by rw [upd_ne (ne_of_none e fHT)]; exact sH2 _ _ e, fun y hy => ?_, by rw [List.length_append, c9]; rfl, ?_⟩
            · rcases List.mem_append.mp hy with hy | hy
              · exact c8 y hy
              · rw [List.mem_singleton.mp hy]; exact vq
            · rw [← c10, rdL_step ex hb0, Nat.add_assoc]
          rcases List.eq_nil_or_concat acc with rfl | ⟨ac, lq, rfl⟩
          · refine iteF (iteF ?_)
            exact end_ rfl _ rfl
          · rw [List.concat_eq_append] at *
            obtain ⟨us', bl, rfl, hbl⟩ := c5.last
            have ne : (!decide (ac ++ [lq] = [])) = true := by simp
            rw [ne]
            refine iteT ?_
            have vl := c8 lq (List.mem_append_right _ (List.mem_singleton.mpr rfl))
            have bd : bad (ac ++ [lq]) q = decide (cd q < cd lq) := by
              unfold bad
              rw [List.getLast?_append]
              rfl
            refine tt_lt (at_line rfl rfl rfl g1' g3' hjj hfj hvb ⟨_, rfl, _, rfl, Tt, _, _, _, rfl, rfl, SqL.of d4', atI_last _ _, b, bl, q, lq, rfl, rfl, SqT.of (sM2 _ _ hb), SqT.of (sM2 _ _ hbl), _, rfl, ?_⟩)
            cases hbd : bad (ac ++ [lq]) q with
            | true =>
              rw [decide_eq_true ((cd_lt vq vl (by omega)).mpr (of_decide_eq_true (bd ▸ hbd)))]
              rw [rdL_bad ex hbd] at c10
              exact iteT (bad_ c10.symm sH2)
            | false =>
              rw [decide_eq_false fun z => (of_decide_eq_false (bd ▸ hbd)) ((cd_lt vq vl (by omega)).mp z)]
              exact iteF (end_ hbd _ rfl)
      · rintro σ M ⟨oa, ol, acc, us, vs, rfl, c1, c2, c3, c4, c5, c6, c7, c8, c9, c10⟩
        have e0 : (ls.drop 1).drop ((ls.drop 1).map V.str).length = [] := by rw [List.length_map, List.drop_length]
        rw [e0] at c10
        refine ⟨_, rfl, _, rfl, Tt, us, rfl, .inl ⟨SqL.of c4, fun tu htu => ⟨show 2 ≤ sizeLine from sz (by decide), fun w hw => ⟨show 2 ≤ sizeLine from sz (by decide), fun a ha => ?_⟩⟩⟩⟩
        have sa := same_new (H := M) (o := .tup us) htu
        have sb := same_new (H := upd M tu (.tup us)) (o := .tup [.int n, .ref tu]) hw
        have sc := same_new (H := upd (upd M tu (.tup us)) w (.tup [.int n, .ref tu])) (o := .tup [.str "told", .ref w]) ha
        refine k a _ (((c7.trans sa).trans sb).trans sc) (.inl ⟨x, n, acc, w, rfl, ?_, upd_same, tu, us, sc _ _ upd_same, sc _ _ (sb _ _ upd_same), c5.mono (same_tup ((sa.trans sb).trans sc))⟩)
        have c10 : .inr acc = rdL n 2 [] (ls.drop 1) := c10
        rw [rds2, ← c10]
end
end K0

set_option Elab.async false
set_option linter.all false
set_option maxRecDepth 100000
set_option maxHeartbeats 8000000
/-! A word; a line bent. -/
namespace K0
open PySem PySem.Spec L2
open PyProof.Rows hiding St
open KR (TupX tobj)
abbrev wWord : Stmt := top 28
abbrev wLine : Stmt := top 29
def spWord : Sp := fun vs H Q _ => ∃ (p c : Addr), vs = [.ref p] ∧ Deck H p c ∧ ∀ (x : Str) (H' : Hp), x.length ≤ 600 → nls x ≤ 1 → Deck H' p c → Kp p c H H' → Q (.str x) H'
def words1 : List Str := ["", "places", "0", "1", "2", "5", "9", "10", "11", "12", "13", "-1", "+1", "01", "1_0", "2.", "place"]
def words2 : List Str := ["Places", "x", "0 1", "1 ", "((0, 1))", "3\n", "0x1", Txt.mul "1" 600]
theorem words_ok : ∀ x ∈ words1 ++ words2, x.length ≤ 600 ∧ nls x ≤ 1 := by decide +kernel
section
variable {P : Program} {w0 : World} {K : PySem.W.Frag} {mg : Str → Option Value} {base : Heap}
abbrev nWord : List Str := ["_law_deck_here", "_law_some"]
theorem scWord : FnScope nWord ["_law_deck_here"] (defScope wWord) := ⟨rfl, rfl, rfl, by decide +kernel, rfl, by decide +kernel, by decide +kernel⟩
theorem ok_word {f fP : Addr} {fd fdP : FuncData} (F : Fun K "_law_word" "_law_word" wWord f fd) (GP : Dn P w0 K mg base "_law_pick" 2 ["_law_deck_here", "_law_some"] spPick fP fdP) : FnOk P w0 K mg base CX0 3 f fd ["_law_deck_here"] spWord := by
  refine F.ok scWord (fun vs H Q E h => ?_) (fun cdv A outer s H vs Q E hr h => ?_)
  · obtain ⟨p, c, rfl, _⟩ := h
    rfl
  · obtain ⟨p, c, rfl, D, k⟩ := h
    have sz : ∀ {m : Nat}, m ≤ 1000 → m ≤ sizeLine := fun h => by rw [sizeLine_eq]; omega
    refine ⟨_, pss_cons (ps_set (i := 1) scWord.nd rfl (.inl rfl) (pe_lst (pa_cons pe_str (pa_cons pe_str (pa_cons pe_str (pa_cons pe_str (pa_cons pe_str (pa_cons pe_str (pa_cons pe_str (pa_cons pe_str (pa_cons pe_str (pa_cons pe_str (pa_cons pe_str (pa_cons pe_str (pa_cons pe_str (pa_cons pe_str (pa_cons pe_str (pa_cons pe_str (pa_cons pe_str pa_nil)))))))))))))))))))
      <| pss_one (ps_ret (pe_call GP.ok hr rfl GP.g GP.kp GP.b .nil pass0 (pa_cons (pv 0) (pa_cons (pe_op op_cat (pv 1) (pe_lst (pa_cons pe_str (pa_cons pe_str (pa_cons pe_str (pa_cons pe_str (pa_cons pe_str (pa_cons pe_str (pa_cons pe_str (pa_cons (pe_op KR.op_mulS pe_str pe_int) pa_nil)))))))))) pa_nil)))), ?_⟩
    refine ⟨show 17 ≤ sizeLine from sz (by decide), fun l hl => ⟨_, rfl, _, rfl, _, 600, rfl, rfl, by decide, by decide, by decide +kernel, by decide +kernel, fun b eb => ?_⟩⟩
    refine ⟨show 8 ≤ sizeLine from sz (by decide), fun l2 hl2 => ⟨l, l2, _, _, rfl, rfl, same_new hl2 _ _ upd_same, upd_same, show 17 + 8 ≤ sizeLine from sz (by decide), fun l3 hl3 => ?_⟩⟩
    have D1 := (D.new (o := .lst (words1.map V.str)) hl).new (o := .lst [.str "Places", .str "x", .str "0 1", .str "1 ", .str "((0, 1))", .str "3\n", .str "0x1", .str b]) hl2
    have D2 := D1.new (o := .lst (words1.map V.str ++ [.str "Places", .str "x", .str "0 1", .str "1 ", .str "((0, 1))", .str "3\n", .str "0x1", .str b])) hl3
    obtain ⟨n1, n2⟩ := D1.inp hl3
    have K2 : Kp p c H _ := ((kp_new (o := .lst (words1.map V.str)) hl).trans (kp_new (o := .lst [.str "Places", .str "x", .str "0 1", .str "1 ", .str "((0, 1))", .str "3\n", .str "0x1", .str b]) hl2)).trans (kp_new (o := .lst (words1.map V.str ++ [.str "Places", .str "x", .str "0 1", .str "1 ", .str "((0, 1))", .str "3\n", .str "0x1", .str b])) hl3)
    refine ⟨p, c, l3, _, rfl, D2, upd_same, n1, n2, show 1 ≤ 25 by decide, show 25 < 1000 by decide, fun i v H' e D3 K3 => ?_⟩
    subst eb
    have e : ((words1 ++ words2).map V.str)[i]? = some v := e
    rw [List.getElem?_map] at e
    cases h : (words1 ++ words2)[i]? with
    | none => rw [h] at e; cases e
    | some x =>
      rw [h] at e
      cases e
      obtain ⟨a1, a2⟩ := words_ok x (List.mem_of_getElem? h)
      exact k x H' a1 a2 D3 (K2.trans K3)
end
end K0

set_option Elab.async false
set_option linter.all false
set_option maxRecDepth 100000
set_option maxHeartbeats 8000000
/-! A line bent. -/
namespace K0
open PySem PySem.Spec L2
open PyProof.Rows hiding St
open KR (TupX tobj)
theorem sum_set_eq {α : Type} (f : α → Nat) : ∀ {l : List α} {i : Nat} {o : α} (w : α), l[i]? = some o → ((l.set i w).map f).sum + f o = (l.map f).sum + f w
  | [], i, o, w, h => by simp at h
  | a :: l, 0, o, w, h => by
    cases h
    simp only [List.set_cons_zero, List.map_cons, List.sum_cons]
    omega
  | a :: l, i + 1, o, w, h => by
    have := sum_set_eq f (l := l) (i := i) w (by simpa using h)
    simp only [List.set_cons_succ, List.map_cons, List.sum_cons]
    omega
theorem map_out {α β : Type} (f : α → β) : ∀ (l : List α) (i : Nat), (l.map f).eraseIdx i = (l.eraseIdx i).map f
  | [], i => by simp
  | a :: l, 0 => by simp
  | a :: l, i + 1 => by rw [List.map_cons, List.eraseIdx_cons_succ, List.eraseIdx_cons_succ, List.map_cons, map_out f l i]
theorem len_wide (ls : List Str) : ls.length ≤ wide ls := by
  induction ls with
  | nil => exact Nat.le_refl _
  | cons l ls ih => unfold wide at ih ⊢; simp only [List.map_cons, List.sum_cons, List.length_cons]; omega
theorem join_le (y : Str) {s : Nat} (o : One y s) (ps : List Str) : (Txt.join y ps).length ≤ wide ps := by
  cases ps with
  | nil => exact Nat.zero_le _
  | cons p ps => have := o.join_len (ps := p :: ps) (by simp); omega
theorem nl_words_le (ps : List Str) : nls (Txt.join " " ps) ≤ (ps.map nls).sum := by
  cases ps with
  | nil => exact Nat.zero_le _
  | cons p ps => exact Nat.le_of_eq (nl_words (by simp))
theorem sum_lens (ps : List Str) : (ps.map (·.length)).sum + ps.length = wide ps := by
  induction ps with
  | nil => rfl
  | cons p ps ih => unfold wide at ih ⊢; simp only [List.map_cons, List.sum_cons, List.length_cons]; omega
theorem nls_app (x y : Str) : nls (x ++ y) = nls x + nls y := by
  unfold nls
  rw [TL.tl_append, List.count_append]
def spLine : Sp := fun vs H Q _ => ∃ (p c : Addr) (line : Str), vs = [.ref p, .str line] ∧ Deck H p c ∧ line.length ≤ 100000 ∧ ∀ (x : Str) (H' : Hp), x.length ≤ line.length + 602 → nls x ≤ nls line + 1 → Deck H' p c → Kp p c H H' → Q (.str x) H'
/-- behind the ways below t -/
def WJ9 (p c : Addr) (H : Hp) (line : Str) (t : Int) (σ : L2.St) (M : Hp) : Prop := ∃ (l : Addr) (ws : List Str) (w a : Int), σ = [some (.ref p), some (.str line), some (.ref l), some (.int w), some (.int a)] ∧ M l = some (.lst (ws.map V.str)) ∧ H l = none ∧ Deck M p c ∧ Kp p c H M ∧ 0 ≤ a ∧ 0 ≤ w ∧
  wide ws ≤ line.length + 602 ∧ (ws.map nls).sum ≤ nls line + 1 ∧ (t ≤ w → a < ws.length ∧ wide ws = line.length + 1 ∧ (ws.map nls).sum = nls line)
theorem ixN_at {n j : Nat} (h : j < n) : ixN n (j : Int) = some j := by
  unfold ixN
  rw [if_pos (by omega), if_pos (by omega)]
  congr 1
section
variable {P : Program} {w0 : World} {K : PySem.W.Frag} {mg : Str → Option Value} {base : Heap}
abbrev nLine : List Str := ["_law_deck_here", "_law_line", "_law_words", "_law_way", "_law_at"]
theorem scLine : FnScope nLine ["_law_deck_here", "_law_line"] (defScope wLine) := ⟨rfl, rfl, rfl, by decide +kernel, rfl, by decide +kernel, by decide +kernel⟩
theorem ok_line {f fD fW : Addr} {fd fdD fdW : FuncData} (F : Fun K "_law_bent_line" "_law_bent_line" wLine f fd) (T : Bs mg) (GD : Dn P w0 K mg base "_law_draw" 1 ["_law_deck_here", "_law_many"] spDraw fD fdD) (GW' : Dn P w0 K mg base "_law_word" 3 ["_law_deck_here"] spWord fW fdW) :
    FnOk P w0 K mg base CX0 4 f fd ["_law_deck_here", "_law_line"] spLine := by
  refine F.ok scLine (fun vs H Q E h => ?_) (fun cdv A outer s H vs Q E hr h => ?_)
  · obtain ⟨p, c, line, rfl, _⟩ := h
    rfl
  · obtain ⟨p, c, line, rfl, D, ll, k⟩ := h
    have r1 : Room 1 (A.deeper (envOfC "_law_bent_line" (defScope wLine) s.heap.objs.size f cdv)) := hr.mono (by decide)
    have sz : ∀ {m : Nat}, m ≤ 1000000 → m < sizeLine := fun h => by rw [sizeLine_eq]; omega
    refine ⟨_, pss_cons (ps_par (i := 2) (j := 3) rfl scLine.nd rfl rfl (by decide) rfl rfl (pa_cons (pe_split (pv 1) pe_str) (pa_cons (pe_call GD.ok r1 rfl GD.g GD.kp GD.b .nil pass0 (pa_cons (pv 0) (pa_cons pe_int pa_nil))) pa_nil)) (by rfl))
      <| pss_cons (ps_set (i := 4) scLine.nd rfl (.inl rfl) (pe_call GD.ok r1 rfl GD.g GD.kp GD.b .nil pass0 (pa_cons (pv 0) (pa_cons (pe_callB call_len_seq (by rfl) T.len PySem.boot_len (pa_cons (pv 2) pa_nil)) pa_nil))))
      <| pss_cons (ps_inv (J := WJ9 p c H line 0) (J' := WJ9 p c H line 3) (ps_if (pt_cmpR op_lt (pv 3) pe_int (nomark _)) (pss_one (ps_asg (pe_call GW'.ok hr rfl GW'.g GW'.kp GW'.b .nil pass0 (pa_cons (pv 0) pa_nil)) (pg_sub (pv 2) (pv 4) set_list))) pss_nil) ?w0)
      <| pss_cons (ps_inv (J := WJ9 p c H line 3) (J' := WJ9 p c H line 4) (ps_if (pt_cmpR op_eq (pv 3) pe_int (nomark _)) (pss_one (ps_expr (pe_bm PySem.F.plainAttrs_list PySem.F.slot_list_insert PySem.F.type_list_insert mt_insert (pv 2)
            (pa_cons (pv 4) (pa_cons (pe_call GW'.ok hr rfl GW'.g GW'.kp GW'.b .nil pass0 (pa_cons (pv 0) pa_nil)) pa_nil))))) pss_nil) ?w3)
      <| pss_cons (ps_inv (J := WJ9 p c H line 4) (J' := WJ9 p c H line 5) (ps_if (pt_cmpR op_eq (pv 3) pe_int (nomark _)) (pss_one (ps_expr (pe_bm PySem.F.plainAttrs_list PySem.F.slot_list_pop PySem.F.type_list_pop mt_popAt (pv 2) (pa_cons (pv 4) pa_nil)))) pss_nil) ?w4)
      <| pss_cons (ps_inv (J := WJ9 p c H line 5) (J' := WJ9 p c H line 6) (ps_if (pt_cmpR op_eq (pv 3) pe_int (nomark _)) (pss_one (ps_set (i := 2) scLine.nd rfl (.inl rfl) (pe_revL (pv 2)))) pss_nil) ?w5)
      <| pss_cons (ps_if (pt_cmpR op_eq (pv 3) pe_int (nomark _)) (pss_one (ps_ret (pe_ifExp (pt_cmpR op_eq (pv 4) pe_int (nomark _)) (pe_op op_add_str (pv 1) pe_str) (pe_op op_add_str pe_str (pv 1))))) pss_nil)
      <| pss_one (ps_ret (pe_join pe_str (pv 2))), ?main⟩
    case w0 =>
      rintro Dn_ σ M ⟨l, ws, w, a, rfl, e1, hl, D1, K1, a0, w0', b1, b2, b3⟩ nx
      have lw := len_wide ws
      refine ⟨_, rfl, _, _, rfl, rfl, _, rfl, ite2 (fun h3 => ?_) (fun h3 => nx _ _ ⟨l, ws, w, a, rfl, e1, hl, D1, K1, a0, w0', b1, b2, fun h => b3 (by omega)⟩)⟩
      have h3 := of_decide_eq_true h3
      obtain ⟨c1, c2, c3⟩ := b3 w0'
      obtain ⟨lp, lc⟩ := D.inp hl
      refine ⟨_, rfl, p, c, rfl, D1, fun x M1 x1 x2 D2 K2 => ?_⟩
      have e2 := K2 _ _ lp lc e1
      obtain ⟨j, rfl⟩ : ∃ j : Nat, a = j := ⟨a.toNat, by omega⟩
      have hj : j < ws.length := by omega
      refine ⟨_, rfl, _, rfl, l, _, _, j, rfl, rfl, e2, by rw [List.length_map]; exact ixN_at hj, ?_⟩
      have q1 : wide (ws.set j x) ≤ wide ws + (x.length + 1) := sum_set (fun l : Str => l.length + 1) ws j x
      have q2 := sum_set nls ws j x
      exact nx _ _ ⟨l, ws.set j x, w, j, rfl, by rw [upd_same, List.map_set], hl, D2.put lp lc, (K1.trans K2).own hl, a0, w0', by omega, by omega, fun h => absurd h (by omega)⟩
    case w3 =>
      rintro Dn_ σ M ⟨l, ws, w, a, rfl, e1, hl, D1, K1, a0, w0', b1, b2, b3⟩ nx
      have lw := len_wide ws
      refine ⟨_, rfl, rfl, _, rfl, ite2 (fun h3 => ?_) (fun h3 => nx _ _ ⟨l, ws, w, a, rfl, e1, hl, D1, K1, a0, w0', b1, b2, fun h => b3 (by omega)⟩)⟩
      have h3 := V.int.inj (of_decide_eq_true h3)
      obtain ⟨c1, c2, c3⟩ := b3 (by omega)
      obtain ⟨lp, lc⟩ := D.inp hl
      refine ⟨_, rfl, .inl ⟨rfl, _, SqL.of e1⟩, _, rfl, _, rfl, p, c, rfl, D1, fun x M1 x1 x2 D2 K2 => ?_⟩
      have e2 := K2 _ _ lp lc e1
      obtain ⟨j, rfl⟩ : ∃ j : Nat, a = j := ⟨a.toNat, by omega⟩
      refine ⟨l, _, _, _, rfl, rfl, e2, by rw [List.length_map]; exact sz (by omega), by omega, by omega, ?_⟩
      have q1 : wide (ws.take j ++ [x] ++ ws.drop j) = wide ws + (x.length + 1) := sum_ins (fun l : Str => l.length + 1) ws j x
      have q2 := sum_ins nls ws j x
      refine nx _ _ ⟨l, ws.take j ++ [x] ++ ws.drop j, w, j, rfl, ?_, hl, D2.put lp lc, (K1.trans K2).own hl, a0, w0', by omega, by omega, fun h => absurd h (by omega)⟩
      rw [upd_same, Int.toNat_natCast, List.map_append, List.map_append, List.map_take, List.map_drop]
      rfl
    case w4 =>
      rintro Dn_ σ M ⟨l, ws, w, a, rfl, e1, hl, D1, K1, a0, w0', b1, b2, b3⟩ nx
      have lw := len_wide ws
      refine ⟨_, rfl, rfl, _, rfl, ite2 (fun h3 => ?_) (fun h3 => nx _ _ ⟨l, ws, w, a, rfl, e1, hl, D1, K1, a0, w0', b1, b2, fun h => b3 (by omega)⟩)⟩
      have h3 := V.int.inj (of_decide_eq_true h3)
      obtain ⟨c1, c2, c3⟩ := b3 (by omega)
      obtain ⟨lp, lc⟩ := D.inp hl
      obtain ⟨j, rfl⟩ : ∃ j : Nat, a = j := ⟨a.toNat, by omega⟩
      have hj : j < ws.length := by omega
      have hj' : j < (ws.map V.str).length := by rw [List.length_map]; exact hj
      refine ⟨_, rfl, .inl ⟨rfl, _, SqL.of e1⟩, _, rfl, l, _, _, j, _, rfl, rfl, e1, by omega, by omega, (ixN_seq (by rw [List.length_map]; exact ixN_at hj)).1, List.getElem?_eq_getElem hj', ?_⟩
      have q1 : wide (ws.eraseIdx j) ≤ wide ws := sum_out (fun l : Str => l.length + 1) ws j
      have q2 := sum_out nls ws j
      exact nx _ _ ⟨l, ws.eraseIdx j, w, j, rfl, by rw [upd_same, map_out], hl, D1.put lp lc, K1.own hl, a0, w0', by omega, by omega, fun h => absurd h (by omega)⟩
    case w5 =>
      rintro Dn_ σ M ⟨l, ws, w, a, rfl, e1, hl, D1, K1, a0, w0', b1, b2, b3⟩ nx
      have lw := len_wide ws
      refine ⟨_, rfl, rfl, _, rfl, ite2 (fun h3 => ?_) (fun h3 => nx _ _ ⟨l, ws, w, a, rfl, e1, hl, D1, K1, a0, w0', b1, b2, fun h => b3 (by omega)⟩)⟩
      have h3 := V.int.inj (of_decide_eq_true h3)
      obtain ⟨c1, c2, c3⟩ := b3 (by omega)
      refine ⟨_, rfl, l, _, rfl, SqL.of e1, fun l2 h2 => ?_⟩
      have q1 : wide ws.reverse = wide ws := sum_rev (fun l : Str => l.length + 1) ws
      have q2 := sum_rev nls ws
      refine nx _ _ ⟨l2, ws.reverse, w, a, rfl, by rw [upd_same, List.map_reverse], K1.dom D1 h2, D1.new h2, K1.trans (kp_new h2), a0, w0', by omega, by omega, fun h => absurd h (by omega)⟩
    case main =>
      have ne := one_sp.ne line
      have back := one_sp.back line
      refine ⟨_, rfl, ⟨_, rfl⟩, _, _, rfl, rfl, by decide +kernel, by have := sz (m := 100002) (by decide); omega, fun l hl => ?_⟩
      have D1 := D.new (o := .lst ((Txt.split line " ").map V.str)) hl
      have K1 : Kp p c H (upd H l (.lst ((Txt.split line " ").map V.str))) := kp_new hl
      have e1 : (upd H l (.lst ((Txt.split line " ").map V.str))) l = some (.lst ((Txt.split line " ").map V.str)) := upd_same
      obtain ⟨lp, lc⟩ := D.inp hl
      generalize upd H l (.lst ((Txt.split line " ").map V.str)) = M at D1 K1 e1 ⊢
      have wl := one_sp.join_len ne
      have wn := nl_words ne
      rw [back] at wl wn
      have lw := len_wide (Txt.split line " ")
      have nz : 0 < (Txt.split line " ").length := List.length_pos_iff.mpr ne
      generalize Txt.split line " " = ws at e1 wl wn lw nz ⊢
      refine ⟨_, rfl, p, c, 8, rfl, D1, by decide, by decide, fun w M1 w0' w1 D2 K2 => ⟨_, _, rfl, ?_⟩⟩
      have e2 := K2 _ _ lp lc e1
      refine ⟨_, rfl, _, rfl, l, _, rfl, .inl (SqL.of e2), p, c, _, rfl, D2, by rw [List.length_map]; omega, by rw [List.length_map]; omega, fun a M2 a0 a1 D3 K3 => ?_⟩
      rw [List.length_map] at a1
      have e3 := K3 _ _ lp lc e2
      refine ⟨⟨l, ws, w, a, rfl, e3, hl, D3, (K1.trans K2).trans K3, a0, w0', by omega, by omega, fun _ => ⟨by omega, wl.symm, wn.symm⟩⟩, fun σ3 M3 j3 => ⟨j3, fun σ4 M4 j4 => ⟨j4, fun σ5 M5 j5 => ⟨j5, fun σ6 M6 j6 => ?_⟩⟩⟩⟩
      obtain ⟨l, ws, w, a, rfl, e1, hl, D1, K1, a0, w0', b1, b2, b3⟩ := j6
      have zl : line.length + 1 ≤ sizeLine := Nat.le_of_lt (sz (by omega))
      have ls1 : (" " : Str).length = 1 := one_sp.len
      have nl1 : nls (" " : Str) = 0 := by decide +kernel
      have s1 := sum_lens ws
      refine ⟨_, rfl, rfl, _, rfl, ite2 (fun h3 => ?_) (fun h3 => ?_)⟩
      · refine ⟨_, rfl, rfl, _, rfl, ite2 (fun h4 => ?_) (fun h4 => ?_)⟩
        · exact ⟨_, rfl, _, _, rfl, rfl, by rw [ls1]; exact zl, k _ _ (by rw [app_len, ls1]; omega) (by rw [nls_app, nl1]; omega) D1 K1⟩
        · exact ⟨_, rfl, _, _, rfl, rfl, by rw [ls1]; omega, k _ _ (by rw [app_len, ls1]; omega) (by rw [nls_app, nl1]; omega) D1 K1⟩
      · have j1 := join_le " " one_sp ws
        have j2 := nl_words_le ws
        exact ⟨⟨_, rfl⟩, _, rfl, _, l, ws, rfl, rfl, .inl (SqL.of e1), by rw [ls1]; omega, k _ _ (by omega) (by omega) D1 K1⟩
end
end K0

set_option Elab.async false
set_option linter.all false
set_option maxRecDepth 100000
set_option maxHeartbeats 8000000
/-! A text bent. -/
namespace K0
open PySem PySem.Spec L2
open PyProof.Rows hiding St
open KR (TupX tobj)
abbrev wText : Stmt := top 30
/-- lines behind T turns -/
structure LB (T : Nat) (ls : List Str) : Prop where
  ne : ls ≠ []
  each : ∀ x ∈ ls, x.length ≤ 20 + 700 * T ∧ nls x ≤ T
  all : many ls ≤ 39 + 2 * T
theorem LB.up {T : Nat} {ls : List Str} (h : LB T ls) : LB (T + 1) ls := ⟨h.ne, fun x hx => by have := h.each x hx; omega, by have := h.all; omega⟩
theorem LB.len {T : Nat} {ls : List Str} (h : LB T ls) : ls.length ≤ 39 + 2 * T := by
  have := h.all
  have key : ∀ ls : List Str, ls.length ≤ many ls := fun ls => by
    induction ls with
    | nil => exact Nat.le_refl _
    | cons l ls ih => unfold many at ih ⊢; simp only [List.map_cons, List.sum_cons, List.length_cons]; omega
  exact Nat.le_trans (key ls) this
theorem LB.set {T j : Nat} {ls : List Str} {o x : Str} (h : LB T ls) (hj : ls[j]? = some o) (h1 : x.length ≤ 20 + 700 * (T + 1)) (h2 : nls x ≤ nls o + 1) : LB (T + 1) (ls.set j x) := by
  have ho := h.each o (List.mem_of_getElem? hj)
  refine ⟨fun e => h.ne ?_, fun y hy => ?_, ?_⟩
  · have := congrArg List.length e
    rw [List.length_set] at this
    exact List.length_eq_zero_iff.mp this
  · rcases List.mem_or_eq_of_mem_set hy with hy | rfl
    · have := h.each y hy
      omega
    · omega
  · have q : many (ls.set j x) + (nls o + 1) = many ls + (nls x + 1) := sum_set_eq (fun l : Str => nls l + 1) x hj
    have := h.all
    omega
theorem LB.ins {T : Nat} {ls : List Str} {x : Str} (h : LB T ls) (hT : T ≤ 1) (h1 : x.length ≤ 20 + 700 * T) (h2 : nls x ≤ T) (j : Nat) : LB (T + 1) (ls.take j ++ [x] ++ ls.drop j) := by
  refine ⟨by simp, fun y hy => ?_, ?_⟩
  · simp only [List.mem_append, List.mem_singleton] at hy
    rcases hy with (hy | rfl) | hy
    · have := h.each y (List.mem_of_mem_take hy)
      omega
    · omega
    · have := h.each y (List.mem_of_mem_drop hy)
      omega
  · have q : many (ls.take j ++ [x] ++ ls.drop j) = many ls + (nls x + 1) := sum_ins (fun l : Str => nls l + 1) ls j x
    have := h.all
    omega
theorem LB.out {T j : Nat} {ls : List Str} (h : LB T ls) (hl : 1 < ls.length) : LB T (ls.eraseIdx j) := by
  refine ⟨fun e => ?_, fun y hy => h.each y (List.mem_of_mem_eraseIdx hy), Nat.le_trans (sum_out (fun l : Str => nls l + 1) ls j) h.all⟩
  have := congrArg List.length e
  rw [List.length_eraseIdx, List.length_nil] at this
  split at this <;> omega
theorem LB.swap {T i j : Nat} {ls : List Str} {x y : Str} (h : LB T ls) (hx : ls[i]? = some x) (hy : ls[j]? = some y) : LB T ((ls.set i y).set j x) := by
  refine ⟨fun e => h.ne ?_, fun z hz => ?_, ?_⟩
  · have := congrArg List.length e
    rw [List.length_set, List.length_set] at this
    exact List.length_eq_zero_iff.mp this
  · rcases List.mem_or_eq_of_mem_set hz with hz | rfl
    · rcases List.mem_or_eq_of_mem_set hz with hz | rfl
      · exact h.each z hz
      · exact h.each _ (List.mem_of_getElem? hy)
    · exact h.each _ (List.mem_of_getElem? hx)
  · have q : many ((ls.set i y).set j x) = many ls := sum_swap (fun l : Str => nls l + 1) hx hy
    rw [q]
    exact h.all
theorem LB.wide {T : Nat} {ls : List Str} (h : LB T ls) (hT : T ≤ 2) : wide ls ≤ 100000 := by
  have l := h.len
  have key : ∀ ls : List Str, (∀ x ∈ ls, x.length ≤ 1420) → K0.wide ls ≤ 1421 * ls.length := fun ls => by
    induction ls with
    | nil => intro _; exact Nat.le_refl _
    | cons l ls ih =>
      intro h
      have i := ih fun x hx => h x (List.mem_cons_of_mem _ hx)
      have j := h l (List.mem_cons_self ..)
      unfold K0.wide at i ⊢
      simp only [List.map_cons, List.sum_cons, List.length_cons]
      omega
  have := key ls fun x hx => by have := (h.each x hx).1; omega
  omega
theorem lb_web {n : Nat} {L : List (Int × Int)} (h0 : n ≤ 12) (hB : Bel n L) (hl : L.length ≤ 38) : LB 0 (wlines n L) := by
  have pl := wlines_plain h0 hB
  have hm := nl_join (ps := wlines n L) (by simp [wlines])
  have wl := (wtext_len h0 hB (by omega)).2
  unfold wtext at wl
  exact ⟨by simp [wlines], fun x hx => by have := pl x hx; omega, by omega⟩
theorem num_fin : ∀ a : Fin 13, ∀ b : Fin 13, (pr ((a.val : Int), (b.val : Int))).length ≤ 5 ∧ nls (pr ((a.val : Int), (b.val : Int))) = 0 := by decide +kernel
theorem num_facts {a b : Int} (ha : 0 ≤ a ∧ a < 13) (hb : 0 ≤ b ∧ b < 13) : (pr (a, b)).length ≤ 5 ∧ nls (pr (a, b)) = 0 := by
  have z := num_fin ⟨a.toNat, by omega⟩ ⟨b.toNat, by omega⟩
  have ea : ((a.toNat : Nat) : Int) = a := by omega
  have eb : ((b.toNat : Nat) : Int) = b := by omega
  simp only [ea, eb] at z
  exact z
def spText : Sp := fun vs H Q _ => ∃ (p c : Addr) (n : Nat) (L : List (Int × Int)), vs = [.ref p, .str (wtext n L)] ∧ Deck H p c ∧ n ≤ 12 ∧ Bel n L ∧ L.length ≤ 38 ∧ ∀ (x : Str) (H' : Hp), x.length ≤ 100000 → nls x ≤ 42 → Deck H' p c → Kp p c H H' → Q (.str x) H'
/-- from one state of affairs to another, of one x -/
def tInv9 {α : Type} (J J' : α → L2.St → Hp → Prop) : TS := fun D σ H => ∃ x : α, J x σ H ∧ ∀ σ' H', J' x σ' H' → D.nx σ' H'
theorem ps_inv9 {α : Type} {X : Cx} {st : Stmt} {t : TS} {J J' : α → L2.St → Hp → Prop} (h : PS X st t) (w : ∀ x D σ H, J x σ H → (∀ σ' H', J' x σ' H' → D.nx σ' H') → t D σ H) : PS X st (tInv9 J J') :=
  ⟨fun pins s σ H D I q => let ⟨x, j, n⟩ := q; h.run pins s σ H D I (w x D σ H j n)⟩
/-- in a turn, behind the ways below t -/
def TJ9 (p c : Addr) (H : Hp) (text : Str) (t : Int) (T : Nat) (σ : L2.St) (M : Hp) : Prop := ∃ (l : Addr) (ls : List Str) (w : Int) (a b : Nat), T ≤ 1 ∧ σ = [some (.ref p), some (.str text), some (.ref l), some (.int T), some (.int w), some (.int a), some (.int b)] ∧ M l = some (.lst (ls.map V.str)) ∧ H l = none ∧ Deck M p c ∧ Kp p c H M ∧ 0 ≤ w ∧
  LB (T + 1) ls ∧ (t ≤ w → LB T ls ∧ a < ls.length ∧ b < ls.length)
/-- between the turns -/
def LS9 (p c : Addr) (H : Hp) (text : Str) (T : Nat) (σ : L2.St) (M : Hp) : Prop := ∃ (l : Addr) (ls : List Str) (o3 o4 o5 o6 : Option V), σ = [some (.ref p), some (.str text), some (.ref l), o3, o4, o5, o6] ∧ M l = some (.lst (ls.map V.str)) ∧ H l = none ∧ Deck M p c ∧ Kp p c H M ∧ LB T ls
section
variable {P : Program} {w0 : World} {K : PySem.W.Frag} {mg : Str → Option Value} {base : Heap}
abbrev nText : List Str := ["_law_deck_here", "_law_text", "_law_lines", "_law_turn", "_law_way", "_law_at", "_law_to"]
theorem scText : FnScope nText ["_law_deck_here", "_law_text"] (defScope wText) := ⟨rfl, rfl, rfl, by decide +kernel, rfl, by decide +kernel, by decide +kernel⟩
theorem ok_text {f fD fL fK : Addr} {fd fdD fdL fdK : FuncData} (F : Fun K "_law_bent_text" "_law_bent_text" wText f fd) (T : Bs mg) (GD : Dn P w0 K mg base "_law_draw" 1 ["_law_deck_here", "_law_many"] spDraw fD fdD) (GL : Dn P w0 K mg base "_law_bent_line" 4 ["_law_deck_here", "_law_line"] spLine fL fdL)
    (GK : Dn P w0 K mg base "_law_pick" 2 ["_law_deck_here", "_law_some"] spPick fK fdK) : FnOk P w0 K mg base CX0 5 f fd ["_law_deck_here", "_law_text"] spText := by
  refine F.ok scText (fun vs H Q E h => ?_) (fun cdv A outer s H vs Q E hr h => ?_)
  · obtain ⟨p, c, n, L, rfl, _⟩ := h
    rfl
  · obtain ⟨p, c, n, L, rfl, D, n2, hB, hl38, k⟩ := h
    have r1 : Room 1 (A.deeper (envOfC "_law_bent_text" (defScope wText) s.heap.objs.size f cdv)) := hr.mono (by decide)
    have r2 : Room 2 (A.deeper (envOfC "_law_bent_text" (defScope wText) s.heap.objs.size f cdv)) := hr.mono (by decide)
    have sz : ∀ {m : Nat}, m ≤ 1000000 → m < sizeLine := fun h => by rw [sizeLine_eq]; omega
    refine ⟨_, pss_cons (ps_set (i := 2) scText.nd rfl (.inl rfl) (pe_split (pv 1) pe_str))
      <| pss_cons (ps_for PassesOwn.never rfl (pi_range1 (by rfl) T.range (pa_cons (pe_op op_add pe_int (pe_call GD.ok r1 rfl GD.g GD.kp GD.b .nil pass0 (pa_cons (pv 0) (pa_cons pe_int pa_nil)))) pa_nil)) (pg_name (i := 3) scText.nd rfl (.inl rfl))
          (pss_cons (ps_par3 (i := 4) (j := 5) (l := 6) rfl scText.nd rfl rfl rfl (by decide) (by decide) (by decide) rfl rfl rfl (pa_cons (pe_call GD.ok r1 rfl GD.g GD.kp GD.b .nil pass0 (pa_cons (pv 0) (pa_cons pe_int pa_nil)))
            (pa_cons (pe_call GD.ok r1 rfl GD.g GD.kp GD.b .nil pass0 (pa_cons (pv 0) (pa_cons (pe_callB call_len_seq (by rfl) T.len PySem.boot_len (pa_cons (pv 2) pa_nil)) pa_nil)))
            (pa_cons (pe_call GD.ok r1 rfl GD.g GD.kp GD.b .nil pass0 (pa_cons (pv 0) (pa_cons (pe_callB call_len_seq (by rfl) T.len PySem.boot_len (pa_cons (pv 2) pa_nil)) pa_nil))) pa_nil))) (by rfl))
          <| pss_cons (ps_inv9 (J := TJ9 p c H (wtext n L) 0) (J' := TJ9 p c H (wtext n L) 3) (ps_if (pt_cmpR op_lt (pv 4) pe_int (nomark _)) (pss_one (ps_asg (pe_call GL.ok hr rfl GL.g GL.kp GL.b .nil pass0 (pa_cons (pv 0) (pa_cons (pe_ix ix_list (pv 2) (pv 5) (fun _ _ => rfl)) pa_nil))) (pg_sub (pv 2) (pv 5) set_list))) pss_nil) ?w0)
          <| pss_cons (ps_inv9 (J := TJ9 p c H (wtext n L) 3) (J' := TJ9 p c H (wtext n L) 4) (ps_if (pt_cmpR op_eq (pv 4) pe_int (nomark _)) (pss_one (ps_asg (pe_tup (pa_cons (pe_ix ix_list (pv 2) (pv 6) (fun _ _ => rfl)) (pa_cons (pe_ix ix_list (pv 2) (pv 5) (fun _ _ => rfl)) pa_nil)))
              (pg_tup rfl (pgs_cons (pg_sub (pv 2) (pv 5) set_list) (pgs_cons (pg_sub (pv 2) (pv 6) set_list) pgs_nil))))) pss_nil) ?w3)
          <| pss_cons (ps_inv9 (J := TJ9 p c H (wtext n L) 4) (J' := TJ9 p c H (wtext n L) 5) (ps_if (pt_cmpR op_eq (pv 4) pe_int (nomark _)) (pss_one (ps_expr (pe_bm PySem.F.plainAttrs_list PySem.F.slot_list_insert PySem.F.type_list_insert mt_insert (pv 2) (pa_cons (pv 5) (pa_cons (pe_ix ix_list (pv 2) (pv 6) (fun _ _ => rfl)) pa_nil))))) pss_nil) ?w4)
          <| pss_cons (ps_inv9 (J := TJ9 p c H (wtext n L) 5) (J' := TJ9 p c H (wtext n L) 6) (ps_if (PW.pt (pw_and (pt_cmpR op_eq (pv 4) pe_int (nomark _)) (pw_and1 (pt_cmpR op_gt (pe_callB call_len_seq (by rfl) T.len PySem.boot_len (pa_cons (pv 2) pa_nil)) pe_int (nomark _)))))
              (pss_one (ps_expr (pe_bm PySem.F.plainAttrs_list PySem.F.slot_list_pop PySem.F.type_list_pop mt_popAt (pv 2) (pa_cons (pv 5) pa_nil)))) pss_nil) ?w5)
          <| pss_cons (ps_inv9 (J := TJ9 p c H (wtext n L) 6) (J' := TJ9 p c H (wtext n L) 7) (ps_if (pt_cmpR op_eq (pv 4) pe_int (nomark _)) (pss_one (ps_expr (pe_bm PySem.F.plainAttrs_list PySem.F.slot_list_insert PySem.F.type_list_insert mt_insert (pv 2)
              (pa_cons (pe_call GK.ok r2 rfl GK.g GK.kp GK.b .nil pass0 (pa_cons (pv 0) (pa_cons (pe_lst (pa_cons (pv 5) (pa_cons (pe_callB call_len_seq (by rfl) T.len PySem.boot_len (pa_cons (pv 2) pa_nil)) pa_nil))) pa_nil)))
              (pa_cons (pe_call GK.ok r2 rfl GK.g GK.kp GK.b .nil pass0 (pa_cons (pv 0) (pa_cons (pe_lst (pa_cons pe_str (pa_cons pe_str (pa_cons pe_str (pa_cons pe_str (pa_cons pe_str pa_nil)))))) pa_nil))) pa_nil))))) pss_nil) ?w6)
          <| pss_one (ps_inv9 (J := TJ9 p c H (wtext n L) 7) (J' := TJ9 p c H (wtext n L) 8) (ps_if (pt_cmpR op_eq (pv 4) pe_int (nomark _)) (pss_one (ps_asg (pe_op op_add_str (pe_op op_add_str (pe_callTy call_str_int (by rfl) T.str (by decide +kernel) (pa_cons (pe_call GD.ok r1 rfl GD.g GD.kp GD.b .nil pass0 (pa_cons (pv 0) (pa_cons pe_int pa_nil))) pa_nil)) pe_str)
              (pe_callTy call_str_int (by rfl) T.str (by decide +kernel) (pa_cons (pe_call GD.ok r1 rfl GD.g GD.kp GD.b .nil pass0 (pa_cons (pv 0) (pa_cons pe_int pa_nil))) pa_nil))) (pg_sub (pv 2) (pv 5) set_list))) pss_nil) ?w7)))
      <| pss_one (ps_ret (pe_join pe_str (pv 2))), ?main⟩
    case w0 =>
      rintro Tn Dn_ σ M ⟨l, ls, w, a, b, hT, rfl, e1, hl, D1, K1, w0', lb, b3⟩ nx
      refine ⟨_, rfl, _, _, rfl, rfl, _, rfl, ite2 (fun h3 => ?_) (fun h3 => nx _ _ ⟨l, ls, w, a, b, hT, rfl, e1, hl, D1, K1, w0', lb, fun h => b3 (by omega)⟩)⟩
      have h3 := of_decide_eq_true h3
      obtain ⟨c1, c2, c3⟩ := b3 w0'
      obtain ⟨lp, lc⟩ := D.inp hl
      have ga := List.getElem?_eq_getElem c2
      have la := c1.each _ (List.mem_of_getElem? ga)
      refine ⟨_, rfl, _, rfl, _, rfl, l, _, _, _, rfl, rfl, SqL.of e1, atI_nat (by rw [List.getElem?_map, ga]; rfl), p, c, _, rfl, D1, by omega, fun x M1 x1 x2 D2 K2 => ?_⟩
      have e2 := K2 _ _ lp lc e1
      refine ⟨_, rfl, _, rfl, l, _, _, a, rfl, rfl, e2, by rw [List.length_map]; exact ixN_at c2, ?_⟩
      exact nx _ _ ⟨l, ls.set a x, w, a, b, hT, rfl, by rw [upd_same, List.map_set], hl, D2.put lp lc, (K1.trans K2).own hl, w0', c1.set ga (by omega) x2, fun h => absurd h (by omega)⟩
    case w3 =>
      rintro Tn Dn_ σ M ⟨l, ls, w, a, b, hT, rfl, e1, hl, D1, K1, w0', lb, b3⟩ nx
      refine ⟨_, rfl, rfl, _, rfl, ite2 (fun h3 => ?_) (fun h3 => nx _ _ ⟨l, ls, w, a, b, hT, rfl, e1, hl, D1, K1, w0', lb, fun h => b3 (by omega)⟩)⟩
      have h3 := V.int.inj (of_decide_eq_true h3)
      obtain ⟨c1, c2, c3⟩ := b3 (by omega)
      obtain ⟨lp, lc⟩ := D.inp hl
      have ga := List.getElem?_eq_getElem c2
      have gb := List.getElem?_eq_getElem c3
      refine ⟨_, rfl, _, rfl, l, _, _, _, rfl, rfl, SqL.of e1, atI_nat (by rw [List.getElem?_map, gb]; rfl), _, rfl, _, rfl, l, _, _, _, rfl, rfl, SqL.of e1, atI_nat (by rw [List.getElem?_map, ga]; rfl), show 2 ≤ sizeLine from Nat.le_of_lt (sz (by decide)), fun t ht => ?_⟩
      have lt := ne_of_none e1 ht
      refine ⟨t, _, rfl, SqT.of upd_same, rfl, _, _, rfl, _, rfl, _, rfl, l, _, _, a, rfl, rfl, by rw [upd_ne lt]; exact e1, by rw [List.length_map]; exact ixN_at c2, ?_⟩
      refine ⟨_, _, rfl, _, rfl, _, rfl, l, _, _, b, rfl, rfl, upd_same, by rw [List.length_set, List.length_map]; exact ixN_at c3, rfl, ?_⟩
      refine nx _ _ ⟨l, (ls.set a ls[b]).set b ls[a], w, a, b, hT, rfl, ?_, hl, ((D1.new ht).put lp lc).put lp lc, ((K1.trans (kp_new ht)).own hl).own hl, w0', (c1.swap ga gb).up, fun h => absurd h (by omega)⟩
      rw [upd_same, List.map_set, List.map_set]
    case w4 =>
      rintro Tn Dn_ σ M ⟨l, ls, w, a, b, hT, rfl, e1, hl, D1, K1, w0', lb, b3⟩ nx
      refine ⟨_, rfl, rfl, _, rfl, ite2 (fun h3 => ?_) (fun h3 => nx _ _ ⟨l, ls, w, a, b, hT, rfl, e1, hl, D1, K1, w0', lb, fun h => b3 (by omega)⟩)⟩
      have h3 := V.int.inj (of_decide_eq_true h3)
      obtain ⟨c1, c2, c3⟩ := b3 (by omega)
      obtain ⟨lp, lc⟩ := D.inp hl
      have gb := List.getElem?_eq_getElem c3
      have lb' := c1.each _ (List.mem_of_getElem? gb)
      have ll := c1.len
      refine ⟨_, rfl, .inl ⟨rfl, _, SqL.of e1⟩, _, rfl, _, rfl, _, rfl, l, _, _, _, rfl, rfl, SqL.of e1, atI_nat (by rw [List.getElem?_map, gb]; rfl), l, _, _, _, rfl, rfl, e1, by rw [List.length_map]; exact sz (by omega), by omega, by omega, ?_⟩
      refine nx _ _ ⟨l, ls.take a ++ [ls[b]] ++ ls.drop a, w, a, b, hT, rfl, ?_, hl, D1.put lp lc, K1.own hl, w0', c1.ins hT lb'.1 lb'.2 a, fun h => absurd h (by omega)⟩
      rw [upd_same, Int.toNat_natCast, List.map_append, List.map_append, List.map_take, List.map_drop]
      rfl
    case w5 =>
      rintro Tn Dn_ σ M ⟨l, ls, w, a, b, hT, rfl, e1, hl, D1, K1, w0', lb, b3⟩ nx
      have skip : ∀ {M2 : Hp}, M2 = M → Dn_.nx [some (.ref p), some (.str (wtext n L)), some (.ref l), some (.int Tn), some (.int w), some (.int a), some (.int b)] M2 := fun e => e ▸ nx _ _ ⟨l, ls, w, a, b, hT, rfl, e1, hl, D1, K1, w0', lb, fun h => b3 (by omega)⟩
      refine ⟨_, rfl, rfl, _, rfl, ite2 (fun h3 => ?_) (fun h3 => skip rfl)⟩
      have h3 := V.int.inj (of_decide_eq_true h3)
      obtain ⟨c1, c2, c3⟩ := b3 (by omega)
      obtain ⟨lp, lc⟩ := D.inp hl
      refine ⟨_, rfl, l, _, rfl, .inl (SqL.of e1), _, _, rfl, rfl, _, rfl, ite2 (fun h4 => ?_) (fun h4 => skip rfl)⟩
      have h4 := of_decide_eq_true h4
      rw [List.length_map] at h4
      have hj' : a < (ls.map V.str).length := by rw [List.length_map]; exact c2
      have ll := c1.len
      refine ⟨_, rfl, .inl ⟨rfl, _, SqL.of e1⟩, _, rfl, l, _, _, a, _, rfl, rfl, e1, by omega, by omega, (ixN_seq (by rw [List.length_map]; exact ixN_at c2)).1, List.getElem?_eq_getElem hj', ?_⟩
      exact nx _ _ ⟨l, ls.eraseIdx a, w, a, b, hT, rfl, by rw [upd_same, map_out], hl, D1.put lp lc, K1.own hl, w0', (c1.out (by omega)).up, fun h => absurd h (by omega)⟩
    case w6 =>
      rintro Tn Dn_ σ M ⟨l, ls, w, a, b, hT, rfl, e1, hl, D1, K1, w0', lb, b3⟩ nx
      refine ⟨_, rfl, rfl, _, rfl, ite2 (fun h3 => ?_) (fun h3 => nx _ _ ⟨l, ls, w, a, b, hT, rfl, e1, hl, D1, K1, w0', lb, fun h => b3 (by omega)⟩)⟩
      have h3 := V.int.inj (of_decide_eq_true h3)
      obtain ⟨c1, c2, c3⟩ := b3 (by omega)
      obtain ⟨lp, lc⟩ := D.inp hl
      have ll := c1.len
      refine ⟨_, rfl, .inl ⟨rfl, _, SqL.of e1⟩, _, rfl, _, rfl, _, rfl, l, _, rfl, .inl (SqL.of e1), show 2 ≤ sizeLine from Nat.le_of_lt (sz (by decide)), fun l2 h2 => ?_⟩
      obtain ⟨l2p, l2c⟩ := D1.inp h2
      have D2 := D1.new (o := .lst [.int (a : Int), .int ((ls.map V.str).length : Nat)]) h2
      have n12 := ne_of_none e1 h2
      refine ⟨p, c, l2, _, rfl, D2, upd_same, l2p, l2c, show 1 ≤ 2 by decide, show 2 < 1000 by decide, fun i v M1 ev D3 K3 => ?_⟩
      obtain ⟨z, rfl, z1⟩ : ∃ z : Nat, v = .int z ∧ z ≤ 1000 := by
        have hv := List.mem_of_getElem? ev
        simp only [List.mem_cons, List.not_mem_nil, or_false] at hv
        rcases hv with rfl | rfl
        · exact ⟨a, rfl, by omega⟩
        · exact ⟨(ls.map V.str).length, rfl, by rw [List.length_map]; omega⟩
      have e2 := K3 _ _ lp lc (show (upd M l2 _) l = _ by rw [upd_ne n12]; exact e1)
      refine ⟨_, rfl, show 5 ≤ sizeLine from Nat.le_of_lt (sz (by decide)), fun l3 h3' => ?_⟩
      obtain ⟨l3p, l3c⟩ := D3.inp h3'
      have n13 := ne_of_none e2 h3'
      have D4 := D3.new (o := .lst ((["", " ", "0 1", "10 11", "places 3"] : List Str).map V.str)) h3'
      refine ⟨p, c, l3, (["", " ", "0 1", "10 11", "places 3"] : List Str).map V.str, rfl, D4, upd_same, l3p, l3c, show 1 ≤ 5 by decide, show 5 < 1000 by decide, fun i v M2 ev D5 K5 => ?_⟩
      obtain ⟨x, rfl, x1, x2⟩ : ∃ x : Str, v = .str x ∧ x.length ≤ 20 ∧ nls x = 0 := by
        obtain ⟨x, hx, rfl⟩ := List.mem_map.mp (List.mem_of_getElem? ev)
        have all_ : ∀ x ∈ (["", " ", "0 1", "10 11", "places 3"] : List Str), x.length ≤ 20 ∧ nls x = 0 := by decide +kernel
        exact ⟨x, rfl, all_ x hx⟩
      have e3 := K5 _ _ lp lc (show (upd M1 l3 _) l = _ by rw [upd_ne n13]; exact e2)
      have kk : Kp p c M M2 := (((kp_new h2).trans K3).trans (kp_new h3')).trans K5
      refine ⟨l, _, _, _, rfl, rfl, e3, by rw [List.length_map]; exact sz (by omega), by omega, by omega, ?_⟩
      refine nx _ _ ⟨l, ls.take z ++ [x] ++ ls.drop z, w, a, b, hT, rfl, ?_, hl, D5.put lp lc, (K1.trans kk).own hl, w0', c1.ins hT (by omega) (by omega) z, fun h => absurd h (by omega)⟩
      rw [upd_same, Int.toNat_natCast, List.map_append, List.map_append, List.map_take, List.map_drop]
      rfl
    case w7 =>
      rintro Tn Dn_ σ M ⟨l, ls, w, a, b, hT, rfl, e1, hl, D1, K1, w0', lb, b3⟩ nx
      refine ⟨_, rfl, rfl, _, rfl, ite2 (fun h3 => ?_) (fun h3 => nx _ _ ⟨l, ls, w, a, b, hT, rfl, e1, hl, D1, K1, w0', lb, fun h => b3 (by omega)⟩)⟩
      have h3 := V.int.inj (of_decide_eq_true h3)
      obtain ⟨c1, c2, c3⟩ := b3 (by omega)
      obtain ⟨lp, lc⟩ := D.inp hl
      have ga := List.getElem?_eq_getElem c2
      refine ⟨_, rfl, p, c, 13, rfl, D1, by decide, by decide, fun x M1 x0 x1 D2 K2 => ⟨_, rfl, log_small (by omega), ?_⟩⟩
      have q13 := (num_facts (a := x) (b := 0) ⟨x0, x1⟩ (by omega)).1
      have e' : pr (x, 0) = Str.ofString (toString x) ++ Str.ofString " " ++ Str.ofString (toString (0 : Int)) := rfl
      rw [e', app_len, app_len] at q13
      have z0 := sz (m := 100) (by decide)
      refine ⟨_, _, rfl, rfl, by omega, _, rfl, p, c, 13, rfl, D2, by decide, by decide, fun y M2 y0 y1 D3 K3 => ⟨_, rfl, log_small (by omega), ?_⟩⟩
      obtain ⟨q1, q2⟩ := num_facts (a := x) (b := y) ⟨x0, x1⟩ ⟨y0, y1⟩
      have e2' : pr (x, y) = Str.ofString (toString x) ++ Str.ofString " " ++ Str.ofString (toString y) := rfl
      have q3 := q1
      rw [e2', app_len] at q3
      refine ⟨_, _, rfl, rfl, by omega, ?_⟩
      have e2 := K3 _ _ lp lc (K2 _ _ lp lc e1)
      refine ⟨_, rfl, _, rfl, l, _, _, a, rfl, rfl, e2, by rw [List.length_map]; exact ixN_at c2, ?_⟩
      exact nx _ _ ⟨l, ls.set a (pr (x, y)), w, a, b, hT, rfl, by rw [upd_same, List.map_set]; rfl, hl, D3.put lp lc, ((K1.trans K2).trans K3).own hl, w0', c1.set ga (by omega) (by omega), fun h => absurd h (by omega)⟩
    case main =>
      have wl := (wtext_len n2 hB (by omega)).1
      have lb0 := lb_web n2 hB hl38
      refine ⟨_, rfl, ⟨_, rfl⟩, _, _, rfl, rfl, by decide +kernel, by have := sz (m := 100002) (by decide); omega, fun l hl => ?_⟩
      rw [wtext_lines n2 hB]
      have D1 := D.new (o := .lst ((wlines n L).map V.str)) hl
      have K1 : Kp p c H (upd H l (.lst ((wlines n L).map V.str))) := kp_new hl
      refine ⟨_, rfl, p, c, 2, rfl, D1, by decide, by decide, fun r M r0 r1 D2 K2 => ⟨_, _, rfl, rfl, _, rfl, by omega, by omega, ?_⟩⟩
      obtain ⟨lp, lc⟩ := D.inp hl
      have e1 := K2 _ _ lp lc (show (upd H l (.lst ((wlines n L).map V.str))) l = some (.lst ((wlines n L).map V.str)) from upd_same)
      refine for_range (lo := 0) (n := (1 + r).toNat) (LS9 p c H (wtext n L)) ⟨l, wlines n L, none, none, none, none, rfl, e1, hl, D2, K1.trans K2, lb0⟩ ?_ ?_
      · rintro i σ M hi ⟨l, ls, o3, o4, o5, o6, rfl, e1, hl, D1, K1, lb⟩
        obtain ⟨lp, lc⟩ := D.inp hl
        have ll := lb.len
        have nz : 0 < ls.length := List.length_pos_iff.mpr lb.ne
        have hi2 : i ≤ 1 := by omega
        refine ⟨_, rfl, p, c, 8, rfl, D1, by decide, by decide, fun w M1 w0' w1 D2 K2 => ?_⟩
        have e2 := K2 _ _ lp lc e1
        refine ⟨_, rfl, _, rfl, l, _, rfl, .inl (SqL.of e2), p, c, _, rfl, D2, by rw [List.length_map]; omega, by rw [List.length_map]; omega, fun a M2 a0 a1 D3 K3 => ?_⟩
        have e3 := K3 _ _ lp lc e2
        refine ⟨_, rfl, _, rfl, l, _, rfl, .inl (SqL.of e3), p, c, _, rfl, D3, by rw [List.length_map]; omega, by rw [List.length_map]; omega, fun b M3 b0 b1 D4 K4 => ⟨_, _, _, rfl, ?_⟩⟩
        have e4 := K4 _ _ lp lc e3
        rw [List.length_map] at a1 b1
        obtain ⟨a, rfl⟩ : ∃ j : Nat, a = j := ⟨a.toNat, by omega⟩
        obtain ⟨b, rfl⟩ : ∃ j : Nat, b = j := ⟨b.toNat, by omega⟩
        refine ⟨i, ⟨l, ls, w, a, b, hi2, by rw [Int.zero_add]; rfl, e4, hl, D4, ((K1.trans K2).trans K3).trans K4, w0', lb.up, fun _ => ⟨lb, by omega, by omega⟩⟩, fun σ3 M3 j3 => ⟨i, j3, fun σ4 M4 j4 => ⟨i, j4, fun σ5 M5 j5 => ⟨i, j5, fun σ6 M6 j6 => ⟨i, j6, fun σ7 M7 j7 => ⟨i, j7, fun σ8 M8 j8 => ?_⟩⟩⟩⟩⟩⟩
        obtain ⟨l, ls, w, a, b, _, rfl, e1, hl, D1, K1, _, lb, _⟩ := j8
        exact ⟨l, ls, _, _, _, _, rfl, e1, hl, D1, K1, lb⟩
      · rintro σ M ⟨l, ls, o3, o4, o5, o6, rfl, e1, hl, D1, K1, lb⟩
        have lb2 : LB 2 ls := by
          have : (1 + r).toNat = 1 ∨ (1 + r).toNat = 2 := by omega
          rcases this with e | e
          · rw [e] at lb; exact lb.up
          · rw [e] at lb; exact lb
        have wd := lb2.wide (Nat.le_refl _)
        have j1 := join_le "\n" one_nl ls
        have j2 := nl_join lb2.ne
        have j3 := lb2.all
        have s1 := sum_lens ls
        exact ⟨⟨_, rfl⟩, _, rfl, _, l, ls, rfl, rfl, .inl (SqL.of e1), by rw [one_nl.len]; omega, k _ _ (by omega) (by omega) D1 K1⟩
end
end K0

set_option Elab.async false
set_option linter.all false
set_option maxRecDepth 100000
set_option maxHeartbeats 8000000
/-! What a lambda tells; the data that are shown. -/
namespace K0
open PySem PySem.Spec L2
open PyProof.Rows hiding St
open KR (TupX tobj)
open LamX (ExtN Tabs TabB LamS lamCx tLam GivesTo CodeO)
abbrev wTold : Stmt := top 26
/-! ### what stays while tables grow -/
section
variable {H H' : Hp}
theorem ext_at {b : Addr} {o : HO} (e : ExtN H H') (h : H b = some o) (n : ∀ ps, o ≠ .tbl ps) : H' b = some o := e b o h n
theorem ext_tup (e : ExtN H H') : ∀ a x, H a = some (.tup x) → H' a = some (.tup x) := fun a x h => e a _ h fun _ z => nomatch z
theorem ext_same (s : Same H H') : ExtN H H' := fun b o h _ => s b o h
theorem ext_new {l : Addr} {o : HO} (h : H l = none) : ExtN H (upd H l o) := ext_same (same_new h)
theorem TupX.ext {a : Addr} {xs : List V} (t : TupX H a xs) (e : ExtN H H') : TupX H' a xs := let ⟨us, h⟩ := t; ⟨us, e a _ h fun _ z => nomatch z⟩
theorem TT.ext {a : Addr} {xs : List V} (t : TT H a xs) (e : ExtN H H') : TT H' a xs := t.imp (fun h => ext_tup e _ _ h) fun h => TupX.ext h e
theorem GW.ext {w : Addr} {n : Nat} {L : List (Int × Int)} (g : GW H w n L) (e : ExtN H H') : GW H' w n L := ⟨g.web.mono (ext_tup e), g.n1, g.n2, g.bel, g.srt, g.few⟩
theorem VT.ext {v : V} {t : String} (h : VT H v t) (e : ExtN H H') : VT H' v t := by
  cases h with
  | non => exact .non
  | bl b => exact .bl b
  | int i => exact .int i
  | str x => exact .str x
  | lst q => exact .lst (e _ _ q fun _ z => nomatch z)
  | tup q => exact .tup (TT.ext q e)
  | dct q => exact .dct (e _ _ q fun _ z => nomatch z)
theorem DV.ext {T : Addr → Prop} {v : V} {d : PyData} (h : DV H T v d) (e : ExtN H H') : DV H' T v d := by
  induction h with
  | non => exact .non
  | bl b => exact .bl b
  | int i => exact .int i
  | str x => exact .str x
  | lst t q l _ ih => exact .lst t (e _ _ q fun _ z => nomatch z) l ih
  | tup t q l _ ih => exact .tup t (TT.ext q e) l ih
  | dct t q l _ ih => exact .dct t (e _ _ q fun _ z => nomatch z) l ih
theorem Deck.ext {p c : Addr} (D : Deck H p c) (e : ExtN H H') : Deck H' p c := by
  obtain ⟨xs, m, n, h1, h2, h3⟩ := D.ex
  exact ⟨xs, m, n, e _ _ h1 (fun _ z => nomatch z), e _ _ h2 (fun _ z => nomatch z), h3⟩
theorem tabs_same {T : List (Addr × Str)} (t : Tabs T H) (s : Same H H') : Tabs T H' := t.ext s
theorem tabs_kp {T : List (Addr × Str)} {p c : Addr} (t : Tabs T H) (D : Deck H p c) (k : Kp p c H H') : Tabs T H' := fun q hq => by
  obtain ⟨ps, h1, h2, h3⟩ := t q hq
  obtain ⟨xs, m, n, e1, e2, _⟩ := D.ex
  have ko : ∀ {b : Addr} {o : HO}, H b = some o → (∀ z, o ≠ .dK z) → (∀ z, o ≠ .lst z) → H' b = some o := fun e z1 z2 =>
    k _ _ (fun z => by subst z; rw [e1] at e; cases e; exact z1 _ rfl) (fun z => by subst z; rw [e2] at e; cases e; exact z2 _ rfl) e
  refine ⟨ps, ko h1 (fun _ z => nomatch z) (fun _ z => nomatch z), h2, fun pos cv hc => ?_⟩
  obtain ⟨cc, z1, z2⟩ := h3 pos cv hc
  exact ⟨cc, z1, ko z2 (fun _ z => by unfold CodeO at z; cases z) (fun _ z => by unfold CodeO at z; cases z)⟩
end
abbrev webD (n : Nat) (L : List (Int × Int)) : PyData := .tuple [.int n, .tuple (L.map pd)]
theorem its1 {H : Hp} {a : V} {b : PyData} (h1 : DV H Any a b) : ∀ (i : Nat) (v : V) (e : PyData), [a][i]? = some v → [b][i]? = some e → DV H Any v e := fun i v e z1 z2 => match i, z1, z2 with
  | 0, rfl, rfl => h1
  | n + 1, z1, _ => by simp at z1
theorem its2 {H : Hp} {a c : V} {b d : PyData} (h1 : DV H Any a b) (h2 : DV H Any c d) : ∀ (i : Nat) (v : V) (e : PyData), [a, c][i]? = some v → [b, d][i]? = some e → DV H Any v e := fun i v e z1 z2 => match i, z1, z2 with
  | 0, rfl, rfl => h1
  | n + 1, z1, z2 => its1 h2 n v e (by simpa using z1) (by simpa using z2)
theorem its3 {H : Hp} {a c u : V} {b d w : PyData} (h1 : DV H Any a b) (h2 : DV H Any c d) (h3 : DV H Any u w) : ∀ (i : Nat) (v : V) (e : PyData), [a, c, u][i]? = some v → [b, d, w][i]? = some e → DV H Any v e := fun i v e z1 z2 => match i, z1, z2 with
  | 0, rfl, rfl => h1
  | n + 1, z1, z2 => its2 h2 h3 n v e (by simpa using z1) (by simpa using z2)
theorem its4 {H : Hp} {a c u x : V} {b d w y : PyData} (h1 : DV H Any a b) (h2 : DV H Any c d) (h3 : DV H Any u w) (h4 : DV H Any x y) : ∀ (i : Nat) (v : V) (e : PyData), [a, c, u, x][i]? = some v → [b, d, w, y][i]? = some e → DV H Any v e := fun i v e z1 z2 => match i, z1, z2 with
  | 0, rfl, rfl => h1
  | n + 1, z1, z2 => its3 h2 h3 h4 n v e (by simpa using z1) (by simpa using z2)
theorem Prs.dv {H : Hp} {vs : List V} {L : List (Int × Int)} (p : Prs H vs L) : ∀ (i : Nat) (v : V) (d : PyData), vs[i]? = some v → (L.map pd)[i]? = some d → DV H Any v d := fun i v d z1 z2 => by
  obtain ⟨a, q, rfl, hq, h⟩ := p.get z1
  rw [List.getElem?_map, hq] at z2
  cases z2
  exact .tup trivial (.inl h) rfl (its2 (.int _) (.int _))
theorem Web.dv {H : Hp} {w : Addr} {n : Nat} {L : List (Int × Int)} (W : Web H w n L) : DV H Any (.ref w) (webD n L) := by
  obtain ⟨t, vs, h1, h2, h3⟩ := W.ex
  exact .tup trivial (.inl h1) rfl (its2 (.int _) (.tup trivial (.inl h2) (by rw [List.length_map, h3.len]) h3.dv))
theorem dv_pr {H : Hp} {t : Addr} {x : Str} {v : V} {d : PyData} (h : H t = some (.tup [.str x, v])) (D : DV H Any v d) : DV H Any (.ref t) (.tuple [.str x, d]) := .tup trivial (.inl h) rfl (its2 (.str x) D)
/-! ### data -/
structure Nc (k b : Nat) (d : PyData) : Prop where
  sh : d.showable = true
  lv : d.leavesShort 200 = true
  dp : d.depth ≤ k
  bk : d.bulk ≤ b
theorem Nc.more {k k' b b' : Nat} {d : PyData} (h : Nc k b d) (hk : k ≤ k') (hb : b ≤ b') : Nc k' b' d := ⟨h.sh, h.lv, Nat.le_trans h.dp hk, Nat.le_trans h.bk hb⟩
theorem Nc.fit {k b : Nat} {d : PyData} (h : Nc k b d) (hk : k ≤ 60) (hb : b ≤ 60000) : Fit d := fit_of h.sh h.lv (Nat.le_trans h.dp hk) (Nat.le_trans h.bk hb)
theorem nc_all {k b : Nat} : ∀ {ds : List PyData}, (∀ d ∈ ds, Nc k b d) → PyData.showableAll ds = true ∧ PyData.leavesShortAll 200 ds = true ∧ PyData.depthAll ds ≤ k ∧ PyData.bulkAll ds ≤ ds.length * (b + 1)
  | [], _ => ⟨by simp only [PyData.showableAll], by simp only [PyData.leavesShortAll], by simp only [PyData.depthAll]; omega, by simp only [PyData.bulkAll]; omega⟩
  | d :: ds, h => by
    obtain ⟨h1, h2, h3, h4⟩ := nc_all (ds := ds) fun e z => h e (List.mem_cons_of_mem _ z)
    have t := h d (List.mem_cons_self ..)
    refine ⟨by simp only [PyData.showableAll, t.sh, h1, Bool.and_self], by simp only [PyData.leavesShortAll, t.lv, h2, Bool.and_self], ?_, ?_⟩
    · have := t.dp
      simp only [PyData.depthAll]
      omega
    · have := t.bk
      simp only [PyData.bulkAll, List.length_cons, Nat.add_mul, Nat.one_mul]
      omega
theorem nc_tup {k b : Nat} {ds : List PyData} (h : ∀ d ∈ ds, Nc k b d) : Nc (k + 1) (ds.length * (b + 1)) (.tuple ds) := by
  obtain ⟨h1, h2, h3, h4⟩ := nc_all h
  exact ⟨by simp only [PyData.showable, h1], by simp only [PyData.leavesShort, h2], by simp only [PyData.depth]; omega, by simp only [PyData.bulk]; exact h4⟩
theorem nc_lst {k b : Nat} {ds : List PyData} (h : ∀ d ∈ ds, Nc k b d) : Nc (k + 1) (ds.length * (b + 1)) (.list ds) := by
  obtain ⟨h1, h2, h3, h4⟩ := nc_all h
  exact ⟨by simp only [PyData.showable, h1], by simp only [PyData.leavesShort, h2], by simp only [PyData.depth]; omega, by simp only [PyData.bulk]; exact h4⟩
theorem int_fin : ∀ i : Fin 1500, PyData.showable (.int (i.val : Int)) = true ∧ PyData.leavesShort 200 (.int (i.val : Int)) = true := by decide +kernel
theorem nc_int {i : Int} (h : 0 ≤ i ∧ i < 1500) : Nc 0 0 (.int i) := by
  have z := int_fin ⟨i.toNat, by omega⟩
  have e : ((i.toNat : Nat) : Int) = i := by omega
  have z : PyData.showable (.int ((i.toNat : Nat) : Int)) = true ∧ PyData.leavesShort 200 (.int ((i.toNat : Nat) : Int)) = true := z
  rw [e] at z
  exact ⟨z.1, z.2, by simp only [PyData.depth]; omega, by simp only [PyData.bulk]; omega⟩
theorem nc_str {x : Str} (h : ∀ c ∈ x.cps.toList, c < 256) : Nc 0 x.length (.str x) := ⟨by simp only [PyData.showable], by
  simp only [PyData.leavesShort, List.all_eq_true, decide_eq_true_eq]
  intro c hc
  have := h c hc
  omega, by simp only [PyData.depth]; omega, by simp only [PyData.bulk]; exact Nat.le_refl _⟩
theorem nc_two {k b : Nat} {a c : PyData} (ha : Nc k b a) (hc : Nc k b c) : ∀ d ∈ [a, c], Nc k b d := fun d hd => by
  rcases List.mem_cons.mp hd with rfl | hd
  · exact ha
  · rw [List.mem_singleton.mp hd]; exact hc
theorem nc_pd {q : Int × Int} (h1 : 0 ≤ q.1 ∧ q.1 < 64) (h2 : 0 ≤ q.2 ∧ q.2 < 64) : Nc 1 2 (pd q) := (nc_tup (k := 0) (b := 0) (nc_two (nc_int (by omega)) (nc_int (by omega)))).more (Nat.le_refl _) (Nat.le_refl _)
theorem nc_web {n : Nat} {L : List (Int × Int)} (hn : n ≤ 12) (hB : Bel n L) (l : L.length ≤ 60) : Nc 3 400 (webD n L) := by
  have h1 : Nc 2 180 (.tuple (L.map pd)) := (nc_tup (k := 1) (b := 2) fun d hd => by
    obtain ⟨q, hq, rfl⟩ := List.mem_map.mp hd
    have := hB q hq
    exact nc_pd (by omega) (by omega)).more (Nat.le_refl _) (by rw [List.length_map]; omega)
  have h2 : Nc 2 180 (.int (n : Int)) := (nc_int (by omega)).more (by decide) (by decide)
  exact (nc_tup (nc_two h2 h1)).more (Nat.le_refl _) (by show 2 * 181 ≤ 400; decide)
theorem word_told : ∀ c ∈ ("told" : Str).cps.toList, c < 256 := by decide +kernel
theorem word_text : ∀ c ∈ ("text" : Str).cps.toList, c < 256 := by decide +kernel
theorem len_told : ("told" : Str).length = 4 := by decide +kernel
theorem len_text : ("text" : Str).length = 4 := by decide +kernel
/-- the signs of a web's text are plain -/
theorem pr_low : ∀ a : Fin 12, ∀ b : Fin 12, (TL.tl (pr ((a.val : Int), (b.val : Int)))).all (· < 256) = true := by decide +kernel
theorem hd_low : ∀ n : Fin 13, (TL.tl (hd (n.val : Int))).all (· < 256) = true ∧ 1 ≤ (hd (n.val : Int)).length := by decide +kernel
theorem joinL_mem {S : List Nat} {c : Nat} : ∀ {ps : List (List Nat)}, c ∈ TL.joinL S ps → c ∈ S ∨ ∃ p ∈ ps, c ∈ p
  | [], h => by simp [TL.joinL] at h
  | [p], h => .inr ⟨p, List.mem_singleton.mpr rfl, h⟩
  | p :: q :: r, h => by
    have h : c ∈ p ++ (S ++ TL.joinL S (q :: r)) := h
    rcases List.mem_append.mp h with h | h
    · exact .inr ⟨p, List.mem_cons_self .., h⟩
    · rcases List.mem_append.mp h with h | h
      · exact .inl h
      · rcases joinL_mem h with h | ⟨x, hx, h⟩
        · exact .inl h
        · exact .inr ⟨x, List.mem_cons_of_mem _ hx, h⟩
theorem wtext_low {n : Nat} {L : List (Int × Int)} (h0 : n ≤ 12) (hB : Bel n L) : ∀ c ∈ (wtext n L).cps.toList, c < 256 := fun c hc => by
  have hc : c ∈ TL.tl (Txt.join "\n" (wlines n L)) := hc
  rw [TL.join_eq, TL.tl_join, one_nl.tl] at hc
  rcases joinL_mem hc with h | ⟨p, hp, h⟩
  · rw [List.mem_singleton.mp h]; decide
  · obtain ⟨x, hx, rfl⟩ := List.mem_map.mp hp
    rcases List.mem_cons.mp hx with rfl | hx
    · have z := (hd_low ⟨n, by omega⟩).1
      exact of_decide_eq_true (List.all_eq_true.mp z c h)
    · obtain ⟨q, hq, rfl⟩ := List.mem_map.mp hx
      have b := hB q hq
      have z := pr_low ⟨q.1.toNat, by omega⟩ ⟨q.2.toNat, by omega⟩
      have e1 : ((q.1.toNat : Nat) : Int) = q.1 := by omega
      have e2 : ((q.2.toNat : Nat) : Int) = q.2 := by omega
      simp only [e1, e2] at z
      exact of_decide_eq_true (List.all_eq_true.mp z c h)
theorem wtext_pos {n : Nat} {L : List (Int × Int)} (h0 : n ≤ 12) : 1 ≤ (wtext n L).length := by
  have a := one_nl.join_len (ps := wlines n L) (by simp [wlines])
  have z := (hd_low ⟨n, by omega⟩).2
  have z : 1 ≤ (hd (n : Int)).length := z
  have w : (hd (n : Int)).length + 1 ≤ wide (wlines n L) := by
    unfold wide wlines
    simp only [List.map_cons, List.sum_cons]
    omega
  unfold wtext
  omega
/-! ### what is told of a deed -/
abbrev nTold : List Str := ["_law_deed", "e"]
theorem scTold : FnScope nTold ["_law_deed"] (defScope wTold) := ⟨rfl, rfl, rfl, by decide +kernel, rfl, by decide +kernel, by decide +kernel⟩
/-- a pair of a word and a value is returned -/
def Pr2 (x : Str) (v : V) (H : Hp) (Q : VK) : Prop := ∀ t, H t = none → Q (.ref t) (upd H t (.tup [.str x, v]))
def TT9 (CT : Addr) : (XK → Hp → VK → Prop) → Hp → VK → Prop := fun tl H Q => tl (fun cls d H' => cls = .ref CT ∧ ∃ d0 v, d = some d0 ∧ H' d0 = some (.xd [("at", v)]) ∧ Pr2 "text" v H' Q) H (fun v H' => Pr2 "told" v H' Q)
structure ToldT (P : Program) (K : PySem.W.Frag) (mg : Str → Option Value) (CT tI g : Addr) (fd : FuncData) : Prop where
  N : ErX P K mg "BadText" CT tI "at"
  tt : PySem.W.subIn K (.ref CT) (.ref CT) = some true
  F : Fun K "_law_told" "_law_told" wTold g fd
  b : Binds K fd ["_law_deed"] []
  gm : mg "_law_told" = some (.ref g)
theorem told_ok {X : Cx} {CT tI g : Addr} {fd : FuncData} {cdg : Value} {q : Str} (T : ToldT X.prog X.K X.mg CT tI g fd) : GivesTo X nTold "_law_told" (defScope wTold) g cdg (defBody wTold) "_law_deed" q (TT9 CT) := by
  intro f c' s H Q tl act hc h
  have sz : ∀ {n : Nat}, n ≤ 100 → n ≤ sizeLine := fun h => by rw [sizeLine_eq]; omega
  refine ⟨_, pss_one (ps_try_all (X := (cxOf C8.CX0 X.prog X.w X.K X.mg X.base nTold "_law_told" (defScope wTold) g cdg X.A X.stack s H C8.E0).nox) (i := 1) (n := "e")
      (tb := fun W D σ H => ∃ Ech : XK, (∀ cls d σ' H', Ech cls d H' → W cls d σ' H') ∧ σ[0]? = some (some (.ref f)) ∧ H c' = some (CodeO c' q) ∧ tl Ech H (fun v H' => 2 ≤ sizeLine ∧ ∀ t, H' t = none → D.rt (.ref t) (upd H' t (.tup [.str "told", v]))))
      rfl rfl scTold.nd rfl rfl (fun W pn xe tk _ => ⟨fun pins s' σ H' D I h' => ?_⟩)
      (Cls.cons ⟨rfl, by decide, .inl T.N.g⟩ (fun a ob cls d pn hz hf => pss_one (ps_ret (pe_tup (pa_cons pe_str (pa_cons (pe_xf T.N.er.xf T.N.f1.no hz hf (pv 1)) pa_nil))))) Cls.nil)), ?_⟩
  · obtain ⟨Ech, hW, h1, h2, h3⟩ := h'
    exact (pss_one (ps_ret (pe_tup (pa_cons pe_str (pa_cons (act W pn xe Ech _ _ tk hW) pa_nil))))).run pins s' σ H' D I ⟨h1, h2, h3⟩
  · have x3 : PySem.W.exmOne X.K (.ref CT) (.ref CT) = some true := PySem.W.exm_ref T.N.er.eB T.N.er.cl.hd T.N.er.tC T.tt
    refine ⟨fun cls d H' => cls = .ref CT ∧ ∃ d0 v, d = some d0 ∧ H' d0 = some (.xd [("at", v)]) ∧ Pr2 "text" v H' Q, fun cls d σ' H' z => ?_, rfl, hc, ?_⟩
    rotate_left
    · have h' := h
      unfold TT9 at h'
      have key : ∀ v H', Pr2 "told" v H' Q → 2 ≤ sizeLine ∧ ∀ t, H' t = none → Q (.ref t) (upd H' t (.tup [.str "told", v])) := fun v H' z => ⟨sz (by decide), z⟩
      have e : (fun (v : V) (H' : Hp) => 2 ≤ sizeLine ∧ ∀ t, H' t = none → Q (.ref t) (upd H' t (.tup [.str "told", v]))) = fun v H' => Pr2 "told" v H' Q := by
        funext v H'
        exact propext ⟨fun z => z.2, key v H'⟩
      show tl _ H (fun v H' => 2 ≤ sizeLine ∧ ∀ t, H' t = none → Q (.ref t) (upd H' t (.tup [.str "told", v])))
      rw [e]
      exact h'
    · intro hl
      have e1 : ∀ a : Addr, (List.set σ' 1 (some (V.ref a)))[1]? = some (some (V.ref a)) := fun a => by rw [List.getElem?_set_self (by rw [hl]; show 1 < 2; decide)]
      obtain ⟨rfl, d0, v, rfl, hd, k⟩ := z
      refine ⟨_, x3, fun _ a ha => ?_, fun z => nomatch z⟩
      exact ⟨_, e1 a, rfl, rfl, d0, _, v, rfl, hd, by simp [List.lookup], sz (by simp), fun t ht => k t ht⟩
section
variable {X : Cx} {CT tI g c Pt : Addr} {fd : FuncData} {T : List (Addr × Str)} {k : Nat} {params : Arguments} {body : Expr} {scope : Scope} {t : XK → TE} {p lpos pos : Pos}
/-- what is told of a lambda -/
theorem pe_told (D : ToldT X.prog X.K X.mg CT tI g fd) (hg : Gl X "_law_told") (TB : TabB X.base X.mg c Pt) (hcode : X.env.code = .ref c) (hmT : (Pt, X.env.qual ++ "<lambda>") ∈ T) (hu : ∀ p ∈ T, p.1 = Pt → p.2 = X.env.qual ++ "<lambda>") (hr : Room (k + 2) X.A) (L : LamS X.env.scope scope)
    (hdef : defaultsOf params X.env = ([], [])) (hbind : ∀ (q : Str) (cl : List (Str × Addr)) (pm cv ctv : Value), bindArgs (PySem.W.kla_fn "<lambda>" q params body scope cl pm cv ctv) ⟨[], []⟩ = pure [])
    (hbody : ∀ (A : Around) (outer : List Env) (s : Shared) (H : Hp) (E : XK) (f c' : Addr), Room k (A.deeper (LamX.lamEnv X scope s.heap.objs.size f c')) → PE (lamCx X A outer s H E scope f c') body (t E)) :
    PE X (.Call (.Name "_law_told" p) [.Lambda params body scope lpos] [] pos) (tLam T (TT9 CT) t) := by
  obtain ⟨oc, od, kV, doc, pm, an, cdv, ct, osl, e, lk, hcd⟩ := D.F.ex
  have hb := D.b
  subst e
  exact LamX.pe_lamcall (a := "_law_deed") (Ng := nTold) hg D.gm D.F.kp lk hcd hb scTold rfl (.inl rfl) (told_ok D) TB hcode hmT hu hr L hdef hbind hbody
end
/-- where the table of the lambdas stands -/
structure Tb (T : List (Addr × Str)) (base : Heap) (mg : Str → Option Value) (c Pt : Addr) (q : Str) : Prop where
  tb : TabB base mg c Pt
  mem : (Pt, q) ∈ T
  uniq : ∀ p ∈ T, p.1 = Pt → p.2 = q
end K0

set_option Elab.async false
set_option linter.all false
set_option maxRecDepth 100000
set_option maxHeartbeats 16000000
/-! The law. -/
namespace K0
open PySem PySem.Spec L2
open PyProof.Rows hiding St
open KR (TupX tobj)
open LamX (ExtN Tabs TabB LamS lamCx tLam GivesTo CodeO lamS_by)
abbrev lLaw : Stmt := top 31
/-- a def that may raise -/
structure DX9 (P : Program) (w : World) (K : PySem.W.Frag) (mg : Str → Option Value) (base : Heap) (name : Str) (k : Nat) (ps : List Str) (sp : Sp) (f : Addr) (fd : FuncData) : Prop where
  g : mg name = some (.ref f)
  kp : PySem.W.keepIn K (.ref f) = true
  b : Binds K fd ps []
  ok : FnOk P w K mg base (L2.CX P w) k f fd ps sp
structure Lw (P : Program) (w0 : World) (K : PySem.W.Frag) (mg : Str → Option Value) (base : Heap) (CT tI g : Addr) (fg : FuncData) : Prop where
  bs : Bs mg
  told : ToldT P K mg CT tI g fg
  deck : ∃ f fd, Dn P w0 K mg base "_law_deck" 1 ["_law_script"] (spDeck K) f fd
  draw : ∃ f fd, Dn P w0 K mg base "_law_draw" 1 ["_law_deck_here", "_law_many"] spDraw f fd
  pick : ∃ f fd, Dn P w0 K mg base "_law_pick" 2 ["_law_deck_here", "_law_some"] spPick f fd
  any : ∃ f fd, Dn P w0 K mg base "_law_any" 5 ["_law_deck_here", "_law_deep"] (spAny 3) f fd
  web : ∃ f fd, Dn P w0 K mg base "_law_web" 4 ["_law_deck_here", "_law_n", "_law_most"] spWeb f fd
  word : ∃ f fd, Dn P w0 K mg base "_law_word" 3 ["_law_deck_here"] spWord f fd
  text : ∃ f fd, Dn P w0 K mg base "_law_bent_text" 5 ["_law_deck_here", "_law_text"] spText f fd
  due : ∃ f fd, Dn P w0 K mg base "_law_due" 2 ["_law_text"] spDue f fd
  textOf : ∃ f fd, Dn P w0 K mg base "text_of" 6 ["web"] spTextOf f fd ∧ Kw1 fd "web"
  readWeb : ∃ f fd, DX9 P w0 K mg base "read_web" 2 ["text"] (spReadWeb CT) f fd ∧ Kw1 fd "text"
/-- the datum that is due of v -/
def DueD (v : V) (e : PyData) : Prop := (∃ (s : Str) (n : Nat) (L : List (Int × Int)), v = .str s ∧ rdT s = .inr (n, L) ∧ e = .tuple [.str "told", webD n L]) ∨ ∃ k : Nat, ((∃ s, v = .str s ∧ rdT s = .inl k) ∨ ((∀ s, v ≠ .str s) ∧ k = 0)) ∧ e = .tuple [.str "text", .int k]
theorem due_dv {H : Hp} {a : Addr} {v : V} (d : DueAt H a v) : ∃ e, DueD v e ∧ DV H Any (.ref a) e := by
  rcases d with ⟨s, n, L, w, e1, e2, e3, W⟩ | ⟨k, h, e3⟩
  · exact ⟨_, .inl ⟨s, n, L, e1, e2, rfl⟩, dv_pr e3 W.dv⟩
  · exact ⟨_, .inr ⟨k, h, rfl⟩, dv_pr e3 (.int _)⟩
theorem read_run {CT : Addr} {v : V} {ty : String} {M1 : Hp} {Q : VK} {e : PyData} (hv : VT M1 v ty) (hl : ∀ s, v = .str s → s.length ≤ 900000) (dd : DueD v e) (k : ∀ q M2, Same M1 M2 → DV M2 Any (.ref q) e → Q (.ref q) M2) :
    spReadWeb CT [v] M1 (fun v H' => Pr2 "told" v H' Q) (fun cls d H' => cls = .ref CT ∧ ∃ d0 v, d = some d0 ∧ H' d0 = some (.xd [("at", v)]) ∧ Pr2 "text" v H' Q) := by
  refine ⟨v, ty, rfl, hv, fun s hs => ⟨hl s hs, fun n L hr w H' sH W t ht => ?_, fun j hj d H' sH hd e' => ⟨rfl, d, _, rfl, e', fun t ht => ?_⟩⟩, fun ns d H' sH hd e' => ⟨rfl, d, _, rfl, e', fun t ht => ?_⟩⟩
  · subst hs
    rcases dd with ⟨s', n', L', e1, e2, rfl⟩ | ⟨j, ⟨s', e1, e2⟩ | ⟨ns, _⟩, rfl⟩
    · cases e1
      rw [hr] at e2
      cases e2
      exact k t _ (sH.trans (same_new ht)) (dv_pr upd_same (W.dv.same (same_new ht)))
    · cases e1
      rw [hr] at e2
      cases e2
    · exact absurd rfl (ns s)
  · subst hs
    rcases dd with ⟨s', n', L', e1, e2, rfl⟩ | ⟨j', ⟨s', e1, e2⟩ | ⟨ns, _⟩, rfl⟩
    · cases e1
      rw [hj] at e2
      cases e2
    · cases e1
      rw [hj] at e2
      cases e2
      exact k t _ (sH.trans (same_new ht)) (dv_pr upd_same (.int _))
    · exact absurd rfl (ns s)
  · rcases dd with ⟨s', n', L', e1, e2, rfl⟩ | ⟨j', ⟨s', e1, e2⟩ | ⟨_, rfl⟩, rfl⟩
    · exact absurd e1 (ns s')
    · exact absurd e1 (ns s')
    · exact k t _ (sH.trans (same_new ht)) (dv_pr upd_same (.int _))
/-- what may be read: a text that isn't too long, or something else beside the deck -/
def Itm (p c : Addr) (H : Hp) (v : V) : Prop := (∃ x : Str, v = .str x ∧ x.length ≤ 100001 ∧ nls x ≤ 1300 ∧ (∀ n L, rdT x = .inr (n, L) → L.length ≤ 60)) ∨ ∃ t, VT H v t ∧ t ≠ "str" ∧ ∀ a, v = .ref a → a ≠ p ∧ a ≠ c
theorem itm_str {p c : Addr} {H : Hp} {x : Str} (h1 : x.length ≤ 100001) (h2 : nls x ≤ 60) : Itm p c H (.str x) := .inl ⟨x, rfl, h1, by omega, fun n L h => by have := (rdT_told h).2.2.2.2.2; omega⟩
theorem VT.kp9 {p c : Addr} {H H' : Hp} {v : V} {t : String} (h : VT H v t) (off : ∀ a, v = .ref a → a ≠ p ∧ a ≠ c) (k : Kp p c H H') : VT H' v t := by
  cases h with
  | non => exact .non
  | bl b => exact .bl b
  | int i => exact .int i
  | str x => exact .str x
  | lst e => exact .lst (k _ _ (off _ rfl).1 (off _ rfl).2 e)
  | tup e => exact .tup (e.keep fun o q => k _ _ (off _ rfl).1 (off _ rfl).2 q)
  | dct e => exact .dct (k _ _ (off _ rfl).1 (off _ rfl).2 e)
theorem Itm.kp {p c : Addr} {H H' : Hp} {v : V} (h : Itm p c H v) (k : Kp p c H H') : Itm p c H' v := by
  rcases h with h | ⟨t, h1, h2, h3⟩
  · exact .inl h
  · exact .inr ⟨t, h1.kp9 h3 k, h2, h3⟩
/-- a list grows -/
theorem VT.put9 {l : Addr} {xs ys : List V} {H : Hp} {v : V} {t : String} (h : VT H v t) (e0 : H l = some (.lst xs)) : VT (upd H l (.lst ys)) v t := by
  cases h with
  | non => exact .non
  | bl b => exact .bl b
  | int i => exact .int i
  | str x => exact .str x
  | @lst a zs e =>
    by_cases z : a = l
    · subst z; exact .lst upd_same
    · exact .lst (by rw [upd_ne z]; exact e)
  | tup e => exact .tup (e.elim (fun e => .inl (by rw [upd_ne (fun z => by rw [z, e0] at e; cases e)]; exact e)) fun ⟨us, e⟩ => .inr ⟨us, by rw [upd_ne (fun z => by rw [z, e0] at e; cases e)]; exact e⟩)
  | dct e => exact .dct (by rw [upd_ne (fun z => by rw [z, e0] at e; cases e)]; exact e)
theorem Itm.put {p c l : Addr} {xs ys : List V} {H : Hp} {v : V} (h : Itm p c H v) (e0 : H l = some (.lst xs)) : Itm p c (upd H l (.lst ys)) v := by
  rcases h with h | ⟨t, h1, h2, h3⟩
  · exact .inl h
  · exact .inr ⟨t, h1.put9 e0, h2, h3⟩
theorem Itm.ext {p c : Addr} {H H' : Hp} {v : V} (h : Itm p c H v) (x : ExtN H H') : Itm p c H' v := by
  rcases h with h | ⟨t, h1, h2, h3⟩
  · exact .inl h
  · exact .inr ⟨t, h1.ext x, h2, h3⟩
theorem Itm.vt {p c : Addr} {H : Hp} {v : V} (h : Itm p c H v) : ∃ t, VT H v t ∧ ∀ s, v = .str s → s.length ≤ 900000 := by
  rcases h with ⟨x, rfl, h1, _⟩ | ⟨t, h1, h2, h3⟩
  · exact ⟨_, .str x, fun s e => by cases e; omega⟩
  · exact ⟨t, h1, fun s e => by subst e; cases h1; exact absurd rfl h2⟩
theorem due_nc {p c : Addr} {H : Hp} {v : V} {e : PyData} (h : Itm p c H v) (d : DueD v e) : Nc 5 1000 e := by
  rcases d with ⟨s, n, L, rfl, e2, rfl⟩ | ⟨k, hk, rfl⟩
  · obtain ⟨_, n1, n2, hB, _⟩ := rdT_told e2
    rcases h with ⟨x, e1, _, _, hl⟩ | ⟨t, h1, h2, _⟩
    · cases e1
      have w := nc_web n2 hB (hl n L e2)
      exact (nc_tup (nc_two ((nc_str word_told).more (by decide) (by rw [len_told]; decide)) w)).more (by decide) (by show 2 * 401 ≤ 1000; decide)
    · cases h1
      exact absurd rfl h2
  · have hk2 : k < 1500 := by
      rcases hk with ⟨s, rfl, e2⟩ | ⟨_, rfl⟩
      · rcases h with ⟨x, e1, _, hn, _⟩ | ⟨t, h1, h2, _⟩
        · cases e1
          have a := (rdLs_at e2).2
          have b := split_many s
          omega
        · cases h1
          exact absurd rfl h2
      · decide
    exact (nc_tup (k := 0) (b := 4) (nc_two ((nc_str word_text).more (Nat.le_refl _) (by rw [len_text]; decide)) ((nc_int (by omega)).more (Nat.le_refl _) (by decide)))).more (by decide) (by show 2 * 5 ≤ 1000; decide)
end K0

set_option Elab.async false
set_option linter.all false
set_option maxRecDepth 100000
set_option maxHeartbeats 16000000
/-! The law, whole. -/
namespace K0
open PySem PySem.Spec L2
open PyProof.Rows hiding St
open KR (TupX tobj)
open LamX (ExtN Tabs TabB LamS lamCx tLam GivesTo CodeO lamS_by)
abbrev nLaw : List Str := ["_law_script", "_law_deck_here", "_law_web_here", "_law_lines", "_law_text", "_law_some", "_law_turn", "_law_thing", "_law_due_here", "_law_told_here", "_law_one", "_law_other"]
theorem scLaw : FnScope nLaw ["_law_script"] (defScope lLaw) := ⟨rfl, rfl, rfl, by decide +kernel, rfl, by decide +kernel, by decide +kernel⟩
theorem read_ok {CT : Addr} {n : Nat} {L : List (Int × Int)} {H : Hp} {Q : VK} {E : XK} (n1 : 1 ≤ n) (n2 : n ≤ 12) (hB : Bel n L) (hs : Srt L) (l : L.length ≤ 60) (k : ∀ (w : Addr) (H' : Hp), Same H H' → Web H' w n L → Q (.ref w) H') : spReadWeb CT [.str (wtext n L)] H Q E := by
  have z := rdT_of n1 n2 hB hs
  have wl := (wtext_len n2 hB l).1
  refine ⟨_, "str", rfl, .str _, fun s hs => ?_, fun ns => absurd rfl (ns _)⟩
  cases hs
  exact ⟨by omega, fun n' L' hr w H' sH W => by rw [z] at hr; cases hr; exact k w H' sH W, fun j hj => by rw [z] at hj; cases hj⟩
theorem fit4 {n : Nat} {L : List (Int × Int)} (n2 : n ≤ 12) (hB : Bel n L) (l : L.length ≤ 60) : Fit (.tuple [.str (wtext n L), .str (wtext n L), webD n L, webD n L]) := by
  have a : Nc 3 700 (.str (wtext n L)) := (nc_str (wtext_low n2 hB)).more (by decide) (by have := (wtext_len n2 hB l).1; omega)
  have b : Nc 3 700 (webD n L) := (nc_web n2 hB l).more (Nat.le_refl _) (by decide)
  refine (nc_tup (k := 3) (b := 700) fun d hd => ?_).fit (by decide) (by show 4 * 701 ≤ 60000; decide)
  simp only [List.mem_cons, List.not_mem_nil, or_false] at hd
  rcases hd with rfl | rfl | rfl | rfl
  · exact a
  · exact a
  · exact b
  · exact b
theorem cut_less (z : Str) (i : Int) : (cutS z none (some i)).length ≤ z.length ∧ nls (cutS z none (some i)) ≤ nls z := by
  refine ⟨cutS_length _ _ _, ?_⟩
  show List.count 10 _ ≤ _
  exact ((List.take_sublist _ _).trans (List.drop_sublist _ _)).count_le _
theorem dv_ref {H : Hp} {T : Addr → Prop} {v : V} {e : PyData} (d : DV H T v e) : ∀ a, v = .ref a → T a := fun a h => by
  cases d with
  | lst t _ _ _ => cases h; exact t
  | tup t _ _ _ => cases h; exact t
  | dct t _ _ _ => cases h; exact t
  | _ => cases h
theorem itm_any {p c : Addr} {H : Hp} {T : Addr → Prop} {v : V} {e : PyData} (d : DV H T v e) (h : ∀ x, v = V.str x → x.length ≤ 12) (off : ∀ a, T a → a ≠ p ∧ a ≠ c) : Itm p c H v := by
  obtain ⟨t, ht⟩ := d.vt
  by_cases e : t = "str"
  · have : ∃ x, v = .str x := by
      cases ht with
      | str x => exact ⟨x, rfl⟩
      | _ => exact absurd e (by decide)
    obtain ⟨x, rfl⟩ := this
    have l := h x rfl
    have n : nls x ≤ (TL.tl x).length := List.count_le_length
    rw [← TL.len_tl] at n
    exact itm_str (by omega) (by omega)
  · exact .inr ⟨t, ht, e, fun a z => off a (dv_ref d a z)⟩
theorem tabs_put {T : List (Addr × Str)} {l : Addr} {xs ys : List V} {H : Hp} (t : Tabs T H) (e0 : H l = some (.lst xs)) : Tabs T (upd H l (.lst ys)) := fun q hq => by
  obtain ⟨ps, h1, h2, h3⟩ := t q hq
  have ko : ∀ {b : Addr} {o : HO}, H b = some o → (∀ z, o ≠ .lst z) → (upd H l (.lst ys)) b = some o := fun e z => by
    rw [upd_ne (fun y => by rw [y, e0] at e; cases e; exact z _ rfl)]
    exact e
  refine ⟨ps, ko h1 (fun _ z => nomatch z), h2, fun pos cv hc => ?_⟩
  obtain ⟨cc, z1, z2⟩ := h3 pos cv hc
  exact ⟨cc, z1, ko z2 (fun _ z => by unfold CodeO at z; cases z)⟩
theorem GW.put {w l : Addr} {n : Nat} {L : List (Int × Int)} {xs ys : List V} {H : Hp} (g : GW H w n L) (e0 : H l = some (.lst xs)) : GW (upd H l (.lst ys)) w n L := ⟨g.web.mono (upd_tup e0), g.n1, g.n2, g.bel, g.srt, g.few⟩
theorem GW.kp {p c w : Addr} {n : Nat} {L : List (Int × Int)} {H H' : Hp} (g : GW H w n L) (D : Deck H p c) (k : Kp p c H H') : GW H' w n L := ⟨g.web.mono (k.tup D), g.n1, g.n2, g.bel, g.srt, g.few⟩
theorem GW.off {p c w : Addr} {n : Nat} {L : List (Int × Int)} {H : Hp} (g : GW H w n L) (D : Deck H p c) : w ≠ p ∧ w ≠ c := by
  obtain ⟨ta, vs, e1, _, _⟩ := g.web.ex
  obtain ⟨xs, m, j, h1, h2, _⟩ := D.ex
  exact ⟨ne_of e1 h1 (by intro z; cases z), ne_of e1 h2 (by intro z; cases z)⟩
theorem ne_same (v : V) : (!decide (v = v)) = false := by simp
section
variable {P : Program} {w0 : World} {K : PySem.W.Frag} {mg : Str → Option Value} {base : Heap} {CT tI g c0 Pt fa a : Addr} {fg : FuncData} {T : List (Addr × Str)}
theorem law_body (Z : Lw P w0 K mg base CT tI g fg) (B : Tb T base mg c0 Pt "law.<locals>.<lambda>") {s : Shared} {H : Hp} {ns : List Int} (hS : SqL K H a (ns.map V.int)) (tabs : Tabs T H) (hr : Room 10 (callerA.deeper (envOfC "law" (defScope lLaw) s.heap.objs.size fa (.ref c0)))) :
    ∃ t, PSs (cxOf CX0 P w0 K mg base nLaw "law" (defScope lLaw) fa (.ref c0) callerA [] s H (fun _ _ _ => False)).nox (defBody lLaw) t ∧ t { nx := fun _ H' => (V.non = .bl true : Prop), rt := fun v _ => v = .bl true } (start nLaw [.ref a]) H := by
  obtain ⟨_, _, GDk⟩ := Z.deck
  obtain ⟨_, _, GD⟩ := Z.draw
  obtain ⟨_, _, GP⟩ := Z.pick
  obtain ⟨_, _, GA⟩ := Z.any
  obtain ⟨_, _, GWb⟩ := Z.web
  obtain ⟨_, _, GW'⟩ := Z.word
  obtain ⟨_, _, GX⟩ := Z.text
  obtain ⟨_, _, GU⟩ := Z.due
  obtain ⟨_, dT, GT, kT⟩ := Z.textOf
  obtain ⟨_, dR, GR, kR⟩ := Z.readWeb
  have Bt := Z.bs
  have D := Z.told
  have hu : callerA.units + 3 + 64 < cLine := by decide +kernel
  have hgu : (callerA.deeper (envOfC "law" (defScope lLaw) s.heap.objs.size fa (.ref c0))).guards = some [] := rfl
  have r1 : Room 1 (callerA.deeper (envOfC "law" (defScope lLaw) s.heap.objs.size fa (.ref c0))) := hr.mono (by decide)
  have r2 : Room 2 (callerA.deeper (envOfC "law" (defScope lLaw) s.heap.objs.size fa (.ref c0))) := hr.mono (by decide)
  have r3 : Room 3 (callerA.deeper (envOfC "law" (defScope lLaw) s.heap.objs.size fa (.ref c0))) := hr.mono (by decide)
  have r4 : Room 4 (callerA.deeper (envOfC "law" (defScope lLaw) s.heap.objs.size fa (.ref c0))) := hr.mono (by decide)
  have r5 : Room 5 (callerA.deeper (envOfC "law" (defScope lLaw) s.heap.objs.size fa (.ref c0))) := hr.mono (by decide)
  have r6 : Room 6 (callerA.deeper (envOfC "law" (defScope lLaw) s.heap.objs.size fa (.ref c0))) := hr.mono (by decide)
  refine ⟨_, pss_cons (ps_set (i := 1) scLaw.nd rfl (.inl rfl) (pe_call GDk.ok r1 rfl GDk.g GDk.kp GDk.b .nil pass0 (pa_cons (pv 0) pa_nil)))
    <| pss_cons (ps_set (i := 2) scLaw.nd rfl (.inl rfl) (pe_call GWb.ok r4 rfl GWb.g GWb.kp GWb.b .nil pass0 (pa_cons (pv 1) (pa_cons (pe_op op_add pe_int (pe_call GD.ok r1 rfl GD.g GD.kp GD.b .nil pass0 (pa_cons (pv 1) (pa_cons pe_int pa_nil))))
        (pa_cons (pe_call GP.ok r2 rfl GP.g GP.kp GP.b .nil pass0 (pa_cons (pv 1) (pa_cons (pe_lst (pa_cons pe_int (pa_cons pe_int (pa_cons pe_int pa_nil)))) pa_nil))) pa_nil)))))
    <| pss_cons (ps_set (i := 3) scLaw.nd rfl (.inl rfl) (pe_op op_cat (pe_lst (pa_cons (pe_op op_add_str pe_str (pe_callTy call_str_int (by rfl) Bt.str (by decide +kernel) (pa_cons (pe_ix ix_tup (pv 2) pe_int (fun _ _ => rfl)) pa_nil))) pa_nil))
        (pe_lc (own := [("_law_one", 10), ("_law_other", 11)]) (g := gTup K 2 (gCons (gName 10) (gCons (gName 11) gNil))) (tt := tYes) rfl scLaw.nd (pi_tup (pe_ix ix_tup (pv 2) pe_int (fun _ _ => rfl))) (blkOk_by (N := nLaw) (sc := defScope lLaw) (by decide +kernel))
          (fun _ _ _ _ _ => pg_tup rfl (pgs_cons (pg_name (i := 10) scLaw.nd rfl (.inl rfl) (.inr rfl)) (pgs_cons (pg_name (i := 11) scLaw.nd rfl (.inl rfl) (.inr rfl)) pgs_nil))) (fun _ _ _ _ _ => pts_nil)
          (fun _ _ _ _ _ => pe_op op_add_str (pe_op op_add_str (pe_callTy call_str_int (by rfl) Bt.str (by decide +kernel) (pa_cons (pv 10) pa_nil)) pe_str) (pe_callTy call_str_int (by rfl) Bt.str (by decide +kernel) (pa_cons (pv 11) pa_nil))))))
    <| pss_cons (ps_set (i := 4) scLaw.nd rfl (.inl rfl) (pe_join pe_str (pv 3)))
    <| pss_cons (ps_if (pt_cmpR op_ne (pe_callB (call_repr hgu hu) (by rfl) Bt.repr (by decide +kernel) (pa_cons (pe_tup (pa_cons (pe_call GT.ok r6 rfl GT.g GT.kp GT.b .nil pass0 (pa_cons (pv 2) pa_nil)) (pa_cons (pe_kw1 GT.ok r6 rfl GT.g GT.kp kT pass0 (pv 2))
          (pa_cons (pe_call GR.ok r2 rfl GR.g GR.kp GR.b .nil passL (pa_cons (pv 4) pa_nil)) (pa_cons (pe_kw1 GR.ok r2 rfl GR.g GR.kp kR passL (pv 4)) pa_nil))))) pa_nil))
        (pe_callB (call_repr hgu hu) (by rfl) Bt.repr (by decide +kernel) (pa_cons (pe_tup (pa_cons (pv 4) (pa_cons (pv 4) (pa_cons (pv 2) (pa_cons (pv 2) pa_nil))))) pa_nil)) (nomark _)) (pss_one (ps_ret pe_bl)) pss_nil)
    <| pss_cons (ps_set (i := 5) scLaw.nd rfl (.inl rfl) (pe_lst (pa_cons (pe_op op_add_str (pv 4) pe_str) (pa_cons (pe_op op_add_str pe_str (pv 4)) (pa_cons pe_str
        (pa_cons (pe_slice sl_str (pv 4) po_none (po_some (pe_call GD.ok r1 rfl GD.g GD.kp GD.b .nil pass0 (pa_cons (pv 1) (pa_cons (pe_callB call_len_str (by rfl) Bt.len PySem.boot_len (pa_cons (pv 4) pa_nil)) pa_nil)))))
        (pa_cons (pe_call GA.ok r5 rfl GA.g GA.kp GA.b .nil pass0 (pa_cons (pv 1) (pa_cons pe_int pa_nil))) (pa_cons (pe_call GW'.ok r3 rfl GW'.g GW'.kp GW'.b .nil pass0 (pa_cons (pv 1) pa_nil)) pa_nil))))))))
    <| pss_cons (ps_set (i := 5) scLaw.nd rfl (.inl rfl) (pe_op op_cat (pv 5) (pe_lst (pa_cons (pv 3) (pa_cons (pv 2) pa_nil)))))
    <| pss_cons (ps_for PassesOwn.never rfl (pi_range1 (by rfl) Bt.range (pa_cons pe_int pa_nil)) (pg_name (i := 6) scLaw.nd rfl (.inl rfl))
        (pss_one (ps_expr (pe_bm PySem.F.plainAttrs_list PySem.F.slot_list_append PySem.F.type_list_append mt_append (pv 5) (pa_cons (pe_call GX.ok r5 rfl GX.g GX.kp GX.b .nil pass0 (pa_cons (pv 1) (pa_cons (pv 4) pa_nil))) pa_nil)))))
    <| pss_cons (ps_for PassesOwn.never rfl (pi_list (pv 5)) (pg_name (i := 7) scLaw.nd rfl (.inr rfl))
        (pss_cons (ps_set (i := 8) scLaw.nd rfl (.inl rfl) (pe_call GU.ok r2 rfl GU.g GU.kp GU.b .nil pass0 (pa_cons (pv 7) pa_nil)))
        <| pss_cons (ps_set (i := 9) scLaw.nd rfl (.inl rfl) (pe_lst (pa_cons
            (pe_told (k := 6) D rfl B.tb rfl B.mem B.uniq (hr.mono (by decide)) (show LamS (defScope lLaw) _ from lamS_by (by decide +kernel)) rfl (fun _ _ _ _ _ => rfl) (fun _ _ _ _ _ _ _ hr' => pe_call GR.ok (hr'.mono (by decide)) rfl GR.g GR.kp GR.b .nil (passes_call (takes_of rfl rfl rfl rfl) (fun _ _ _ _ h => h)) (pa_cons (pv 7) pa_nil)))
            (pa_cons (pe_told (k := 6) D rfl B.tb rfl B.mem B.uniq (hr.mono (by decide)) (show LamS (defScope lLaw) _ from lamS_by (by decide +kernel)) rfl (fun _ _ _ _ _ => rfl) (fun _ _ _ _ _ _ _ hr' => pe_kw1 GR.ok (hr'.mono (by decide)) rfl GR.g GR.kp kR (passes_call (takes_of rfl rfl rfl rfl) (fun _ _ _ _ h => h)) (pv 7)))
            pa_nil))))
        <| pss_cons (ps_if (pt_cmpR op_ne (pe_callB (call_repr hgu hu) (by rfl) Bt.repr (by decide +kernel) (pa_cons (pv 9) pa_nil))
            (pe_callB (call_repr hgu hu) (by rfl) Bt.repr (by decide +kernel) (pa_cons (pe_lst (pa_cons (pv 8) (pa_cons (pv 8) pa_nil))) pa_nil)) (nomark _)) (pss_one (ps_ret pe_bl)) pss_nil)
        <| pss_one (ps_if (PW.pt (pw_and (pt_cmpR op_eq (pe_ix ix_tup (pv 8) pe_int (fun _ _ => rfl)) pe_str (nomark _)) (pw_and1 (pt_cmpR op_ne (pe_call GT.ok r6 rfl GT.g GT.kp GT.b .nil pass0 (pa_cons (pe_ix ix_tup (pv 8) pe_int (fun _ _ => rfl)) pa_nil)) (pv 7) (nomark _)))))
            (pss_one (ps_ret pe_bl)) pss_nil)))
    <| pss_one (ps_ret pe_bl), ?main⟩
  have sz : ∀ {m : Nat}, m ≤ 1000 → m ≤ sizeLine := fun h => by rw [sizeLine_eq]; omega
  refine ⟨_, rfl, a, ns, rfl, hS, fun p c H1 D1 s1 hp hc => ?_⟩
  have t1 := tabs.ext s1
  refine ⟨_, rfl, _, rfl, p, c, 12, rfl, D1, by decide, by decide, fun r H2 b0 b1 D2 K2 => ⟨_, _, rfl, rfl, ?_⟩⟩
  obtain ⟨n, hn⟩ : ∃ n : Nat, 1 + r = (n : Int) := ⟨(1 + r).toNat, by omega⟩
  have n1 : 1 ≤ n := by omega
  have n2 : n ≤ 12 := by omega
  refine ⟨_, rfl, show 3 ≤ sizeLine from sz (by decide), fun l hl => ?_⟩
  obtain ⟨lp, lc⟩ := D2.inp hl
  refine ⟨p, c, l, _, rfl, D2.new hl, upd_same, lp, lc, by show 1 ≤ 3; decide, by show 3 < 1000; decide, fun i v H3 e D3 K3 => ?_⟩
  obtain ⟨m, hm, rfl⟩ : ∃ m : Nat, m ≤ 38 ∧ v = .int m := by
    have hv := List.mem_of_getElem? e
    simp only [List.mem_cons, List.not_mem_nil, or_false] at hv
    rcases hv with rfl | rfl | rfl
    · exact ⟨3, by decide, rfl⟩
    · exact ⟨8, by decide, rfl⟩
    · exact ⟨38, by decide, rfl⟩
  have t3 := tabs_kp (tabs_kp t1 D1 K2 |>.ext (same_new hl)) (D2.new hl) K3
  refine ⟨p, c, n, m, by show [V.ref p, V.int (1 + r), V.int (m : Int)] = _; rw [hn], n1, n2, by omega, D3, fun w L H4 _ W hB hs hL D4 K4 => ?_⟩
  have t4 := tabs_kp t3 D3 K4
  have l38 : L.length ≤ 38 := by omega
  have gw : GW H4 w n L := ⟨W, n1, n2, hB, hs, by omega⟩
  clear t3 t1 e D3 K3 D2 K2 K4 D1 hl lp lc hn b0 b1 s1 hL hm
  obtain ⟨ta, vs, e1, e2, e3⟩ := gw.web.ex
  have len := e3.len
  have h9 := (hd_facts (n := (n : Int)) (by omega) (by omega)).2.2
  have lh : ("places " : Str).length = 7 := by decide +kernel
  have hdl : (hd (n : Int)).length = ("places " : Str).length + (Str.ofString (toString (n : Int))).length := app_len _ _
  refine ⟨_, rfl, w, _, _, _, rfl, rfl, SqT.of e1, atI_nat (j := 0) rfl, _, rfl, log_small (by omega), _, _, rfl, rfl, by rw [← hdl]; exact sz (by omega), show 1 ≤ sizeLine from sz (by decide), fun l0 hl0 => ?_⟩
  have s5 := same_new (H := H4) (o := .lst [.str (hd n)]) hl0
  have e05 : (upd H4 l0 (.lst [.str (hd n)])) l0 = some (.lst [.str (hd n)]) := upd_same
  show tLc _ _ _ _ _ _ (upd H4 l0 (.lst [.str (hd n)])) _
  have gw5 := gw.same s5
  have D5 := D4.new (o := .lst [.str (hd n)]) hl0
  have t5 := t4.ext s5
  generalize upd H4 l0 (.lst [.str (hd n)]) = H5 at s5 e05 gw5 D5 t5 ⊢
  refine ⟨_, rfl, w, _, _, _, rfl, rfl, SqT.of (s5 _ _ e1), atI_nat (j := 1) rfl, ta, rfl, ⟨_, SqT.of (s5 _ _ e2)⟩, fun Da hD => ?_⟩
  have bel : ∀ q ∈ L, 0 ≤ q.1 ∧ q.1 < q.2 ∧ q.2 < 12 := fun q hq => gw.bel12 hq
  refine lc_it (walk_tup (xs := vs)) (fun i N => N Da = some (.lst (((L.take i).map pr).map V.str)) ∧ Same H5 N) ⟨upd_same, same_new hD⟩ (fun i N _ g => SqT.of (g.2 _ _ (s5 _ _ e2))) ?_ ?_
  · rintro i x N N' hi ⟨f1, f2⟩ ⟨rfl, hx⟩
    obtain ⟨b, q, rfl, hq, hb⟩ := e3.get hx
    have vq := bel q (List.mem_of_getElem? hq)
    obtain ⟨m1, m2, m3, m4⟩ := line_made vq
    rw [emp_app] at m1 m2 m3 m4
    refine ⟨b, _, rfl, SqT.of (f2 _ _ (s5 _ _ hb)), rfl, _, _, rfl, _, _, rfl, rfl, rfl, yes_al (iteT ?_)⟩
    refine ⟨_, rfl, _, rfl, log_small (by omega), _, _, rfl, rfl, by rw [app_len] at m3; exact m3, _, rfl, _, rfl, log_small (by omega), _, _, rfl, rfl, by rw [app_len] at m4; exact m4, ?_⟩
    refine ⟨_, f1, by rw [List.length_map, List.length_map, List.length_take, sizeLine_eq]; omega, ?_, fun a o e => by rw [upd_ne (ne_of_none e hD)]; exact f2 _ _ e⟩
    rw [upd_same, take_snoc hq, List.map_append, List.map_append]
    show some (HO.lst (_ ++ [V.str _])) = _
    rw [m1]
    rfl
  rintro N ⟨f1, f2⟩
  rw [len, List.take_length] at f1
  refine ⟨l0, Da, _, _, rfl, rfl, f2 _ _ e05, f1, by rw [List.length_map, List.length_map, sizeLine_eq]; show 1 + _ ≤ _; omega, fun l1 hl1 => ?_⟩
  have sN := s5.trans (f2.trans (same_new (o := .lst ((wlines n L).map V.str)) hl1))
  show gName 3 (.ref l1) _ (upd N l1 (.lst ((wlines n L).map V.str))) _
  have eL : (upd N l1 (.lst ((wlines n L).map V.str))) l1 = some (.lst ((wlines n L).map V.str)) := upd_same
  have l1p := (D4.same (s5.trans f2)).inp hl1
  have gN := gw.same sN
  have DN := D4.same sN
  have tN := t4.ext sN
  clear f1 f2 hD hl1 hl0 s5 e05 gw5 D5 t5 e1 e2 e3 sN D4 t4 W gw len
  generalize upd N l1 (.lst ((wlines n L).map V.str)) = H6 at eL gN DN tN ⊢
  have pl := wlines_plain (n := n) n2 hB
  have sl := sum_len_le (c := 9) fun l hl => (pl l hl).2
  have ll : (wlines n L).length = L.length + 1 := by simp [wlines]
  have wl := (wtext_len n2 hB (by omega)).1
  have wn := (wtext_len n2 hB (by omega)).2
  have w1 := wtext_pos (L := L) n2
  refine ⟨⟨_, rfl⟩, _, rfl, _, l1, wlines n L, rfl, rfl, .inl (SqL.of eL), by rw [one_nl.len]; omega, ?_⟩
  show gName 4 (.str (wtext n L)) _ H6 _
  have l60 : L.length ≤ 60 := by omega
  refine ⟨_, rfl, w, n, L, rfl, gN, fun H7 s7 => ⟨_, rfl, w, n, L, rfl, gN.same s7, fun H8 s8 => ⟨_, rfl, ?_⟩⟩⟩
  dsimp only [tNil, List.cons_append, List.nil_append]
  refine read_ok n1 n2 hB hs l60 fun w2 H9 s9 W2 => ⟨_, rfl, ?_⟩
  dsimp only [tNil, List.cons_append, List.nil_append]
  refine read_ok n1 n2 hB hs l60 fun w3 H10 s10 W3 => ?_
  have s7N := (s7.trans s8).trans (s9.trans s10)
  refine ⟨show 4 ≤ sizeLine from sz (by decide), fun tt htt => ?_⟩
  have sT := same_new (H := H10) (o := .tup [.str (wtext n L), .str (wtext n L), .ref w2, .ref w3]) htt
  have eT : (upd H10 tt (.tup [.str (wtext n L), .str (wtext n L), .ref w2, .ref w3])) tt = some (.tup [.str (wtext n L), .str (wtext n L), .ref w2, .ref w3]) := upd_same
  have d2 := (W2.dv.same s10).same sT
  have d3 := W3.dv.same sT
  have sA := s7N.trans sT
  generalize upd H10 tt (.tup [.str (wtext n L), .str (wtext n L), .ref w2, .ref w3]) = H11 at eT d2 d3 sA ⊢
  have gA := gN.same sA
  refine ⟨tt, .tuple [.str (wtext n L), .str (wtext n L), webD n L, webD n L], rfl, .tup trivial (.inl eT) rfl (its4 (.str _) (.str _) d2 d3), fit4 n2 hB l60, (fun _ z => nomatch z), ?_⟩
  refine ⟨_, rfl, _, rfl, _, rfl, _, rfl, show 4 ≤ sizeLine from sz (by decide), fun t2 ht2 => ?_⟩
  have sB := same_new (H := H11) (o := .tup [.str (wtext n L), .str (wtext n L), .ref w, .ref w]) ht2
  have eB : (upd H11 t2 (.tup [.str (wtext n L), .str (wtext n L), .ref w, .ref w])) t2 = some (.tup [.str (wtext n L), .str (wtext n L), .ref w, .ref w]) := upd_same
  have dw := (gA.same sB).web.dv
  have sC := sA.trans sB
  generalize upd H11 t2 (.tup [.str (wtext n L), .str (wtext n L), .ref w, .ref w]) = H12 at eB dw sC ⊢
  refine ⟨t2, .tuple [.str (wtext n L), .str (wtext n L), webD n L, webD n L], rfl, .tup trivial (.inl eB) rfl (its4 (.str _) (.str _) dw dw), fit4 n2 hB l60, (fun _ z => nomatch z), ?_⟩
  refine ⟨rfl, _, rfl, ?_⟩
  rw [ne_same]
  refine iteF ?_
  have eL2 := sC _ _ eL
  have gC := gN.same sC
  have DC := DN.same sC
  have tC' := tN.ext sC
  clear d2 d3 sA gA eT dw eB sB sT htt ht2 s7N W2 W3 s7 s8 s9 s10 sC eL gN DN tN
  have nl1 : ("\n" : Str).length = 1 := one_nl.len
  have nln : nls ("\n" : Str) = 1 := by decide +kernel
  refine ⟨_, rfl, _, _, rfl, rfl, by rw [nl1]; exact sz (by omega), _, rfl, _, _, rfl, rfl, by rw [nl1]; exact sz (by omega), ?_⟩
  refine ⟨_, rfl, _, rfl, _, rfl, _, rfl, sz (by omega), p, c, _, rfl, DC, by omega, by omega, fun rr H13 r0 r1 D13 K13 => ?_⟩
  refine ⟨_, rfl, _, rfl, sz (by omega), _, rfl, p, c, 2, rfl, by decide, D13, fun v1 ed H14 tm dv nt D14 K14 => ?_⟩
  refine ⟨_, rfl, p, c, rfl, D14, fun x1 H15 a1 a2 D15 K15 => ⟨show 6 ≤ sizeLine from sz (by decide), fun l5 hl5 => ?_⟩⟩
  have KC := (K13.trans K14).trans K15
  obtain ⟨l1p1, l1p2⟩ := l1p
  have eL5 := KC _ _ l1p1 l1p2 eL2
  have g15 := gC.kp DC KC
  have t15 := tabs_kp tC' DC KC
  have dv15 : DV H15 (fun a => H13 a = none) v1 ed := dv.mono fun b o hb e => ⟨hb, K15 _ _ (D13.inp hb).1 (D13.inp hb).2 e⟩
  obtain ⟨cl1, cl2⟩ := cut_less (wtext n L) rr
  generalize cutS (wtext n L) none (some rr) = cut at cl1 cl2 ⊢
  clear eL2 gC DC tC' K13 K14 K15 D14 dv tm KC
  have its : ∀ v ∈ [V.str (wtext n L ++ "\n"), V.str ("\n" ++ wtext n L), V.str "", V.str cut, v1, V.str x1] ++ [V.ref l1, V.ref w], Itm p c H15 v := fun v hv => by
    simp only [List.cons_append, List.nil_append, List.mem_cons, List.not_mem_nil, or_false] at hv
    rcases hv with rfl | rfl | rfl | rfl | rfl | rfl | rfl | rfl
    · exact itm_str (by rw [app_len]; omega) (by rw [nls_app]; omega)
    · exact itm_str (by rw [app_len]; omega) (by rw [nls_app]; omega)
    · exact itm_str (by decide +kernel) (by decide +kernel)
    · exact itm_str (by omega) (by omega)
    · exact itm_any dv15 nt.2 fun b hb => D13.inp hb
    · exact itm_str (by omega) (by omega)
    · exact .inr ⟨"list", .lst eL5, by decide, fun b e => by cases e; exact ⟨l1p1, l1p2⟩⟩
    · exact .inr ⟨"tuple", (by obtain ⟨ta, vs, e1, _, _⟩ := g15.web.ex; exact .tup (.inl e1)), by decide, fun b e => by cases e; exact g15.off D15⟩
  have s6 := same_new (H := H15) (o := .lst [V.str (wtext n L ++ "\n"), V.str ("\n" ++ wtext n L), V.str "", V.str cut, v1, V.str x1]) hl5
  have e5 : (upd H15 l5 (.lst [V.str (wtext n L ++ "\n"), V.str ("\n" ++ wtext n L), V.str "", V.str cut, v1, V.str x1])) l5 = some (.lst [V.str (wtext n L ++ "\n"), V.str ("\n" ++ wtext n L), V.str "", V.str cut, v1, V.str x1]) := upd_same
  generalize upd H15 l5 (.lst [V.str (wtext n L ++ "\n"), V.str ("\n" ++ wtext n L), V.str "", V.str cut, v1, V.str x1]) = H16 at s6 e5 ⊢
  refine ⟨_, rfl, _, rfl, _, rfl, show 2 ≤ sizeLine from sz (by decide), fun l6 hl6 => ?_⟩
  have s7 := same_new (H := H16) (o := .lst [V.ref l1, V.ref w]) hl6
  refine ⟨l5, l6, _, _, rfl, rfl, s7 _ _ e5, upd_same, show 6 + 2 ≤ sizeLine from sz (by decide), fun l7 hl7 => ?_⟩
  have s8 := same_new (o := .lst ([V.str (wtext n L ++ "\n"), V.str ("\n" ++ wtext n L), V.str "", V.str cut, v1, V.str x1] ++ [V.ref l1, V.ref w])) hl7
  have e7 : (upd (upd H16 l6 (.lst [V.ref l1, V.ref w])) l7 (.lst ([V.str (wtext n L ++ "\n"), V.str ("\n" ++ wtext n L), V.str "", V.str cut, v1, V.str x1] ++ [V.ref l1, V.ref w]))) l7 = some (.lst ([V.str (wtext n L ++ "\n"), V.str ("\n" ++ wtext n L), V.str "", V.str cut, v1, V.str x1] ++ [V.ref l1, V.ref w])) := upd_same
  have sD := (s6.trans s7).trans s8
  have i7 := (D15.same (s6.trans s7)).inp hl7
  generalize upd (upd H16 l6 (.lst [V.ref l1, V.ref w])) l7 (.lst ([V.str (wtext n L ++ "\n"), V.str ("\n" ++ wtext n L), V.str "", V.str cut, v1, V.str x1] ++ [V.ref l1, V.ref w])) = H17 at e7 sD ⊢
  have its17 := fun v hv => (its v hv).ext (ext_same sD)
  have g17 := g15.same sD
  have D17 := D15.same sD
  have t17 := t15.ext sD
  clear s8 s7 s6 hl7 hl6 hl5 its e5 sD g15 D15 t15 eL5 dv15
  have lv : ([V.str (wtext n L ++ "\n"), V.str ("\n" ++ wtext n L), V.str "", V.str cut, v1, V.str x1] ++ [V.ref l1, V.ref w]).length = 8 := rfl
  generalize [V.str (wtext n L ++ "\n"), V.str ("\n" ++ wtext n L), V.str "", V.str cut, v1, V.str x1] ++ [V.ref l1, V.ref w] = vs0 at e7 its17 lv ⊢
  refine ⟨_, rfl, by decide, by decide, ?_⟩
  refine for_range (lo := 0) (n := (14 : Int).toNat) (fun i σ M => ∃ (o6 : Option V) (vs : List V), σ = [some (.ref a), some (.ref p), some (.ref w), some (.ref l1), some (.str (wtext n L)), some (.ref l7), o6, none, none, none, none, none] ∧ M l7 = some (.lst vs) ∧ vs.length = 8 + i ∧ (∀ v ∈ vs, Itm p c M v) ∧
      Deck M p c ∧ GW M w n L ∧ Tabs T M) ⟨none, vs0, rfl, e7, lv, its17, D17, g17, t17⟩ ?_ ?_
  · rintro i σ M hi ⟨o6, vs, rfl, e, el, it, DM, gM, tM⟩
    refine ⟨_, rfl, .inl ⟨rfl, _, SqL.of e⟩, _, rfl, _, rfl, p, c, n, L, rfl, DM, n2, hB, l38, fun x M1 x1 x2 D1 K1 => ?_⟩
    have e' := K1 _ _ i7.1 i7.2 e
    have hi14 : i < 14 := hi
    refine ⟨l7, _, _, rfl, rfl, e', by rw [el, sizeLine_eq]; omega, ?_⟩
    refine ⟨_, vs ++ [.str x], rfl, upd_same, by rw [List.length_append, el]; rfl, fun v hv => ?_, D1.put i7.1 i7.2, (gM.kp DM K1).put e', tabs_put (tabs_kp tM DM K1) e'⟩
    rcases List.mem_append.mp hv with hv | hv
    · exact ((it v hv).kp K1).put e'
    · rw [List.mem_singleton.mp hv]
      exact itm_str (by omega) (by omega)
  rintro σ M ⟨o6, vs, rfl, e, el, it, DM, gM, tM⟩
  refine ⟨_, rfl, l7, rfl, ⟨_, SqL.of e⟩, ?_⟩
  refine for_it (walk_list (xs := vs)) (fun i σ N => ∃ (o7 o8 o9 : Option V), σ = [some (.ref a), some (.ref p), some (.ref w), some (.ref l1), some (.str (wtext n L)), some (.ref l7), o6, o7, o8, o9, none, none] ∧ N l7 = some (.lst vs) ∧ (∀ v ∈ vs, Itm p c N v) ∧ Tabs T N) ⟨none, none, none, rfl, e, it, tM⟩
    (fun i σ N _ ⟨_, _, _, _, g, _⟩ => SqL.of g) ?_ ?_
  · rintro i v σ N N' hi ⟨o7, o8, o9, rfl, e, it, tN⟩ ⟨rfl, hx⟩
    have iv := it v (List.mem_of_getElem? hx)
    obtain ⟨ty, hv, hlen⟩ := iv.vt
    refine ⟨_, rfl, v, ty, rfl, hv, hlen, fun ad N1 s1 dd => ?_⟩
    obtain ⟨ed, de, dve⟩ := due_dv dd
    have nc := due_nc iv de
    refine ⟨tN.ext s1, fun N2 x2 T2 => ⟨_, rfl, ?_⟩⟩
    dsimp only [tNil, List.cons_append, List.nil_append]
    refine read_run ((hv.mono s1).ext x2) hlen de fun q1 N3 s3 dq1 => ⟨T2.ext s3, fun N4 x4 T4 => ⟨_, rfl, ?_⟩⟩
    refine read_run ((((hv.mono s1).ext x2).mono s3).ext x4) hlen de fun q2 N5 s5 dq2 => ⟨show 2 ≤ sizeLine from sz (by decide), fun lT hlT => ?_⟩
    have sL := same_new (H := N5) (o := .lst [.ref q1, .ref q2]) hlT
    have eT : (upd N5 lT (.lst [.ref q1, .ref q2])) lT = some (.lst [.ref q1, .ref q2]) := upd_same
    have x35 : ExtN N3 (upd N5 lT (.lst [.ref q1, .ref q2])) := (x4.trans (ext_same s5)).trans (ext_same sL)
    have x15 : ExtN N1 (upd N5 lT (.lst [.ref q1, .ref q2])) := (x2.trans (ext_same s3)).trans x35
    have d1 := dq1.ext x35
    have d2 := dq2.same sL
    have d3 := dve.ext x15
    have T5 := (T4.ext s5).ext sL
    have xN : ExtN N' (upd N5 lT (.lst [.ref q1, .ref q2])) := (ext_same s1).trans x15
    clear x35 sL hlT dq2 dq1 dve T4 T2
    generalize upd N5 lT (HO.lst [V.ref q1, V.ref q2]) = M5 at eT x15 d1 d2 d3 T5 xN ⊢
    have fit : Fit (.list [ed, ed]) := (nc_lst (nc_two nc nc)).fit (by decide) (by show 2 * 1001 ≤ 60000; decide)
    refine ⟨_, rfl, lT, .list [ed, ed], rfl, .lst trivial eT rfl (its2 d1 d2), fit, (fun _ z => nomatch z), ?_⟩
    refine ⟨_, rfl, _, rfl, show 2 ≤ sizeLine from sz (by decide), fun l3 hl3 => ?_⟩
    have s6 := same_new (H := M5) (o := .lst [.ref ad, .ref ad]) hl3
    have x16 : ExtN N1 (upd M5 l3 (.lst [.ref ad, .ref ad])) := x15.trans (ext_same s6)
    have xN6 : ExtN N' (upd M5 l3 (.lst [.ref ad, .ref ad])) := xN.trans (ext_same s6)
    have T6 := T5.ext s6
    refine ⟨l3, .list [ed, ed], rfl, .lst trivial upd_same rfl (its2 (d3.same s6) (d3.same s6)), fit, (fun _ z => nomatch z), ?_⟩
    clear d1 d2 d3 eT
    generalize upd M5 l3 (.lst [.ref ad, .ref ad]) = M6 at x16 xN6 T6 ⊢
    refine ⟨rfl, _, rfl, ?_⟩
    rw [ne_same]
    refine iteF ?_
    have done : ∀ {M7 : Hp}, ExtN M6 M7 → Tabs T M7 → ∃ (o7 o8 o9 : Option V), [some (V.ref a), some (.ref p), some (.ref w), some (.ref l1), some (.str (wtext n L)), some (.ref l7), o6, some v, some (.ref ad), some (.ref lT), none, none] = [some (.ref a), some (.ref p), some (.ref w), some (.ref l1), some (.str (wtext n L)), some (.ref l7), o6, o7, o8, o9, none, none] ∧
        M7 l7 = some (.lst vs) ∧ (∀ v ∈ vs, Itm p c M7 v) ∧ Tabs T M7 := fun {M7} x7 t7 => ⟨_, _, _, rfl, (xN6.trans x7) _ _ e (fun _ z => nomatch z), fun v hv => (it v hv).ext (xN6.trans x7), t7⟩
    rcases dd with ⟨x, n', L', w', rfl, er, ea, W'⟩ | ⟨k', hk, ea⟩
    · obtain ⟨rfl, m1, m2, mB, mS, mL⟩ := rdT_told er
      have L60 : L'.length ≤ 60 := by
        rcases iv with ⟨y, ey, _, _, hl⟩ | ⟨t, h1, h2, _⟩
        · cases ey
          exact hl _ _ er
        · cases h1
          exact absurd rfl h2
      have ea6 := x16 _ _ ea (fun _ z => nomatch z)
      have g' : GW M6 w' n' L' := ⟨W'.mono (ext_tup x16), m1, m2, mB, mS, L60⟩
      refine ⟨_, rfl, ad, _, _, _, rfl, rfl, SqT.of ea6, atI_nat (j := 0) rfl, rfl, _, rfl, ?_⟩
      rw [decide_eq_true (rfl : V.str "told" = V.str "told")]
      refine iteT ⟨_, rfl, ad, _, _, _, rfl, rfl, SqT.of ea6, atI_nat (j := 1) rfl, w', n', L', rfl, g', fun M7 s7 => ⟨_, rfl, rfl, _, rfl, ?_⟩⟩
      rw [ne_same]
      exact iteF (done (ext_same s7) (T6.ext s7))
    · have ea6 := x16 _ _ ea (fun _ z => nomatch z)
      refine ⟨_, rfl, ad, _, _, _, rfl, rfl, SqT.of ea6, atI_nat (j := 0) rfl, rfl, _, rfl, ?_⟩
      rw [decide_eq_false (show ¬ V.str "text" = V.str "told" by decide +kernel)]
      exact iteF (iteF (done (ext_same (Same.refl _)) T6))
  · rintro σ N ⟨o7, o8, o9, rfl, _⟩
    exact rfl
end
end K0

set_option Elab.async false
set_option linter.all false
set_option maxRecDepth 100000
set_option maxHeartbeats 4000000
/-! What the top has written, read by checks, and put together. -/
namespace K0
open PySem PySem.Spec L2
open PyProof.Rows hiding St
open PySem.W (Frag)
open LamX (ExtN Tabs TabB TabS)
def clsB (P : Program) (K : Frag) (C : Addr) : Bool :=
  (PySem.W.excInitIn K C PySem.EX.tailE "Exception.__new__" && PySem.W.excOver K C PySem.EX.tailE && decide (PySem.W.findIn K (.ref C) "__setattr__" = some (some (.builtin "object.__setattr__"))) && PySem.W.hasDictIn K C &&
    decide (PySem.W.ks_superIn K C C "__init__" = some (some (.builtin "Exception.__init__"))) && decide (PySem.W.subIn K (.ref C) (.type "Exception") = some true) && decide (PySem.W.mroIn K C (.ref C) = some true) && PySem.W.keepIn K (.ref C)) &&
  (decide (PySem.W.findIn K (.ref C) "__getattribute__" = some (some (.builtin "BaseException.__getattribute__"))) && decide (PySem.W.findIn K (.ref C) "__getattr__" = some none) && decide (PySem.W.subIn K (.ref C) (.type "BaseException") = some true) &&
    decide (PySem.W.typeIn K (.ref C) = some (.type "type")) && decide (PySem.W.findIn K (.ref C) "__class__" = some (some (.builtin "object.__class__"))) && decide (PySem.W.mroIn K C (.type "object") = some true))
theorem er_mk {P : Program} {K : Frag} {C : Addr} (h : clsB P K C = true) (op : PySem.W.nsIn K cStatics "thirdparty.any" = some none) (file : (P.main.scope.names.lookup ("super" : Str)).isSome = false)
    (hn : PySem.W.specialIn K (.builtin "object.__class__") "__get__" = some (some (.builtin "getset_descriptor.__get__"))) (ht : PySem.W.takesIn K (.builtin "object.__class__") = some true) : ErrC P K C := by
  unfold clsB at h
  simp only [Bool.and_eq_true, decide_eq_true_eq] at h
  obtain ⟨⟨⟨⟨⟨⟨⟨⟨h1, h2⟩, h3⟩, h4⟩, h5⟩, h6⟩, h7⟩, h8⟩, ⟨⟨⟨⟨g1, g2⟩, g3⟩, g4⟩, g5⟩, g6⟩ := h
  exact ⟨⟨h1, h2, h3, h4, h5, h6, h7, op, h8, file⟩, g1, g2, g3, g4, g5, hn, ht, g6⟩

def codeB (P : Program) (K : Frag) (cda : Addr) : Bool := match K.lookup cda with
  | some ⟨_, _, .fields vs, _⟩ => (match (vs[2]? : Option Value) with | some (Value.str file _) => ((P.main.file : Str) == file) | _ => false)
  | _ => false
def cellB (K : Frag) (cc C : Addr) : Bool := match K.lookup cc with
  | some ⟨_, _, .cell (some (.ref D)), _⟩ => D == C
  | _ => false
theorem code_mk {P : Program} {K : Frag} {cda : Addr} (h : codeB P K cda = true) : ∃ ccl cdd vs ccs file tf, K.lookup cda = some ⟨ccl, cdd, .fields vs, ccs⟩ ∧ vs[2]? = some (.str file tf) ∧ ((P.main.file : Str) == file) = true := by
  unfold codeB at h
  split at h
  · rename_i a b vs c e
    split at h
    · rename_i file tf e2
      exact ⟨a, b, vs, c, file, tf, e, e2, h⟩
    · cases h
  · cases h
theorem cell_mk {K : Frag} {cc C : Addr} (h : cellB K cc C = true) : ∃ cl cld csl, K.lookup cc = some ⟨cl, cld, .cell (some (.ref C)), csl⟩ := by
  unfold cellB at h
  split at h
  · rename_i a b D c e
    obtain rfl : D = C := by simpa using h
    exact ⟨a, b, c, e⟩
  · cases h
def fnB (P : Program) (K : Frag) (C fI cda cc : Addr) (qual : Str) (fs : List Str) : Bool :=
  decide (PySem.W.findIn K (.ref C) "__init__" = some (some (.ref fI))) && decide (PySem.W.typeIn K (.ref fI) = some (.type "function")) && fs.all (fun f => decide (PySem.W.findIn K (.ref C) f = some none)) && PySem.W.codeIn K (.ref cda) qual && codeB P K cda && cellB K cc C
theorem f1_mk {P : Program} {K : Frag} {C fI cda cc : Addr} {f qual txt : Str} {oc doc pm ct : Value} {od an : Option Addr} {osl : Array (Option Value)} {p1 p2 q1 q2 q3 q4 q5 q6 r1 r2 r3 r4 : Pos}
    (l : K.lookup fI = some ⟨oc, od, .func (PySem.W.ksFn "__init__" qual (PySem.EX.aA f p1 p2) [PySem.EX.sSay txt 0 q1 q2 q3 q4 q5 q6, PySem.EX.sKeep f r1 r2 r3 r4] (PySem.EX.scp (PySem.EX.ns1 f)) .none .none doc pm an (.ref cda) ct cc), osl⟩)
    (b : fnB P K C fI cda cc qual [f] = true) (hp : (q3.endLine == q5.line) = true) : PySem.EX.Fn1 P K C fI f := by
  unfold fnB at b
  simp only [Bool.and_eq_true, decide_eq_true_eq, List.all_cons, List.all_nil, and_true] at b
  obtain ⟨⟨⟨⟨⟨h1, h2⟩, h3⟩, h4⟩, h5⟩, h6⟩ := b
  exact ⟨h1, h2, h3, oc, od, qual, txt, doc, pm, an, cda, ct, osl, cc, p1, p2, q1, q2, q3, q4, q5, q6, r1, r2, r3, r4, l, h4, hp, code_mk h5, cell_mk h6⟩
/-- a kind of error with a field, as the top has written it -/
def Cl1 (P : Program) (K : Frag) (mg : Str → Option Value) (nm : Str) (C fI : Addr) (f : Str) : Prop := mg nm = some (.ref C) ∧ clsB P K C = true ∧ PySem.EX.Fn1 P K C fI f
/-- a def of the row -/
def Df (K : Frag) (mg : Str → Option Value) (n : Str) (st : Stmt) (f : Addr) (fd : FuncData) : Prop := mg n = some (.ref f) ∧ PySem.W.keepIn K (.ref f) = true ∧ Fun K n n st f fd
theorem cl1_mk {P : Program} {K : Frag} {h : Heap} {mg : Str → Option Value} {nm : Str} {C fI cda cc : Addr} {f qual txt : Str} {oc doc pm ct : Value} {od an : Option Addr} {osl : Array (Option Value)} {p1 p2 q1 q2 q3 q4 q5 q6 r1 r2 r3 r4 : Pos} (X : K.In h) (G : h.Ns mainGlobals mg)
    (a : PySem.W.nsIn K mainGlobals nm = some (some (.ref C))) (i : PySem.W.findIn K (.ref C) "__init__" = some (some (.ref fI)))
    (l : K.lookup fI = some ⟨oc, od, .func (PySem.W.ksFn "__init__" qual (PySem.EX.aA f p1 p2) [PySem.EX.sSay txt 0 q1 q2 q3 q4 q5 q6, PySem.EX.sKeep f r1 r2 r3 r4] (PySem.EX.scp (PySem.EX.ns1 f)) .none .none doc pm an (.ref cda) ct cc), osl⟩)
    (b : fnB P K C fI cda cc qual [f] = true) (hp : (q3.endLine == q5.line) = true) (z : clsB P K C = true) : Cl1 P K mg nm C fI f := ⟨PySem.W.mg_of X G a, z, f1_mk l b hp⟩
theorem df_mk {K : Frag} {h : Heap} {mg : Str → Option Value} {n : Str} {st : Stmt} {f : Addr} {oc : Value} {od an : Option Addr} {osl : Array (Option Value)} {kV doc pm cdv ct : Value} (X : K.In h) (G : h.Ns mainGlobals mg)
    (a : PySem.W.nsIn K mainGlobals n = some (some (.ref f))) (l : K.lookup f = some ⟨oc, od, .func (PySem.W.fnOf n n (defArgs st) (defBody st) (defScope st) .none kV doc pm an cdv ct), osl⟩)
    (c : PySem.W.codeIn K cdv n = true) (k : PySem.W.keepIn K (.ref f) = true) : Df K mg n st f (PySem.W.fnOf n n (defArgs st) (defBody st) (defScope st) .none kV doc pm an cdv ct) := ⟨PySem.W.mg_of X G a, k, fun_mk l c k⟩

/-- a def of the row that makes lambdas -/
def DfC (K : Frag) (mg : Str → Option Value) (n : Str) (st : Stmt) (f c : Addr) (fd : FuncData) : Prop := mg n = some (.ref f) ∧ PySem.W.keepIn K (.ref f) = true ∧ FunC K n n st f fd c
theorem dfc_mk {K : Frag} {h : Heap} {mg : Str → Option Value} {n : Str} {st : Stmt} {f c : Addr} {oc : Value} {od an : Option Addr} {osl : Array (Option Value)} {kV doc pm ct : Value} (X : K.In h) (G : h.Ns mainGlobals mg)
    (a : PySem.W.nsIn K mainGlobals n = some (some (.ref f))) (l : K.lookup f = some ⟨oc, od, .func (PySem.W.fnOf n n (defArgs st) (defBody st) (defScope st) .none kV doc pm an (.ref c) ct), osl⟩)
    (z : PySem.W.codeIn K (.ref c) n = true) (k : PySem.W.keepIn K (.ref f) = true) : DfC K mg n st f c (PySem.W.fnOf n n (defArgs st) (defBody st) (defScope st) .none kV doc pm an (.ref c) ct) := ⟨PySem.W.mg_of X G a, k, ⟨_, _, _, _, _, _, _, _, rfl, l, z⟩, k⟩
/-- its table stands empty -/
theorem tbl_mk {K : Frag} {h : Heap} {n : Str} {f c Pt : Addr} {oc kc : Value} {od kd : Option Addr} {osl ks : Array (Option Value)} {fd : FuncData} {vs : Array Value} (tb : ∀ c P, PySem.W.tabIn K n = some (c, P) → PySem.W.CodeHd h c P ∧ h.get? P = some (PySem.W.tabObj #[]))
    (a : PySem.W.nsIn K mainGlobals n = some (some (.ref f))) (l : K.lookup f = some ⟨oc, od, .func fd, osl⟩) (e : fd.code = .ref c) (k : K.lookup c = some ⟨kc, kd, .fields vs, ks⟩) (p : (vs[11]? : Option Value) = some (.ref Pt)) (z : K.lookup Pt = none) : Tbl K h (c, Pt) :=
  ⟨z, tb c Pt (by unfold PySem.W.tabIn; rw [a]; simp only [l, e, k, p])⟩
theorem kw1_mk {K : Frag} {x qual : Str} {st : Stmt} {f : Addr} {fd : FuncData} {k1 : Str} (F : Fun K x qual st f fd) (h : ∀ (kV doc pm : Value) (an : Option Addr) (cdv ct a : Value), bindArgs (PySem.W.fnOf x qual (defArgs st) (defBody st) (defScope st) .none kV doc pm an cdv ct) ⟨[], [(k1, a)]⟩ = pure [(k1, a)]) : Kw1 fd k1 := by
  obtain ⟨oc, od, kV, doc, pm, an, cdv, ct, osl, rfl, _, _⟩ := F.ex
  exact fun s a => .of_eq (h ..)
theorem kw2_mk {K : Frag} {x qual : Str} {st : Stmt} {f : Addr} {fd : FuncData} {k1 k2 : Str} (F : Fun K x qual st f fd)
    (h : ∀ (kV doc pm : Value) (an : Option Addr) (cdv ct a b : Value), bindArgs (PySem.W.fnOf x qual (defArgs st) (defBody st) (defScope st) .none kV doc pm an cdv ct) ⟨[], [(k1, a), (k2, b)]⟩ = pure [(k1, a), (k2, b)] ∧
      bindArgs (PySem.W.fnOf x qual (defArgs st) (defBody st) (defScope st) .none kV doc pm an cdv ct) ⟨[], [(k2, b), (k1, a)]⟩ = pure [(k1, a), (k2, b)]) : Kw2 fd k1 k2 := by
  obtain ⟨oc, od, kV, doc, pm, an, cdv, ct, osl, rfl, _, _⟩ := F.ex
  exact fun s a b => ⟨.of_eq (h ..).1, .of_eq (h ..).2⟩
/-- the names that are nobody's own -/
def free : List Str := ["int", "max", "len", "list", "range", "tuple", "min", "sorted", "set", "all", "isinstance", "enumerate", "bool", "repr", "super", "str"]
def freeB (K : Frag) : Bool := free.all fun x => decide (PySem.W.nsIn K mainGlobals x = some none)
theorem free_mk {K : Frag} {h : Heap} {mg : Str → Option Value} (X : K.In h) (G : h.Ns mainGlobals mg) (e : freeB K = true) : ∀ x ∈ free, mg x = none := fun x hx => PySem.W.mg_none_of X G (of_decide_eq_true (List.all_eq_true.mp e x hx))
/-- what the end asks of the law -/
def LawEnd (P : Program) (w : World) (K : Frag) (mg : Str → Option Value) (fa : Addr) (h : Heap) : Prop := ∃ (fd : FuncData) (c0 : Addr) (cs : List (Addr × Addr)), FunC K "law" "law" lLaw fa fd c0 ∧ (∀ (s : Shared) (u : Value), BindsTo s fd ⟨[u], []⟩ [("_law_script", u)]) ∧ (∀ p ∈ cs, Tbl K h p) ∧
  ∀ base : Heap, K.In base → base.Ns mainGlobals mg → (∀ p ∈ cs, TabB base mg p.1 p.2) → ∃ (T : List (Addr × Str)) (CT tI g Pt : Addr) (fg : FuncData), Lw P w K mg base CT tI g fg ∧ Tb T base mg c0 Pt "law.<locals>.<lambda>" ∧ ∀ p ∈ T, ∃ q ∈ cs, p.1 = q.2
def TabsOf (q : Program) (K : Frag) (h : Heap) : Prop := ∀ x : Str, ((recsOf q).any fun e => e.name == x) = true → ∀ c P, PySem.W.tabIn K x = some (c, P) → PySem.W.CodeHd h c P ∧ h.get? P = some (PySem.W.tabObj #[])
theorem walk_out {l : PySem.W.OpenLaw} {q : Program} {loose : List Str} {XP : (Str → Option Value) → Heap → Prop} {YP : World → Heap → Prop} {d : DefRec} {K : Params → Frag} (hn : l.most = some 63) (hdf : d.params.defaults = []) (hY : ∀ (w : World) (h : Heap), YP w h → (K w.params).In h)
    (F : ∀ (w : World) (mg : Str → Option Value) (fa : Addr) (h : Heap), (K w.params).In h → h.Ns mainGlobals mg → mg d.name = some (.ref fa) → TabsOf q (K w.params) h → LawEnd l.prog w (K w.params) mg fa h) :
    PySem.W.WalkO q loose XP YP l.row.toRowW d [] (fun f vs => PySem.call f vs) := by
  refine Att.attach_callB hn hdf fun w s₀ s₁ mg mb fa o pm cd doc a vs ns G Y ho hd hcd hmg hobj hints hlen _ hg => ?_
  have KX := hY w _ Y
  have tb : TabsOf q (K w.params) s₁.heap := fun x hx c Pt e => by
    cases hf : (recsOf q).find? fun e => e.name == x with
    | none =>
      obtain ⟨r, hr, hr2⟩ := List.any_eq_true.mp hx
      exact absurd hr2 (List.find?_eq_none.mp hf r hr)
    | some d => exact PySem.W.tab_of G.T KX hf e
  obtain ⟨fd, c0, cs, FL, hb, tabs, rest⟩ := F w mg fa _ KX G.T.g hmg tb
  refine law_outT (k := 10) FL scLaw KX G.T.g G.T.b G.T.builtins G.T.nolimit hg G.T.bmain tabs hobj hints (Nat.le_trans hlen (by rw [sizeLine_eq]; decide)) ⟨rfl, by decide, by decide⟩ hb fun base H s KB GB TB hT hS hr => ?_
  obtain ⟨T, CT, tI, g, Pt, fg, Z, B, cov⟩ := rest base KB GB TB
  exact law_body Z B hS (fun p hp => let ⟨q, hq, e⟩ := cov p hp; TabS.nil (by rw [e]; exact hT q hq)) hr
set_option maxHeartbeats 16000000 in
theorem all_mk {P : Program} {w : World} {K : Frag} {h : Heap} {mg : Str → Option Value} {fa CT tI f_v_is_whole f_v_is_below f_v_is_pair f_v_is_tie f_v_is_web f_v_check_web f_v_text_of f_v_read_web f_v_read_ties f_v_law_deck f_v_law_draw f_v_law_pick f_v_law_order f_v_law_pair f_v_law_pairs f_v_law_drawn_ties f_v_law_web f_v_law_any f_v_law_told f_v_law_due f_v_law_word f_v_law_bent_line f_v_law_bent_text f_v_law c_v_law t_v_law : Addr} {d_v_is_whole d_v_is_below d_v_is_pair d_v_is_tie d_v_is_web d_v_check_web d_v_text_of d_v_read_web d_v_read_ties d_v_law_deck d_v_law_draw d_v_law_pick d_v_law_order d_v_law_pair d_v_law_pairs d_v_law_drawn_ties d_v_law_web d_v_law_any d_v_law_told d_v_law_due d_v_law_word d_v_law_bent_line d_v_law_bent_text d_v_law : FuncData} {tM : Tok} (X : K.In h) (G : h.Ns mainGlobals mg) (hfa : mg "law" = some (.ref fa))
    (e1 : Cl1 P K mg "BadText" CT tI "at") (tt : PySem.W.subIn K (.ref CT) (.ref CT) = some true)
    (aM : PySem.W.nsIn K mainGlobals "MOST_PLACES" = some (some (.int 12 tM))) (op : PySem.W.nsIn K cStatics "thirdparty.any" = some none) (hn : PySem.W.specialIn K (.builtin "object.__class__") "__get__" = some (some (.builtin "getset_descriptor.__get__"))) (ht : PySem.W.takesIn K (.builtin "object.__class__") = some true)
    (file : (P.main.scope.names.lookup ("super" : Str)).isSome = false) (fr : freeB K = true)
    (g_v_is_whole : Df K mg "is_whole" pWhole f_v_is_whole d_v_is_whole)
    (g_v_is_below : Df K mg "is_below" pBelow f_v_is_below d_v_is_below)
    (g_v_is_pair : Df K mg "is_pair" pPair2 f_v_is_pair d_v_is_pair)
    (g_v_is_tie : Df K mg "is_tie" pTie f_v_is_tie d_v_is_tie)
    (g_v_is_web : Df K mg "is_web" pWeb f_v_is_web d_v_is_web)
    (g_v_check_web : Df K mg "check_web" pCheckWeb f_v_check_web d_v_check_web)
    (g_v_text_of : Df K mg "text_of" pTextOf f_v_text_of d_v_text_of)
    (g_v_read_web : Df K mg "read_web" pReadWeb f_v_read_web d_v_read_web)
    (g_v_read_ties : Df K mg "read_ties" pReadTies f_v_read_ties d_v_read_ties)
    (g_v_law_deck : Df K mg "_law_deck" sDeck f_v_law_deck d_v_law_deck)
    (g_v_law_draw : Df K mg "_law_draw" sDraw f_v_law_draw d_v_law_draw)
    (g_v_law_pick : Df K mg "_law_pick" sPick f_v_law_pick d_v_law_pick)
    (g_v_law_order : Df K mg "_law_order" sOrder f_v_law_order d_v_law_order)
    (g_v_law_pair : Df K mg "_law_pair" sPair f_v_law_pair d_v_law_pair)
    (g_v_law_pairs : Df K mg "_law_pairs" sPairs f_v_law_pairs d_v_law_pairs)
    (g_v_law_drawn_ties : Df K mg "_law_drawn_ties" sTies f_v_law_drawn_ties d_v_law_drawn_ties)
    (g_v_law_web : Df K mg "_law_web" sWeb f_v_law_web d_v_law_web)
    (g_v_law_any : Df K mg "_law_any" sAny f_v_law_any d_v_law_any)
    (g_v_law_told : Df K mg "_law_told" wTold f_v_law_told d_v_law_told)
    (g_v_law_due : Df K mg "_law_due" wDue f_v_law_due d_v_law_due)
    (g_v_law_word : Df K mg "_law_word" wWord f_v_law_word d_v_law_word)
    (g_v_law_bent_line : Df K mg "_law_bent_line" wLine f_v_law_bent_line d_v_law_bent_line)
    (g_v_law_bent_text : Df K mg "_law_bent_text" wText f_v_law_bent_text d_v_law_bent_text)
    (g_v_law : DfC K mg "law" lLaw f_v_law c_v_law d_v_law) (h_v_law : Tbl K h (c_v_law, t_v_law)) : LawEnd P w K mg fa h := by
  have eL := hfa.symm.trans g_v_law.1
  cases eL
  have n := free_mk X G fr
  have B : Bk mg := { int := n _ (by decide), max := n _ (by decide), len := n _ (by decide), list := n _ (by decide), range := n _ (by decide), tuple := n _ (by decide), min := n _ (by decide), sorted := n _ (by decide), set := n _ (by decide), all := n _ (by decide), isi := n _ (by decide), enu := n _ (by decide), bool := n _ (by decide), repr := n _ (by decide), sup := n _ (by decide), most := ⟨_, PySem.W.mg_of X G aM⟩ }
  have S : Bs mg := { toBk := B, str := n _ (by decide) }
  have ET : ErX P K mg "BadText" CT tI "at" := ⟨er_mk e1.2.1 op file hn ht, e1.2.2, e1.1⟩
  have b_v_is_whole := g_v_is_whole.2.2.binds (ps := ["thing"]) fun _ _ _ _ _ _ us hl => match us, hl with | [_], _ => rfl
  have b_v_is_below := g_v_is_below.2.2.binds (ps := ["thing", "bound"]) fun _ _ _ _ _ _ us hl => match us, hl with | [_, _], _ => rfl
  have b_v_is_pair := g_v_is_pair.2.2.binds (ps := ["thing"]) fun _ _ _ _ _ _ us hl => match us, hl with | [_], _ => rfl
  have b_v_is_tie := g_v_is_tie.2.2.binds (ps := ["thing", "places"]) fun _ _ _ _ _ _ us hl => match us, hl with | [_, _], _ => rfl
  have b_v_is_web := g_v_is_web.2.2.binds (ps := ["thing"]) fun _ _ _ _ _ _ us hl => match us, hl with | [_], _ => rfl
  have b_v_check_web := g_v_check_web.2.2.binds (ps := ["thing"]) fun _ _ _ _ _ _ us hl => match us, hl with | [_], _ => rfl
  have b_v_text_of := g_v_text_of.2.2.binds (ps := ["web"]) fun _ _ _ _ _ _ us hl => match us, hl with | [_], _ => rfl
  have b_v_read_web := g_v_read_web.2.2.binds (ps := ["text"]) fun _ _ _ _ _ _ us hl => match us, hl with | [_], _ => rfl
  have b_v_read_ties := g_v_read_ties.2.2.binds (ps := ["lines", "places"]) fun _ _ _ _ _ _ us hl => match us, hl with | [_, _], _ => rfl
  have b_v_law_deck := g_v_law_deck.2.2.binds (ps := ["_law_script"]) fun _ _ _ _ _ _ us hl => match us, hl with | [_], _ => rfl
  have b_v_law_draw := g_v_law_draw.2.2.binds (ps := ["_law_deck_here", "_law_many"]) fun _ _ _ _ _ _ us hl => match us, hl with | [_, _], _ => rfl
  have b_v_law_pick := g_v_law_pick.2.2.binds (ps := ["_law_deck_here", "_law_some"]) fun _ _ _ _ _ _ us hl => match us, hl with | [_, _], _ => rfl
  have b_v_law_order := g_v_law_order.2.2.binds (ps := ["_law_deck_here", "_law_n"]) fun _ _ _ _ _ _ us hl => match us, hl with | [_, _], _ => rfl
  have b_v_law_pair := g_v_law_pair.2.2.binds (ps := ["_law_one", "_law_other"]) fun _ _ _ _ _ _ us hl => match us, hl with | [_, _], _ => rfl
  have b_v_law_pairs := g_v_law_pairs.2.2.binds (ps := ["_law_n"]) fun _ _ _ _ _ _ us hl => match us, hl with | [_], _ => rfl
  have b_v_law_drawn_ties := g_v_law_drawn_ties.2.2.binds (ps := ["_law_deck_here", "_law_n"]) fun _ _ _ _ _ _ us hl => match us, hl with | [_, _], _ => rfl
  have b_v_law_web := g_v_law_web.2.2.binds (ps := ["_law_deck_here", "_law_n", "_law_most"]) fun _ _ _ _ _ _ us hl => match us, hl with | [_, _, _], _ => rfl
  have b_v_law_any := g_v_law_any.2.2.binds (ps := ["_law_deck_here", "_law_deep"]) fun _ _ _ _ _ _ us hl => match us, hl with | [_, _], _ => rfl
  have b_v_law_told := g_v_law_told.2.2.binds (ps := ["_law_deed"]) fun _ _ _ _ _ _ us hl => match us, hl with | [_], _ => rfl
  have b_v_law_due := g_v_law_due.2.2.binds (ps := ["_law_text"]) fun _ _ _ _ _ _ us hl => match us, hl with | [_], _ => rfl
  have b_v_law_word := g_v_law_word.2.2.binds (ps := ["_law_deck_here"]) fun _ _ _ _ _ _ us hl => match us, hl with | [_], _ => rfl
  have b_v_law_bent_line := g_v_law_bent_line.2.2.binds (ps := ["_law_deck_here", "_law_line"]) fun _ _ _ _ _ _ us hl => match us, hl with | [_, _], _ => rfl
  have b_v_law_bent_text := g_v_law_bent_text.2.2.binds (ps := ["_law_deck_here", "_law_text"]) fun _ _ _ _ _ _ us hl => match us, hl with | [_, _], _ => rfl
  have b_v_law := g_v_law.2.2.fun.binds (ps := ["_law_script"]) fun _ _ _ _ _ _ us hl => match us, hl with | [_], _ => rfl
  have k_v_text_of : Kw1 d_v_text_of "web" := kw1_mk g_v_text_of.2.2 fun _ _ _ _ _ _ _ => rfl
  have k_v_read_web : Kw1 d_v_read_web "text" := kw1_mk g_v_read_web.2.2 fun _ _ _ _ _ _ _ => rfl
  refine ⟨d_v_law, c_v_law, [(c_v_law, t_v_law)], g_v_law.2.2, fun s u => ?_, fun p hp => ?_, fun base KB GB TB => ?_⟩
  · obtain ⟨oc, od, kV, doc, pm, an, ct, osl, rfl, _, _⟩ := g_v_law.2.2.ex
    exact .of_eq rfl
  · rw [List.mem_singleton.mp hp]; exact h_v_law
  have G_v_law_draw : Dn P w K mg base "_law_draw" 1 ["_law_deck_here", "_law_many"] spDraw f_v_law_draw d_v_law_draw := ⟨g_v_law_draw.1, g_v_law_draw.2.1, b_v_law_draw, ok_draw g_v_law_draw.2.2 B.toBj.toBi⟩
  have G_v_law_pick : Dn P w K mg base "_law_pick" 2 ["_law_deck_here", "_law_some"] spPick f_v_law_pick d_v_law_pick := ⟨g_v_law_pick.1, g_v_law_pick.2.1, b_v_law_pick, ok_pick g_v_law_pick.2.2 B.toBj.toBi G_v_law_draw⟩
  have G_v_law_deck : Dn P w K mg base "_law_deck" 1 ["_law_script"] (spDeck K) f_v_law_deck d_v_law_deck := ⟨g_v_law_deck.1, g_v_law_deck.2.1, b_v_law_deck, ok_deck g_v_law_deck.2.2 B.toBj.toBi⟩
  have G_any := ok_any (P := P) (w := w) (base := base) g_v_law_any.2.2 g_v_law_any.1 b_v_law_any B.toBj.toBi G_v_law_draw G_v_law_pick
  have G_v_law_any : Dn P w K mg base "_law_any" 5 ["_law_deck_here", "_law_deep"] (spAny 3) f_v_law_any d_v_law_any := ⟨g_v_law_any.1, g_v_law_any.2.1, b_v_law_any, G_any 3⟩
  have G_v_law_order : Dn P w K mg base "_law_order" 2 ["_law_deck_here", "_law_n"] spOrder f_v_law_order d_v_law_order := ⟨g_v_law_order.1, g_v_law_order.2.1, b_v_law_order, ok_order g_v_law_order.2.2 B.toBj G_v_law_draw⟩
  have G_v_law_pair : Dn P w K mg base "_law_pair" 1 ["_law_one", "_law_other"] spPair f_v_law_pair d_v_law_pair := ⟨g_v_law_pair.1, g_v_law_pair.2.1, b_v_law_pair, ok_pair g_v_law_pair.2.2 B.toBj⟩
  have G_v_law_pairs : Dn P w K mg base "_law_pairs" 1 ["_law_n"] spPairs f_v_law_pairs d_v_law_pairs := ⟨g_v_law_pairs.1, g_v_law_pairs.2.1, b_v_law_pairs, ok_pairs g_v_law_pairs.2.2 B.toBj⟩
  have G_v_law_drawn_ties : Dn P w K mg base "_law_drawn_ties" 3 ["_law_deck_here", "_law_n"] spTies f_v_law_drawn_ties d_v_law_drawn_ties := ⟨g_v_law_drawn_ties.1, g_v_law_drawn_ties.2.1, b_v_law_drawn_ties, ok_ties g_v_law_drawn_ties.2.2 B.toBj G_v_law_draw G_v_law_order G_v_law_pair G_v_law_pairs⟩
  have G_v_law_web : Dn P w K mg base "_law_web" 4 ["_law_deck_here", "_law_n", "_law_most"] spWeb f_v_law_web d_v_law_web := ⟨g_v_law_web.1, g_v_law_web.2.1, b_v_law_web, ok_web g_v_law_web.2.2 B.toBj G_v_law_draw G_v_law_order G_v_law_pair G_v_law_drawn_ties G_v_law_pick⟩
  have G_v_is_whole : Dn P w K mg base "is_whole" 1 ["thing"] spWhole f_v_is_whole d_v_is_whole := ⟨g_v_is_whole.1, g_v_is_whole.2.1, b_v_is_whole, ok_whole g_v_is_whole.2.2 B.toBj⟩
  have G_v_is_below : Dn P w K mg base "is_below" 2 ["thing", "bound"] spBelow f_v_is_below d_v_is_below := ⟨g_v_is_below.1, g_v_is_below.2.1, b_v_is_below, ok_below g_v_is_below.2.2 G_v_is_whole⟩
  have G_v_is_pair : Dn P w K mg base "is_pair" 1 ["thing"] spIsPair f_v_is_pair d_v_is_pair := ⟨g_v_is_pair.1, g_v_is_pair.2.1, b_v_is_pair, ok_isPair g_v_is_pair.2.2 B.toBj⟩
  have G_v_is_tie : Dn P w K mg base "is_tie" 3 ["thing", "places"] spIsTie f_v_is_tie d_v_is_tie := ⟨g_v_is_tie.1, g_v_is_tie.2.1, b_v_is_tie, ok_isTie g_v_is_tie.2.2 G_v_is_pair G_v_is_below⟩
  have G_v_is_web : Dn P w K mg base "is_web" 4 ["thing"] spIsWeb f_v_is_web d_v_is_web := ⟨g_v_is_web.1, g_v_is_web.2.1, b_v_is_web, ok_isWeb g_v_is_web.2.2 B G_v_is_pair G_v_is_whole G_v_is_tie⟩
  have G_v_check_web : Dn P w K mg base "check_web" 5 ["thing"] spCheckWeb f_v_check_web d_v_check_web := ⟨g_v_check_web.1, g_v_check_web.2.1, b_v_check_web, ok_checkWeb g_v_check_web.2.2 G_v_is_web⟩
  have G_v_text_of : Dn P w K mg base "text_of" 6 ["web"] spTextOf f_v_text_of d_v_text_of := ⟨g_v_text_of.1, g_v_text_of.2.1, b_v_text_of, ok_textOf g_v_text_of.2.2 B G_v_check_web⟩
  have x_ties := ok_readTies (w0 := w) (base := base) g_v_read_ties.2.2 B ET
  have x_web := ok_readWeb (w0 := w) (base := base) g_v_read_web.2.2 S ET x_ties g_v_read_ties.1 g_v_read_ties.2.1 b_v_read_ties
  have F_pairs : Dn P w K mg base "_law_pairs" 1 ["_law_n"] spPairsF f_v_law_pairs d_v_law_pairs := ⟨g_v_law_pairs.1, g_v_law_pairs.2.1, b_v_law_pairs, ok_pairsF g_v_law_pairs.2.2 B.toBj⟩
  have G_v_law_due : Dn P w K mg base "_law_due" 2 ["_law_text"] spDue f_v_law_due d_v_law_due := ⟨g_v_law_due.1, g_v_law_due.2.1, b_v_law_due, ok_due g_v_law_due.2.2 S F_pairs⟩
  have G_v_law_word : Dn P w K mg base "_law_word" 3 ["_law_deck_here"] spWord f_v_law_word d_v_law_word := ⟨g_v_law_word.1, g_v_law_word.2.1, b_v_law_word, ok_word g_v_law_word.2.2 G_v_law_pick⟩
  have G_v_law_bent_line : Dn P w K mg base "_law_bent_line" 4 ["_law_deck_here", "_law_line"] spLine f_v_law_bent_line d_v_law_bent_line := ⟨g_v_law_bent_line.1, g_v_law_bent_line.2.1, b_v_law_bent_line, ok_line g_v_law_bent_line.2.2 S G_v_law_draw G_v_law_word⟩
  have G_v_law_bent_text : Dn P w K mg base "_law_bent_text" 5 ["_law_deck_here", "_law_text"] spText f_v_law_bent_text d_v_law_bent_text := ⟨g_v_law_bent_text.1, g_v_law_bent_text.2.1, b_v_law_bent_text, ok_text g_v_law_bent_text.2.2 S G_v_law_draw G_v_law_bent_line G_v_law_pick⟩
  have TD : ToldT P K mg CT tI f_v_law_told d_v_law_told := ⟨ET, tt, g_v_law_told.2.2, b_v_law_told, g_v_law_told.1⟩
  let T : List (Addr × Str) := [(t_v_law, "law.<locals>.<lambda>")]
  have tL : Tb T base mg c_v_law t_v_law "law.<locals>.<lambda>" := ⟨TB _ (List.mem_cons_self ..), List.mem_cons_self .., fun p hp e => by rw [List.mem_singleton.mp hp]⟩
  refine ⟨T, CT, tI, f_v_law_told, t_v_law, d_v_law_told, { bs := S, told := TD, deck := ⟨_, _, G_v_law_deck⟩, draw := ⟨_, _, G_v_law_draw⟩, pick := ⟨_, _, G_v_law_pick⟩, any := ⟨_, _, G_v_law_any⟩, web := ⟨_, _, G_v_law_web⟩, word := ⟨_, _, G_v_law_word⟩, text := ⟨_, _, G_v_law_bent_text⟩, due := ⟨_, _, G_v_law_due⟩, textOf := ⟨_, _, G_v_text_of, k_v_text_of⟩, readWeb := ⟨_, _, ⟨g_v_read_web.1, g_v_read_web.2.1, b_v_read_web, x_web⟩, k_v_read_web⟩ }, tL, fun p hp => ?_⟩
  rw [List.mem_singleton.mp hp]
  exact ⟨_, List.mem_cons_self .., rfl⟩
end K0

set_option Elab.async false
set_option maxRecDepth 100000
open PySem PySem.W PyProof.Rows
set_option maxRecDepth 100000 in
set_option maxHeartbeats 0 in
theorem PySem.Challenge.cw_oncecrossed_k09_texts_of_webs_holds : PySem.Challenge.rw_oncecrossed_k09_texts_of_webs.Holds := by
  w_on; o_law; k_head; (case hw => w_witness2)
  k_fill
  refine K0.walk_out (l := PySem.Challenge.rw_oncecrossed_k09_texts_of_webs) rfl rfl (fun w h Y => PySem.W.km_in_of Y) ?F
  case F =>
    intro w mg fa h KX G hmg TB
    refine' K0.all_mk KX G hmg ?ye1 ?ytt ?yaM ?yop ?yhn ?yht ?yfile ?yfr ?yg0 ?yg1 ?yg2 ?yg3 ?yg4 ?yg5 ?yg6 ?yg7 ?yg8 ?yg9 ?yg10 ?yg11 ?yg12 ?yg13 ?yg14 ?yg15 ?yg16 ?yg17 ?yg18 ?yg19 ?yg20 ?yg21 ?yg22 ?yh0 ?yt0
    (case ye1 => (refine' K0.cl1_mk KX G ?ya1 ?yi1 ?yl1 ?yb1 ?yp1 ?yz1; (case ya1 => k_is); (case yi1 => k_is); (case yl1 => k_is); (case yb1 => kernel_rfl); (case yp1 => exact rfl); (case yz1 => kernel_rfl)))
    (case ytt => k_is); (case yaM => k_is); (case yop => k_is); (case yhn => k_is); (case yht => k_is); (case yfile => kernel_rfl); (case yfr => kernel_rfl)
    (case yg0 => (refine' K0.df_mk KX G ?yga0 ?ygl0 ?ygc0 ?ygk0; (case yga0 => k_is); (case ygl0 => k_is); (case ygc0 => k_is); (case ygk0 => k_is)))
    (case yg1 => (refine' K0.df_mk KX G ?yga1 ?ygl1 ?ygc1 ?ygk1; (case yga1 => k_is); (case ygl1 => k_is); (case ygc1 => k_is); (case ygk1 => k_is)))
    (case yg2 => (refine' K0.df_mk KX G ?yga2 ?ygl2 ?ygc2 ?ygk2; (case yga2 => k_is); (case ygl2 => k_is); (case ygc2 => k_is); (case ygk2 => k_is)))
    (case yg3 => (refine' K0.df_mk KX G ?yga3 ?ygl3 ?ygc3 ?ygk3; (case yga3 => k_is); (case ygl3 => k_is); (case ygc3 => k_is); (case ygk3 => k_is)))
    (case yg4 => (refine' K0.df_mk KX G ?yga4 ?ygl4 ?ygc4 ?ygk4; (case yga4 => k_is); (case ygl4 => k_is); (case ygc4 => k_is); (case ygk4 => k_is)))
    (case yg5 => (refine' K0.df_mk KX G ?yga5 ?ygl5 ?ygc5 ?ygk5; (case yga5 => k_is); (case ygl5 => k_is); (case ygc5 => k_is); (case ygk5 => k_is)))
    (case yg6 => (refine' K0.df_mk KX G ?yga6 ?ygl6 ?ygc6 ?ygk6; (case yga6 => k_is); (case ygl6 => k_is); (case ygc6 => k_is); (case ygk6 => k_is)))
    (case yg7 => (refine' K0.df_mk KX G ?yga7 ?ygl7 ?ygc7 ?ygk7; (case yga7 => k_is); (case ygl7 => k_is); (case ygc7 => k_is); (case ygk7 => k_is)))
    (case yg8 => (refine' K0.df_mk KX G ?yga8 ?ygl8 ?ygc8 ?ygk8; (case yga8 => k_is); (case ygl8 => k_is); (case ygc8 => k_is); (case ygk8 => k_is)))
    (case yg9 => (refine' K0.df_mk KX G ?yga9 ?ygl9 ?ygc9 ?ygk9; (case yga9 => k_is); (case ygl9 => k_is); (case ygc9 => k_is); (case ygk9 => k_is)))
    (case yg10 => (refine' K0.df_mk KX G ?yga10 ?ygl10 ?ygc10 ?ygk10; (case yga10 => k_is); (case ygl10 => k_is); (case ygc10 => k_is); (case ygk10 => k_is)))
    (case yg11 => (refine' K0.df_mk KX G ?yga11 ?ygl11 ?ygc11 ?ygk11; (case yga11 => k_is); (case ygl11 => k_is); (case ygc11 => k_is); (case ygk11 => k_is)))
    (case yg12 => (refine' K0.df_mk KX G ?yga12 ?ygl12 ?ygc12 ?ygk12; (case yga12 => k_is); (case ygl12 => k_is); (case ygc12 => k_is); (case ygk12 => k_is)))
    (case yg13 => (refine' K0.df_mk KX G ?yga13 ?ygl13 ?ygc13 ?ygk13; (case yga13 => k_is); (case ygl13 => k_is); (case ygc13 => k_is); (case ygk13 => k_is)))
    (case yg14 => (refine' K0.df_mk KX G ?yga14 ?ygl14 ?ygc14 ?ygk14; (case yga14 => k_is); (case ygl14 => k_is); (case ygc14 => k_is); (case ygk14 => k_is)))
    (case yg15 => (refine' K0.df_mk KX G ?yga15 ?ygl15 ?ygc15 ?ygk15; (case yga15 => k_is); (case ygl15 => k_is); (case ygc15 => k_is); (case ygk15 => k_is)))
    (case yg16 => (refine' K0.df_mk KX G ?yga16 ?ygl16 ?ygc16 ?ygk16; (case yga16 => k_is); (case ygl16 => k_is); (case ygc16 => k_is); (case ygk16 => k_is)))
    (case yg17 => (refine' K0.df_mk KX G ?yga17 ?ygl17 ?ygc17 ?ygk17; (case yga17 => k_is); (case ygl17 => k_is); (case ygc17 => k_is); (case ygk17 => k_is)))
    (case yg18 => (refine' K0.df_mk KX G ?yga18 ?ygl18 ?ygc18 ?ygk18; (case yga18 => k_is); (case ygl18 => k_is); (case ygc18 => k_is); (case ygk18 => k_is)))
    (case yg19 => (refine' K0.df_mk KX G ?yga19 ?ygl19 ?ygc19 ?ygk19; (case yga19 => k_is); (case ygl19 => k_is); (case ygc19 => k_is); (case ygk19 => k_is)))
    (case yg20 => (refine' K0.df_mk KX G ?yga20 ?ygl20 ?ygc20 ?ygk20; (case yga20 => k_is); (case ygl20 => k_is); (case ygc20 => k_is); (case ygk20 => k_is)))
    (case yg21 => (refine' K0.df_mk KX G ?yga21 ?ygl21 ?ygc21 ?ygk21; (case yga21 => k_is); (case ygl21 => k_is); (case ygc21 => k_is); (case ygk21 => k_is)))
    (case yg22 => (refine' K0.df_mk KX G ?yga22 ?ygl22 ?ygc22 ?ygk22; (case yga22 => k_is); (case ygl22 => k_is); (case ygc22 => k_is); (case ygk22 => k_is)))
    (case yh0 => (refine' K0.dfc_mk KX G ?yha0 ?yhl0 ?yhc0 ?yhk0; (case yha0 => k_is); (case yhl0 => k_is); (case yhc0 => k_is); (case yhk0 => k_is)))
    (case yt0 => (refine' K0.tbl_mk (TB "law" ?yr0) ?yta0 ?ytl0 ?yte0 ?ytk0 ?ytp0 ?ytz0; (case yta0 => k_is); (case ytl0 => k_is); (case yte0 => exact rfl); (case ytk0 => k_is); (case ytp0 => exact rfl); (case ytz0 => kernel_rfl); (case yr0 => kernel_rfl)))
