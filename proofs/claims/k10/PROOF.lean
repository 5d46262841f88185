import PyProof.Rows.All
import Wide.All
import OpenK.AllK
import Wide.FinOn
import HandS.ForMost
import HandS.SetFor
import HandS.Strs
import HandS.TupSets
import HandS.IsInst
import HandS.Small
import PyProof.TupleOfSeq
import HandS.Walk
import HandS.TupAny
import KE.KIndexOf
import KE.KRevSl
import KE.GoesEnum
import KE.GoesMore
import HandS.WideBits
import HandS.Dict
import PyProof.DictUpdate
import HandS.Conv
import PyProof.ReprRoads
import PyProof.ReprBulk
import HandS.Wide
import HandS.Flow
import PySem.Challenge.RW_oncecrossed_k10_pairings_of_any_value
import HandS.Style
import HandS.Iter
import PyProof.EqAt
import PyProof.EqKinds
import PyProof.TupleCall
import KE.KExcSuper
import HandS.ForExc
import HandS.ExcSuper
import KE.KExcIs
import HandS.TryMany
import HandS.ExcField
import HandS.ExcValue
import HandS.Defaults
import HandS.DictComp
import HandS.SortInts
import HandS.Zip
import HandS.Text
import HandS.Evl
import HandS.SortOrd
import HandS.SortRule
import HandS.NamedTupSort
import KE.KSortTupAny
import HandS.Deep
import HandS.Lambda
import HandS.ExcIs
import HandS.EndTab
import KE.KNest
set_option Elab.async false
set_option linter.all false
set_option maxRecDepth 100000
set_option maxHeartbeats 4000000
/-! Rules for what stands in a tuple: set(t) of ints, set(t) and sorted(t) of pairs. -/
namespace KR
open PySem PySem.Spec L2
open PyProof.Rows hiding St
section
variable {prog : Program} {w : World} {A : Around} {E : Value → Shared → Prop} {s : Shared}
/-- the items of a tuple, gathered: the heap only grows -/
theorem gather_tup {G : List Value → Shared → Prop} {t : Addr} {ob : Obj} {us : Array Value} {ep : Nat} (at_ : s.heap.get? t = some ob) (cl : ob.cls = .type "tuple") (da : ob.data = .seq us ep) (fits : us.size ≤ sizeLine)
    (g : ∀ hN, (∀ b u, s.heap.get? b = some u → hN.get? b = some u) → s.heap.objs.size ≤ hN.objs.size → G us.toList { s with heap := hN }) : wpAny (model prog w) A (collect (.ref t)) G E s := by
  have new0 : (s.heap.push { cls := .type "list", data := .seq ([] : List Value).toArray }).get? s.heap.objs.size = some { cls := .type "list", data := .seq #[] 0 } := Heap.get?_push_size _ rfl
  have new1 := Heap.get?_update_self (Obj.mapSeq (· ++ us)) new0 rfl
  have done_ : wpAny (model prog w) A ((load s.heap.objs.size) >>= fun oL => (match oL.data with
      | Data.seq xs _ => pure xs.toList
      | _ => unsupported "internal:collect" : Sem (List Value))) G E { s with heap := (s.heap.push { cls := .type "list", data := .seq ([] : List Value).toArray }).update s.heap.objs.size (Obj.mapSeq (· ++ us)) } := by
    refine wpAny_bind (wpAny_load new1 (wpAny_pure ?_))
    show G ((#[] : Array Value) ++ us).toList _
    rw [show ((#[] : Array Value) ++ us).toList = us.toList by simp]
    refine g _ (fun b u e => (Heap.get?_update_other _ _ (Nat.ne_of_gt (Heap.lt_size e))).trans (Heap.get?_push_of_some _ e)) ?_
    rw [Heap.size_update, Heap.size_push]
    exact Nat.le_succ _
  unfold collect
  refine wpAny_bind (wpAny_runValue (codeAny_builtin F.entry_proto_collect ?_))
  rw [Around.under_plainId F.plain_proto_collect _]
  show wpAny _ A.in1 (newList [] >>= fun l => again (.builtin "list.__iadd__" ⟨[l, .ref t], []⟩)) _ _ s
  refine wpAny_bind (wpAny_newObj_type (wpAny_pure ⟨plainId_quiet F.plain_list_iadd _, codeAny_builtin F.entry_list_iadd ?_⟩))
  rw [Around.under_plainId F.plain_list_iadd _]
  refine wpAny_mono (wpAny_extend_seq (hsz := fits) (A := A) (R := fun r z => r = .ok (.ret (.ref s.heap.objs.size)) ∧ z = { s with heap := (s.heap.push { cls := .type "list", data := .seq ([] : List Value).toArray }).update s.heap.objs.size (Obj.mapSeq (· ++ us)) })
    (s := { s with heap := s.heap.push { cls := .type "list", data := .seq ([] : List Value).toArray } }) _ t _ 0 (.inr rfl) new0 (Heap.get?_push_of_some _ at_) cl da ⟨rfl, rfl⟩) (fun fin z hz => ?_) (fun e z hz => absurd hz.1 (by simp))
  cases fin with
  | done f =>
    obtain ⟨e, rfl⟩ := hz
    cases e
    exact done_
  | again c' => exact ⟨hz.1, codeAny_mono hz.2 fun r z hr => by obtain ⟨rfl, rfl⟩ := hr; exact done_⟩
end
section
variable {X : Cx}
/-- set(t), t a tuple of ints -/
def rSetTI (K : PySem.W.Frag) (w : World) : List V → Hp → VK → Prop := fun xs H Q => ∃ (t : Addr) (ns : List Int), xs = [V.ref t] ∧ SqT K H t (ns.map V.int) ∧ ns.length ≤ 1000 ∧
  ∀ (a : Addr) (c : Nat), H a = none → c ≤ ns.length → Q (.ref a) (upd H a (SetO w a (fun j => decide (j ∈ ns)) c))
theorem cr_setTI (hc : X.calm = true) : CallR X (.type "set") (rSetTI X.K X.w) := by
  intro pins s σ H xs us Q I r h
  obtain ⟨t, ns, rfl, ht, hn, q⟩ := h
  rw [Vals.ref1 r]
  obtain ⟨its, rv, tp, hz⟩ := I.tuple ht
  have hf : H s.heap.objs.size = none := I.hok.fresh (Nat.le_refl _)
  refine call_set_tupI (P := X.prog) (w := X.w) ns (I.ok.hd hc) tp ?_ (Nat.lt_of_le_of_lt (Nat.succ_le_succ hn) (by decide)) fun h' tk c R hcn k => ?_
  · simpa using Vals.ints rv
  · exact ⟨.ref s.heap.objs.size, upd H s.heap.objs.size (SetO X.w s.heap.objs.size (fun j => decide (j ∈ ns)) c), I.laid (t' := tk) k (Nat.le_refl _) (setO_new R), rfl, q _ c hf hcn⟩
/-- sorted(t), t a tuple of tuples of d ints in [0, B) -/
def rSortTT (K : PySem.W.Frag) (d : Nat) (B : Int) : List V → Hp → VK → Prop := fun vs H Q => ∃ (a : Addr) (xs : List V), vs = [V.ref a] ∧ SqT K H a xs ∧ xs.length < 64 ∧ (∀ x ∈ xs, ∃ ns, TupI K H x ns ∧ ns.length = d ∧ TS.Bd B ns) ∧
  ∀ (ys : List V) (p : Addr), ys.Perm xs → ys.Pairwise (fun x y => ∀ n m, TupI K H x n → TupI K H y m → TS.code B n ≤ TS.code B m) → H p = none → Q (.ref p) (upd H p (.lst ys))
theorem cr_sortTT {d : Nat} {B : Int} (hd : 1 ≤ d) : CallR X (.builtin "sorted") (rSortTT X.K d B) := by
  intro pins s σ H vs us Q I r h
  obtain ⟨a, xs, rfl, hs, few, hx, q⟩ := h
  obtain ⟨its, rv, tp, hz⟩ := I.tuple hs
  rw [Vals.ref1 r]
  have bk := bkV_refs rv fun x m => by
    obtain ⟨_, ⟨t, e, _⟩, _⟩ := hx x m
    exact ⟨t, e⟩
  have len : its.length < 64 := by rw [← rv.length]; exact few
  obtain ⟨o, ho, hcl, n, hda⟩ := id tp
  refine Calls.call_function_entry kind_sorted plain_sorted entry_sorted (args_sorted1 _) ?_
  unfold Builtin.«sorted»
  refine wpAny_bind (m := checkCount "sorted" 1 1 _) (wpAny_pure ?_)
  refine wpAny_bind (gather_tup ho hcl hda (by show its.toArray.size ≤ sizeLine; rw [List.size_toArray, sizeLine_eq]; omega) fun h1 k1 ge => ?_)
  refine wpAny_bind (wpAny_newList ?_ (by rw [sizeLine_eq]; show its.length ≤ _; omega))
  have atL : (h1.push (seqObj "list" its.toArray 0)).get? h1.objs.size = some (seqObj "list" its.toArray 0) := Heap.get?_push_size _ rfl
  have keep : ∀ b u, s.heap.get? b = some u → (h1.push (seqObj "list" its.toArray 0)).get? b = some u := fun b u e => Heap.get?_push_of_some _ (k1 b u e)
  have raw : ∀ {u : Value}, u ∈ its → ∃ t ns, u = .ref t ∧ TupI X.K H (V.ref t) ns ∧ TS.TupInts (h1.push (seqObj "list" its.toArray 0)) u ns ∧ ns.length = d ∧ TS.Bd B ns := fun {u} hu => by
    obtain ⟨t, rfl⟩ := bk.2 u hu
    have hm : V.ref t ∈ xs := by
      rw [bk.1]
      exact List.mem_map.mpr ⟨_, hu, rfl⟩
    obtain ⟨ns, ⟨t', e, ht⟩, hn, hb⟩ := hx _ hm
    cases e
    exact ⟨t, ns, rfl, ⟨t, rfl, ht⟩, (tupI_raw I ht).keeps fun b o e _ => keep b o e, hn, hb⟩
  have ok : TS.TupsOk (h1.push (seqObj "list" its.toArray 0)) d B its := fun v hv => by
    obtain ⟨t, ns, _, _, h2, h3, h4⟩ := raw hv
    exact ⟨ns, h2, h3, h4⟩
  have atL' : (h1.push (seqObj "list" (its.toArray.toList.toArray) 0)).get? h1.objs.size = some (seqObj "list" its.toArray 0) := by simpa using atL
  have red : its.toArray.toList = its := by simp
  rw [red]
  refine wpAny_bind (wpAny_holding (TS.call_sort_tups (s := { s with heap := h1.push (seqObj "list" its.toArray 0) }) atL len hd ok fun out p1 p2 => ?_))
  obtain ⟨c, hc⟩ := sortedHeap_at (vs := its) (out := out) atL
  have refs : ∀ u ∈ out.toList, ∃ t, u = Value.ref t := fun u hu => bk.2 u (p1.mem_iff.mp hu)
  have pm : (out.toList.map bkV).Perm xs := by rw [bk.1]; exact p1.map bkV
  have szs : (out.toList.map bkV).length ≤ sizeLine := by rw [pm.length_eq]; exact hz
  have old : ∀ b u, s.heap.get? b = some u → (sortedHeap (h1.push (seqObj "list" its.toArray 0)) h1.objs.size its out).get? b = some u := fun b u e => by
    have lt := Heap.lt_size (k1 b u e)
    rw [sortedHeap_old (Nat.ne_of_lt lt) (by rw [size_push']; exact Nat.lt_succ_of_lt lt)]
    exact keep b u e
  refine wpAny_pure ⟨_, rfl, .ref h1.objs.size, upd H h1.objs.size (.lst (out.toList.map bkV)), I.laid (t' := s.toks) old ge ⟨szs, out.toList, c, bkV_vals refs, hc⟩, rfl, q _ _ pm ?_ (I.hok.fresh ge)⟩
  rw [List.pairwise_map]
  refine List.Pairwise.imp_of_mem (fun {u v} hu hv huv n m hn hm => ?_) p2
  obtain ⟨t, ns, e1, t1, r1, _⟩ := raw (p1.mem_iff.mp hu)
  obtain ⟨t', ns', e2, t2, r2, _⟩ := raw (p1.mem_iff.mp hv)
  obtain ⟨a1, z1, y1⟩ := hn
  obtain ⟨a2, z2, y2⟩ := hm
  have i1 := ((tupI_raw I y1).keeps fun b o e _ => keep b o e).ints
  have i2 := ((tupI_raw I y2).keeps fun b o e _ => keep b o e).ints
  rw [← bkV_ref z1] at i1
  rw [← bkV_ref z2] at i2
  rw [← i1, ← i2]
  exact huv
end
/-! ### set(t) of a tuple of tuples of ints -/
abbrev set0 (w : World) : Obj := { cls := .type "set", dict := none, data := .set #[] 0 (.fresh 0 0 (!w.params.followText "set-order")) }
section
variable {P : Program} {w : World} {A : Around} {E : Value → Shared → Prop} {s : Shared}
set_option maxRecDepth 100000 in
set_option maxHeartbeats 3200000 in
theorem make_setTT {t : Addr} {us : Array Value} (ks : List (Addr × List Int)) {G : Value → Shared → Prop} (calm : A.handled = none) (tp : s.heap.IsTuple t us) (are : us.toList = ks.map fun p => Value.ref p.1)
    (ok : ∀ p ∈ ks, IsT P w s.heap p.2 p.1) (few : ks.length < 64) (room : A.units + 3 < cLine)
    (g : ∀ (hN : Heap) (tk : Nat) L es ep tb, SetTR P w hN s.heap.objs.size L es ep tb → Got ks ks.length L → (∀ b o, s.heap.get? b = some o → hN.get? b = some o) → G (.ref s.heap.objs.size) { s with heap := hN, toks := tk }) :
    wpAny (model P w) A (call (.type "set") [.ref t]) G E s := by
  have size : us.size = ks.length := by have q := congrArg List.length are; rwa [Array.length_toList, List.length_map] at q
  obtain ⟨c, tl, h0⟩ := F.called_set.mro
  have h1 := F.called_set.made
  have h2 := F.called_set.sub
  refine wpAny_call (codeAny_of_tree ?_)
  show wpAny _ _ (callAny (.type "set") ⟨[.ref t], []⟩) _ _ s
  refine wpAny_pure ⟨Code.quiet_builtin _ (by decide +kernel), codeAny_builtin F.entry_type_call ?_⟩
  rw [Around.under_plain (weight_type_call_type "set" [.ref t] []) rfl]
  have h3 := F.called_set.notType
  have h4 := F.called_set.canCreate
  have h5 := F.typeCall_set_1 (.ref t)
  repeat (any_goals (first | assumption | wp_step))
  generalize hn : s.heap.objs.size = N at *
  refine codeAny_mono (code_set_led1 (.ref t) (E := E) (Q₁ := fun u z => u = .ref N ∧ z = { s with heap := s.heap.push (set0 w) }) ⟨by rw [hn], rfl⟩) fun r z hz => ?_
  cases r with
  | error e => exact hz
  | ok fl =>
    cases fl with
    | next => exact hz.elim
    | brk => exact hz.elim
    | cont => exact hz.elim
    | ret u =>
      obtain ⟨rfl, rfl⟩ := hz
      have new : (s.heap.push (set0 w)).get? N = some (set0 w) := by rw [← hn]; exact Heap.get?_push_size _ rfl
      have ty : Shared.TypeIs { s with heap := s.heap.push (set0 w) } (.ref N) "set" := ⟨_, new, rfl⟩
      have h6 := F.called_set.init.lookup
      have h7 := F.called_set.init.bind (.ref N)
      repeat (any_goals (first | assumption | wp_step))
      refine codeAny_mono (codeAny_call_builtin (R := wants (fun r z => r = .none ∧ ∃ hN tk L es ep tb, z = { s with heap := hN, toks := tk } ∧ SetTR P w hN N L es ep tb ∧ Got ks ks.length L ∧ ∀ b o, s.heap.get? b = some o → hN.get? b = some o) E)
        F.called_set.init.plain F.entry_set_init (check_set_init_1 ty ?_)) fun r z hz => ?_
      · obtain ⟨ob, at_, cl, ep, da⟩ := id tp
        obtain ⟨ocl, odi, oda, osl⟩ := ob
        simp only at cl da
        subst cl; subst da
        have at1 : (s.heap.push (set0 w)).get? t = some { cls := .type "tuple", dict := odi, data := .seq us ep, slots := osl } := Heap.get?_push_of_some _ at_
        have n1 := F.sub_tuple_set
        have n2 := F.sub_tuple_frozenset
        have n3 : (Value.type "tuple" == Value.type "dict") = false := by decide
        have tp1 : (s.heap.push (set0 w)).IsTuple t us := ⟨_, at1, rfl, ep, rfl⟩
        unfold Builtin.«set.__init__» noKeywords Builtin.Frozenset.updateFrom
        generalize hPI : pyIter = PI
        wp_walk
        subst hPI
        refine wpAny_pyIter_tuple tp1 (wpAny_bind (wpAny_runValue ?_))
        have lt : t < N := by rw [← hn]; exact Heap.lt_size at_
        have sz : (s.heap.push (set0 w)).objs.size = N + 1 := by rw [Heap.size_push, hn]
        have ne : t ≠ (s.heap.push (set0 w)).objs.size := by rw [sz]; exact Nat.ne_of_lt (Nat.lt_succ_of_lt lt)
        have fresh : ∀ b, N ≤ b → s.heap.get? b = none := fun b hb => by
          cases q : s.heap.get? b with
          | none => rfl
          | some o => exact absurd (Nat.lt_of_lt_of_le (Heap.lt_size q) (by rw [hn]; exact hb)) (Nat.lt_irrefl _)
        have items : ∀ (i : Nat) (v : Value), us[i]? = some v → ∃ p, ks[i]? = some p ∧ v = .ref p.1 := fun i v hv => by
          rw [← Array.getElem?_toList, are, List.getElem?_map] at hv
          cases q : ks[i]? with
          | none => rw [q] at hv; cases hv
          | some p => rw [q] at hv; exact ⟨p, rfl, (Option.some.inj hv).symm⟩
        refine set_update_tups ((Walks.tuple (by simp [calm]) _ t ne us).toS) N (by rw [sz]; simp only [List.mem_cons, List.not_mem_nil, or_false, not_or]; exact ⟨Nat.ne_of_lt (Nat.lt_succ_self _), Nat.ne_of_gt lt⟩) ks size few items s.heap ok (fresh _ (Nat.le_refl _))
          (fun b hb => fresh b (by rw [List.mem_singleton.mp hb, sz]; exact Nat.le_succ _)) room (us.size - 0) 0 _ (by omega) (Nat.zero_le _) ⟨⟨_, Heap.get?_push_size _ rfl, rfl, rfl⟩, tp1.push _⟩ (fun b o e => Heap.get?_push_of_some _ (Heap.get?_push_of_some _ e))
          ⟨[], #[], 0, _, setTR_fresh (Heap.get?_push_of_some _ new), Got.zero ks⟩ fun z L es ep tb mv R got kp => ?_
        obtain ⟨hN, gN, dN, tN, oN⟩ := z
        obtain rfl : gN = s.gens := mv.gens
        obtain rfl : dN = s.drawn := mv.drawn
        obtain rfl : oN = s.os := mv.os
        show wpAny _ _ _ _ _ _
        refine wpAny_pure ?_
        show wpAny _ _ (ret Value.none) _ _ _
        rw [size] at got
        exact wpAny_pure ⟨rfl, hN, tN, L, es, ep, tb, rfl, R, got, kp⟩
      · cases r with
        | error e => exact hz
        | ok fl =>
          cases fl with
          | next => exact hz.elim
          | brk => exact hz.elim
          | cont => exact hz.elim
          | ret r =>
            obtain ⟨rfl, hN, tk, L, es, ep, tb, rfl, R, got, kp⟩ := hz
            repeat (any_goals (first | assumption | wp_step))
            exact g _ _ _ _ _ _ R got kp
end
section
variable {X : Cx}
/-- set(t), t a tuple of tuples of ints -/
def rSetTT (K : PySem.W.Frag) (P : Program) (w : World) : List V → Hp → VK → Prop := fun xs H Q => ∃ (t : Addr) (ks : List (Addr × List Int)), xs = [V.ref t] ∧ SqT K H t (ks.map fun p => V.ref p.1) ∧ (∀ p ∈ ks, SqT K H p.1 (p.2.map V.int)) ∧ ks.length < 64 ∧
  ∀ a L, H a = none → (∀ p ∈ L, p ∈ ks) → (∀ p ∈ ks, p.2 ∈ L.map (·.2)) → Q (.ref a) (upd H a (SetTO P w a L))
theorem cr_setTT (hc : X.calm = true) (hu : X.A.units + 64 < cLine) : CallR X (.type "set") (rSetTT X.K X.prog X.w) := by
  intro pins s σ H xs us Q I r h
  obtain ⟨t, ks, rfl, ht, hk, few, q⟩ := h
  rw [Vals.ref1 r]
  obtain ⟨its, rv, tp, hz⟩ := I.tuple ht
  refine make_setTT (P := X.prog) (w := X.w) ks (I.ok.hd hc) tp (by simpa using refs_of_vals rv) (fun p hp => I.isT (hk p hp)) few (by omega) fun hN tk L es ep tb R got kp => ?_
  exact ⟨.ref s.heap.objs.size, upd H s.heap.objs.size (SetTO X.prog X.w s.heap.objs.size L), I.laid (t' := tk) kp (Nat.le_refl _) (setTO_new R.t0), rfl,
    q _ L (I.hok.fresh (Nat.le_refl _)) (fun p hp => List.mem_of_mem_take (got.sub p hp)) fun p hp => got.all p (by rw [List.take_length]; exact hp)⟩
end
end KR

set_option Elab.async false
set_option linter.all false
set_option maxRecDepth 100000
set_option maxHeartbeats 4000000
/-! Rules for tuples: index, a reversed copy, enumerate. -/
namespace KR
open PySem PySem.Spec L2
open PyProof.Rows hiding St
section
variable {X : Cx}
/-- t.index(k), k in the tuple of ints -/
def rTIx (K : PySem.W.Frag) : V → List V → Hp → VK → Prop := fun x xs H Q => ∃ (t : Addr) (ns : List Int) (k : Int), x = .ref t ∧ xs = [.int k] ∧ SqT K H t (ns.map V.int) ∧ k ∈ ns ∧ Q (.int (ns.idxOf k : Nat)) H
theorem mt_tindex : MtR X "tuple.index" (rTIx X.K) := by
  intro pins s σ H x xs v us Q I rx rxs h
  obtain ⟨t, ns, k, rfl, rfl, ht, hk, q⟩ := h
  cases rx
  obtain ⟨u, rfl, tk, rfl⟩ := rxs.one
  obtain ⟨its, rv, tp, _⟩ := I.tuple ht
  exact PySem.SeqAt.tuple_index_ints tp (Vals.ints rv) hk ⟨.int (ns.idxOf k : Nat), H, I.tok _, ⟨_, rfl⟩, q⟩

/-- t[::-1] -/
def tRevT (K : PySem.W.Frag) (te : TE) : TE := fun σ H Q => te σ H fun x H1 => ∃ a xs, x = .ref a ∧ SqT K H1 a xs ∧ ∀ p, H1 p = none → Q (.ref p) (upd H1 p (.tup xs.reverse))
end
section
variable {prog : Program} {w : World} {A : Around} {E : Value → Shared → Prop} {s : Shared}
theorem fm_congr {α β : Type} {f g : α → Option β} : ∀ l : List α, (∀ x ∈ l, f x = g x) → l.filterMap f = l.filterMap g
  | [], _ => rfl
  | a :: l, h => by
    rw [List.filterMap_cons, List.filterMap_cons, h a (List.mem_cons_self ..), fm_congr l fun x z => h x (List.mem_cons_of_mem _ z)]
theorem back_places (n : Nat) : Builtin.Slice.sliceAdjust none none (-1) (n : Int) = ((n : Int) - 1, -1) ∧ Builtin.Slice.slicePlaces ((n : Int) - 1) (-1) (-1) = n := by
  refine ⟨by unfold Builtin.Slice.sliceAdjust; rfl, ?_⟩
  unfold Builtin.Slice.slicePlaces
  rw [if_neg (by decide)]
  by_cases h : (n : Int) - 1 > -1
  · rw [if_pos h, show (-(-1 : Int)) = 1 by decide, Int.ediv_one]
    omega
  · rw [if_neg h]
    omega
theorem back_pick (xs : Array Value) : ((List.range xs.size).filterMap fun (k : Nat) => xs[(((xs.size : Int) - 1) + (k : Int) * (-1)).toNat]?).toArray = xs.toList.reverse.toArray := by
  have h := PySem.W.krv_pick xs
  unfold slicePick at h
  rw [PySem.W.krv_bounds] at h
  have h' : ((sliceRange ((xs.size : Int) - 1) (-1) (-1)).filterMap (xs[·]?)).toArray = xs.toList.reverse.toArray := h
  rw [PySem.W.krv_sliceRange, List.filterMap_map] at h'
  rw [← h']
  congr 1
  refine fm_congr _ fun k hk => ?_
  have := List.mem_range.mp hk
  show xs[_]? = xs[xs.size - 1 - k]?
  congr 1
  omega
theorem back_tup {t sl : Addr} {us : Array Value} {vs : Value} {G : Value → Shared → Prop} (tp : IsTup s.heap t us) (hs : s.heap.IsSliceOf sl .none .none vs) (ps : IsPart vs (some (-1))) (fits : us.size ≤ sizeLine)
    (g : G (.ref s.heap.objs.size) { s with heap := s.heap.push { cls := .type "tuple", data := .seq us.toList.reverse.toArray } }) : wpAny (model prog w) A (getItem (.ref t) (.ref sl)) G E s := by
  have ok : sizeOk (.seq us.toList.reverse.toArray) := by
    show us.toList.reverse.toArray.size ≤ sizeLine
    rw [List.size_toArray, List.length_reverse, Array.length_toList]
    exact fits
  obtain ⟨os, e1, e2, e3⟩ := id hs
  have ty : s.TypeIs (.ref sl) "slice" := ⟨os, e1, e2⟩
  unfold getItem
  try with_reducible refine wpAny_holding ?_
  first | refine wpAny_bind (wpAny_pure ?_) | skip
  refine wpAny_bind (wpAny_sequenceKey tp.typeIs (by decide) (wpAny_bind (wpAny_callSpecial?_slot (name := Str.ofString "__getitem__") tp.typeIs PyProof.Rows.slot_tuple_getitem
    (wpAny_call_entry PyProof.Rows.slot_tuple_getitem tp.typeIs entry_tuple_getitem ?_ (args_tuple_getitem _ _)))))
  show wpAny _ _ (Builtin.Tuple.tupleItemsOf (.ref t) >>= _) _ _ s
  refine wpAny_bind (tupleItemsOf_ tp (wpAny_bind (wpAny_typeOf ty ?_)))
  rw [if_pos (by decide)]
  have app : ∀ {R : Int × Int × Nat → Shared → Prop} {B : Around} {F : Value → Shared → Prop}, R ((us.size : Int) - 1, -1, us.size) s → wpAny (model prog w) B (Builtin.Slice.sliceApplied (.ref sl) (pure (us.size : Int))) R F s := fun r => by
    unfold Builtin.Slice.sliceApplied Builtin.Slice.sliceFields
    refine wpAny_bind (wpAny_bind (wpAny_field e1 e3 (x := .none) rfl (wpAny_bind (wpAny_field e1 e3 (x := .none) rfl (wpAny_bind (wpAny_field e1 e3 (x := vs) rfl (wpAny_pure ?_)))))))
    refine wpAny_bind (HT.slicePart_ ps ?_)
    show wpAny _ _ (if ((-1 : Int) == 0) = true then _ else _) _ _ s
    rw [if_neg (by decide)]
    refine wpAny_bind (HT.slicePart_ .none (wpAny_bind (HT.slicePart_ .none (wpAny_bind (wpAny_pure ?_)))))
    show wpAny _ _ (match Builtin.Slice.sliceAdjust none none (-1) (us.size : Int) with | (lo, hi) => pure (lo, (-1 : Int), Builtin.Slice.slicePlaces lo hi (-1))) _ _ s
    rw [(back_places us.size).1]
    show wpAny _ _ (pure ((us.size : Int) - 1, (-1 : Int), Builtin.Slice.slicePlaces ((us.size : Int) - 1) (-1) (-1))) _ _ s
    rw [(back_places us.size).2]
    exact wpAny_pure r
  refine wpAny_bind (app ?_)
  have no : ¬ ((((us.size : Int) - 1) == 0 && (-1 : Int) == 1 && us.size == us.size) = true) := by
    rw [show ((-1 : Int) == 1) = false by decide, Bool.and_false, Bool.false_and]
    exact Bool.false_ne_true
  show wpAny _ _ (if (((us.size : Int) - 1) == 0 && (-1 : Int) == 1 && us.size == us.size) = true then _ else _) _ _ s
  rw [if_neg no, back_pick]
  first
    | exact wpAny_bind (m := Builtin.Tuple.tupleExact _) (wpAny_newObj_type (wpAny_pure ⟨_, rfl, wpAny_pure g⟩) ok)
    | exact wpAny_bind (m := Builtin.Tuple.tupleExact _) (wpAny_newObj_type (wpAny_bind (wpAny_pure (wpAny_pure ⟨_, rfl, wpAny_pure g⟩))) ok)
    | exact wpAny_bind (wpAny_bind (m := Builtin.Tuple.tupleExact _) (wpAny_newObj_type (wpAny_pure (wpAny_pure ⟨_, rfl, wpAny_pure g⟩)) ok))
    | exact wpAny_bind (wpAny_bind (m := Builtin.Tuple.tupleExact _) (wpAny_newObj_type (wpAny_pure ⟨_, rfl, wpAny_pure g⟩) ok))
end
section
variable {X : Cx}
theorem pe_revT {e : Expr} {te : TE} {k : Nat} {p1 p2 p3 pos : Pos} (he : PE X e te) : PE X (.Subscript e (.Slice none none (some (.UnaryOp .USub (.Constant (.int 1) k p1) p2)) p3) pos) (tRevT X.K te) := by
  refine ⟨fun pins s σ H Q I h => Subscript_ (thn (he.run pins s σ H _ I h) fun v s1 ⟨x, H1, I1, r1, a, xs, ex, hx, q⟩ => ?_)⟩
  subst ex
  cases r1
  have step : PO X (some (.UnaryOp .USub (.Constant (.int 1) k p1) p2)) (tPart (tUn (rU fun i => .int (-i)) (tC (.int 1)))) := po_some (pe_un un_neg pe_int)
  refine wpAny_Slice (thn (po_none.run pins s1 σ H1 (fun o J => o = none ∧ J = H1) I1 ⟨rfl, rfl⟩) fun vl s2 ⟨l, H2, I2, pl, el, e2⟩ => ?_)
  subst el e2
  refine thn (po_none.run pins s2 σ H2 (fun o J => o = none ∧ J = H2) I2 ⟨rfl, rfl⟩) fun vu s3 ⟨u, H3, I3, pu, eu, e3⟩ => ?_
  subst eu e3
  refine thn (step.run pins s3 σ H3 (fun o J => o = some (-1) ∧ J = H3) I3 ⟨1, rfl, -1, rfl, rfl, rfl⟩) fun vs s4 ⟨o, H4, I4, ps, eo, e4⟩ => ?_
  subst eo e4
  have I5 : Inv X pins σ H4 { s4 with heap := s4.heap.push { cls := .type "slice", data := .fields #[vl, vu, vs] } } := I4.kept (t' := s4.toks) fun b ob z => Heap.get?_push_of_some _ z
  obtain ⟨its, r, tp, hz⟩ := I5.tuple hx
  cases pl
  cases pu
  show wpAny (model X.prog X.w) X.A (subscriptTail e (.Slice none none (some (.UnaryOp .USub (.Constant (.int 1) k p1) p2)) p3) (.ref a) (.ref s4.heap.objs.size)) (EP X pins σ Q) X.xe { s4 with heap := s4.heap.push { cls := .type "slice", data := .fields #[.none, .none, vs] } }
  refine tail_any (ops := [.ref a, .ref s4.heap.objs.size]) tp.typeIs (PyProof.Rows.slot_tuple_getitem.lookup) ?_ (by with_unfolding_all rfl)
  refine back_tup tp (Heap.IsSliceOf.new _ .none .none vs) ps (by rw [List.size_toArray, ← r.length]; exact hz) ?_
  refine ⟨.ref _, _, I5.laid (t' := s4.toks) (o := .tup xs.reverse) (fun b ob z => Heap.get?_push_of_some _ z) (Nat.le_refl _) ?_, rfl, q _ (I5.hok.fresh (Nat.le_refl _))⟩
  exact ⟨by rw [List.length_reverse]; exact hz, _, r.reverse, ⟨_, Heap.get?_push_size _ rfl, rfl, 0, by simp⟩⟩
end
/-! ### enumerate(t), t a tuple -/
abbrev tIter (t : Addr) : Obj := { cls := .type "tuple_iterator", data := .fields #[.ref t, .int 0 0] }
abbrev tEnum (it : Addr) : Obj := { cls := .type "enumerate", data := .fields #[.none, .bool false, .ref it, rawInt 0, .none, .none] }
theorem meets_enumT (t : Addr) (us : Array Value) (n : Nat) (dd : Option Addr) (sl : Array (Option Value)) :
    Meets (Builtin.«enumerate.__new__» ⟨[.type "enumerate", .ref t], []⟩) (fun _ R s => s.heap.get? t = some { cls := .type "tuple", dict := dd, data := .seq us n, slots := sl } ∧
      R (.ok (.ret (.ref (s.heap.push (tIter t)).objs.size))) { s with heap := (s.heap.push (tIter t)).push (tEnum s.heap.objs.size) }) :=
  .of_wp fun prog w A R z hz => by
    obtain ⟨h0, g0, d0, k0, o0⟩ := z
    obtain ⟨at_, fin⟩ := hz
    have sub_ := sub_enumerate
    have tp : Heap.IsTuple (Shared.heap ⟨h0, g0, d0, k0, o0⟩) t us := ⟨_, at_, rfl, n, rfl⟩
    wp_walk using AutoSeq1.wpAny_loadPart' at_
    refine wpAny_stack_any fun stk => wpAny_pure ?_
    split
    · rename_i c _ _ _ _ _
      cases (c == Value.type "enumerate") <;>
      · wp_walk using AutoSeq1.wpAny_loadPart' at_, wpAny_pyIter_tuple tp
        exact ⟨_, rfl, fin⟩
    · wp_walk using AutoSeq1.wpAny_loadPart' at_, wpAny_pyIter_tuple tp
      exact ⟨_, rfl, fin⟩
section
variable {prog : Program} {w : World} {A : Around} {E : Value → Shared → Prop} {s : Shared}
theorem make_enumT {t : Addr} {us : Array Value} {G : Value → Shared → Prop} (tp : s.heap.IsTuple t us)
    (g : ∀ hN, IsEnum hN (s.heap.objs.size + 1) s.heap.objs.size 0 .none → hN.IsTupleIter s.heap.objs.size t 0 → (∀ b o, s.heap.get? b = some o → hN.get? b = some o) → G (.ref (s.heap.objs.size + 1)) { s with heap := hN }) :
    wpAny (model prog w) A (call (.type "enumerate") [.ref t]) G E s := by
  obtain ⟨⟨c, dd, dt, sl⟩, at_, cl, n, da⟩ := tp
  obtain rfl : c = .type "tuple" := cl
  obtain rfl : dt = .seq us n := da
  refine callType_new F.called_enumerate (by decide) (F.typeCall_enumerate_1 _) (F.newCall_enumerate_1 _) (fun obj => F.args_object_init_2 obj _) F.entry_enumerate_new (meets_enumT t us n dd sl) ⟨at_, ?_⟩
  have sz : (s.heap.push (tIter t)).objs.size = s.heap.objs.size + 1 := Heap.size_push ..
  show _ ∧ _
  rw [sz]
  have en : IsEnum ((s.heap.push (tIter t)).push (tEnum s.heap.objs.size)) (s.heap.objs.size + 1) s.heap.objs.size 0 .none := by
    have q := Heap.get?_push_size (s.heap.push (tIter t)) (o := tEnum s.heap.objs.size) rfl
    rw [sz] at q
    exact q
  exact ⟨⟨_, en, rfl⟩, g _ en ⟨_, Heap.get?_push_of_some _ (Heap.get?_push_size _ rfl), rfl, rfl⟩ fun b o x => Heap.get?_push_of_some _ (Heap.get?_push_of_some _ x)⟩
end
/-- the tuple at a, each item in a new pair -/
def Itet (K : PySem.W.Frag) (a : Addr) : It :=
  ⟨fun i H => ∃ (xs : List V) (x : V), SqT K H a xs ∧ xs[i]? = some x, fun i H v H' => ∃ T x, v = .ref T ∧ H T = none ∧ H' = upd H T (.tup [.int (i : Nat), x]) ∧ ∀ xs, SqT K H a xs → xs[i]? = some x, fun i H => ∃ xs : List V, SqT K H a xs ∧ xs.length = i⟩
theorem turn_enumT {P : Program} {w : World} {K : PySem.W.Frag} {elts : List Expr} {kk : Nat} {tpos : Pos} (a e it : Addr) :
    Turn P w K (.Tuple elts kk tpos) (Itet K a) [e, it] e (fun i h => (∃ old, IsEnum h e it ((i : Nat) : Int) old) ∧ h.IsTupleIter it a i ∧ e ≠ it ∧ e ≠ a ∧ a ≠ it) where
  mem := by simp
  obj := fun i h st b hb => by
    obtain ⟨⟨old, he⟩, ⟨o, ho, _, hd⟩, _⟩ := st
    rcases (by simpa using hb : b = e ∨ b = it) with z | z
    · rw [z]; exact ⟨_, he, fun v q => nomatch q⟩
    · rw [z]; exact ⟨o, ho, fun v q => by rw [hd] at q; cases q⟩
  keep := fun i h h' st k => let ⟨⟨old, he⟩, hi, r⟩ := st; ⟨⟨old, k e (by simp) _ he⟩, hi.at fun o q => k it (by simp) o q, r⟩
  item := by
    intro X hP hw hK hc i pins s σ H E I hf st hg
    subst hP hw hK
    obtain ⟨⟨old, he⟩, hit, ne1, ne2, ne3⟩ := st
    obtain ⟨xs, x, hq, hx⟩ := hg
    obtain ⟨its, rv, tp, _⟩ := I.tuple hq
    obtain ⟨u, hu, ru⟩ := rv.get hx
    have le : e < s.heap.objs.size := Heap.lt_size he
    have li : it < s.heap.objs.size := by obtain ⟨_, q, _⟩ := hit; exact Heap.lt_size q
    have hi : i < its.toArray.size := by rw [List.size_toArray]; exact (List.getElem?_eq_some_iff.mp hu).1
    have calm : X.A.in1.handled = none := by have := I.ok.hd hc; simpa using this
    refine wpAny_pyNext_enum_itemD (Draws.tuple calm it a ne3 its.toArray) he ⟨hit, tp⟩ hi ne1 (by simp only [List.mem_cons, List.not_mem_nil, or_false, not_or]; exact ⟨ne1, ne2⟩) fun y h' tk hy ho st' hT _ hk => ?_
    obtain rfl : y = u := by
      have q : its[i]? = some y := by rw [← List.getElem?_toArray]; exact hy
      exact Option.some.inj (q.symm.trans hu)
    refine ⟨_, rfl, wpAny_letOwnedTupleGo_enum (s := { s with heap := h', toks := tk + 1 }) ho fun h'' he' sb => ?_⟩
    have hT2 : h''.get? s.heap.objs.size = some { cls := .type "tuple", data := .seq #[.int i tk, y] } := (sb.2 _ (Nat.ne_of_gt le)).trans hT
    have I1 : Inv X pins σ (upd H s.heap.objs.size (.tup [.int (i : Nat), x])) { s with heap := h'', toks := tk + 1 } :=
      I.turnedNew (ch := [e, it]) (fun b ob hb q => (sb.2 b (fun z => hb (by simp [z]))).trans (hk b ob (fun z => hb (by simp [z])) (fun z => hb (by simp [z])) q)) hf (Nat.le_refl _)
        ⟨by show 2 ≤ sizeLine; decide, [.int i tk, y], .cons ⟨_, rfl⟩ (.cons ru .nil), ⟨_, hT2, rfl, _, rfl⟩⟩
    refine ⟨.ref s.heap.objs.size, _, I1, rfl, ⟨_, x, rfl, I.hok.fresh (Nat.le_refl _), rfl, fun ys hy => by rw [I.tuple_inj hy hq]; exact hx⟩, ⟨⟨y, ?_⟩, st'.1.at fun o q => (sb.2 it (Ne.symm ne1)).trans q, ne1, ne2, ne3⟩, fun b hb => ?_⟩
    · rw [show ((i + 1 : Nat) : Int) = (i : Int) + 1 by omega]
      exact he'
    · have lb : b < s.heap.objs.size := by
        rcases (by simpa using hb : b = e ∨ b = it) with z | z
        · rw [z]; exact le
        · rw [z]; exact li
      rw [upd_ne (Nat.ne_of_lt lb)]
      exact (hf b hb).1
  done := by
    intro X hP hw hK hc i pins s σ H E I hf st hg
    subst hP hw hK
    obtain ⟨⟨old, he⟩, hit, ne1, ne2, ne3⟩ := st
    obtain ⟨xs, hq, hx⟩ := hg
    obtain ⟨its, rv, tp, _⟩ := I.tuple hq
    obtain ⟨f0, f1, f2, f3, f4, f5⟩ := hf it (by simp)
    have calm : X.A.in1.handled = none := by have := I.ok.hd hc; simpa using this
    have hn : its.toArray.size = i := by rw [List.size_toArray, ← rv.length, hx]
    exact wpAny_pyNext_enum_endD (Draws.tuple calm it a ne3 its.toArray) he ⟨by rw [hn]; exact hit, tp⟩ fun h' eb => ⟨rfl, I.turned (t' := s.toks) (fun b o hb q => eb b o hb q) f0 f1 f3 f4 f5⟩
  self := fun A i s Q E st h => let ⟨⟨_, he⟩, _⟩ := st; wpAny_pyIter_enum he h
def iEnumT (K : PySem.W.Frag) (ta : TA) : TI := fun σ H R => ta σ H fun vs H1 => ∃ a xs, vs = [.ref a] ∧ SqT K H1 a xs ∧ R (Itet K a) H1
theorem pi_enumT {X : Cx} {e : Expr} {ta : TA} {p pos tpos : Pos} {elts : List Expr} {kk : Nat} (hg : Gl X "enumerate") (hm : X.mg "enumerate" = none) (ha : PA X [e] ta) (hs : starEach [e] X.env = [(false, eval e X.env)] := by rfl) :
    PI X (.Tuple elts kk tpos) (.Call (.Name "enumerate" p) [e] [] pos) (iEnumT X.K ta) := by
  refine ⟨fun pins s σ H R I h => Call_ (ld_blt I hg hm boot_enumerate (PyProof.Rows.callWith_type1 (thn (ha.run pos pins s σ H _ I h) fun us s1 ⟨vs, H1, I1, r1, a, xs, ex, hq, q⟩ => ?_) hs rfl))⟩
  subst ex
  obtain ⟨its, rv, tp, _⟩ := I1.tuple hq
  have la : a < s1.heap.objs.size := by obtain ⟨_, z, _⟩ := tp; exact Heap.lt_size z
  rw [Vals.ref1 r1]
  refine make_enumT tp fun hN he hit kp => wpAny_pyIter_enum he ?_
  refine ⟨s1.heap.objs.size + 1, [s1.heap.objs.size + 1, s1.heap.objs.size], _, _, H1, rfl, I1.kept (t' := s1.toks) kp, turn_enumT a (s1.heap.objs.size + 1) s1.heap.objs.size, ⟨⟨.none, he⟩, hit, Nat.succ_ne_self _, Nat.ne_of_gt (Nat.lt_succ_of_lt la), Nat.ne_of_lt la⟩, fun b hb => ?_, q⟩
  have le : s1.heap.objs.size ≤ b := by
    rcases (by simpa using hb : b = s1.heap.objs.size + 1 ∨ b = s1.heap.objs.size) with z | z
    · rw [z]; exact Nat.le_succ _
    · rw [z]; exact Nat.le_refl _
  exact I1.fpOk le (I1.hok.fresh le)
theorem walk_enumT {K : PySem.W.Frag} {a : Addr} {xs : List V} : Walk (Itet K a) xs.length (fun H => SqT K H a xs) (YPair (fun i => some (.int (i : Nat))) (fun i => xs[i]?)) := by
  refine ⟨fun i _ hi q => ⟨xs, xs[i], q, by simp [hi]⟩, fun _ q => ⟨xs, q, rfl⟩, fun i H v H' _ q y => ?_⟩
  obtain ⟨T, x, h1, h2, h3, h4⟩ := y
  exact ⟨T, .int (i : Nat), x, h1, h2, h3, rfl, h4 xs q⟩
end KR

set_option Elab.async false
set_option linter.all false
set_option maxRecDepth 100000
set_option maxHeartbeats 4000000
/-! Rules: the item of a list under an augmented store; a dict brought up to date from another one. -/
namespace KR
open PySem PySem.Spec L2
open PyProof.Rows hiding St
section
variable {X : Cx}
def rGetL : V → V → Hp → VK → Prop := fun o i H Q => ∃ p xs k z, o = .ref p ∧ i = .int k ∧ H p = some (.lst xs) ∧ 0 ≤ k ∧ xs[k.toNat]? = some z ∧ Q z H
theorem get_list : PGet X rGetL := by
  intro pins s σ H o i ov iv Q I ro ri h
  obtain ⟨p, xs, k, z, rfl, rfl, hp, h0, hx, q⟩ := h
  cases ro
  obtain ⟨t, rfl⟩ := ri
  obtain ⟨its, r, pl, hz⟩ := I.list (SqL.of hp)
  obtain ⟨w, ew, rw'⟩ := r.get hx
  have hl := r.length
  have hn := line63
  have lt := (List.getElem?_eq_some_iff.mp hx).1
  refine wpAny_getItem_list pl.isList h0 ?_ (by simpa using ew) ⟨z, H, I, rw', q⟩
  omega
/-- d.update(e), two dicts -/
def tDUpd (td ty : TE) : TE := fun σ H Q => td σ H fun x H1 => ∃ a, x = .ref a ∧ IsD H1 a ∧ ty σ H1 fun y H2 => ∃ b kvs more, y = .ref b ∧ H2 a = some (.dK kvs) ∧ H2 b = some (.dK more) ∧ a ≠ b ∧ kvs.length + more.length ≤ sizeLine ∧ Q .non (upd H2 a (.dK (mergeK kvs more)))
variable {o e : Expr} {td ty : TE} {apos cpos : Pos}
theorem pe_dupd (ho : PE X o td) (he : PE X e ty) (m : M1 X o "update" apos e cpos) : PE X (.Call (.Attribute o "update" apos) [e] [] cpos) (tDUpd td ty) := by
  refine ⟨fun pins s σ H Q I h => ?_⟩
  refine wpAny_Call_method m.base m.few m.line PySem.F.plainAttrs_dict PySem.F.slot_dict_update PySem.F.type_dict_update (thn (ho.run pins s σ H _ I h) fun u s1 ⟨x, H1, I1, rx, a, ex, d, q1⟩ => ?_)
  subst ex
  obtain rfl : u = Value.ref a := rx
  obtain ⟨t1, t2, _⟩ := isD_at I1 d
  refine ⟨t1, t2, ?_⟩
  rw [m.trees]
  refine Calls.callWith_builtin rfl (Calls.evalArgs_plain (Calls.spliced_cons (thn (he.run pins s1 σ H1 _ I1 q1) fun iv s2 ⟨y, H2, I2, ry, b, kvs, more, ey, ea, eb, ne, sz, q2⟩ => Calls.spliced_nil ?_)))
  subst ey
  obtain rfl : iv = Value.ref b := ry
  obtain ⟨za, hda, vs, rel, dd⟩ := dk_of I2.hok ea
  obtain ⟨zb, hdb, ws, rel2, dd2⟩ := dk_of I2.hok eb
  refine call_meetsIn PySem.F.slot_dict_update dd.typeIs PySem.F.entry_dict_update (PySem.F.args_dict_update_2 _ _) (meets_dict_update (mixKind X.prog X.w) a b ne hdb)
    ⟨vs, ws, dd, dd2, by rw [← rel.length, ← rel2.length]; exact sz, fun h' dd' _ hs => ⟨.non, _, ?_, rfl, q2⟩⟩
  have he : ∃ q, h'.get? a = some q := let ⟨q, _, _, hq, _⟩ := dd'; ⟨q, hq⟩
  exact d_write I2 (by rw [ea]; exact True.intro) hs he (dk_new (Nat.le_trans (length_mergeK more kvs) sz) hda (KV.merge rel2 rel) dd')
end
end KR

set_option Elab.async false
set_option linter.all false
set_option maxRecDepth 100000
set_option maxHeartbeats 4000000
/-! Tuples that are known to the last field: locked as they were made. -/
namespace KR
open PySem PySem.Spec L2
open PyProof.Rows hiding St
abbrev tobj (us : List Value) : Obj := { cls := .type "tuple", data := .seq us.toArray }
/-- at a stands a tuple of xs, made by a display's rule or another one of this file -/
def TupX (H : Hp) (a : Addr) (xs : List V) : Prop := ∃ us, H a = some (.frz (tobj us) (.tup xs))
theorem TupX.rd {H : Hp} {a : Addr} {xs : List V} (t : TupX H a xs) : Rd H a (.tup xs) := let ⟨us, e⟩ := t; .inr ⟨_, e⟩
theorem TupX.sq {K : PySem.W.Frag} {H : Hp} {a : Addr} {xs : List V} (t : TupX H a xs) : SqT K H a xs := .inl t.rd
theorem TupX.inj {H : Hp} {a : Addr} {xs ys : List V} (t : TupX H a xs) (u : TupX H a ys) : xs = ys := by
  obtain ⟨us, e⟩ := t
  obtain ⟨vs, e'⟩ := u
  rw [e] at e'
  cases e'
  rfl
theorem TupX.of {H : Hp} {a : Addr} {us : List Value} {xs : List V} : TupX (upd H a (.frz (tobj us) (.tup xs))) a xs := ⟨us, upd_same⟩
theorem TupX.same {H H' : Hp} {a : Addr} {xs : List V} (t : TupX H a xs) (s : Same H H') : TupX H' a xs := let ⟨us, e⟩ := t; ⟨us, s _ _ e⟩
section
variable {X : Cx} {pins : List (Addr × Obj)} {σ : L2.St} {H : Hp} {s : Shared}
theorem frz_ok {P : Program} {w : World} {H : Hp} {h : Heap} {a : Addr} {us : List Value} {xs : List V} (e : h.get? a = some (tobj us)) (r : Vals xs us) (z : xs.length ≤ sizeLine) : ObjOk P w H h a (.frz (tobj us) (.tup xs)) :=
  ⟨e, z, us, r, ⟨_, e, rfl, _, rfl⟩⟩
/-- tuple(l) -/
def rTupF (K : PySem.W.Frag) : List V → Hp → VK → Prop := fun xs H Q => ∃ p ys, xs = [.ref p] ∧ SqL K H p ys ∧ ∀ l us, H l = none → Q (.ref l) (upd H l (.frz (tobj us) (.tup ys)))
theorem call_tupF : CallR X (.type "tuple") (rTupF X.K) := by
  intro pins s σ H xs us Q I r h
  obtain ⟨p, ys, rfl, hq, q⟩ := h
  rw [Vals.ref1 r]
  obtain ⟨its, rv, pl, hz⟩ := I.list hq
  have len := rv.length
  refine call_tuple_list pl.isList (fun h' kp => ?_) (by simp only [List.size_toArray] <;> omega)
  have I1 : Inv X pins σ H { s with heap := h' } := I.kept (t' := s.toks) kp
  exact ⟨.ref h'.objs.size, _, I1.laid (t' := s.toks) (fun b o e => Heap.get?_push_of_some _ e) (Nat.le_refl _) (frz_ok (us := its) (Heap.get?_push_size _ rfl) rv hz), rfl, q _ its (I1.hok.fresh (Nat.le_refl _))⟩
/-- t[i:j] -/
def rSlF (K : PySem.W.Frag) : V → Option Int → Option Int → Hp → VK → Prop := fun x lo hi H Q => ∃ a xs, x = .ref a ∧ SqT K H a xs ∧
  (HT.sIx xs.length 0 lo = 0 ∧ HT.sIx xs.length xs.length hi = xs.length → Q (.ref a) H) ∧
  (¬ (HT.sIx xs.length 0 lo = 0 ∧ HT.sIx xs.length xs.length hi = xs.length) → ∀ p us, H p = none → Q (.ref p) (upd H p (.frz (tobj us) (.tup (cutV xs lo hi)))))
theorem sl_tupF : SlR X (rSlF X.K) := by
  intro pins s σ H x v vl vu lo hi sl Q I rx hs pl pu h
  obtain ⟨a, xs, rfl, hx, q1, q2⟩ := h
  cases rx
  obtain ⟨its, r, ht, hz⟩ := I.tuple hx
  have len : its.toArray.size = xs.length := by rw [List.size_toArray]; exact r.length.symm
  refine ⟨"tuple", _, PyProof.Rows.slot_tuple_getitem.lookup, ht.typeIs, ?_⟩
  by_cases hw : HT.sIx xs.length 0 lo = 0 ∧ HT.sIx xs.length xs.length hi = xs.length
  · exact getItem_tuple_whole ht hs pl pu (by rw [len]; exact hw) ⟨.ref a, H, I, rfl, q1 hw⟩
  · refine HT.getItem_tuple_cut ht hs pl pu (by rw [len]; exact hw) ?_ (by rw [len]; exact hz)
    rw [len]
    refine ⟨.ref s.heap.objs.size, _, I.laid (t' := s.toks) (fun b ob e => Heap.get?_push_of_some _ e) (Nat.le_refl _) (frz_ok (us := (its.drop (HT.sIx xs.length 0 lo)).take (HT.sIx xs.length xs.length hi - HT.sIx xs.length 0 lo)) (Heap.get?_push_size _ rfl) ?_ (Nat.le_trans (cutV_length xs lo hi) hz)), rfl,
      q2 hw _ _ (I.hok.fresh (Nat.le_refl _))⟩
    exact (r.drop (HT.sIx xs.length 0 lo)).take (HT.sIx xs.length xs.length hi - HT.sIx xs.length 0 lo)
/-- t + u -/
def rCatF (K : PySem.W.Frag) : R2 := fun x y H Q => ∃ a b xs ys, x = .ref a ∧ y = .ref b ∧ SqT K H a xs ∧ SqT K H b ys ∧ xs.length + ys.length ≤ sizeLine ∧
  (xs = [] → Q (.ref b) H) ∧ (xs ≠ [] → ys = [] → Q (.ref a) H) ∧ (xs ≠ [] → ys ≠ [] → ∀ p us, H p = none → Q (.ref p) (upd H p (.frz (tobj us) (.tup (xs ++ ys)))))
theorem op_catF : OpR X (binaryOp .Add) (rCatF X.K) := by
  intro pins s σ H x y v u Q I rx ry h
  obtain ⟨a, b, xs, ys, rfl, rfl, ha, hb, hz, q0, q1, q2⟩ := h
  cases rx
  cases ry
  obtain ⟨its, r1, p1, _⟩ := I.tuple ha
  obtain ⟨its2, r2, p2, _⟩ := I.tuple hb
  by_cases hx : xs = []
  · subst hx
    cases r1
    exact cat_tup0 p1 p2 ⟨.ref b, H, I, rfl, q0 rfl⟩
  · refine HT.cat_tup p1 p2 (fun z => hx (r1.nil_iff.mp z)) (fun z => ⟨.ref a, H, I, rfl, q1 hx (r2.nil_iff.mp z)⟩) (fun z => ?_) (by rw [← r1.length, ← r2.length]; exact hz)
    exact ⟨.ref s.heap.objs.size, _, I.laid (t' := s.toks) (fun b ob e => Heap.get?_push_of_some _ e) (Nat.le_refl _) (frz_ok (us := its ++ its2) (Heap.get?_push_size _ rfl) (r1.append r2) (by rw [List.length_append]; exact hz)), rfl,
      q2 hx (fun w => z (r2.nil_iff.mpr w)) _ _ (I.hok.fresh (Nat.le_refl _))⟩
/-- t[::-1] -/
def tRevF (K : PySem.W.Frag) (te : TE) : TE := fun σ H Q => te σ H fun x H1 => ∃ a xs, x = .ref a ∧ SqT K H1 a xs ∧ ∀ p us, H1 p = none → Q (.ref p) (upd H1 p (.frz (tobj us) (.tup xs.reverse)))
theorem pe_revF {e : Expr} {te : TE} {k : Nat} {p1 p2 p3 pos : Pos} (he : PE X e te) : PE X (.Subscript e (.Slice none none (some (.UnaryOp .USub (.Constant (.int 1) k p1) p2)) p3) pos) (tRevF X.K te) := by
  refine ⟨fun pins s σ H Q I h => Subscript_ (thn (he.run pins s σ H _ I h) fun v s1 ⟨x, H1, I1, r1, a, xs, ex, hx, q⟩ => ?_)⟩
  subst ex
  cases r1
  have step : PO X (some (.UnaryOp .USub (.Constant (.int 1) k p1) p2)) (tPart (tUn (rU fun i => .int (-i)) (tC (.int 1)))) := po_some (pe_un un_neg pe_int)
  refine wpAny_Slice (thn (po_none.run pins s1 σ H1 (fun o J => o = none ∧ J = H1) I1 ⟨rfl, rfl⟩) fun vl s2 ⟨l, H2, I2, pl, el, e2⟩ => ?_)
  subst el e2
  refine thn (po_none.run pins s2 σ H2 (fun o J => o = none ∧ J = H2) I2 ⟨rfl, rfl⟩) fun vu s3 ⟨u, H3, I3, pu, eu, e3⟩ => ?_
  subst eu e3
  refine thn (step.run pins s3 σ H3 (fun o J => o = some (-1) ∧ J = H3) I3 ⟨1, rfl, -1, rfl, rfl, rfl⟩) fun vs s4 ⟨o, H4, I4, ps, eo, e4⟩ => ?_
  subst eo e4
  have I5 : Inv X pins σ H4 { s4 with heap := s4.heap.push { cls := .type "slice", data := .fields #[vl, vu, vs] } } := I4.kept (t' := s4.toks) fun b ob z => Heap.get?_push_of_some _ z
  obtain ⟨its, r, tp, hz⟩ := I5.tuple hx
  cases pl
  cases pu
  show wpAny (model X.prog X.w) X.A (subscriptTail e (.Slice none none (some (.UnaryOp .USub (.Constant (.int 1) k p1) p2)) p3) (.ref a) (.ref s4.heap.objs.size)) (EP X pins σ Q) X.xe { s4 with heap := s4.heap.push { cls := .type "slice", data := .fields #[.none, .none, vs] } }
  refine tail_any (ops := [.ref a, .ref s4.heap.objs.size]) tp.typeIs (PyProof.Rows.slot_tuple_getitem.lookup) ?_ (by with_unfolding_all rfl)
  refine back_tup tp (Heap.IsSliceOf.new _ .none .none vs) ps (by rw [List.size_toArray, ← r.length]; exact hz) ?_
  exact ⟨.ref _, _, I5.laid (t' := s4.toks) (fun b ob z => Heap.get?_push_of_some _ z) (Nat.le_refl _) (frz_ok (us := its.reverse) (Heap.get?_push_size _ rfl) r.reverse (by rw [List.length_reverse]; exact hz)), rfl, q _ _ (I5.hok.fresh (Nat.le_refl _))⟩
/-- t.index(k), t locked -/
def tTIx (to : TE) (t : TA) : TE := fun σ H Q => to σ H fun x H1 => (∃ a xs, x = .ref a ∧ TupX H1 a xs) ∧ t σ H1 fun xs H2 => ∃ (a : Addr) (ns : List Int) (k : Int), x = .ref a ∧ xs = [.int k] ∧ TupX H2 a (ns.map V.int) ∧ k ∈ ns ∧ Q (.int (ns.idxOf k : Nat)) H2
variable {o e : Expr} {es : List Expr} {to : TE} {t : TA} {apos cpos : Pos}
theorem pe_tindex (ho : PE X o to) (ha : PA X (e :: es) t)
    (hbase : attributeBase o "index" X.env (eval o X.env) = eval o X.env := by rfl)
    (hfew : ((backTo cpos (starEach (e :: es) X.env)).all (fun x => !x.1) && (backToKw cpos (keywordEach [] X.env)).all (fun x => x.1.isSome)
      && decide ((e :: es).length + ([] : List Keyword).length + (if ([] : List Keyword).isEmpty then 0 else 1) < 30)) = true := by rfl)
    (hline : (apos.endLine == cpos.line) = true := by rfl) (hs : starEach (e :: es) X.env = (false, eval e X.env) :: starEach es X.env := by rfl) (hplain : (backTo cpos (starEach es X.env)).any (·.1) = false := by rfl) :
    PE X (.Call (.Attribute o "index" apos) (e :: es) [] cpos) (tTIx to t) := by
  refine ⟨fun pins s σ H Q I h => wpAny_Call_method_late hbase hfew hline rfl (thn (ho.run pins s σ H _ I h) fun v s1 ⟨x, H1, I1, r1, ⟨a, xs, ex, us, ha1⟩, q1⟩ => ?_)⟩
  subst ex
  cases r1
  obtain ⟨at1, _, _⟩ := I1.hok _ _ ha1
  refine ⟨"tuple", "tuple.index", PySem.F.plainAttrs_tuple, PySem.F.slot_tuple_index, PySem.F.type_tuple_index, ⟨_, at1, rfl⟩, fun b eb => ?_, ?_⟩
  · cases eb
    exact ⟨_, at1, rfl⟩
  · have hA := ha.run cpos pins s1 σ H1 _ I1 q1
    rw [hs] at hA ⊢
    refine Calls.callWith_builtin (by show (false || (backTo cpos (starEach es X.env)).any (·.1)) = false; rw [hplain] <;> rfl) (Calls.evalArgs_plain ?_)
    refine thn hA fun ws s2 ⟨vs, H2, I2, r2, a', ns, k, ea, ev, tx, hk, q2⟩ => ?_
    cases ea
    exact mt_tindex pins s2 σ H2 (.ref a) vs (.ref a) ws Q I2 rfl r2 ⟨a, ns, k, rfl, ev, tx.sq, hk, q2⟩
end
end KR

set_option Elab.async false
set_option linter.all false
set_option maxRecDepth 100000
set_option maxHeartbeats 4000000
/-! Data of any depth over the tracked heap, dicts among them; their texts by repr. -/
namespace K0
open PySem PySem.Spec PyProof.Rows L2
open KR (TupX)

def kD : Key → PyData
  | .inl i => .int i
  | .inr x => .str x
/-- a tuple stands at a: tracked, or known whole -/
def TT (H : Hp) (a : Addr) (xs : List V) : Prop := H a = some (.tup xs) ∨ TupX H a xs
theorem TT.rd {H : Hp} {a : Addr} {xs : List V} (t : TT H a xs) : Rd H a (.tup xs) := t.elim .inl TupX.rd
theorem TT.sq {K : PySem.W.Frag} {H : Hp} {a : Addr} {xs : List V} (t : TT H a xs) : SqT K H a xs := .inl t.rd
theorem TT.at {H : Hp} {a : Addr} {xs : List V} (t : TT H a xs) : ∃ o, H a = some o := t.elim (fun e => ⟨_, e⟩) fun ⟨_, e⟩ => ⟨_, e⟩
theorem TT.keep {H H' : Hp} {a : Addr} {xs : List V} (t : TT H a xs) (s : ∀ o, H a = some o → H' a = some o) : TT H' a xs := t.elim (fun e => .inl (s _ e)) fun ⟨us, e⟩ => .inr ⟨us, s _ e⟩
/-- v is the datum d in H, all its objects such as T says -/
inductive DV (H : Hp) (T : Addr → Prop) : V → PyData → Prop
  | non : DV H T .non .none
  | bl (b : Bool) : DV H T (.bl b) (.bool b)
  | int (i : Int) : DV H T (.int i) (.int i)
  | str (x : Str) : DV H T (.str x) (.str x)
  | lst {a : Addr} {xs : List V} {ds : List PyData} (t : T a) (e : H a = some (.lst xs)) (l : xs.length = ds.length) (h : ∀ (i : Nat) (v : V) (d : PyData), xs[i]? = some v → ds[i]? = some d → DV H T v d) : DV H T (.ref a) (.list ds)
  | tup {a : Addr} {xs : List V} {ds : List PyData} (t : T a) (e : TT H a xs) (l : xs.length = ds.length) (h : ∀ (i : Nat) (v : V) (d : PyData), xs[i]? = some v → ds[i]? = some d → DV H T v d) : DV H T (.ref a) (.tuple ds)
  | dct {a : Addr} {kvs : List (Key × V)} {ds : List PyData} (t : T a) (e : H a = some (.dK kvs)) (l : kvs.length = ds.length) (h : ∀ (i : Nat) (v : V) (d : PyData), (kvs.map (·.2))[i]? = some v → ds[i]? = some d → DV H T v d) :
      DV H T (.ref a) (.dict ((kvs.map fun p => kD p.1).zip ds))
theorem DV.mono {H H' : Hp} {T T' : Addr → Prop} {v : V} {d : PyData} (h : DV H T v d) (s : ∀ a o, T a → H a = some o → T' a ∧ H' a = some o) : DV H' T' v d := by
  induction h with
  | non => exact .non
  | bl b => exact .bl b
  | int i => exact .int i
  | str x => exact .str x
  | lst t e l _ ih => exact .lst (s _ _ t e).1 (s _ _ t e).2 l ih
  | tup t e l _ ih => let ⟨_, h⟩ := e.at; exact .tup (s _ _ t h).1 (e.keep fun o q => (s _ _ t q).2) l ih
  | dct t e l _ ih => exact .dct (s _ _ t e).1 (s _ _ t e).2 l ih
/-- anywhere -/
abbrev Any : Addr → Prop := fun _ => True
theorem DV.any {H : Hp} {T : Addr → Prop} {v : V} {d : PyData} (h : DV H T v d) : DV H Any v d := h.mono fun _ _ _ e => ⟨trivial, e⟩
theorem DV.same {H H' : Hp} {T : Addr → Prop} {v : V} {d : PyData} (h : DV H T v d) (s : Same H H') : DV H' T v d := h.mono fun a o t e => ⟨t, s a o e⟩

/-- items of one kind, point by point -/
theorem readsAll_of {h : Heap} {T : Addr → Prop} : ∀ {xs : List V} {us : List Value} {ds : List PyData}, Vals xs us → xs.length = ds.length →
    (∀ (i : Nat) (v : V) (d : PyData) (u : Value), xs[i]? = some v → ds[i]? = some d → RelV v u → ∃ as, Reads h u d as ∧ ∀ a ∈ as, T a) → ∃ as, ReadsAll h us ds as ∧ ∀ a ∈ as, T a
  | _, _, [], .nil, _, _ => ⟨[], .nil, fun _ z => nomatch z⟩
  | _, _, _ :: _, .nil, l, _ => nomatch l
  | _, _, [], .cons _ _, l, _ => nomatch l
  | _, _, d :: ds, .cons r t, l, f => by
    obtain ⟨as, h1, t1⟩ := f 0 _ _ _ rfl rfl r
    obtain ⟨bs, h2, t2⟩ := readsAll_of (ds := ds) t (Nat.succ.inj l) fun i v e u e1 e2 r' => f (i + 1) v e u (by simpa using e1) (by simpa using e2) r'
    exact ⟨as ++ bs, .cons h1 h2, fun a z => (List.mem_append.mp z).elim (t1 a) (t2 a)⟩

theorem keys_reads {P : Program} {w : World} {h : Heap} {T : Addr → Prop} : ∀ {es : List DictEntry} {vs : List (Key × Value)}, Pairs (mixKind P w) es vs → ∃ as, ReadsAll h (es.map (·.key)) (vs.map fun p => kD p.1) as ∧ ∀ a ∈ as, T a
  | _, _, .nil => ⟨[], .nil, fun _ z => nomatch z⟩
  | _, _, .cons (e := e) (kv := kv) k _ t => by
    obtain ⟨bs, h2, t2⟩ := keys_reads (h := h) (T := T) t
    rcases keyIs_shape (show keyIs kv.1 e.key = true from k) with ⟨i, tk, e1, e2⟩ | ⟨x, tk, e1, e2⟩
    · refine ⟨[] ++ bs, ?_, fun a z => t2 a (by simpa using z)⟩
      show ReadsAll h (e.key :: _) (kD kv.1 :: _) _
      rw [e1, e2]
      exact .cons (.int i tk) h2
    · refine ⟨[] ++ bs, ?_, fun a z => t2 a (by simpa using z)⟩
      show ReadsAll h (e.key :: _) (kD kv.1 :: _) _
      rw [e1, e2]
      exact .cons (.str x tk) h2
theorem vals_of_pairs {P : Program} {w : World} : ∀ {es : List DictEntry} {vs : List (Key × Value)}, Pairs (mixKind P w) es vs → es.map (·.val) = vs.map (·.2)
  | _, _, .nil => rfl
  | _, _, .cons _ e t => by rw [List.map_cons, List.map_cons, e, vals_of_pairs t]
theorem kv_keys : ∀ {kvs : List (Key × V)} {vs : List (Key × Value)}, KV kvs vs → (vs.map fun p => kD p.1) = kvs.map fun p => kD p.1
  | _, _, .nil => rfl
  | _, _, .cons r t => by rw [List.map_cons, List.map_cons, r.1, kv_keys t]
theorem kv_vals : ∀ {kvs : List (Key × V)} {vs : List (Key × Value)}, KV kvs vs → Vals (kvs.map (·.2)) (vs.map (·.2))
  | _, _, .nil => .nil
  | _, _, .cons r t => .cons r.2 (kv_vals t)

theorem DV.reads {P : Program} {w : World} {H : Hp} {h : Heap} (ok : HOk P w H h) {T : Addr → Prop} {v : V} {d : PyData} (D : DV H T v d) : ∀ {u : Value}, RelV v u → ∃ as, Reads h u d as ∧ ∀ a ∈ as, ∃ o, H a = some o := by
  induction D with
  | non => intro u r; cases r; exact ⟨_, .none, fun _ z => nomatch z⟩
  | bl b => intro u r; cases r; exact ⟨_, .bool b, fun _ z => nomatch z⟩
  | int i => intro u r; obtain ⟨t, rfl⟩ := r; exact ⟨_, .int i t, fun _ z => nomatch z⟩
  | str x => intro u r; obtain ⟨t, rfl⟩ := r; exact ⟨_, .str x t, fun _ z => nomatch z⟩
  | lst _ e l _ ih =>
    intro u r
    cases r
    obtain ⟨_, its, n, rv, he⟩ := ok _ _ e
    obtain ⟨as, h1, t1⟩ := readsAll_of rv l fun i v d u e1 e2 r' => ih i v d e1 e2 r'
    refine ⟨_, .list he rfl rfl (by simpa using h1), fun a z => ?_⟩
    rcases List.mem_cons.mp z with rfl | z
    · exact ⟨_, e⟩
    · exact t1 a z
  | tup _ e l _ ih =>
    intro u r
    cases r
    obtain ⟨_, its, rv, o, h1, h2, n, h3⟩ := e.rd.ok ok
    obtain ⟨as, g1, t1⟩ := readsAll_of rv l fun i v d u e1 e2 r' => ih i v d e1 e2 r'
    exact ⟨as, .tuple h1 h2 h3 (by simpa using g1), t1⟩
  | @dct a kvs ds _ e l _ ih =>
    intro u r
    cases r
    obtain ⟨_, _, vs, rv, o, es, ep, h1, h2, h3, _, h5, _⟩ := ok _ _ e
    obtain ⟨as, k1, t1⟩ := keys_reads (h := h) (T := fun a => ∃ o, H a = some o) h5
    obtain ⟨bs, v1, t2⟩ := readsAll_of (h := h) (T := fun a => ∃ o, H a = some o) (ds := ds) (kv_vals rv) (by rw [List.length_map]; exact l) fun i v d u e1 e2 r' => ih i v d e1 e2 r'
    rw [kv_keys rv] at k1
    rw [← vals_of_pairs h5] at v1
    have z1 : (((kvs.map fun p => kD p.1).zip ds).map (·.1)) = kvs.map fun p => kD p.1 := List.map_fst_zip (by rw [List.length_map]; omega)
    have z2 : (((kvs.map fun p => kD p.1).zip ds).map (·.2)) = ds := List.map_snd_zip (by rw [List.length_map]; omega)
    refine ⟨_, .dict h1 h2.1 h3 (by rw [z1]; exact k1) (by rw [z2]; exact v1), fun c z => ?_⟩
    rcases List.mem_append.mp z with z | z
    · rcases List.mem_cons.mp z with rfl | z
      · exact ⟨_, e⟩
      · exact t1 c z
    · exact t2 c z

/-- what repr can tell -/
structure Fit (d : PyData) : Prop where
  sh : d.showable = true
  dp : d.depth ≤ 60
  sz : d.shown.length ≤ sizeLine

/-! ### repr: the texts of tracked data, item by item. The looks at a dict want to know that it isn't the modules' own: a tracked dict says so itself -/
section
variable {P : Program} {w : World} {H : Hp} {h : Heap}
/-- the text of one datum may be asked -/
abbrev Tells (P : Program) (w : World) (h : Heap) (u : Value) (d : PyData) : Prop := ∃ bs, ReadAtMost h d.depth bs ∧ ReprK P w bs h d.depth u d.shown
theorem tells_all : ∀ {xs : List V} {us : List Value} {ds : List PyData}, Vals xs us → xs.length = ds.length → PyData.showableAll ds = true → (∀ t ∈ PyData.shownAll ds, t.length ≤ sizeLine) →
    (∀ (i : Nat) (v : V) (d : PyData) (u : Value), xs[i]? = some v → ds[i]? = some d → RelV v u → d.showable = true → d.shown.length ≤ sizeLine → Tells P w h u d) →
    ∃ bs, ReadAtMost h (PyData.depthAll ds) bs ∧ ReprAllK P w bs h (PyData.depthAll ds) us (PyData.shownAll ds)
  | _, _, [], .nil, _, _, _, _ => ⟨[], (fun _ z => nomatch z), by simp only [PyData.shownAll]; exact .nil⟩
  | _, _, _ :: _, .nil, l, _, _, _ => nomatch l
  | _, _, [], .cons _ _, l, _, _, _ => nomatch l
  | _, _, d :: ds, .cons r t, l, hs, hz, f => by
    simp only [PyData.showableAll, Bool.and_eq_true] at hs
    simp only [PyData.shownAll, List.mem_cons] at hz
    obtain ⟨b1, q1, k1⟩ := f 0 _ _ _ rfl rfl r hs.1 (hz _ (.inl rfl))
    obtain ⟨b2, q2, k2⟩ := tells_all (ds := ds) t (Nat.succ.inj l) hs.2 (fun t z => hz t (.inr z)) fun i v e u e1 e2 => f (i + 1) v e u (by simpa using e1) (by simpa using e2)
    have m1 : d.depth ≤ PyData.depthAll (d :: ds) := by simp only [PyData.depthAll]; omega
    have m2 : PyData.depthAll ds ≤ PyData.depthAll (d :: ds) := by simp only [PyData.depthAll]; omega
    refine ⟨b1 ++ b2, (q1.mono m1).append (q2.mono m2), ?_⟩
    simp only [PyData.shownAll]
    exact .cons ((k1.more fun b z => List.mem_append_left _ z).level_le m1) (k2.more_le (fun b z => List.mem_append_right _ z) m2)
/-- the keys of a dict are ints and texts -/
theorem tells_keys {P : Program} {w : World} {h : Heap} : ∀ {es : List DictEntry} {vs : List (Key × Value)}, Pairs (mixKind P w) es vs → PyData.showableAll (vs.map fun p => kD p.1) = true → (∀ t ∈ PyData.shownAll (vs.map fun p => kD p.1), t.length ≤ sizeLine) →
    ReprAllK P w [] h 0 (es.map (·.key)) (PyData.shownAll (vs.map fun p => kD p.1))
  | _, _, .nil, _, _ => by simp only [List.map_nil, PyData.shownAll]; exact .nil
  | _, _, .cons (e := e) (kv := kv) k _ t, hs, hz => by
    simp only [List.map_cons, PyData.showableAll, Bool.and_eq_true] at hs
    simp only [List.map_cons, PyData.shownAll, List.mem_cons] at hz
    have ih := tells_keys (P := P) (w := w) (h := h) t hs.2 fun t z => hz t (.inr z)
    simp only [List.map_cons, PyData.shownAll]
    refine .cons ?_ ih
    rcases keyIs_shape (show keyIs kv.1 e.key = true from k) with ⟨i, tk, e1, e2⟩ | ⟨x, tk, e1, e2⟩
    · have a := hs.1
      rw [e1] at a ⊢
      rw [e2]
      simp only [kD, PyData.shown]
      exact .of_is (ReprIs.int tk (by simpa [kD, PyData.showable] using a)) _ _ _
    · have a := hz _ (.inl rfl)
      rw [e1] at a ⊢
      rw [e2]
      simp only [kD, PyData.shown] at a ⊢
      exact .of_is (ReprIs.str x tk a) _ _ _
theorem DV.tells (ok : HOk P w H h) {T : Addr → Prop} {v : V} {d : PyData} (D : DV H T v d) : ∀ {u : Value}, RelV v u → d.showable = true → d.shown.length ≤ sizeLine → Tells P w h u d := by
  induction D with
  | non => intro u r _ _; cases r; exact ⟨[], (fun _ z => nomatch z), by simp only [PyData.shown]; exact .of_is ReprIs.none _ _ _⟩
  | bl b => intro u r _ _; cases r; exact ⟨[], (fun _ z => nomatch z), by simp only [PyData.shown]; exact .of_is (ReprIs.bool b) _ _ _⟩
  | int i => intro u r hs _; obtain ⟨t, rfl⟩ := r; exact ⟨[], (fun _ z => nomatch z), by simp only [PyData.shown]; exact .of_is (ReprIs.int t (by simpa [PyData.showable] using hs)) _ _ _⟩
  | str x => intro u r _ hz; obtain ⟨t, rfl⟩ := r; exact ⟨[], (fun _ z => nomatch z), by simp only [PyData.shown] at hz ⊢; exact .of_is (ReprIs.str x t hz) _ _ _⟩
  | @lst a xs ds t0 e l g ih =>
    intro u r hs hz
    obtain ⟨as, R, _⟩ := (DV.lst t0 e l g).reads ok r
    cases r
    obtain ⟨_, its, n, rv, he⟩ := ok _ _ e
    simp only [PyData.shown] at hz
    obtain ⟨bs, hb, hk⟩ := tells_all rv l (by simpa [PyData.showable] using hs) (fun t z => Nat.le_trans (listText_mem_le z) hz) fun i v d u e1 e2 r' => ih i v d e1 e2 r'
    have na : a ∉ bs := not_mem_of_deeper R (by simp only [PyData.depth]; omega) hb
    refine ⟨a :: bs, ReadAtMost.cons R (by simp only [PyData.depth]; omega) hb, ?_⟩
    simp only [PyData.depth, PyData.shown]
    cases its with
    | nil =>
      have e0 := hk.length_eq
      cases ds with
      | nil => simp only [PyData.shownAll, listText_nil]; exact ReprK.listEmpty he rfl rfl
      | cons d ds => simp [PyData.shownAll] at e0
    | cons x rest => exact ReprK.list he rfl rfl na (by simpa using hk.length_eq) fun i y z => hk.item i y (by simpa using z)
  | @tup a xs ds t0 e l g ih =>
    intro u r hs hz
    obtain ⟨as, R, _⟩ := (DV.tup t0 e l g).reads ok r
    cases r
    obtain ⟨_, its, rv, o, h1, h2, n, h3⟩ := e.rd.ok ok
    simp only [PyData.shown] at hz
    obtain ⟨bs, hb, hk⟩ := tells_all rv l (by simpa [PyData.showable] using hs) (fun t z => Nat.le_trans (tupleText_mem_le z) hz) fun i v d u e1 e2 r' => ih i v d e1 e2 r'
    have na : a ∉ bs := not_mem_of_deeper R (by simp only [PyData.depth]; omega) hb
    refine ⟨a :: bs, ReadAtMost.cons R (by simp only [PyData.depth]; omega) hb, ?_⟩
    simp only [PyData.depth, PyData.shown]
    exact ReprK.tuple h1 h2 h3 na (by simpa using hk)
  | @dct a kvs ds t0 e l g ih =>
    intro u r hs hz
    obtain ⟨as, R, _⟩ := (DV.dct t0 e l g).reads ok r
    cases r
    obtain ⟨_, lo, vs, rv, o, es, ep, h1, h2, h3, _, h5, _⟩ := ok _ _ e
    simp only [PyData.shown] at hz
    obtain ⟨s1, s2⟩ := PyData.showableKv_split _ (by simpa [PyData.showable] using hs)
    have z1 : (((kvs.map fun p => kD p.1).zip ds).map (·.1)) = kvs.map fun p => kD p.1 := List.map_fst_zip (by rw [List.length_map]; omega)
    have z2 : (((kvs.map fun p => kD p.1).zip ds).map (·.2)) = ds := List.map_snd_zip (by rw [List.length_map]; omega)
    have k1 := tells_keys (P := P) (w := w) (h := h) h5 (by rw [kv_keys rv, ← z1]; exact s1) (fun t z => by
      rw [kv_keys rv, ← z1] at z
      obtain ⟨p, hp, hl⟩ := PyData.shownKv_key_le _ t z
      exact Nat.le_trans hl (Nat.le_trans (dictText_mem_le hp) hz))
    obtain ⟨b2, hb2, k2⟩ := tells_all (P := P) (w := w) (h := h) (ds := ds) (kv_vals rv) (by rw [List.length_map]; exact l) (by rw [← z2]; exact s2) (fun t z => by
      rw [← z2] at z
      obtain ⟨p, hp, hl⟩ := PyData.shownKv_val_le _ t z
      exact Nat.le_trans hl (Nat.le_trans (dictText_mem_le hp) hz)) fun i v d u e1 e2 r' => ih i v d e1 e2 r'
    rw [← vals_of_pairs h5] at k2
    rw [kv_keys rv, ← z1] at k1
    have d2 : PyData.depthAll ds ≤ PyData.depthKv ((kvs.map fun p => kD p.1).zip ds) := by
      have q := PyData.depthAll_vals_le ((kvs.map fun p => kD p.1).zip ds)
      rw [z2] at q
      exact q
    have hb := hb2.mono d2
    have na : a ∉ b2 := not_mem_of_deeper R (by simp only [PyData.depth]; omega) hb
    refine ⟨a :: b2, ReadAtMost.cons R (by simp only [PyData.depth]; omega) hb, ?_⟩
    simp only [PyData.depth, PyData.shown, PyData.shownKv_eq]
    rw [z2]
    exact ReprK.dict h1 h2.1 h3 lo na (ReprEntriesK.of_two es.toList _ _ (k1.more_le (fun b z => absurd z List.not_mem_nil) (Nat.zero_le _)) (k2.more_le (fun b z => z) d2))
end

/-- repr(x), x a list, a tuple or a dict -/
def rRepr : List V → Hp → VK → Prop := fun xs H Q => ∃ a d, xs = [.ref a] ∧ DV H Any (.ref a) d ∧ Fit d ∧ (∀ kvs, d ≠ .dict kvs) ∧ Q (.str d.shown) H
theorem call_repr {X : Cx} (hg : X.A.guards = some []) (hu : X.A.units + 64 < cLine) : CallR X (.builtin "repr") rRepr := by
  intro pins s σ H xs us Q I r h
  obtain ⟨a, d, rfl, D, F, nd, q⟩ := h
  obtain ⟨u, rfl, ru⟩ := vals1 r
  cases ru
  have fin : ∀ (h' : Heap) (u : Tok) (tk : Nat), (∀ b o, s.heap.get? b = some o → h'.get? b = some o) → EP X pins σ Q (.str d.shown u) { s with heap := h', toks := tk } := fun h' u tk k => ⟨.str d.shown, H, I.kept (t' := tk) k, ⟨u, rfl⟩, q⟩
  have hF := F.sz
  have hS := F.sh
  have hD := F.dp
  cases D with
  | @lst _ xs ds t0 e l g =>
    obtain ⟨as, R, _⟩ := (DV.lst t0 e l g).reads I.hok rfl
    obtain ⟨_, its, n, rv, he⟩ := I.hok _ _ e
    simp only [PyData.shown] at hF fin
    obtain ⟨bs, hb, hk⟩ := tells_all (P := X.prog) (w := X.w) (h := s.heap) rv l (by simpa [PyData.showable] using hS) (fun t z => Nat.le_trans (listText_mem_le z) hF) fun i v d u e1 e2 r' => (g i v d e1 e2).tells I.hok r'
    have na : a ∉ bs := not_mem_of_deeper R (by simp only [PyData.depth]; omega) hb
    simp only [PyData.depth] at hD
    refine call_repr_slot (by omega) ⟨_, he, rfl⟩ PySem.F.slot_list_repr.toG ?_
    cases its with
    | nil =>
      have e0 := hk.length_eq
      cases ds with
      | nil =>
        simp only [PyData.shownAll, listText_nil] at fin
        exact call_list_repr_empty ⟨_, he, rfl⟩ he rfl ⟨_, _, rfl, fin s.heap _ _ fun _ _ z => z⟩
      | cons d ds => simp [PyData.shownAll] at e0
    | cons x rest => exact call_list_reprK he rfl rfl na (by simpa using hk.length_eq) (fun i y z => hk.item i y (by simpa using z)) hg (fun b _ => Clear.nil b) (by show X.A.units + 1 + _ < cLine; omega) (fun _ _ z => z) (fun h' u tk k => ⟨_, _, rfl, fin h' u tk k⟩) hF
  | @tup _ xs ds t0 e l g =>
    obtain ⟨as, R, _⟩ := (DV.tup t0 e l g).reads I.hok rfl
    obtain ⟨_, its, rv, o, h1, h2, n, h3⟩ := e.rd.ok I.hok
    simp only [PyData.shown] at hF fin
    obtain ⟨bs, hb, hk⟩ := tells_all (P := X.prog) (w := X.w) (h := s.heap) rv l (by simpa [PyData.showable] using hS) (fun t z => Nat.le_trans (tupleText_mem_le z) hF) fun i v d u e1 e2 r' => (g i v d e1 e2).tells I.hok r'
    have na : a ∉ bs := not_mem_of_deeper R (by simp only [PyData.depth]; omega) hb
    simp only [PyData.depth] at hD
    refine call_repr_slot (by omega) ⟨_, h1, h2⟩ PySem.F.slot_tuple_repr ?_
    exact call_tuple_reprK h1 h2 h3 na (by simpa using hk) hg (fun b _ => Clear.nil b) (by show X.A.units + 1 + _ < cLine; omega) (fun _ _ z => z) (fun h' u tk k => ⟨_, _, rfl, fin h' u tk k⟩) hF
  | @dct _ kvs ds t0 e l g => exact absurd rfl (nd _)

/-! ### the sizes -/
/-- how much the data of one depth may hold -/
def bb : Nat → Nat
  | 0 => 20
  | k + 1 => 4 * bb k
theorem bb_le (k : Nat) : 20 ≤ bb k := by
  induction k with
  | zero => exact Nat.le_refl _
  | succ k ih => show 20 ≤ 4 * bb k; omega
/- no tuple, in tuples, is long -/
mutual
def slimD : PyData → Bool
  | .tuple ds => decide (ds.length ≤ 60) && slimAll ds
  | _ => true
def slimAll : List PyData → Bool
  | [] => true
  | d :: ds => slimD d && slimAll ds
end
theorem slim_mem {d : PyData} : ∀ {ds : List PyData}, slimAll ds = true → d ∈ ds → slimD d = true
  | [], _, h => nomatch h
  | e :: ds, s, h => by
    simp only [slimAll, Bool.and_eq_true] at s
    rcases List.mem_cons.mp h with rfl | h
    · exact s.1
    · exact slim_mem s.2 h
structure Tame (k : Nat) (d : PyData) : Prop where
  sh : d.showable = true
  lv : d.leavesShort 200 = true
  dp : d.depth ≤ 2 * k + 2
  bk : d.bulk ≤ bb k
  sl : slimD d = true
theorem Tame.up {k : Nat} {d : PyData} (t : Tame k d) : Tame (k + 1) d := ⟨t.sh, t.lv, by have := t.dp; omega, by have := t.bk; have := bb_le k; show _ ≤ 4 * bb k; omega, t.sl⟩

theorem all_of {k : Nat} : ∀ {ds : List PyData}, (∀ d ∈ ds, Tame k d) → PyData.showableAll ds = true ∧ PyData.leavesShortAll 200 ds = true ∧ PyData.depthAll ds ≤ 2 * k + 2 ∧ PyData.bulkAll ds ≤ ds.length * (bb k + 1)
  | [], _ => ⟨by simp only [PyData.showableAll], by simp only [PyData.leavesShortAll], by simp only [PyData.depthAll]; omega, by simp only [PyData.bulkAll]; omega⟩
  | d :: ds, h => by
    obtain ⟨h1, h2, h3, h4⟩ := all_of (ds := ds) fun e z => h e (List.mem_cons_of_mem _ z)
    have t := h d (List.mem_cons_self ..)
    refine ⟨by simp only [PyData.showableAll, t.sh, h1, Bool.and_self], by simp only [PyData.leavesShortAll, t.lv, h2, Bool.and_self], ?_, ?_⟩
    · have := t.dp
      simp only [PyData.depthAll]
      omega
    · have := t.bk
      simp only [PyData.bulkAll, List.length_cons, Nat.add_mul, Nat.one_mul]
      omega
theorem slim_of {k : Nat} : ∀ {ds : List PyData}, (∀ d ∈ ds, Tame k d) → slimAll ds = true
  | [], _ => by simp only [slimAll]
  | d :: ds, h => by simp only [slimAll, (h d (List.mem_cons_self ..)).sl, slim_of fun e z => h e (List.mem_cons_of_mem _ z), Bool.and_self]
theorem slim_ints : ∀ ns : List Int, slimAll (ns.map PyData.int) = true
  | [] => by simp only [List.map_nil, slimAll]
  | i :: ns => by simp only [List.map_cons, slimAll, slimD, slim_ints ns, Bool.and_self]
theorem fit_of {d : PyData} (h1 : d.showable = true) (h2 : d.leavesShort 200 = true) (h3 : d.depth ≤ 60) (h4 : d.bulk ≤ 60000) : Fit d := ⟨h1, h3, by
  have := PyData.shown_le_bulk 200 (by decide) d h2
  rw [sizeLine_eq]
  omega⟩
theorem tame_list {k : Nat} {ds : List PyData} (h : ∀ d ∈ ds, Tame k d) (l : ds.length ≤ 3) : Tame (k + 1) (.list ds) := by
  obtain ⟨h1, h2, h3, h4⟩ := all_of h
  have := bb_le k
  have q : ds.length * (bb k + 1) ≤ 3 * (bb k + 1) := Nat.mul_le_mul_right _ l
  exact ⟨by simp only [PyData.showable, h1], by simp only [PyData.leavesShort, h2], by simp only [PyData.depth]; omega, by simp only [PyData.bulk]; show _ ≤ 4 * bb k; omega, by simp only [slimD]⟩
theorem tame_tuple {k : Nat} {ds : List PyData} (h : ∀ d ∈ ds, Tame k d) (l : ds.length ≤ 3) : Tame (k + 1) (.tuple ds) := by
  obtain ⟨h1, h2, h3, h4⟩ := all_of h
  have := bb_le k
  have q : ds.length * (bb k + 1) ≤ 3 * (bb k + 1) := Nat.mul_le_mul_right _ l
  exact ⟨by simp only [PyData.showable, h1], by simp only [PyData.leavesShort, h2], by simp only [PyData.depth]; omega, by simp only [PyData.bulk]; show _ ≤ 4 * bb k; omega, by simp only [slimD, slim_of h, Bool.and_true]; exact decide_eq_true (by omega)⟩
/-- a number of items, as a datum -/
theorem small_int {n : Nat} (h : n ≤ 3) : PyData.showable (.int n) = true ∧ PyData.leavesShort 200 (.int n) = true := by
  have : n = 0 ∨ n = 1 ∨ n = 2 ∨ n = 3 := by omega
  rcases this with rfl | rfl | rfl | rfl <;> decide +kernel
theorem tame_dict {k : Nat} {ds : List PyData} (h : ∀ d ∈ ds, Tame k d) (l : ds.length ≤ 3) : Tame (k + 1) (.dict [(.str "key", .list ds), (.int 1, .int ds.length)]) := by
  obtain ⟨h1, h2, h3, h4⟩ := all_of h
  have := bb_le k
  have q : ds.length * (bb k + 1) ≤ 3 * (bb k + 1) := Nat.mul_le_mul_right _ l
  have e1 : PyData.showable (.int 1) = true := by decide +kernel
  have e2 : PyData.leavesShort 200 (.int 1) = true := by decide +kernel
  have e3 : PyData.leavesShort 200 (.str "key") = true := by decide +kernel
  have e4 : PyData.bulk (.str "key") = 3 := by decide +kernel
  obtain ⟨e5, e6⟩ := small_int l
  refine ⟨?_, ?_, ?_, ?_, by simp only [slimD]⟩
  · simp only [PyData.showable, PyData.showableKv, h1, Bool.and_true, Bool.true_and] at e1 e5 ⊢
    rw [e1, e5] <;> rfl
  · simp only [PyData.leavesShort, PyData.leavesShortKv, h2, Bool.and_true, Bool.true_and] at e2 e3 e6 ⊢
    rw [e2, e3, e6] <;> rfl
  · simp only [PyData.depth, PyData.depthKv]
    omega
  · simp only [PyData.bulk] at e4
    simp only [PyData.bulk, PyData.bulkKv]
    show _ ≤ 4 * bb k
    omega
theorem tame0 {d : PyData} (h : d = .list [] ∨ d = .tuple [] ∨ d = .dict [(.str "key", .list []), (.int 1, .int 0)]) (k : Nat) : Tame k d := by
  have t : Tame 0 d := by
    rcases h with rfl | rfl | rfl
    · exact ⟨by decide +kernel, by decide +kernel, by decide +kernel, by decide +kernel, by decide +kernel⟩
    · exact ⟨by decide +kernel, by decide +kernel, by decide +kernel, by decide +kernel, by decide +kernel⟩
    · exact ⟨by decide +kernel, by decide +kernel, by decide +kernel, by decide +kernel, by decide +kernel⟩
  induction k with
  | zero => exact t
  | succ k ih => exact ih.up
/-- as many times the same, in a list -/
theorem fit_many {k n : Nat} {d : PyData} (t : Tame k d) (h : n * (bb k + 1) ≤ 60000) (hk : k ≤ 20) : Fit (.list (List.replicate n d)) := by
  obtain ⟨h1, h2, h3, h4⟩ := all_of (k := k) (ds := List.replicate n d) fun e z => by rw [(List.mem_replicate.mp z).2]; exact t
  rw [List.length_replicate] at h4
  exact fit_of (by simp only [PyData.showable, h1]) (by simp only [PyData.leavesShort, h2]) (by simp only [PyData.depth]; omega) (by simp only [PyData.bulk]; omega)
end K0

set_option Elab.async false
set_option linter.all false
set_option maxRecDepth 100000
set_option maxHeartbeats 4000000
/-! The deck of the draws. -/
namespace K0
open PySem PySem.Spec PyProof.Rows L2

def top (i : Nat) : Stmt := PySem.Challenge.pw_oncecrossed_k10_pairings_of_any_value.main.body.getD i (.Pass ⟨0, 0, 0, 0⟩)
abbrev sDeck : Stmt := top 26
abbrev sDraw : Stmt := top 27
abbrev sPick : Stmt := top 28
abbrev sAny : Stmt := top 48

/-- the deck's dict -/
def dkv (c : Addr) (m n : Int) : List (Key × V) := [(.inr "cells", .ref c), (.inr "mixed", .int m), (.inr "draws", .int n)]
theorem nCM : ¬ (Sum.inr ("cells" : Str) : Key) = Sum.inr ("mixed" : Str) := by decide +kernel
theorem nCD : ¬ (Sum.inr ("cells" : Str) : Key) = Sum.inr ("draws" : Str) := by decide +kernel
theorem nMD : ¬ (Sum.inr ("mixed" : Str) : Key) = Sum.inr ("draws" : Str) := by decide +kernel
theorem v_cells {c : Addr} {m n : Int} : valV (dkv c m n) (Sum.inr "cells") = some (.ref c) := valV_pos rfl
theorem v_mixed {c : Addr} {m n : Int} : valV (dkv c m n) (Sum.inr "mixed") = some (.int m) := (valV_neg nCM).trans (valV_pos rfl)
theorem v_draws {c : Addr} {m n : Int} : valV (dkv c m n) (Sum.inr "draws") = some (.int n) := (valV_neg nCD).trans ((valV_neg nMD).trans (valV_pos rfl))
theorem p_draws {c : Addr} {m n k : Int} : putK (dkv c m n) (Sum.inr "draws") (.int k) = dkv c m k := by
  have e : ((dkv c m n).any fun kv => decide (kv.1 = Sum.inr ("draws" : Str))) = true := by rw [valV_any, v_draws] <;> rfl
  unfold putK
  rw [if_pos e]
  show [_, _, _] = [_, _, _]
  simp only [if_neg nCD, if_neg nMD, if_true]

/-- a deck stands at p, its cells at c -/
structure Deck (H : Hp) (p c : Addr) : Prop where
  ex : ∃ (xs : List Int) (m n : Int), H p = some (.dK (dkv c m n)) ∧ H c = some (.lst (xs.map V.int)) ∧ xs.length ≤ 63
/-- all but the deck is kept -/
def Kp (p c : Addr) (H H' : Hp) : Prop := ∀ b o, b ≠ p → b ≠ c → H b = some o → H' b = some o
theorem Kp.trans {p c : Addr} {H H1 H2 : Hp} (a : Kp p c H H1) (b : Kp p c H1 H2) : Kp p c H H2 := fun d o h1 h2 h => b d o h1 h2 (a d o h1 h2 h)
theorem kp_put {p c b : Addr} {H : Hp} {o : HO} (hb : b = p ∨ b = c) : Kp p c H (upd H b o) := fun a u h1 h2 h => by
  rw [upd_ne (fun z => hb.elim (fun y => h1 (z.trans y)) fun y => h2 (z.trans y))]
  exact h
theorem kp_new {p c l : Addr} {H : Hp} {o : HO} (hl : H l = none) : Kp p c H (upd H l o) := fun a u _ _ h => by
  rw [upd_ne (ne_of_none h hl)]
  exact h
theorem Deck.new {p c l : Addr} {H : Hp} {o : HO} (D : Deck H p c) (hl : H l = none) : Deck (upd H l o) p c := by
  obtain ⟨xs, m, n, h1, h2, h3⟩ := D.ex
  exact ⟨xs, m, n, by rw [upd_ne (ne_of_none h1 hl)]; exact h1, by rw [upd_ne (ne_of_none h2 hl)]; exact h2, h3⟩
theorem Deck.put {p c b : Addr} {H : Hp} {o : HO} (D : Deck H p c) (h1 : b ≠ p) (h2 : b ≠ c) : Deck (upd H b o) p c := by
  obtain ⟨xs, m, n, e1, e2, e3⟩ := D.ex
  exact ⟨xs, m, n, by rw [upd_ne h1.symm]; exact e1, by rw [upd_ne h2.symm]; exact e2, e3⟩

/-- draw: a number below n, from the deck -/
def spDraw : Sp := fun vs H Q _ => ∃ (p c : Addr) (n : Int), vs = [.ref p, .int n] ∧ Deck H p c ∧ 1 ≤ n ∧ n < 1000000 ∧ ∀ (r : Int) (H' : Hp), 0 ≤ r → r < n → Deck H' p c → Kp p c H H' → Q (.int r) H'

structure Bi (mg : Str → Option Value) : Prop where
  int : mg "int" = none
  max : mg "max" = none
  len : mg "len" = none
  list : mg "list" = none
  range : mg "range" = none
  tuple : mg "tuple" = none

theorem ints_last {xs : List Int} (h : xs ≠ []) : ∃ z, (xs.map V.int)[(xs.map V.int).length - 1]? = some (V.int z) ∧ (xs.map V.int).dropLast = xs.dropLast.map V.int := by
  refine ⟨xs.getLast h, ?_, ?_⟩
  · rw [List.length_map, List.getElem?_map]
    have := List.getLast?_eq_getElem? (l := xs)
    rw [← this, List.getLast?_eq_some_getLast h] <;> rfl
  · rw [List.map_dropLast]
theorem ints_dp {K : PySem.W.Frag} {H : Hp} : ∀ xs : List Int, DpAll K H (xs.map V.int) (xs.map PyData.int)
  | [] => .nil
  | x :: xs => .cons (.int x) (ints_dp xs)
theorem ints_shaped (xs : List Int) : SeqAt.shaped (.list (xs.map PyData.int)) = true := by
  have h : ∀ ys : List Int, PyData.canLayAll0 (ys.map PyData.int) = true ∧ PyData.depthAll (ys.map PyData.int) = 0 := fun ys => by
    induction ys with
    | nil => exact ⟨by simp [PyData.canLayAll0], by simp [PyData.depthAll]⟩
    | cons y ys ih => exact ⟨by simp [PyData.canLayAll0, PyData.canLay0, ih.1], by simp [PyData.depthAll, PyData.depth, ih.2]⟩
  show (PyData.canLay0 _ && decide (PyData.depth _ ≤ 64)) = true
  rw [Bool.and_eq_true]
  exact ⟨by simp only [PyData.canLay0]; exact (h xs).1, decide_eq_true (by simp only [PyData.depth, (h xs).2]; omega)⟩
/-- what was tracked is tracked -/
theorem Kp.dom {p c : Addr} {H H' : Hp} (k : Kp p c H H') (D : Deck H' p c) {b : Addr} (h : H' b = none) : H b = none := by
  obtain ⟨xs, m, n, e1, e2, _⟩ := D.ex
  cases e : H b with
  | none => rfl
  | some o => rw [k b o (ne_of_none e1 h).symm (ne_of_none e2 h).symm e] at h; cases h
theorem Deck.inp {H : Hp} {p c : Addr} (D : Deck H p c) {b : Addr} (h : H b = none) : b ≠ p ∧ b ≠ c := by
  obtain ⟨xs, m, n, e1, e2, _⟩ := D.ex
  exact ⟨(ne_of_none e1 h).symm, (ne_of_none e2 h).symm⟩
theorem fmod_in {a b : Int} (h : 0 < b) : 0 ≤ a.fmod b ∧ a.fmod b < b := ⟨Int.fmod_nonneg_of_pos a h, Int.fmod_lt_of_pos a h⟩

section
variable {P : Program} {w : World} {K : PySem.W.Frag} {mg : Str → Option Value} {base : Heap}
theorem scDraw : FnScope ["_law_deck_here", "_law_many", "_law_number", "_law_cell"] ["_law_deck_here", "_law_many"] (defScope sDraw) := ⟨rfl, rfl, rfl, by decide +kernel, rfl, by decide +kernel, by decide +kernel⟩
theorem ok_draw {f : Addr} {fd : FuncData} (F : Fun K "_law_draw" "_law_draw" sDraw f fd) (T : Bi mg) : FnOk P w K mg base CX0 1 f fd ["_law_deck_here", "_law_many"] spDraw := by
  refine F.ok scDraw (fun vs H Q E h => ?_) (fun cdv A outer s H vs Q E hr h => ?_)
  · obtain ⟨p, c, n, rfl, _⟩ := h
    rfl
  · obtain ⟨p, c, n, rfl, D, n1, n2, k⟩ := h
    have hu := hu_of hr
    have hu6 : A.units + 3 + 64 < cLine := by have := hr.un; have e : (A.deeper (envOfC "_law_draw" (defScope sDraw) s.heap.objs.size f cdv)).units = A.units + 3 := rfl; omega
    obtain ⟨xs, m, j, h1, h2, h3⟩ := D.ex
    have npc : p ≠ c := ne_of h1 h2 (by intro z; cases z)
    refine ⟨_, pss_cons (ps_dput hu (pv 0) pe_str (pe_op op_add (pe_dget hu (pv 0) pe_str (fun _ _ => rfl)) pe_int) rfl)
      <| pss_cons (ps_set (i := 2) scDraw.nd rfl (.inl rfl) (pe_op op_add (pe_dget hu (pv 0) pe_str (fun _ _ => rfl)) (pe_op op_mul pe_int (pe_dget hu (pv 0) pe_str (fun _ _ => rfl)))))
      <| pss_cons (ps_if (pt_cmpR (op_neD hu6) (pe_dget hu (pv 0) pe_str (fun _ _ => rfl)) (pe_lst pa_nil) (nomark _))
          (pss_cons (ps_set (i := 3) scDraw.nd rfl (.inl rfl) (pe_bm0 PySem.F.plainAttrs_list PySem.F.slot_list_pop PySem.F.type_list_pop mt_pop (pe_dget hu (pv 0) pe_str (fun _ _ => rfl))))
          <| pss_cons (ps_if (pt_cmpR op_ge (pv 3) (pe_op op_pow pe_int pe_int) (nomark _))
              (pss_cons (ps_expr (pe_bm PySem.F.plainAttrs_list PySem.F.slot_list_append PySem.F.type_list_append mt_append (pe_dget hu (pv 0) pe_str (fun _ _ => rfl))
                (pa_cons (pe_op op_fdivN (pv 3) (pe_callB (call_max2 rfl) (by rfl) T.max (by decide +kernel) (pa_cons pe_int (pa_cons (pv 1) pa_nil)))) pa_nil)))
              <| pss_one (ps_ret (pe_op op_modN (pe_callTy call_int1 (by rfl) T.int (by decide +kernel) (pa_cons (pv 3) pa_nil)) (pv 1)))) pss_nil)
          <| pss_one (ps_set (i := 2) scDraw.nd rfl (.inl rfl) (pe_op op_add (pv 2) (pe_op op_modN (pe_callTy call_int1 (by rfl) T.int (by decide +kernel) (pa_cons (pv 3) pa_nil)) pe_int)))) pss_nil)
      <| pss_cons (ps_set (i := 2) scDraw.nd rfl (.inl rfl) (pe_op op_modN (pe_callTy call_int1 (by rfl) T.int (by decide +kernel) (pa_cons (pe_op op_add (pe_op op_mul (pv 2) pe_int) pe_int) pa_nil)) pe_int))
      <| pss_cons (ps_set (i := 2) scDraw.nd rfl (.inl rfl) (pe_op op_modN (pe_callTy call_int1 (by rfl) T.int (by decide +kernel) (pa_cons (pe_op op_add (pe_op op_add (pe_op op_mul (pv 2) (pv 2)) (pe_op op_mul pe_int (pe_dget hu (pv 0) pe_str (fun _ _ => rfl)))) pe_int) pa_nil)) pe_int))
      <| pss_cons (ps_set (i := 2) scDraw.nd rfl (.inl rfl) (pe_op op_modN (pe_callTy call_int1 (by rfl) T.int (by decide +kernel) (pa_cons (pe_op op_mul (pv 2) pe_int) pa_nil)) pe_int))
      <| pss_one (ps_ret (pe_op op_modN (pe_callTy call_int1 (by rfl) T.int (by decide +kernel) (pa_cons (pe_op op_fdivN (pv 2) pe_int) pa_nil)) (pv 1))), ?_⟩
    have g1 : DGet H p (.str "draws") (some (.int j)) := v_draws ▸ DGet.k (k := Sum.inr "draws") h1
    have q1 : DPut H p (.str "draws") (.int (j + 1)) (upd H p (.dK (dkv c m (j + 1)))) := by
      have z := DPut.k (k := Sum.inr "draws") (v := .int (j + 1)) h1 (show (3 : Nat) < sizeLine by rw [sizeLine_eq]; decide)
      rw [p_draws] at z
      exact z
    refine ⟨_, rfl, p, _, rfl, g1, _, _, rfl, rfl, _, rfl, p, _, rfl, q1, ?_⟩
    generalize hH1 : upd H p (.dK (dkv c m (j + 1))) = H1
    have e1 : H1 p = some (.dK (dkv c m (j + 1))) := by rw [← hH1]; exact upd_same
    have e2 : H1 c = some (.lst (xs.map V.int)) := by rw [← hH1, upd_ne npc.symm]; exact h2
    have K1 : Kp p c H H1 := by rw [← hH1]; exact kp_put (.inl rfl)
    have D1 : Deck H1 p c := ⟨xs, m, j + 1, e1, e2, h3⟩
    have gm : DGet H1 p (.str "mixed") (some (.int m)) := v_mixed ▸ DGet.k (k := Sum.inr "mixed") e1
    have gd : ∀ {H' : Hp}, H' p = some (.dK (dkv c m (j + 1))) → DGet H' p (.str "draws") (some (.int (j + 1))) := fun e => v_draws ▸ DGet.k (k := Sum.inr "draws") e
    have gc : ∀ {H' : Hp}, H' p = some (.dK (dkv c m (j + 1))) → DGet H' p (.str "cells") (some (.ref c)) := fun e => v_cells ▸ DGet.k (k := Sum.inr "cells") e
    refine ⟨_, rfl, p, _, rfl, gm, _, rfl, p, _, rfl, gd e1, _, _, rfl, rfl, .inl ⟨by decide, by decide⟩, _, _, rfl, rfl, ?_⟩
    refine ⟨_, rfl, p, _, rfl, gc e1, (by show 0 ≤ sizeLine; exact Nat.zero_le _), fun l hl => ?_⟩
    have e1l : (upd H1 l (.lst [])) p = some (.dK (dkv c m (j + 1))) := by rw [upd_ne (ne_of_none e1 hl)]; exact e1
    have e2l : (upd H1 l (.lst [])) c = some (.lst (xs.map V.int)) := by rw [upd_ne (ne_of_none e2 hl)]; exact e2
    have K2 : Kp p c H (upd H1 l (.lst [])) := K1.trans (kp_new hl)
    refine ⟨.list (xs.map PyData.int), .list [], Dp.lst (SqL.of e2l) (ints_dp xs), Dp.lst (SqL.of upd_same) .nil, ints_shaped xs, by decide, _, rfl, ?_⟩
    by_cases hx : xs = []
    · subst hx
      refine iteF ?_
      refine ⟨_, rfl, _, _, rfl, rfl, .inr ⟨by decide, by decide⟩, _, _, rfl, rfl, .inl ⟨_, rfl, _, _, rfl, rfl, (by show ¬ ((_ : Int) = 0); decide), ?_⟩⟩
      refine ⟨_, rfl, _, rfl, _, _, rfl, rfl, .inl ⟨Int.lt_of_lt_of_le (by decide) (fmod_in (by decide)).1, Int.lt_trans (fmod_in (by decide)).2 (by decide)⟩, _, rfl, p, _, rfl, gd e1l, _, _, rfl, rfl, .inl ⟨by decide, by decide⟩, _, _, rfl, rfl, _, _, rfl, rfl, .inl ⟨_, rfl, _, _, rfl, rfl, (by show ¬ ((_ : Int) = 0); decide), ?_⟩⟩
      refine ⟨_, rfl, _, _, rfl, rfl, .inr ⟨by decide, by decide⟩, .inl ⟨_, rfl, _, _, rfl, rfl, (by show ¬ ((_ : Int) = 0); decide), ?_⟩⟩
      exact ⟨_, rfl, _, _, rfl, rfl, ⟨by decide, by decide⟩, .inl ⟨_, rfl, _, rfl, _, _, rfl, rfl, by omega, k _ _ (fmod_in (by omega)).1 (fmod_in (by omega)).2 (D1.new hl) K2⟩⟩
    · have ev : PyData.eqv (.list (xs.map PyData.int)) (.list []) = false := by
        cases xs with
        | nil => exact absurd rfl hx
        | cons a r => simp [PyData.eqv, PyData.eqvAll]
      rw [ev]
      refine iteT ?_
      obtain ⟨z, z1, z2⟩ := ints_last hx
      refine ⟨_, rfl, p, _, rfl, gc e1l, .inl ⟨rfl, _, SqL.of e2l⟩, c, _, _, rfl, rfl, e2l, z1, ?_⟩
      rw [z2]
      generalize hH3 : upd (upd H1 l (.lst [])) c (.lst (xs.dropLast.map V.int)) = H3
      have e13 : H3 p = some (.dK (dkv c m (j + 1))) := by rw [← hH3, upd_ne npc]; exact e1l
      have e23 : H3 c = some (.lst (xs.dropLast.map V.int)) := by rw [← hH3]; exact upd_same
      have K3 : Kp p c H H3 := by rw [← hH3]; exact K2.trans (kp_put (.inr rfl))
      have l3 : xs.dropLast.length ≤ 62 := by rw [List.length_dropLast]; omega
      have D3 : Deck H3 p c := ⟨xs.dropLast, m, j + 1, e13, e23, by omega⟩
      refine ⟨_, rfl, _, _, rfl, rfl, ⟨by decide, by decide, by decide⟩, _, _, rfl, rfl, _, rfl, ?_⟩
      refine ite2 (fun _ => ?_) (fun _ => ?_)
      · refine ⟨_, rfl, p, _, rfl, gc e13, .inl ⟨rfl, _, SqL.of e23⟩, _, rfl, _, rfl, _, _, rfl, _, _, rfl, rfl, ⟨?_, ?_⟩, c, _, _, rfl, rfl, e23, ?_, ?_⟩
        · split <;> omega
        · split <;> omega
        · rw [List.length_map, sizeLine_eq]; omega
        · have D4 : Deck (upd H3 c (.lst (xs.dropLast.map V.int ++ [V.int (z.fdiv (if n > 2 then n else 2))]))) p c :=
            ⟨xs.dropLast ++ [z.fdiv (if n > 2 then n else 2)], m, j + 1, by rw [upd_ne npc]; exact e13, by rw [upd_same, List.map_append] <;> rfl, by rw [List.length_append]; show _ + 1 ≤ 63; omega⟩
          exact ⟨_, rfl, .inl ⟨_, rfl, _, rfl, _, _, rfl, rfl, by omega, k _ _ (fmod_in (by omega)).1 (fmod_in (by omega)).2 D4 (K3.trans (kp_put (.inr rfl)))⟩⟩
      · refine ⟨_, rfl, _, rfl, .inl ⟨_, rfl, _, _, rfl, rfl, (by show ¬ ((_ : Int) = 0); decide), _, _, rfl, rfl, ?_⟩⟩
        refine ⟨_, rfl, _, _, rfl, rfl, .inr ⟨by decide, by decide⟩, _, _, rfl, rfl, .inl ⟨_, rfl, _, _, rfl, rfl, (by show ¬ ((_ : Int) = 0); decide), ?_⟩⟩
        refine ⟨_, rfl, _, rfl, _, _, rfl, rfl, .inl ⟨Int.lt_of_lt_of_le (by decide) (fmod_in (by decide)).1, Int.lt_trans (fmod_in (by decide)).2 (by decide)⟩, _, rfl, p, _, rfl, gd e13, _, _, rfl, rfl, .inl ⟨by decide, by decide⟩, _, _, rfl, rfl, _, _, rfl, rfl, .inl ⟨_, rfl, _, _, rfl, rfl, (by show ¬ ((_ : Int) = 0); decide), ?_⟩⟩
        refine ⟨_, rfl, _, _, rfl, rfl, .inr ⟨by decide, by decide⟩, .inl ⟨_, rfl, _, _, rfl, rfl, (by show ¬ ((_ : Int) = 0); decide), ?_⟩⟩
        exact ⟨_, rfl, _, _, rfl, rfl, ⟨by decide, by decide⟩, .inl ⟨_, rfl, _, rfl, _, _, rfl, rfl, by omega, k _ _ (fmod_in (by omega)).1 (fmod_in (by omega)).2 D3 K3⟩⟩

/-- a def of the text that others call -/
structure Dn (P : Program) (w : World) (K : PySem.W.Frag) (mg : Str → Option Value) (base : Heap) (name : Str) (k : Nat) (ps : List Str) (sp : Sp) (f : Addr) (fd : FuncData) : Prop where
  g : mg name = some (.ref f)
  kp : PySem.W.keepIn K (.ref f) = true
  b : Binds K fd ps []
  ok : FnOk P w K mg base CX0 k f fd ps sp

/-- pick: an item of a list that stands beside the deck -/
def spPick : Sp := fun vs H Q _ => ∃ (p c l : Addr) (xs : List V), vs = [.ref p, .ref l] ∧ Deck H p c ∧ H l = some (.lst xs) ∧ l ≠ p ∧ l ≠ c ∧ 1 ≤ xs.length ∧ xs.length < 1000 ∧
  ∀ (i : Nat) (v : V) (H' : Hp), xs[i]? = some v → Deck H' p c → Kp p c H H' → Q v H'
theorem scPick : FnScope ["_law_deck_here", "_law_some"] ["_law_deck_here", "_law_some"] (defScope sPick) := ⟨rfl, rfl, rfl, by decide +kernel, rfl, by decide +kernel, by decide +kernel⟩
theorem ok_pick {f fD : Addr} {fd fdD : FuncData} (F : Fun K "_law_pick" "_law_pick" sPick f fd) (T : Bi mg) (G : Dn P w K mg base "_law_draw" 1 ["_law_deck_here", "_law_many"] spDraw fD fdD) :
    FnOk P w K mg base CX0 2 f fd ["_law_deck_here", "_law_some"] spPick := by
  refine F.ok scPick (fun vs H Q E h => ?_) (fun cdv A outer s H vs Q E hr h => ?_)
  · obtain ⟨p, c, l, xs, rfl, _⟩ := h
    rfl
  · obtain ⟨p, c, l, xs, rfl, D, hl, lp, lc, n1, n2, k⟩ := h
    refine ⟨_, pss_one (ps_ret (pe_ix ix_list (pv 1) (pe_call G.ok hr rfl G.g G.kp G.b .nil pass0
      (pa_cons (pv 0) (pa_cons (pe_callB call_len_seq (by rfl) T.len PySem.boot_len (pa_cons (pv 1) pa_nil)) pa_nil))) (fun _ _ => rfl))), ?_⟩
    refine ⟨_, rfl, _, rfl, _, rfl, l, _, rfl, .inl (SqL.of hl), p, c, _, rfl, D, by omega, by omega, fun r H' r0 r1 D' K' => ?_⟩
    have hl' := K' l _ lp lc hl
    obtain ⟨i, rfl⟩ : ∃ i : Nat, r = i := ⟨r.toNat, by omega⟩
    have hi : i < xs.length := by omega
    exact ⟨l, _, _, _, rfl, rfl, SqL.of hl', atI_nat (List.getElem?_eq_getElem hi), k i _ H' (List.getElem?_eq_getElem hi) D' K'⟩
end
end K0

set_option Elab.async false
set_option linter.all false
set_option maxRecDepth 100000
set_option maxHeartbeats 4000000
/-! The deck made; any value. -/
namespace K0
open PySem PySem.Spec PyProof.Rows L2

theorem cut63 (ns : List Int) : cutV (ns.map V.int) none (some 63) = (ns.take 63).map V.int := by
  unfold cutV
  rw [HT.sIx_none, show (some (63 : Int)) = some ((63 : Nat) : Int) from rfl, HT.sIx_nat, List.drop_zero, Nat.sub_zero, List.length_map, List.map_take]
  by_cases h : 63 ≤ ns.length
  · rw [Nat.min_eq_left h]
  · rw [Nat.min_eq_right (by omega), List.take_of_length_le (by rw [List.length_map]; exact Nat.le_refl _), List.take_of_length_le (by rw [List.length_map]; omega)]
theorem deck_kvs {c : Addr} {m : Int} : mergeK [] [(Sum.inr ("cells" : Str), V.ref c), (Sum.inr ("mixed" : Str), V.int m), (Sum.inr ("draws" : Str), V.int 0)] = dkv c m 0 := by
  have e1 : putK ([] : List (Key × V)) (Sum.inr ("cells" : Str)) (V.ref c) = [(Sum.inr ("cells" : Str), V.ref c)] := putK_new _ rfl
  have e2 : putK [(Sum.inr ("cells" : Str), V.ref c)] (Sum.inr ("mixed" : Str) : Key) (V.int m) = [(Sum.inr ("cells" : Str), V.ref c)] ++ [(Sum.inr ("mixed" : Str), V.int m)] := putK_new _ ((valV_neg nCM).trans rfl)
  have e3 : putK ([(Sum.inr ("cells" : Str), V.ref c)] ++ [(Sum.inr ("mixed" : Str), V.int m)]) (Sum.inr ("draws" : Str) : Key) (V.int 0) = ([(Sum.inr ("cells" : Str), V.ref c)] ++ [(Sum.inr ("mixed" : Str), V.int m)]) ++ [(Sum.inr ("draws" : Str), V.int 0)] :=
    putK_new _ ((valV_neg nCD).trans ((valV_neg nMD).trans rfl))
  unfold mergeK
  simp only [List.foldl_cons, List.foldl_nil]
  rw [e1, e2, e3]
  rfl
theorem int_of {ns : List Int} {i : Nat} {y : V} (h : (ns.map V.int)[i]? = some y) : ∃ z, y = V.int z := by
  rw [List.getElem?_map] at h
  cases e : ns[i]? with
  | none => rw [e] at h; cases h
  | some z => rw [e] at h; exact ⟨z, (Option.some.inj h).symm⟩

/-- the deck of a script -/
def spDeck (K : PySem.W.Frag) : Sp := fun vs H Q _ => ∃ (a : Addr) (ns : List Int), vs = [.ref a] ∧ SqL K H a (ns.map V.int) ∧ ∀ (p c : Addr) (H' : Hp), Deck H' p c → Same H H' → H p = none → H c = none → Q (.ref p) H'
section
variable {P : Program} {w : World} {K : PySem.W.Frag} {mg : Str → Option Value} {base : Heap}
theorem scDeck : FnScope ["_law_script", "_law_mixed", "_law_cell"] ["_law_script"] (defScope sDeck) := ⟨rfl, rfl, rfl, by decide +kernel, rfl, by decide +kernel, by decide +kernel⟩
theorem same_new {H : Hp} {l : Addr} {o : HO} (h : H l = none) : Same H (upd H l o) := fun b u e => by rw [upd_ne (ne_of_none e h)]; exact e
theorem ok_deck {f : Addr} {fd : FuncData} (F : Fun K "_law_deck" "_law_deck" sDeck f fd) (T : Bi mg) : FnOk P w K mg base CX0 1 f fd ["_law_script"] (spDeck K) := by
  refine F.ok scDeck (fun vs H Q E h => ?_) (fun cdv A outer s H vs Q E hr h => ?_)
  · obtain ⟨a, ns, rfl, _⟩ := h
    rfl
  · obtain ⟨a, ns, rfl, hS, k⟩ := h
    refine ⟨_, pss_cons (ps_set (i := 1) scDeck.nd rfl (.inl rfl) pe_int)
      <| pss_cons (ps_for PassesOwn.never rfl (pi_list (pe_slice sl_list (pv 0) po_none (po_some pe_int))) (pg_name (i := 2) scDeck.nd rfl (.inl rfl))
          (pss_one (ps_set (i := 1) scDeck.nd rfl (.inl rfl) (pe_op op_modN (pe_callTy call_int1 (by rfl) T.int (by decide +kernel) (pa_cons (pe_op op_add (pe_op op_add (pe_op op_mul (pv 1) pe_int)
            (pe_op op_modN (pe_callTy call_int1 (by rfl) T.int (by decide +kernel) (pa_cons (pv 2) pa_nil)) pe_int)) pe_int) pa_nil)) pe_int))))
      <| pss_one (ps_ret (pe_disp (pps_cons pe_str (pe_revL (pe_callTy call_list_of (by rfl) T.list (by decide +kernel) (pa_cons (pe_slice sl_list (pv 0) po_none (po_some pe_int)) pa_nil)))
          (pps_cons pe_str (pv 1) (pps_cons pe_str pe_int pps_nil))) rfl rfl (fun z => nomatch z) (by decide))), ?_⟩
    refine ⟨_, rfl, _, rfl, a, _, rfl, hS, fun p0 hp0 => ?_⟩
    rw [cut63]
    have s0 : Same H (upd H p0 (.lst ((ns.take 63).map V.int))) := same_new hp0
    refine ⟨p0, rfl, ⟨_, SqL.of upd_same⟩, for_list (K := K) (a := p0) (xs := (ns.take 63).map V.int) (fun i σ H2 => ∃ (m : Int) (v : Option V), σ = [some (.ref a), some (.int m), v] ∧ H2 = upd H p0 (.lst ((ns.take 63).map V.int)))
      ⟨_, none, rfl, rfl⟩ (fun i σ H2 _ ⟨_, _, _, e⟩ => by rw [e]; exact SqL.of upd_same) ?_ ?_⟩
    · rintro i y σ H2 hi ⟨m, v, rfl, rfl⟩
      obtain ⟨z, rfl⟩ := int_of hi
      exact ⟨_, rfl, _, _, rfl, rfl, .inr ⟨by decide, by decide⟩, _, rfl, .inl ⟨_, rfl, _, _, rfl, rfl, (by show ¬ ((_ : Int) = 0); decide), _, _, rfl, rfl, _, _, rfl, rfl, .inl ⟨_, rfl, _, _, rfl, rfl, (by show ¬ ((_ : Int) = 0); decide), _, _, rfl, rfl⟩⟩⟩
    · rintro σ H2 ⟨m, v, rfl, rfl⟩
      intro p hp
      have s1 : Same H (upd (upd H p0 (.lst ((ns.take 63).map V.int))) p (.dK [])) := s0.trans (same_new hp)
      refine ⟨_, rfl, _, rfl, a, _, rfl, s1.seq hS, fun p1 hp1 => ?_⟩
      rw [cut63]
      refine ⟨p1, _, rfl, .inl (SqL.of upd_same), fun l hl => ⟨l, _, rfl, SqL.of upd_same, fun c hc => ?_⟩⟩
      have s2 := ((s1.trans (same_new (o := .lst ((ns.take 63).map V.int)) hp1)).trans (same_new (o := .lst ((ns.take 63).map V.int)) hl)).trans (same_new (o := .lst ((ns.take 63).map V.int).reverse) hc)
      have np1 : p ≠ p1 := ne_of_none upd_same hp1
      have npl : p ≠ l := ne_of_none (o := .dK []) (by rw [upd_ne np1]; exact upd_same) hl
      have npc : p ≠ c := ne_of_none (o := .dK []) (by rw [upd_ne npl, upd_ne np1]; exact upd_same) hc
      refine ⟨_, rfl, ?_, [(Sum.inr ("cells" : Str), V.ref c), (Sum.inr ("mixed" : Str), V.int m), (Sum.inr ("draws" : Str), V.int 0)], rfl, (by show 3 ≤ 15; decide), ?_⟩
      · rw [upd_ne npc, upd_ne npl, upd_ne np1]
        exact upd_same
      · rw [deck_kvs]
        have hpH : H p = none := s0.free hp
        have hcH : H c = none := by
          have z := hc
          rw [upd_ne (ne_of_none upd_same hc).symm] at z
          exact ((s1.trans (same_new (o := .lst ((ns.take 63).map V.int)) hp1))).free z
        refine k p c _ ⟨(ns.take 63).reverse, m, 0, upd_same, ?_, ?_⟩ (fun b o e => ?_) hpH hcH
        · rw [upd_ne npc.symm, upd_same, List.map_reverse]
        · rw [List.length_reverse, List.length_take]; omega
        · rw [upd_ne (ne_of_none e hpH)]
          exact s2 b o e

theorem int_mem {ns : List Int} {i : Nat} {v : V} (h : (ns.map V.int)[i]? = some v) : ∃ z, z ∈ ns ∧ v = V.int z := by
  obtain ⟨z, h1, h2⟩ := List.mem_map.mp (List.mem_of_getElem? h)
  exact ⟨z, h1, h2.symm⟩
theorem str_mem {ns : List Str} {i : Nat} {v : V} (h : (ns.map V.str)[i]? = some v) : ∃ z, z ∈ ns ∧ v = V.str z := by
  obtain ⟨z, h1, h2⟩ := List.mem_map.mp (List.mem_of_getElem? h)
  exact ⟨z, h1, h2.symm⟩
theorem tame_plain {d : PyData} (h : (∃ b, d = .bool b) ∨ d = .none) (k : Nat) : Tame k d := by
  rcases h with ⟨b, rfl⟩ | rfl <;> exact ⟨by simp only [PyData.showable], by simp only [PyData.leavesShort], by simp only [PyData.depth]; omega, by simp only [PyData.bulk]; omega, by simp only [slimD]⟩
theorem items_snoc {R : V → PyData → Prop} {xs : List V} {ds : List PyData} {v : V} {d : PyData} (l : xs.length = ds.length) (h : ∀ (j : Nat) (a : V) (b : PyData), xs[j]? = some a → ds[j]? = some b → R a b) (r : R v d) :
    ∀ (j : Nat) (a : V) (b : PyData), (xs ++ [v])[j]? = some a → (ds ++ [d])[j]? = some b → R a b := fun j a b q1 q2 => by
  by_cases hj : j < xs.length
  · rw [List.getElem?_append_left hj] at q1
    rw [List.getElem?_append_left (by omega)] at q2
    exact h j a b q1 q2
  · rw [List.getElem?_append_right (by omega)] at q1
    rw [List.getElem?_append_right (by omega)] at q2
    have z : j - xs.length = 0 := by
      cases e : j - xs.length with
      | zero => rfl
      | succ n => rw [e] at q1; simp at q1
    rw [z] at q1
    rw [show j - ds.length = 0 by omega] at q2
    cases q1
    cases q2
    exact r
theorem dict_kvs {l : Addr} {n : Int} : mergeK [] [(Sum.inr ("key" : Str), V.ref l), (Sum.inl 1, V.int n)] = [(Sum.inr ("key" : Str), V.ref l), (Sum.inl 1, V.int n)] := by
  have e1 : putK ([] : List (Key × V)) (Sum.inr ("key" : Str)) (V.ref l) = [(Sum.inr ("key" : Str), V.ref l)] := putK_new _ rfl
  have e2 : putK [(Sum.inr ("key" : Str), V.ref l)] (Sum.inl 1 : Key) (V.int n) = [(Sum.inr ("key" : Str), V.ref l)] ++ [(Sum.inl 1, V.int n)] := putK_new _ ((valV_neg (p := (Sum.inr ("key" : Str), V.ref l)) (r := []) (fun z : (Sum.inr ("key" : Str) : Key) = Sum.inl 1 => by cases z)).trans rfl)
  unfold mergeK
  simp only [List.foldl_cons, List.foldl_nil]
  rw [e1, e2]
  rfl
/-- no tuple that is not known whole, none that is long -/
def NT (H : Hp) (v : V) : Prop := ∀ a xs, v = .ref a → H a ≠ some (.tup xs) ∧ (KR.TupX H a xs → xs.length ≤ 60)
theorem nt_int {H : Hp} {i : Int} : NT H (.int i) := fun _ _ z => nomatch z
theorem nt_str {H : Hp} {x : Str} : NT H (.str x) := fun _ _ z => nomatch z
theorem nt_bl {H : Hp} {b : Bool} : NT H (.bl b) := fun _ _ z => nomatch z
theorem nt_non {H : Hp} : NT H .non := fun _ _ z => nomatch z
theorem nt_at {H : Hp} {a : Addr} {o : HO} (e : H a = some o) (h : ∀ xs, o ≠ .tup xs) (h2 : ∀ ob xs, o ≠ .frz ob (.tup xs)) : NT H (.ref a) := fun b xs z => by
  cases z
  rw [e]
  refine ⟨fun q => h xs (Option.some.inj q), fun ⟨us, q⟩ => ?_⟩
  rw [e] at q
  exact absurd (Option.some.inj q) (h2 _ xs)
theorem nt_lst {H : Hp} {a : Addr} {ys : List V} (e : H a = some (.lst ys)) : NT H (.ref a) := nt_at e (fun _ z => nomatch z) fun _ _ z => nomatch z
theorem nt_dk {H : Hp} {a : Addr} {ys : List (Key × V)} (e : H a = some (.dK ys)) : NT H (.ref a) := nt_at e (fun _ z => nomatch z) fun _ _ z => nomatch z
theorem nt_frz {H : Hp} {a : Addr} {us : List Value} {ys : List V} (e : H a = some (.frz (KR.tobj us) (.tup ys))) (l : ys.length ≤ 60) : NT H (.ref a) := fun b xs z => by
  cases z
  refine ⟨fun q => ?_, fun t => ?_⟩
  · rw [e] at q
    cases q
  · rw [t.inj ⟨us, e⟩]
    exact l
/-- any value, at a depth below d -/
def spAny (d : Nat) : Sp := fun vs H Q _ => ∃ (p c : Addr) (k : Nat), vs = [.ref p, .int k] ∧ k < d ∧ Deck H p c ∧
  ∀ (v : V) (e : PyData) (H' : Hp), Tame k e → DV H' (fun a => H a = none) v e → NT H' v → Deck H' p c → Kp p c H H' → Q v H'
abbrev nAny : List Str := ["_law_deck_here", "_law_deep", "_law_way", "_law_some", "_law_turn"]
theorem scAny : FnScope nAny ["_law_deck_here", "_law_deep"] (defScope sAny) := ⟨rfl, rfl, rfl, by decide +kernel, rfl, by decide +kernel, by decide +kernel⟩

/-- the menus -/
def menuI : List Int := [0, 1, -1, 2, 7, 12, 13, 40, 10 ^ 49 * 10 ^ 50, -(10 ^ 20)]
def menuS : List Str := ["", "a", "(0, 1)", "places 2\n0 1", "~", "lot", "True", "0"]
theorem int_tame : ∀ i ∈ menuI, PyData.showable (.int i) = true ∧ PyData.leavesShort 200 (.int i) = true := by decide +kernel
theorem str_tame : ∀ x ∈ menuS, PyData.leavesShort 200 (.str x) = true ∧ x.cps.size ≤ 12 := by decide +kernel
theorem tame_int {i : Int} (h : i ∈ menuI) (k : Nat) : Tame k (.int i) := ⟨(int_tame i h).1, (int_tame i h).2, by simp only [PyData.depth]; omega, by simp only [PyData.bulk]; omega, by simp only [slimD]⟩
theorem tame_str {x : Str} (h : x ∈ menuS) (k : Nat) : Tame k (.str x) := ⟨by simp only [PyData.showable], (str_tame x h).1, by simp only [PyData.depth]; omega, by
  have := (str_tame x h).2
  have := bb_le k
  simp only [PyData.bulk]; omega, by simp only [slimD]⟩

theorem ok_any {f fD fP : Addr} {fd fdD fdP : FuncData} (F : Fun K "_law_any" "_law_any" sAny f fd) (mf : mg "_law_any" = some (.ref f)) (bf : Binds K fd ["_law_deck_here", "_law_deep"] []) (T : Bi mg)
    (GD : Dn P w K mg base "_law_draw" 1 ["_law_deck_here", "_law_many"] spDraw fD fdD) (GP : Dn P w K mg base "_law_pick" 2 ["_law_deck_here", "_law_some"] spPick fP fdP) :
    ∀ d : Nat, FnOk P w K mg base CX0 (d + 2) f fd ["_law_deck_here", "_law_deep"] (spAny d) := by
  intro d
  induction d with
  | zero => exact ⟨fun vs H Q E ⟨p, c, k, _, hk, _⟩ => absurd hk (Nat.not_lt_zero _), fun A outer s H args us vs Q E _ _ _ _ ⟨p, c, k, _, hk, _⟩ => absurd hk (Nat.not_lt_zero _)⟩
  | succ d ih =>
    refine F.ok scAny (fun vs H Q E h => ?_) (fun cdv A outer s H vs Q E hr h => ?_)
    · obtain ⟨p, c, k, rfl, _⟩ := h
      rfl
    · obtain ⟨p, c, dk, rfl, hdk, D, k⟩ := h
      have hr1 : Room 1 (A.deeper (envOfC "_law_any" (defScope sAny) s.heap.objs.size f cdv)) := hr.mono (by omega)
      have hr2 : Room 2 (A.deeper (envOfC "_law_any" (defScope sAny) s.heap.objs.size f cdv)) := hr.mono (by omega)
      refine ⟨_, pss_cons (ps_set (i := 2) scAny.nd rfl (.inl rfl) (pe_call GD.ok hr1 rfl GD.g GD.kp GD.b .nil pass0 (pa_cons (pv 0) (pa_cons pe_int pa_nil))))
        <| pss_cons (ps_if (pt_cmpR op_lt (pv 2) pe_int (nomark _)) (pss_one (ps_ret (pe_call GP.ok hr2 rfl GP.g GP.kp GP.b .nil pass0 (pa_cons (pv 0) (pa_cons (pe_lst
            (pa_cons pe_int (pa_cons pe_int (pa_cons (pe_un un_neg pe_int) (pa_cons pe_int (pa_cons pe_int (pa_cons pe_int (pa_cons pe_int (pa_cons pe_int (pa_cons (pe_op op_mulW (pe_op op_pow pe_int pe_int) (pe_op op_pow pe_int pe_int))
            (pa_cons (pe_un un_neg (pe_op op_pow pe_int pe_int)) pa_nil))))))))))) pa_nil))))) pss_nil)
        <| pss_cons (ps_if (pt_cmpR op_lt (pv 2) pe_int (nomark _)) (pss_one (ps_ret (pe_call GP.ok hr2 rfl GP.g GP.kp GP.b .nil pass0 (pa_cons (pv 0) (pa_cons (pe_lst
            (pa_cons pe_str (pa_cons pe_str (pa_cons pe_str (pa_cons pe_str (pa_cons pe_str (pa_cons pe_str (pa_cons pe_str (pa_cons pe_str pa_nil))))))))) pa_nil))))) pss_nil)
        <| pss_cons (ps_if (pt_cmpR op_eq (pv 2) pe_int (nomark _)) (pss_one (ps_ret (pe_call GP.ok hr2 rfl GP.g GP.kp GP.b .nil pass0 (pa_cons (pv 0) (pa_cons (pe_lst (pa_cons pe_bl (pa_cons pe_bl (pa_cons pe_non pa_nil)))) pa_nil))))) pss_nil)
        <| pss_cons (ps_set (i := 3) scAny.nd rfl (.inl rfl) (pe_ifExp (pt_cmpR op_gt (pv 1) pe_int (nomark _))
            (pe_lc (own := [("_law_turn", 4)]) (g := gName 4) (tt := tYes) rfl scAny.nd (pi_range1 rfl T.range (pa_cons (pe_call GD.ok hr1 rfl GD.g GD.kp GD.b .nil pass0 (pa_cons (pv 0) (pa_cons pe_int pa_nil))) pa_nil))
              (blkOk_by (N := nAny) (sc := defScope sAny) (by decide +kernel)) (fun _ _ _ _ _ => pg_name (i := 4) scAny.nd rfl (Or.inl rfl)) (fun _ _ _ _ _ => pts_nil)
              (fun _ _ _ _ _ => pe_call ih hr rfl mf F.kp bf .nil pass0 (pa_cons (pv 0) (pa_cons (pe_op op_sub (pv 1) pe_int) pa_nil))))
            (pe_lst pa_nil)))
        <| pss_cons (ps_if (pt_cmpR op_eq (pv 2) pe_int (nomark _)) (pss_one (ps_ret (pv 3))) pss_nil)
        <| pss_one (ps_ret (pe_ifExp (pt_cmpR op_eq (pv 2) pe_int (nomark _)) (pe_disp (pps_cons pe_str (pv 3) (pps_cons pe_int (pe_callB call_len_seq (by rfl) T.len PySem.boot_len (pa_cons (pv 3) pa_nil)) pps_nil)) rfl rfl (fun z => nomatch z) (by decide))
            (pe_callTy KR.call_tupF (by rfl) T.tuple (by decide +kernel) (pa_cons (pv 3) pa_nil)))), ?_⟩
      have cp : ∀ {a : Int} {n : Nat}, n ≤ 1000 → a.natAbs < 2 ^ 64 → CPow a (n : Int) := fun h1 h2 => ⟨Int.natCast_nonneg _, by omega, h2⟩
      refine ⟨_, rfl, p, c, _, rfl, D, by decide, by decide, fun way H1 w0 w1 D1 K1 => ?_⟩
      refine ⟨_, rfl, _, _, rfl, rfl, _, rfl, ite2 (fun _ => ?_) (fun _ => ?_)⟩
      · refine ⟨_, rfl, _, rfl, _, _, rfl, rfl, cp (n := 49) (by decide) (by decide), _, _, rfl, rfl, cp (n := 50) (by decide) (by decide), _, _, rfl, rfl, ?_, _, _, rfl, rfl, cp (n := 20) (by decide) (by decide), _, rfl, ?_, fun l hl => ?_⟩
        · show CMulW (10 ^ 49) (10 ^ 50)
          unfold CMulW
          decide +kernel
        · show 10 ≤ sizeLine; rw [sizeLine_eq]; decide
        · obtain ⟨lp, lc⟩ := D1.inp hl
          refine ⟨p, c, l, _, rfl, D1.new hl, upd_same, lp, lc, (by show 1 ≤ 10; decide), (by show 10 < 1000; decide), fun i v H' e D' K' => ?_⟩
          obtain ⟨z, hz, rfl⟩ := int_mem (ns := menuI) e
          exact k _ _ H' (tame_int hz _) (.int z) nt_int D' (K1.trans ((kp_new hl).trans K'))
      refine ⟨_, rfl, _, _, rfl, rfl, _, rfl, ite2 (fun _ => ?_) (fun _ => ?_)⟩
      · refine ⟨_, rfl, ?_, fun l hl => ?_⟩
        · show 8 ≤ sizeLine; rw [sizeLine_eq]; decide
        · obtain ⟨lp, lc⟩ := D1.inp hl
          refine ⟨p, c, l, _, rfl, D1.new hl, upd_same, lp, lc, (by show 1 ≤ 8; decide), (by show 8 < 1000; decide), fun i v H' e D' K' => ?_⟩
          obtain ⟨z, hz, rfl⟩ := str_mem (ns := menuS) e
          exact k _ _ H' (tame_str hz _) (.str z) nt_str D' (K1.trans ((kp_new hl).trans K'))
      refine ⟨_, rfl, rfl, _, rfl, ite2 (fun _ => ?_) (fun _ => ?_)⟩
      · refine ⟨_, rfl, ?_, fun l hl => ?_⟩
        · show 3 ≤ sizeLine; rw [sizeLine_eq]; decide
        · obtain ⟨lp, lc⟩ := D1.inp hl
          refine ⟨p, c, l, _, rfl, D1.new hl, upd_same, lp, lc, (by show 1 ≤ 3; decide), (by show 3 < 1000; decide), fun i v H' e D' K' => ?_⟩
          have hv : v = .bl true ∨ v = .bl false ∨ v = .non := by
            have q := List.mem_of_getElem? e
            simpa using q
          rcases hv with rfl | rfl | rfl
          · exact k _ (.bool true) H' (tame_plain (.inl ⟨_, rfl⟩) _) (.bl true) nt_bl D' (K1.trans ((kp_new hl).trans K'))
          · exact k _ (.bool false) H' (tame_plain (.inl ⟨_, rfl⟩) _) (.bl false) nt_bl D' (K1.trans ((kp_new hl).trans K'))
          · exact k _ .none H' (tame_plain (.inr rfl) _) (.non) nt_non D' (K1.trans ((kp_new hl).trans K'))
      refine ⟨_, rfl, _, _, rfl, rfl, _, rfl, ite2 (fun hgt => ?_) (fun hgt => ?_)⟩
      · have hk1 : 1 ≤ dk := by have := of_decide_eq_true hgt; omega
        refine ⟨_, rfl, p, c, _, rfl, D1, by decide, by decide, fun r H2 r0 r1 D2 K2 => ⟨_, rfl, by omega, by omega, fun l hl => ?_⟩⟩
        have K02 : Kp p c H H2 := K1.trans K2
        obtain ⟨lp, lc⟩ := D2.inp hl
        have hlH : H l = none := K02.dom D2 hl
        refine lc_range (n := r.toNat) (fun i H3 => ∃ (xs : List V) (ds : List PyData), H3 l = some (.lst xs) ∧ xs.length = i ∧ ds.length = i ∧ (∀ d ∈ ds, Tame (dk - 1) d) ∧ Deck H3 p c ∧ Kp p c H H3 ∧
            ∀ (j : Nat) (v : V) (d : PyData), xs[j]? = some v → ds[j]? = some d → DV H3 (fun a => H a = none ∧ a ≠ l) v d)
          ⟨[], [], upd_same, rfl, rfl, (fun _ z => nomatch z), D2.new hl, K02.trans (kp_new hl), fun j v d z => by simp at z⟩ ?_ ?_
        · rintro i H3 hi ⟨xs, ds, e1, e2, e3, e4, D3, K3, e5⟩
          refine ⟨rfl, ?_⟩
          unfold tYes
          refine iteT ?_
          refine ⟨_, rfl, _, rfl, _, _, rfl, rfl, p, c, dk - 1, ?_, by omega, D3, fun v e H4 t dv _ D4 K4 => ?_⟩
          · show [V.ref p, V.int ((dk : Int) - 1)] = [V.ref p, V.int ((dk - 1 : Nat) : Int)]
            rw [show ((dk : Int) - 1) = ((dk - 1 : Nat) : Int) by omega]
          · have e1' := K4 l _ lp lc e1
            refine ⟨xs, e1', by rw [e2, sizeLine_eq]; omega, xs ++ [v], ds ++ [e], upd_same, by rw [List.length_append, e2]; rfl, by rw [List.length_append, e3]; rfl, fun d' z => ?_, D4.put lp lc, fun b o h1 h2 q => ?_, items_snoc (e2.trans e3.symm) (fun j a b q1 q2 => ?_) ?_⟩
            · rcases List.mem_append.mp z with z | z
              · exact e4 _ z
              · rw [List.mem_singleton.mp z]; exact t
            · rw [upd_ne (ne_of_none q hlH)]
              exact K4 b o h1 h2 (K3 b o h1 h2 q)
            · refine (e5 j a b q1 q2).mono fun x o t' z => ⟨t', ?_⟩
              obtain ⟨x1, x2⟩ := D.inp t'.1
              rw [upd_ne t'.2]
              exact K4 x o x1 x2 z
            · refine dv.mono fun x o t' z => ?_
              have nx : x ≠ l := (ne_of_none e1 t').symm
              exact ⟨⟨K3.dom D3 t', nx⟩, by rw [upd_ne nx]; exact z⟩
        · rintro H3 ⟨xs, ds, e1, e2, e3, e4, D3, K3, e5⟩
          have tm : ∀ d, (d = .list ds ∨ d = .tuple ds ∨ d = .dict [(.str "key", .list ds), (.int 1, .int ds.length)]) → Tame dk d := fun d z => by
            obtain ⟨j, rfl⟩ : ∃ j, dk = j + 1 := ⟨dk - 1, by omega⟩
            have e4' : ∀ d ∈ ds, Tame j d := e4
            rcases z with rfl | rfl | rfl
            · exact tame_list e4' (by omega)
            · exact tame_tuple e4' (by omega)
            · exact tame_dict e4' (by omega)
          refine ⟨_, rfl, rfl, _, rfl, ite2 (fun _ => ?_) (fun _ => ?_)⟩
          · exact ⟨_, rfl, k (.ref l) (.list ds) H3 (tm _ (.inl rfl)) (.lst hlH e1 (e2.trans e3.symm) fun j v d q1 q2 => (e5 j v d q1 q2).mono fun a o t q => ⟨t.1, q⟩) (nt_lst e1) D3 K3⟩
          refine ⟨_, rfl, rfl, _, rfl, ite2 (fun _ => ?_) (fun _ => ?_)⟩
          · intro q hq
            have nlq : l ≠ q := ne_of_none e1 hq
            have e1q : (upd H3 q (.dK [])) l = some (.lst xs) := by rw [upd_ne nlq]; exact e1
            refine ⟨_, rfl, _, rfl, l, _, rfl, .inl (SqL.of e1q), upd_same, [(Sum.inr ("key" : Str), V.ref l), (Sum.inl 1, V.int xs.length)], rfl, (by show 2 ≤ 15; decide), ?_⟩
            rw [upd_upd, dict_kvs]
            have hqH : H q = none := K3.dom D3 hq
            obtain ⟨qp, qc⟩ := D3.inp hq
            refine k (.ref q) (.dict [(.str "key", .list ds), (.int 1, .int ds.length)]) _ (tm _ (.inr (.inr rfl))) ?_ (nt_dk upd_same) (D3.new hq) (K3.trans (kp_new hq))
            refine DV.dct (kvs := [(Sum.inr ("key" : Str), V.ref l), (Sum.inl 1, V.int xs.length)]) (ds := [.list ds, .int ds.length]) hqH upd_same rfl fun j v d q1 q2 => ?_
            match j, q1, q2 with
            | 0, q1, q2 =>
              cases q1
              cases q2
              exact .lst hlH (by rw [upd_ne nlq]; exact e1) (e2.trans e3.symm) fun j v d q1 q2 => (e5 j v d q1 q2).mono fun a o t z => ⟨t.1, by rw [upd_ne (ne_of_none z hq)]; exact z⟩
            | 1, q1, q2 =>
              cases q1
              cases q2
              rw [e2, e3]
              exact .int _
            | j + 2, q1, q2 => simp at q1
          · refine ⟨_, rfl, l, _, rfl, SqL.of e1, fun t us ht => ?_⟩
            exact k (.ref t) (.tuple ds) _ (tm _ (.inr (.inl rfl))) (.tup (K3.dom D3 ht) (.inr ⟨us, upd_same⟩) (e2.trans e3.symm) fun j v d q1 q2 => (e5 j v d q1 q2).mono fun a o t' z => ⟨t'.1, by rw [upd_ne (ne_of_none z ht)]; exact z⟩) (nt_frz upd_same (by omega)) (D3.new ht) (K3.trans (kp_new ht))
      · refine ⟨Nat.zero_le _, fun l hl => ?_⟩
        have hlH : H l = none := K1.dom D1 hl
        obtain ⟨xs, hxs⟩ : ∃ xs : List V, xs = [] := ⟨_, rfl⟩
        obtain ⟨ds, hds⟩ : ∃ ds : List PyData, ds = [] := ⟨_, rfl⟩
        generalize hH3 : upd H1 l (.lst []) = H3
        have e1 : H3 l = some (.lst xs) := by rw [← hH3, hxs]; exact upd_same
        have D3 : Deck H3 p c := by rw [← hH3]; exact D1.new hl
        have K3 : Kp p c H H3 := by rw [← hH3]; exact K1.trans (kp_new hl)
        have e2 : xs.length = 0 := by rw [hxs]; rfl
        have e3 : ds.length = 0 := by rw [hds]; rfl
        have e5 : ∀ (j : Nat) (v : V) (d : PyData), xs[j]? = some v → ds[j]? = some d → DV H3 (fun a => H a = none ∧ a ≠ l) v d := fun j v d z => by rw [hxs] at z; simp at z
        have tm : ∀ d, (d = .list ds ∨ d = .tuple ds ∨ d = .dict [(.str "key", .list ds), (.int 1, .int ds.length)]) → Tame dk d := fun d z => by
          rw [hds] at z
          exact tame0 (by simpa using z) dk
        refine ⟨_, rfl, rfl, _, rfl, ite2 (fun _ => ?_) (fun _ => ?_)⟩
        · exact ⟨_, rfl, k (.ref l) (.list ds) H3 (tm _ (.inl rfl)) (.lst hlH e1 (e2.trans e3.symm) fun j v d q1 q2 => (e5 j v d q1 q2).mono fun a o t q => ⟨t.1, q⟩) (nt_lst e1) D3 K3⟩
        refine ⟨_, rfl, rfl, _, rfl, ite2 (fun _ => ?_) (fun _ => ?_)⟩
        · intro q hq
          have nlq : l ≠ q := ne_of_none e1 hq
          have e1q : (upd H3 q (.dK [])) l = some (.lst xs) := by rw [upd_ne nlq]; exact e1
          refine ⟨_, rfl, _, rfl, l, _, rfl, .inl (SqL.of e1q), upd_same, [(Sum.inr ("key" : Str), V.ref l), (Sum.inl 1, V.int xs.length)], rfl, (by show 2 ≤ 15; decide), ?_⟩
          rw [upd_upd, dict_kvs]
          have hqH : H q = none := K3.dom D3 hq
          obtain ⟨qp, qc⟩ := D3.inp hq
          refine k (.ref q) (.dict [(.str "key", .list ds), (.int 1, .int ds.length)]) _ (tm _ (.inr (.inr rfl))) ?_ (nt_dk upd_same) (D3.new hq) (K3.trans (kp_new hq))
          refine DV.dct (kvs := [(Sum.inr ("key" : Str), V.ref l), (Sum.inl 1, V.int xs.length)]) (ds := [.list ds, .int ds.length]) hqH upd_same rfl fun j v d q1 q2 => ?_
          match j, q1, q2 with
          | 0, q1, q2 =>
            cases q1
            cases q2
            exact .lst hlH (by rw [upd_ne nlq]; exact e1) (e2.trans e3.symm) fun j v d q1 q2 => (e5 j v d q1 q2).mono fun a o t z => ⟨t.1, by rw [upd_ne (ne_of_none z hq)]; exact z⟩
          | 1, q1, q2 =>
            cases q1
            cases q2
            rw [e2, e3]
            exact .int _
          | j + 2, q1, q2 => simp at q1
        · refine ⟨_, rfl, l, _, rfl, SqL.of e1, fun t us ht => ?_⟩
          exact k (.ref t) (.tuple ds) _ (tm _ (.inr (.inl rfl))) (.tup (K3.dom D3 ht) (.inr ⟨us, upd_same⟩) (e2.trans e3.symm) fun j v d q1 q2 => (e5 j v d q1 q2).mono fun a o t' z => ⟨t'.1, by rw [upd_ne (ne_of_none z ht)]; exact z⟩) (nt_frz upd_same (by omega)) (D3.new ht) (K3.trans (kp_new ht))
end
end K0

set_option Elab.async false
set_option linter.all false
set_option maxRecDepth 100000
set_option maxHeartbeats 4000000
/-! Rows of pairs; an order, a pair, all pairs. -/
namespace K0
open PySem PySem.Spec PyProof.Rows L2
/-! ### rows of pairs -/
inductive Prs (H : Hp) : List V → List (Int × Int) → Prop
  | nil : Prs H [] []
  | cons {a : Addr} {q : Int × Int} {vs : List V} {L : List (Int × Int)} (h : H a = some (.tup [.int q.1, .int q.2])) (t : Prs H vs L) : Prs H (.ref a :: vs) (q :: L)
theorem Prs.len {H : Hp} {vs : List V} {L : List (Int × Int)} (p : Prs H vs L) : vs.length = L.length := by
  induction p with
  | nil => rfl
  | cons h t ih => rw [List.length_cons, List.length_cons, ih]
theorem Prs.mono {H H' : Hp} {vs : List V} {L : List (Int × Int)} (p : Prs H vs L) (s : ∀ a x, H a = some (.tup x) → H' a = some (.tup x)) : Prs H' vs L := by
  induction p with
  | nil => exact .nil
  | cons h t ih => exact .cons (s _ _ h) ih
theorem Prs.app {H : Hp} {vs ws : List V} {L M : List (Int × Int)} (p : Prs H vs L) (q : Prs H ws M) : Prs H (vs ++ ws) (L ++ M) := by
  induction p with
  | nil => exact q
  | cons h t ih => exact .cons h ih
theorem Prs.get {H : Hp} {vs : List V} {L : List (Int × Int)} (p : Prs H vs L) : ∀ {i : Nat} {v : V}, vs[i]? = some v → ∃ a q, v = .ref a ∧ L[i]? = some q ∧ H a = some (.tup [.int q.1, .int q.2]) := by
  induction p with
  | nil => intro i v h; simp at h
  | @cons a q vs L h t ih =>
    intro i v e
    cases i with
    | zero => cases e; exact ⟨a, q, rfl, rfl, h⟩
    | succ i => exact ih (by simpa using e)
theorem Prs.erase {H : Hp} {vs : List V} {L : List (Int × Int)} (p : Prs H vs L) : ∀ i : Nat, Prs H (vs.eraseIdx i) (L.eraseIdx i) := by
  induction p with
  | nil => intro i; simpa using Prs.nil
  | @cons a q vs L h t ih =>
    intro i
    cases i with
    | zero => simpa using t
    | succ i => simpa using Prs.cons h (ih i)
theorem Prs.perm {H : Hp} {vs ws : List V} (pm : ws.Perm vs) : ∀ {L : List (Int × Int)}, Prs H vs L → ∃ M, M.Perm L ∧ Prs H ws M := by
  induction pm with
  | nil => intro L p; exact ⟨L, .refl _, p⟩
  | cons v _ ih =>
    intro L p
    cases p with
    | cons h t =>
      obtain ⟨M, pm, pr⟩ := ih t
      exact ⟨_, pm.cons _, .cons h pr⟩
  | swap v w l =>
    intro L p
    cases p with
    | cons h t =>
      cases t with
      | cons h' t' => exact ⟨_, .swap _ _ _, .cons h' (.cons h t')⟩
  | trans _ _ ih1 ih2 =>
    intro L p
    obtain ⟨M, pm, pr⟩ := ih2 p
    obtain ⟨M', pm', pr'⟩ := ih1 pr
    exact ⟨M', pm'.trans pm, pr'⟩
theorem Kp.tup {p c : Addr} {H H' : Hp} (k : Kp p c H H') (D : Deck H p c) : ∀ a x, H a = some (.tup x) → H' a = some (.tup x) := fun a x e => by
  obtain ⟨xs, m, n, h1, h2, _⟩ := D.ex
  exact k a _ (ne_of e h1 (by intro z; cases z)) (ne_of e h2 (by intro z; cases z)) e
theorem same_tup {H H' : Hp} (s : Same H H') : ∀ a x, H a = some (.tup x) → H' a = some (.tup x) := fun a x e => s _ _ e
/-- a list of its own is written -/
theorem Kp.own {p c l : Addr} {H H1 : Hp} {o : HO} (k : Kp p c H H1) (h : H l = none) : Kp p c H (upd H1 l o) := fun b u h1 h2 e => by
  rw [upd_ne (ne_of_none e h)]
  exact k b u h1 h2 e
theorem upd_tup {l : Addr} {H : Hp} {o : HO} {ys : List V} (e : H l = some (.lst ys)) : ∀ a x, H a = some (.tup x) → (upd H l o) a = some (.tup x) := fun a x h => by
  rw [upd_ne (ne_of h e (by intro z; cases z))]
  exact h
theorem new_tup {l : Addr} {H : Hp} {o : HO} (e : H l = none) : ∀ a x, H a = some (.tup x) → (upd H l o) a = some (.tup x) := fun a x h => by
  rw [upd_ne (ne_of_none h e)]
  exact h
/-- a row of pairs in a list at l -/
def LP (H : Hp) (l : Addr) (L : List (Int × Int)) : Prop := ∃ vs, H l = some (.lst vs) ∧ Prs H vs L
theorem LP.mono {H H' : Hp} {l : Addr} {L : List (Int × Int)} (p : LP H l L) (e : ∀ ys, H l = some (.lst ys) → H' l = some (.lst ys)) (s : ∀ a x, H a = some (.tup x) → H' a = some (.tup x)) : LP H' l L := by
  obtain ⟨vs, h, q⟩ := p
  exact ⟨vs, e _ h, q.mono s⟩
theorem LP.kp {p c l : Addr} {H H' : Hp} {L : List (Int × Int)} (q : LP H l L) (D : Deck H p c) (k : Kp p c H H') (lp : l ≠ p) (lc : l ≠ c) : LP H' l L := q.mono (fun ys e => k _ _ lp lc e) (k.tup D)
/-- pairs in order, below n -/
def Bel (n : Int) (L : List (Int × Int)) : Prop := ∀ q ∈ L, 0 ≤ q.1 ∧ q.1 < q.2 ∧ q.2 < n
theorem Bel.nil {n : Int} : Bel n [] := fun _ z => nomatch z
theorem Bel.app {n : Int} {L M : List (Int × Int)} (a : Bel n L) (b : Bel n M) : Bel n (L ++ M) := fun q z => (List.mem_append.mp z).elim (a q) (b q)
theorem Bel.sub {n : Int} {L M : List (Int × Int)} (a : Bel n L) (s : ∀ q ∈ M, q ∈ L) : Bel n M := fun q z => a q (s q z)
theorem Bel.snoc {n : Int} {L : List (Int × Int)} {q : Int × Int} (a : Bel n L) (h : 0 ≤ q.1 ∧ q.1 < q.2 ∧ q.2 < n) : Bel n (L ++ [q]) := a.app fun r z => by rw [List.mem_singleton.mp z]; exact h

/-- names that are nobody's own -/
structure Bj (mg : Str → Option Value) : Prop extends Bi mg where
  min : mg "min" = none
  sorted : mg "sorted" = none
  set : mg "set" = none
  all : mg "all" = none
  isi : mg "isinstance" = none
  enu : mg "enumerate" = none
  bool : mg "bool" = none
  repr : mg "repr" = none
abbrev sOrder : Stmt := top 29
abbrev sPair : Stmt := top 30
abbrev sPairs : Stmt := top 31
abbrev sTies : Stmt := top 32
abbrev sWeb : Stmt := top 33
/-- an order of 0 .. n - 1 -/
def IsOrd (n : Nat) (os : List Int) : Prop := os.Perm ((List.range n).map fun i => ((i : Nat) : Int))
theorem IsOrd.len {n : Nat} {os : List Int} (h : IsOrd n os) : os.length = n := by rw [h.length_eq, List.length_map, List.length_range]
theorem IsOrd.mem {n : Nat} {os : List Int} (h : IsOrd n os) {i : Int} (hi : i ∈ os) : 0 ≤ i ∧ i < n := by
  obtain ⟨k, hk, rfl⟩ := List.mem_map.mp (h.mem_iff.mp hi)
  have := List.mem_range.mp hk
  omega
theorem IsOrd.nd {n : Nat} {os : List Int} (h : IsOrd n os) : os.Nodup := h.nodup_iff.mpr (List.pairwise_map.mpr (List.nodup_range.imp fun {a b} z e => z (by omega)))
theorem IsOrd.at {n : Nat} {os : List Int} (h : IsOrd n os) {i : Nat} (hi : i < n) : ∃ x, os[i]? = some x ∧ 0 ≤ x ∧ x < n := by
  have l := h.len
  exact ⟨os[i], List.getElem?_eq_getElem (by omega), h.mem (List.getElem_mem ..)⟩
theorem IsOrd.ne {n : Nat} {os : List Int} (h : IsOrd n os) {i j : Nat} {x y : Int} (hi : os[i]? = some x) (hj : os[j]? = some y) (ne : i ≠ j) : x ≠ y := by
  have nd := List.pairwise_iff_getElem.mp h.nd
  obtain ⟨i1, rfl⟩ := List.getElem?_eq_some_iff.mp hi
  obtain ⟨j1, rfl⟩ := List.getElem?_eq_some_iff.mp hj
  rcases Nat.lt_or_gt_of_ne ne with z | z
  · exact nd i j i1 j1 z
  · exact (nd j i j1 i1 z).symm
theorem rg_ints (n : Nat) : rgV 0 (n : Int) = ((List.range n).map fun i => ((i : Nat) : Int)).map V.int := by
  unfold rgV
  rw [List.map_map, show ((n : Int) - 0).toNat = n by omega]
  refine List.map_congr_left fun i _ => ?_
  show V.int (0 + (i : Nat)) = V.int (i : Nat)
  rw [Int.zero_add]
theorem iota_ord (n : Nat) : IsOrd n ((List.range n).map fun i => ((i : Nat) : Int)) := List.Perm.refl _

def spOrder : Sp := fun vs H Q _ => ∃ (p c : Addr) (n : Nat), vs = [.ref p, .int n] ∧ n ≤ 12 ∧ Deck H p c ∧ ∀ (l : Addr) (os : List Int) (H' : Hp), H l = none → H' l = some (.lst (os.map V.int)) → IsOrd n os → Deck H' p c → Kp p c H H' → Q (.ref l) H'
section
variable {P : Program} {w : World} {K : PySem.W.Frag} {mg : Str → Option Value} {base : Heap}
abbrev nOrder : List Str := ["_law_deck_here", "_law_n", "_law_left", "_law_found", "_law_turn"]
theorem scOrder : FnScope nOrder ["_law_deck_here", "_law_n"] (defScope sOrder) := ⟨rfl, rfl, rfl, by decide +kernel, rfl, by decide +kernel, by decide +kernel⟩
theorem perm_move : ∀ {l : List Int} {i : Nat} {x : Int}, l[i]? = some x → l.Perm (x :: l.eraseIdx i)
  | [], _, _, h => by simp at h
  | a :: l, 0, x, h => by cases h; exact .refl _
  | a :: l, i + 1, x, h => ((perm_move (l := l) (i := i) (by simpa using h)).cons a).trans (.swap _ _ _)
theorem erase_map (l : List Int) : ∀ i, (l.map V.int).eraseIdx i = (l.eraseIdx i).map V.int := by
  induction l with
  | nil => intro i; rfl
  | cons a l ih =>
    intro i
    cases i with
    | zero => rfl
    | succ i => simp only [List.map_cons, List.eraseIdx_cons_succ, ih i]
theorem ok_order {f fD : Addr} {fd fdD : FuncData} (F : Fun K "_law_order" "_law_order" sOrder f fd) (T : Bj mg) (GD : Dn P w K mg base "_law_draw" 1 ["_law_deck_here", "_law_many"] spDraw fD fdD) :
    FnOk P w K mg base CX0 2 f fd ["_law_deck_here", "_law_n"] spOrder := by
  refine F.ok scOrder (fun vs H Q E h => ?_) (fun cdv A outer s H vs Q E hr h => ?_)
  · obtain ⟨p, c, n, rfl, _⟩ := h
    rfl
  · obtain ⟨p, c, n, rfl, hn, D, k⟩ := h
    refine ⟨_, pss_cons (ps_par (i := 2) (j := 3) rfl scOrder.nd rfl rfl (by decide) rfl rfl (pa_cons (pe_listRg rfl (by rfl) T.list (prg_1 (by rfl) T.range (pv 1))) (pa_cons (pe_lst pa_nil) pa_nil)) (by rfl))
      <| pss_cons (ps_for PassesOwn.never rfl (pi_range1 (by rfl) T.range (pa_cons (pv 1) pa_nil)) (pg_name (i := 4) scOrder.nd rfl (.inl rfl))
        (pss_one (ps_expr (pe_bm PySem.F.plainAttrs_list PySem.F.slot_list_append PySem.F.type_list_append mt_append (pv 3) (pa_cons
          (pe_bm PySem.F.plainAttrs_list PySem.F.slot_list_pop PySem.F.type_list_pop mt_popAt (pv 2) (pa_cons (pe_call GD.ok hr rfl GD.g GD.kp GD.b .nil pass0 (pa_cons (pv 0) (pa_cons (pe_callB call_len_seq (by rfl) T.len PySem.boot_len (pa_cons (pv 2) pa_nil)) pa_nil))) pa_nil)) pa_nil)))))
      <| pss_one (ps_ret (pv 3)), ?_⟩
    refine ⟨_, rfl, _, rfl, .of_le (by omega) (by omega) (by omega) (by omega), fun q hq => ?_⟩
    rw [rg_ints]
    obtain ⟨qp, qc⟩ := D.inp hq
    refine ⟨Nat.zero_le _, fun l hl => ⟨_, _, rfl, ?_⟩⟩
    have D1 := D.new (o := .lst (((List.range n).map fun i => ((i : Nat) : Int)).map V.int)) hq
    obtain ⟨lp, lc⟩ := D1.inp hl
    have lq : l ≠ q := (ne_of_none upd_same hl).symm
    have hlH : H l = none := by rw [upd_ne lq] at hl; exact hl
    refine ⟨_, rfl, _, rfl, by omega, by omega, ?_⟩
    refine for_range (lo := 0) (n := (n : Int).toNat) (fun i σ M => ∃ (ls os : List Int) (o4 : Option V), σ = [some (.ref p), some (.int n), some (.ref q), some (.ref l), o4] ∧ M q = some (.lst (ls.map V.int)) ∧ M l = some (.lst (os.map V.int)) ∧ IsOrd n (os ++ ls) ∧ os.length = i ∧ Deck M p c ∧ Kp p c H M)
      ⟨_, [], none, rfl, by rw [upd_ne lq.symm]; exact upd_same, upd_same, iota_ord n, rfl, D1.new hl, ((kp_new hq).own hlH)⟩ ?_ ?_
    · rintro i σ M hi ⟨ls, os, o4, rfl, e1, e2, e3, e4, D2, K2⟩
      have len := e3.len
      rw [List.length_append, e4] at len
      refine ⟨_, rfl, .inl ⟨rfl, _, SqL.of e2⟩, _, rfl, .inl ⟨rfl, _, SqL.of e1⟩, _, rfl, _, rfl, q, _, rfl, .inl (SqL.of e1), p, c, _, rfl, D2, ?_, ?_, fun r M1 r0 r1 D3 K3 => ?_⟩
      · show (1 : Int) ≤ ((ls.map V.int).length : Nat); rw [List.length_map]; omega
      · show (((ls.map V.int).length : Nat) : Int) < 1000000; rw [List.length_map]; omega
      · have r1' : r < ls.length := by rw [List.length_map] at r1; exact r1
        obtain ⟨j, rfl⟩ : ∃ j : Nat, r = j := ⟨r.toNat, by omega⟩
        have hj : j < ls.length := by omega
        have e1' := K3 q _ qp qc e1
        have e2' := K3 l _ lp lc e2
        have si : seqIndex? (j : Int) (ls.map V.int).length = some j := (ixN_seq (n := (ls.map V.int).length) (by unfold ixN; rw [List.length_map, if_pos (by omega), if_pos (by omega)]; rfl)).1
        refine ⟨q, _, _, j, .int ls[j], rfl, rfl, e1', by omega, by omega, si, by simp [hj], ?_⟩
        refine ⟨l, _, _, rfl, rfl, by rw [upd_ne lq]; exact e2', by rw [List.length_map, sizeLine_eq]; omega, ls.eraseIdx j, os ++ [ls[j]], _, rfl, ?_, by rw [upd_same, List.map_append] <;> rfl, ?_, by rw [List.length_append, e4] <;> rfl, (D3.put qp qc).put lp lc, ?_⟩
        · rw [upd_ne lq.symm, upd_same, erase_map]
        · refine List.Perm.trans ?_ e3
          rw [List.append_assoc]
          exact List.Perm.append_left os (perm_move (List.getElem?_eq_getElem hj)).symm
        · exact ((K2.trans K3).own (D.new (o := .lst []) hq |> fun _ => hq)).own hlH
    · rintro σ M ⟨ls, os, o4, rfl, e1, e2, e3, e4, D2, K2⟩
      have len := e3.len
      rw [List.length_append, e4] at len
      have : ls = [] := List.length_eq_zero_iff.mp (by omega)
      subst this
      exact ⟨_, rfl, k l os M hlH e2 (by simpa using e3) D2 K2⟩
end
end K0

set_option Elab.async false
set_option linter.all false
set_option maxRecDepth 100000
set_option maxHeartbeats 4000000
/-! A pair in order; all pairs. -/
namespace K0
open PySem PySem.Spec PyProof.Rows L2
/-- the two in order -/
def mm (x y : Int) : Int × Int := (if y < x then y else x, if y > x then y else x)
theorem mm_bel {n x y : Int} (hx : 0 ≤ x ∧ x < n) (hy : 0 ≤ y ∧ y < n) (ne : x ≠ y) : 0 ≤ (mm x y).1 ∧ (mm x y).1 < (mm x y).2 ∧ (mm x y).2 < n := by
  unfold mm
  dsimp only
  split <;> split <;> omega
def spPair : Sp := fun vs H Q _ => ∃ (x y : Int), vs = [.int x, .int y] ∧ ∀ a, H a = none → Q (.ref a) (upd H a (.tup [.int (mm x y).1, .int (mm x y).2]))
def spPairs : Sp := fun vs H Q _ => ∃ n : Nat, vs = [.int n] ∧ n ≤ 12 ∧ ∀ (l : Addr) (L : List (Int × Int)) (H' : Hp), H l = none → LP H' l L → Bel n L → L.length ≤ 144 → Same H H' → Q (.ref l) H'
section
variable {P : Program} {w : World} {K : PySem.W.Frag} {mg : Str → Option Value} {base : Heap}
theorem scPair : FnScope ["_law_one", "_law_other"] ["_law_one", "_law_other"] (defScope sPair) := ⟨rfl, rfl, rfl, by decide +kernel, rfl, by decide +kernel, by decide +kernel⟩
theorem ok_pair {f : Addr} {fd : FuncData} (F : Fun K "_law_pair" "_law_pair" sPair f fd) (T : Bj mg) : FnOk P w K mg base CX0 1 f fd ["_law_one", "_law_other"] spPair := by
  refine F.ok scPair (fun vs H Q E h => ?_) (fun cdv A outer s H vs Q E hr h => ?_)
  · obtain ⟨x, y, rfl, _⟩ := h
    rfl
  · obtain ⟨x, y, rfl, k⟩ := h
    refine ⟨_, pss_one (ps_ret (pe_tup (pa_cons (pe_callB (call_min2 rfl) (by rfl) T.min (by decide +kernel) (pa_cons (pv 0) (pa_cons (pv 1) pa_nil))) (pa_cons (pe_callB (call_max2 rfl) (by rfl) T.max (by decide +kernel) (pa_cons (pv 0) (pa_cons (pv 1) pa_nil))) pa_nil)))), ?_⟩
    exact ⟨_, rfl, _, rfl, _, _, rfl, _, rfl, _, rfl, _, _, rfl, by show 2 ≤ sizeLine; decide, fun a ha => k a ha⟩
abbrev nPairs : List Str := ["_law_n", "_law_found", "_law_one", "_law_other"]
theorem scPairs : FnScope nPairs ["_law_n"] (defScope sPairs) := ⟨rfl, rfl, rfl, by decide +kernel, rfl, by decide +kernel, by decide +kernel⟩
theorem ok_pairs {f : Addr} {fd : FuncData} (F : Fun K "_law_pairs" "_law_pairs" sPairs f fd) (T : Bj mg) : FnOk P w K mg base CX0 1 f fd ["_law_n"] spPairs := by
  refine F.ok scPairs (fun vs H Q E h => ?_) (fun cdv A outer s H vs Q E hr h => ?_)
  · obtain ⟨n, rfl, _⟩ := h
    rfl
  · obtain ⟨n, rfl, hn, k⟩ := h
    refine ⟨_, pss_cons (ps_set (i := 1) scPairs.nd rfl (.inl rfl) (pe_lst pa_nil))
      <| pss_cons (ps_for PassesOwn.never rfl (pi_range1 (by rfl) T.range (pa_cons (pv 0) pa_nil)) (pg_name (i := 2) scPairs.nd rfl (.inr rfl))
        (pss_one (ps_set (i := 1) scPairs.nd rfl (.inl rfl) (pe_op op_cat (pv 1) (pe_lc (own := [("_law_other", 3)]) (g := gName 3) (tt := tYes) rfl scPairs.nd (pi_range2 (by rfl) T.range (pa_cons (pe_op op_add (pv 2) pe_int) (pa_cons (pv 0) pa_nil)))
          (blkOk_by (N := nPairs) (sc := defScope sPairs) (by decide +kernel)) (fun _ _ _ _ _ => pg_name (i := 3) scPairs.nd rfl (Or.inl rfl)) (fun _ _ _ _ _ => pts_nil)
          (fun _ _ _ _ _ => pe_tup (pa_cons (pv 2) (pa_cons (pv 3) pa_nil))))))))
      <| pss_one (ps_ret (pv 1)), ?_⟩
    refine ⟨Nat.zero_le _, fun l hl => ⟨_, rfl, _, rfl, by omega, by omega, ?_⟩⟩
    refine for_range (lo := 0) (n := (n : Int).toNat) (fun i σ M => ∃ (l' : Addr) (L : List (Int × Int)) (o2 : Option V), σ = [some (.int n), some (.ref l'), o2, none] ∧ H l' = none ∧ LP M l' L ∧ Bel n L ∧ L.length ≤ 12 * i ∧ Same H M)
      ⟨l, [], none, rfl, hl, ⟨[], upd_same, .nil⟩, .nil, Nat.zero_le _, same_new hl⟩ ?_ ?_
    · rintro i σ M hi ⟨l', L, o2, rfl, hl', ⟨vs, e1, e2⟩, e3, e4, sM⟩
      have len := e2.len
      refine ⟨_, rfl, _, rfl, _, _, rfl, rfl, _, rfl, _, _, rfl, ⟨by omega, by omega, by omega, by omega⟩, fun Da hD => ?_⟩
      have hDH : H Da = none := by
        cases e : H Da with
        | none => rfl
        | some o => rw [sM _ _ e] at hD; cases hD
      have nDl : l' ≠ Da := ne_of_none e1 hD
      refine lc_range (lo := (0 + (i : Int)) + 1) (n := ((n : Int) - ((0 + (i : Int)) + 1)).toNat) (fun j M2 => ∃ (ws : List V) (L2 : List (Int × Int)), M2 Da = some (.lst ws) ∧ Prs M2 ws L2 ∧ Bel n L2 ∧ L2.length = j ∧ M2 l' = some (.lst vs) ∧ Prs M2 vs L ∧ Same H M2)
        ⟨[], [], upd_same, .nil, .nil, rfl, by rw [upd_ne nDl]; exact e1, e2.mono (new_tup hD), sM.trans (same_new hD)⟩ ?_ ?_
      · rintro j M2 hj ⟨ws, L2, f1, f2, f3, f4, f5, f6, f7⟩
        refine ⟨rfl, ?_⟩
        unfold tYes
        refine iteT ?_
        refine ⟨_, rfl, _, rfl, by show 2 ≤ sizeLine; decide, fun t ht => ⟨ws, ?_, ?_, ws ++ [.ref t], L2 ++ [(0 + (i : Int), 0 + (i : Int) + 1 + (j : Int))], upd_same, ?_, f3.snoc ⟨?_, ?_, ?_⟩, by rw [List.length_append, f4] <;> rfl, ?_, ?_, ?_⟩⟩
        · rw [upd_ne (ne_of_none f1 ht)]; exact f1
        · rw [f2.len, f4, sizeLine_eq]; omega
        · have g1 : Prs (upd M2 t (.tup [.int (0 + (i : Int)), .int (0 + (i : Int) + 1 + (j : Int))])) ws L2 := f2.mono (new_tup ht)
          have e1' : (upd M2 t (.tup [V.int (0 + (i : Int)), V.int (0 + (i : Int) + 1 + (j : Int))])) Da = some (.lst ws) := by rw [upd_ne (ne_of_none f1 ht)]; exact f1
          exact (g1.app (.cons (q := (0 + (i : Int), 0 + (i : Int) + 1 + (j : Int))) upd_same .nil)).mono (upd_tup e1')
        · show (0 : Int) ≤ 0 + (i : Int); omega
        · show 0 + (i : Int) < 0 + (i : Int) + 1 + (j : Int); omega
        · show 0 + (i : Int) + 1 + (j : Int) < n; omega
        · rw [upd_ne nDl, upd_ne (ne_of_none f5 ht)]; exact f5
        · have e1' : (upd M2 t (.tup [V.int (0 + (i : Int)), V.int (0 + (i : Int) + 1 + (j : Int))])) Da = some (.lst ws) := by rw [upd_ne (ne_of_none f1 ht)]; exact f1
          exact (f6.mono (new_tup ht)).mono (upd_tup e1')
        · exact fun b o e => by rw [upd_ne (ne_of_none e hDH), upd_ne (ne_of_none (f7 _ _ e) ht)]; exact f7 _ _ e
      · rintro M2 ⟨ws, L2, f1, f2, f3, f4, f5, f6, f7⟩
        have l2 := f2.len
        refine ⟨l', Da, _, _, rfl, rfl, f5, f1, by rw [len, l2, sizeLine_eq]; omega, fun q hq => ?_⟩
        have hqH : H q = none := by
          cases e : H q with
          | none => rfl
          | some o => rw [f7 _ _ e] at hq; cases hq
        exact ⟨q, L ++ L2, _, rfl, hqH, ⟨_, upd_same, (f6.app f2).mono (new_tup hq)⟩, e3.app f3, by rw [List.length_append]; omega, f7.trans (same_new hq)⟩
    · rintro σ M ⟨l', L, o2, rfl, hl', e1, e3, e4, sM⟩
      exact ⟨_, rfl, k l' L M hl' e1 e3 (by omega) sM⟩
end
end K0

set_option Elab.async false
set_option linter.all false
set_option maxRecDepth 100000
set_option maxHeartbeats 8000000
/-! The drawn ties. -/
namespace K0
open PySem PySem.Spec L2
open PyProof.Rows hiding St
/-- what a comprehension over pairs has made: some of them -/
structure FI (p c : Addr) (H : Hp) (l : Addr) (vs : List V) (L : List (Int × Int)) (Da : Addr) (i : Nat) (M : Hp) : Prop where
  ex : ∃ (ws : List V) (L2 : List (Int × Int)), M Da = some (.lst ws) ∧ Prs M ws L2 ∧ (∀ q ∈ L2, q ∈ L) ∧ L2.length ≤ i
  src : M l = some (.lst vs)
  prs : Prs M vs L
  dk : Deck M p c
  kp : Kp p c H M
section
variable {p c l Da : Addr} {H M M' : Hp} {vs : List V} {L : List (Int × Int)} {i : Nat}
theorem FI.step (h : FI p c H l vs L Da i M) (n1 : l ≠ p) (n2 : l ≠ c) (n3 : Da ≠ p) (n4 : Da ≠ c) (D : Deck M' p c) (k : Kp p c M M') : FI p c H l vs L Da i M' := by
  obtain ⟨ws, L2, e1, e2, e3, e4⟩ := h.ex
  exact ⟨⟨ws, L2, k _ _ n3 n4 e1, e2.mono (k.tup h.dk), e3, e4⟩, k _ _ n1 n2 h.src, h.prs.mono (k.tup h.dk), D, h.kp.trans k⟩
theorem FI.skip (h : FI p c H l vs L Da i M) : FI p c H l vs L Da (i + 1) M := by
  obtain ⟨ws, L2, e1, e2, e3, e4⟩ := h.ex
  exact ⟨⟨ws, L2, e1, e2, e3, by omega⟩, h.src, h.prs, h.dk, h.kp⟩
theorem FI.put (h : FI p c H l vs L Da i M) (hD : H Da = none) (n0 : l ≠ Da) (n3 : Da ≠ p) (n4 : Da ≠ c) (hi : i ≤ 1000) {v : V} {j : Nat} (hv : vs[j]? = some v) :
    ∃ acc, M Da = some (.lst acc) ∧ acc.length < sizeLine ∧ FI p c H l vs L Da (i + 1) (upd M Da (.lst (acc ++ [v]))) := by
  obtain ⟨ws, L2, e1, e2, e3, e4⟩ := h.ex
  obtain ⟨a, q, rfl, hq, ha⟩ := h.prs.get hv
  refine ⟨ws, e1, by rw [e2.len, sizeLine_eq]; omega, ⟨ws ++ [.ref a], L2 ++ [q], upd_same, (e2.app (.cons ha .nil)).mono (upd_tup e1), fun r z => ?_, by rw [List.length_append]; show L2.length + 1 ≤ _; omega⟩, by rw [upd_ne n0]; exact h.src, h.prs.mono (upd_tup e1), h.dk.put n3 n4, h.kp.own hD⟩
  rcases List.mem_append.mp z with z | z
  · exact e3 r z
  · rw [List.mem_singleton.mp z]; exact List.mem_of_getElem? hq
end
/-- what a comprehension of new pairs has made, an order beside it -/
structure GI (p c : Addr) (H : Hp) (l : Addr) (os : List Int) (n : Int) (Da : Addr) (i : Nat) (M : Hp) : Prop where
  ex : ∃ (ws : List V) (L2 : List (Int × Int)), M Da = some (.lst ws) ∧ Prs M ws L2 ∧ Bel n L2 ∧ L2.length ≤ i
  src : M l = some (.lst (os.map V.int))
  dk : Deck M p c
  kp : Kp p c H M
section
variable {p c l Da : Addr} {H M M' : Hp} {os : List Int} {n : Int} {i : Nat}
theorem GI.step (h : GI p c H l os n Da i M) (n1 : l ≠ p) (n2 : l ≠ c) (n3 : Da ≠ p) (n4 : Da ≠ c) (D : Deck M' p c) (k : Kp p c M M') : GI p c H l os n Da i M' := by
  obtain ⟨ws, L2, e1, e2, e3, e4⟩ := h.ex
  exact ⟨⟨ws, L2, k _ _ n3 n4 e1, e2.mono (k.tup h.dk), e3, e4⟩, k _ _ n1 n2 h.src, D, h.kp.trans k⟩
theorem GI.put (h : GI p c H l os n Da i M) (hD : H Da = none) (n0 : l ≠ Da) (n3 : Da ≠ p) (n4 : Da ≠ c) (hi : i ≤ 1000) {a : Addr} {q : Int × Int} (ha : M a = none) (hq : 0 ≤ q.1 ∧ q.1 < q.2 ∧ q.2 < n) :
    ∃ acc, (upd M a (.tup [.int q.1, .int q.2])) Da = some (.lst acc) ∧ acc.length < sizeLine ∧ GI p c H l os n Da (i + 1) (upd (upd M a (.tup [.int q.1, .int q.2])) Da (.lst (acc ++ [.ref a]))) := by
  obtain ⟨ws, L2, e1, e2, e3, e4⟩ := h.ex
  have e1' : (upd M a (.tup [.int q.1, .int q.2])) Da = some (.lst ws) := by rw [upd_ne (ne_of_none e1 ha)]; exact e1
  refine ⟨ws, e1', by rw [e2.len, sizeLine_eq]; omega, ⟨ws ++ [.ref a], L2 ++ [q], upd_same, ((e2.mono (new_tup ha)).app (.cons upd_same .nil)).mono (upd_tup e1'), e3.snoc hq, by rw [List.length_append]; show L2.length + 1 ≤ _; omega⟩, ?_, (h.dk.new ha).put n3 n4, (h.kp.trans (kp_new ha)).own hD⟩
  rw [upd_ne n0, upd_ne (ne_of_none h.src ha)]
  exact h.src
end
def spTies : Sp := fun vs H Q _ => ∃ (p c : Addr) (n : Nat), vs = [.ref p, .int n] ∧ 1 ≤ n ∧ n ≤ 12 ∧ Deck H p c ∧ ∀ (l : Addr) (L : List (Int × Int)) (H' : Hp), H l = none → LP H' l L → Bel n L → L.length ≤ 160 → Deck H' p c → Kp p c H H' → Q (.ref l) H'
abbrev nTies : List Str := ["_law_deck_here", "_law_n", "_law_way", "_law_thick", "_law_order_here", "_law_some", "_law_near_here", "_law_turn", "_law_one", "_law_step", "_law_pair_here", "_law_at"]
/-- between the statements -/
def TJ (p c : Addr) (n : Nat) (H : Hp) (σ : St) (M : Hp) : Prop := ∃ (wy th : Int) (lo : Addr) (os : List Int) (ls : Addr) (L : List (Int × Int)) (o6 : Option V),
  σ = [some (.ref p), some (.int n), some (.int wy), some (.int th), some (.ref lo), some (.ref ls), o6, none, none, none, none, none] ∧ H ls = none ∧ LP M ls L ∧ Bel n L ∧ L.length ≤ 144 ∧
  IsOrd n os ∧ H lo = none ∧ M lo = some (.lst (os.map V.int)) ∧ Deck M p c ∧ Kp p c H M
/-- from one state of affairs to another -/
def tInv (J J' : St → Hp → Prop) : TS := fun D σ H => J σ H ∧ ∀ σ' H', J' σ' H' → D.nx σ' H'
theorem ps_inv {X : Cx} {st : Stmt} {t : TS} {J J' : St → Hp → Prop} (h : PS X st t) (w : ∀ D σ H, J σ H → (∀ σ' H', J' σ' H' → D.nx σ' H') → t D σ H) : PS X st (tInv J J') :=
  ⟨fun pins s σ H D I q => h.run pins s σ H D I (w D σ H q.1 q.2)⟩
theorem pe_imp {X : Cx} {e : Expr} {t t' : TE} (h : PE X e t) (w : ∀ σ H Q, t' σ H Q → t σ H Q) : PE X e t' := ⟨fun pins s σ H Q I q => h.run pins s σ H Q I (w σ H Q q)⟩
theorem Deck.same {p c : Addr} {H H' : Hp} (D : Deck H p c) (s : Same H H') : Deck H' p c := by
  obtain ⟨xs, m, n, h1, h2, h3⟩ := D.ex
  exact ⟨xs, m, n, s _ _ h1, s _ _ h2, h3⟩
theorem kp_same {p c : Addr} {H H' : Hp} (s : Same H H') : Kp p c H H' := fun b o _ _ e => s _ _ e
theorem range2_12 {n : Nat} (h1 : 1 ≤ n) (h2 : n ≤ 12) : RgC 0 ((n : Int) - 1) 2 (n / 2) := by
  have : n = 1 ∨ n = 2 ∨ n = 3 ∨ n = 4 ∨ n = 5 ∨ n = 6 ∨ n = 7 ∨ n = 8 ∨ n = 9 ∨ n = 10 ∨ n = 11 ∨ n = 12 := by omega
  rcases this with rfl | rfl | rfl | rfl | rfl | rfl | rfl | rfl | rfl | rfl | rfl | rfl <;> exact ⟨by decide, by decide, by decide, by decide⟩
theorem atI_neg1 {n : Nat} {os : List Int} (h : IsOrd n os) (hn : 1 ≤ n) : ∃ x, os[n - 1]? = some x ∧ atI (os.map V.int) (0 + ((0 : Nat) : Int) - 1) = some (.int x) := by
  obtain ⟨x, hx, _⟩ := h.at (i := n - 1) (by omega)
  refine ⟨x, hx, ?_⟩
  have l := h.len
  have e : ixN (os.map V.int).length (0 + ((0 : Nat) : Int) - 1) = some (n - 1) := by
    unfold ixN
    rw [List.length_map, l, if_neg (by omega), if_pos (by omega)]
    congr 1
    omega
  unfold atI
  rw [e]
  show (os.map V.int)[n - 1]? = _
  rw [List.getElem?_map, hx] <;> rfl
theorem os_at {n : Nat} {os : List Int} (h : IsOrd n os) {i : Nat} (hi : i < n) : ∃ x, os[i]? = some x ∧ (os.map V.int)[i]? = some (.int x) ∧ 0 ≤ x ∧ x < n := by
  obtain ⟨x, hx, h1, h2⟩ := h.at hi
  exact ⟨x, hx, by rw [List.getElem?_map, hx] <;> rfl, h1, h2⟩
section
variable {P : Program} {w : World} {K : PySem.W.Frag} {mg : Str → Option Value} {base : Heap}
theorem scTies : FnScope nTies ["_law_deck_here", "_law_n"] (defScope sTies) := ⟨rfl, rfl, rfl, by decide +kernel, rfl, by decide +kernel, by decide +kernel⟩
theorem ok_ties {f fD fO fP fA : Addr} {fd fdD fdO fdP fdA : FuncData} (F : Fun K "_law_drawn_ties" "_law_drawn_ties" sTies f fd) (T : Bj mg) (GD : Dn P w K mg base "_law_draw" 1 ["_law_deck_here", "_law_many"] spDraw fD fdD)
    (GO : Dn P w K mg base "_law_order" 2 ["_law_deck_here", "_law_n"] spOrder fO fdO) (GP : Dn P w K mg base "_law_pair" 1 ["_law_one", "_law_other"] spPair fP fdP) (GA : Dn P w K mg base "_law_pairs" 1 ["_law_n"] spPairs fA fdA) :
    FnOk P w K mg base CX0 3 f fd ["_law_deck_here", "_law_n"] spTies := by
  refine F.ok scTies (fun vs H Q E h => ?_) (fun cdv A outer s H vs Q E hr h => ?_)
  · obtain ⟨p, c, n, rfl, _⟩ := h
    rfl
  · obtain ⟨p, c, n, rfl, hn1, hn2, D, k⟩ := h
    have hr1 : Room 1 (A.deeper (envOfC "_law_drawn_ties" (defScope sTies) s.heap.objs.size f cdv)) := hr.mono (by decide)
    refine ⟨_, pss_cons (ps_asg (pe_tup (pa_cons (pe_call GD.ok hr1 rfl GD.g GD.kp GD.b .nil pass0 (pa_cons (pv 0) (pa_cons pe_int pa_nil)))
          (pa_cons (pe_op op_add pe_int (pe_call GD.ok hr1 rfl GD.g GD.kp GD.b .nil pass0 (pa_cons (pv 0) (pa_cons pe_int pa_nil)))) (pa_cons (pe_call GO.ok hr rfl GO.g GO.kp GO.b .nil pass0 (pa_cons (pv 0) (pa_cons (pv 1) pa_nil))) (pa_cons (pe_lst pa_nil) pa_nil)))))
          (pg_tup rfl (pgs_cons (pg_name (i := 2) scTies.nd rfl (.inl rfl)) (pgs_cons (pg_name (i := 3) scTies.nd rfl (.inr rfl)) (pgs_cons (pg_name (i := 4) scTies.nd rfl (.inr rfl)) (pgs_cons (pg_name (i := 5) scTies.nd rfl (.inl rfl)) pgs_nil))))))
      <| pss_cons (ps_inv (J := TJ p c n H) (J' := TJ p c n H) (ps_if (pt_cmpR op_lt (pv 2) pe_int (nomark _)) (pss_one (ps_setLc (i := 5) (own := [("_law_pair_here", 10)]) (g := gName 10) rfl scTies.nd rfl rfl (sw_true rfl rfl rfl (by decide +kernel))
          (pi_list (pe_call GA.ok hr1 rfl GA.g GA.kp GA.b .nil pass0 (pa_cons (pv 1) pa_nil))) (blkOk_by (N := nTies) (sc := defScope sTies) (by decide +kernel)) (fun _ _ _ _ _ => pg_name (i := 10) scTies.nd rfl (Or.inl rfl))
          (fun _ _ _ _ _ => pts_one (pt_cmpR op_lt (pe_call GD.ok hr1 rfl GD.g GD.kp GD.b .nil pass0 (pa_cons (pv 0) (pa_cons pe_int pa_nil))) (pv 3) (nomark _))) (fun _ _ _ _ _ => pv 10))) pss_nil) ?i1)
      <| pss_cons (ps_inv (J := TJ p c n H) (J' := TJ p c n H) (ps_if (pt_cmpR op_eq (pv 2) pe_int (nomark _))
          (pss_cons (ps_set (i := 6) scTies.nd rfl (.inr rfl) (pe_slice sl_list (pv 4) po_none (po_some (pe_op op_add pe_int (pe_call GD.ok hr1 rfl GD.g GD.kp GD.b .nil pass0 (pa_cons (pv 0) (pa_cons (pv 1) pa_nil)))))))
          <| pss_cons (ps_setLc (i := 5) (own := [("_law_pair_here", 10)]) (g := gName 10) rfl scTies.nd rfl rfl (sw_true rfl rfl rfl (by decide +kernel))
            (pi_list (pe_call GA.ok hr1 rfl GA.g GA.kp GA.b .nil pass0 (pa_cons (pv 1) pa_nil))) (blkOk_by (N := nTies) (sc := defScope sTies) (by decide +kernel)) (fun _ _ _ _ _ => pg_name (i := 10) scTies.nd rfl (Or.inl rfl))
            (fun _ _ _ _ _ => pts_one (pt_cmpR op_ne (pe_cmpR (show OpR _ (compareOp .In) (rIn K false) from op_in_seq) (pe_ix (show IxR _ (rIxT K) from ix_tup) (pv 10) pe_int (fun _ _ => rfl)) (pv 6) (by rfl)) (pe_cmpR (show OpR _ (compareOp .In) (rIn K false) from op_in_seq) (pe_ix (show IxR _ (rIxT K) from ix_tup) (pv 10) pe_int (fun _ _ => rfl)) (pv 6) (by rfl)) (nomark _))) (fun _ _ _ _ _ => pv 10))
          <| pss_one (ps_setLc (i := 5) (own := [("_law_pair_here", 10)]) (g := gName 10) rfl scTies.nd rfl rfl (sw_true rfl rfl rfl (by decide +kernel))
            (pi_list (pv 5)) (blkOk_by (N := nTies) (sc := defScope sTies) (by decide +kernel)) (fun _ _ _ _ _ => pg_name (i := 10) scTies.nd rfl (Or.inl rfl))
            (fun _ _ _ _ _ => pts_one (pt_cmpR op_le (pe_call GD.ok hr1 rfl GD.g GD.kp GD.b .nil pass0 (pa_cons (pv 0) (pa_cons pe_int pa_nil))) (pv 3) (nomark _))) (fun _ _ _ _ _ => pv 10))) pss_nil) ?i2)
      <| pss_cons (ps_inv (J := TJ p c n H) (J' := TJ p c n H) (ps_if (PW.pt (pw_and (pt_cmpR op_eq (pv 2) pe_int (nomark _)) (pw_and1 (pt_cmpR op_gt (pv 1) pe_int (nomark _)))))
          (pss_one (ps_setLc (i := 5) (own := [("_law_at", 11)]) (g := gName 11) (tt := tYes) rfl scTies.nd rfl rfl (sw_true rfl rfl rfl (by decide +kernel))
            (pi_range1 (by rfl) T.range (pa_cons (pv 1) pa_nil)) (blkOk_by (N := nTies) (sc := defScope sTies) (by decide +kernel)) (fun _ _ _ _ _ => pg_name (i := 11) scTies.nd rfl (Or.inl rfl)) (fun _ _ _ _ _ => pts_nil)
            (fun _ _ _ _ _ => pe_call GP.ok hr1 rfl GP.g GP.kp GP.b .nil pass0 (pa_cons (pe_ix (show IxR _ (rIxL K) from ix_list) (pv 4) (pe_op op_sub (pv 11) pe_int) (fun _ _ => rfl)) (pa_cons (pe_ix (show IxR _ (rIxL K) from ix_list) (pv 4) (pv 11) (fun _ _ => rfl)) pa_nil))))) pss_nil) ?i3)
      <| pss_cons (ps_inv (J := TJ p c n H) (J' := TJ p c n H) (ps_if (pt_cmpR op_eq (pv 2) pe_int (nomark _))
          (pss_one (ps_setLc (i := 5) (own := [("_law_at", 11)]) (g := gName 11) (tt := tYes) rfl scTies.nd rfl rfl (sw_true rfl rfl rfl (by decide +kernel))
            (pi_range2 (by rfl) T.range (pa_cons pe_int (pa_cons (pv 1) pa_nil))) (blkOk_by (N := nTies) (sc := defScope sTies) (by decide +kernel)) (fun _ _ _ _ _ => pg_name (i := 11) scTies.nd rfl (Or.inl rfl)) (fun _ _ _ _ _ => pts_nil)
            (fun _ _ _ _ _ => pe_call GP.ok hr1 rfl GP.g GP.kp GP.b .nil pass0 (pa_cons (pe_ix (show IxR _ (rIxL K) from ix_list) (pv 4) (pv 11) (fun _ _ => rfl)) (pa_cons (pe_ix (show IxR _ (rIxL K) from ix_list) (pv 4) (pe_call GD.ok hr1 rfl GD.g GD.kp GD.b .nil pass0 (pa_cons (pv 0) (pa_cons (pv 11) pa_nil))) (fun _ _ => rfl)) pa_nil))))) pss_nil) ?i4)
      <| pss_cons (ps_inv (J := TJ p c n H) (J' := TJ p c n H) (ps_if (pt_cmpR op_eq (pv 2) pe_int (nomark _))
          (pss_one (ps_setLc (i := 5) (own := [("_law_at", 11)]) (g := gName 11) (tt := tYes) rfl scTies.nd rfl rfl (sw_true rfl rfl rfl (by decide +kernel))
            (pi_range3 (by rfl) T.range (pa_cons pe_int (pa_cons (pe_op op_sub (pv 1) pe_int) (pa_cons pe_int pa_nil)))) (blkOk_by (N := nTies) (sc := defScope sTies) (by decide +kernel)) (fun _ _ _ _ _ => pg_name (i := 11) scTies.nd rfl (Or.inl rfl)) (fun _ _ _ _ _ => pts_nil)
            (fun _ _ _ _ _ => pe_call GP.ok hr1 rfl GP.g GP.kp GP.b .nil pass0 (pa_cons (pe_ix (show IxR _ (rIxL K) from ix_list) (pv 4) (pv 11) (fun _ _ => rfl)) (pa_cons (pe_ix (show IxR _ (rIxL K) from ix_list) (pv 4) (pe_op op_add (pv 11) pe_int) (fun _ _ => rfl)) pa_nil))))) pss_nil) ?i5)
      <| pss_cons (ps_for PassesOwn.never rfl (pi_range1 (by rfl) T.range (pa_cons (pe_imp (t' := fun σ M Q => TJ p c n H σ M ∧ ∀ (m : Nat) (M1 : Hp), m ≤ 5 → (m = 0 ∨ 2 ≤ n) → Deck M1 p c → Kp p c M M1 → Q (.int m) M1)
            (pe_ifExp (PW.pt (pw_and (pt_cmpR op_gt (pv 1) pe_int (nomark _)) (pw_and1 (pt_cmpR op_gt (pv 2) pe_int (nomark _)))))
            (pe_call GD.ok hr1 rfl GD.g GD.kp GD.b .nil pass0 (pa_cons (pv 0) (pa_cons pe_int pa_nil))) pe_int) ?i6) pa_nil)) (pg_name (i := 7) scTies.nd rfl (.inl rfl))
          (pss_cons (ps_par (i := 8) (j := 9) rfl scTies.nd rfl rfl (by decide) rfl rfl (pa_cons (pe_call GD.ok hr1 rfl GD.g GD.kp GD.b .nil pass0 (pa_cons (pv 0) (pa_cons (pv 1) pa_nil)))
              (pa_cons (pe_op op_add pe_int (pe_call GD.ok hr1 rfl GD.g GD.kp GD.b .nil pass0 (pa_cons (pv 0) (pa_cons (pe_op op_sub (pv 1) pe_int) pa_nil)))) pa_nil)) (by rfl))
            <| pss_one (ps_expr (pe_bm PySem.F.plainAttrs_list PySem.F.slot_list_append PySem.F.type_list_append mt_append (pv 5) (pa_cons (pe_call GP.ok hr1 rfl GP.g GP.kp GP.b .nil pass0
                (pa_cons (pv 8) (pa_cons (pe_op op_modN (pe_callTy call_int1 (by rfl) T.int (by decide +kernel) (pa_cons (pe_op op_add (pv 8) (pv 9)) pa_nil)) (pv 1)) pa_nil))) pa_nil)))))
      <| pss_one (ps_ret (pv 5)), ?i0⟩
    case i1 =>
      rintro D0 σ M ⟨wy, th, lo, os, ls, L, o6, rfl, hls, hL, hB, hlen, hos, hlo, src, D1, K1⟩ nx
      obtain ⟨np, nc⟩ := D.inp hlo
      refine ⟨_, rfl, _, _, rfl, rfl, _, rfl, ite2 (fun h1 => ?_) (fun h1 => nx _ _ ⟨wy, th, lo, os, ls, L, o6, rfl, hls, hL, hB, hlen, hos, hlo, src, D1, K1⟩)⟩
      refine ⟨_, rfl, n, rfl, hn2, fun l L1 M1 ln ⟨vs, e1, e2⟩ hB1 hlen1 s1 => ⟨l, rfl, ⟨_, SqL.of e1⟩, fun Da hD => ?_⟩⟩
      have hDa : H Da = none := K1.dom D1 (s1.free hD)
      obtain ⟨dp, dc⟩ := D.inp hDa
      obtain ⟨lp, lc⟩ := D1.inp ln
      have nlD : l ≠ Da := ne_of_none e1 hD
      have D2 := D1.same s1
      have no : lo ≠ Da := ne_of_none (s1 _ _ src) hD
      refine lc_list (xs := vs) (fun i M2 => FI p c H l vs L1 Da i M2 ∧ M2 lo = some (.lst (os.map V.int))) ⟨⟨⟨[], [], upd_same, .nil, (fun _ z => nomatch z), Nat.le_refl _⟩, by rw [upd_ne nlD]; exact e1, e2.mono (new_tup hD), D2.new hD, (K1.trans (kp_same s1)).trans (kp_new hD)⟩, by rw [upd_ne (ne_of_none (s1 _ _ src) hD)]; exact s1 _ _ src⟩ (fun i M2 _ fi => SqL.of fi.1.src) ?_ ?_
      · rintro i x M2 hx ⟨fi, so⟩
        have hi : i < vs.length := (List.getElem?_eq_some_iff.mp hx).1
        have := e2.len
        refine ⟨rfl, _, rfl, p, c, _, rfl, fi.dk, by decide, by decide, fun r M3 r0 r1 D3 K3 => ⟨_, rfl, _, _, rfl, rfl, _, rfl, ite2 (fun h2 => ?_) (fun h2 => ?_)⟩⟩
        · obtain ⟨acc, f1, f2, f3⟩ := (fi.step lp lc dp dc D3 K3).put hDa nlD dp dc (by omega) hx
          refine ⟨_, rfl, acc, f1, f2, f3, ?_⟩
          rw [upd_ne no]
          exact K3 _ _ np nc so
        · exact ⟨(fi.step lp lc dp dc D3 K3).skip, K3 _ _ np nc so⟩
      · rintro M2 ⟨fi, so⟩
        obtain ⟨ws, L2, f1, f2, f3, f4⟩ := fi.ex
        have := e2.len
        exact nx _ _ ⟨wy, th, lo, os, Da, L2, o6, rfl, hDa, ⟨ws, f1, f2⟩, hB1.sub f3, by omega, hos, hlo, so, fi.dk, fi.kp⟩
    case i2 =>
      rintro D0 σ M ⟨wy, th, lo, os, ls, L, o6, rfl, hls, hL, hB, hlen, hos, hlo, src, D1, K1⟩ nx
      obtain ⟨np, nc⟩ := D.inp hlo
      refine ⟨_, rfl, rfl, _, rfl, ite2 (fun h1 => ?_) (fun h1 => nx _ _ ⟨wy, th, lo, os, ls, L, o6, rfl, hls, hL, hB, hlen, hos, hlo, src, D1, K1⟩)⟩
      -- near = order[:1 + draw(n)]
      refine ⟨_, rfl, _, rfl, _, rfl, p, c, _, rfl, D1, by omega, by omega, fun r N r0 r1 DN KN => ⟨_, _, rfl, rfl, _, rfl, lo, _, rfl, SqL.of (KN _ _ np nc src), fun nr hnr => ?_⟩⟩
      have DN1 := DN.new (o := .lst (cutV (os.map V.int) none (some (1 + r)))) hnr
      have KN1 := (K1.trans KN).trans (kp_new (o := .lst (cutV (os.map V.int) none (some (1 + r)))) hnr)
      have hnrH : H nr = none := K1.dom D1 (KN.dom DN hnr)
      have nn : lo ≠ nr := ne_of_none (KN _ _ np nc src) hnr
      obtain ⟨rp, rc⟩ := D.inp hnrH
      have so1 : (upd N nr (.lst (cutV (os.map V.int) none (some (1 + r))))) lo = some (.lst (os.map V.int)) := by rw [upd_ne nn]; exact KN _ _ np nc src
      have flat : (cutV (os.map V.int) none (some (1 + r))).all flatV = true := by
        refine List.all_eq_true.mpr fun v hv => ?_
        obtain ⟨i, _, rfl⟩ := List.mem_map.mp (List.mem_of_mem_drop (List.mem_of_mem_take hv))
        rfl
      -- the pairs with one end in it
      refine ⟨_, rfl, n, rfl, hn2, fun l L1 M1 ln ⟨vs, e1, e2⟩ hB1 hlen1 s1 => ⟨l, rfl, ⟨_, SqL.of e1⟩, fun Da hD => ?_⟩⟩
      have hDa : H Da = none := KN1.dom DN1 (s1.free hD)
      have hlH : H l = none := KN1.dom DN1 ln
      obtain ⟨dp, dc⟩ := D.inp hDa
      obtain ⟨lp, lc⟩ := D.inp hlH
      have nlD : l ≠ Da := ne_of_none e1 hD
      have D2 := DN1.same s1
      have no : lo ≠ Da := ne_of_none (s1 _ _ so1) hD
      have nrD : nr ≠ Da := ne_of_none (s1 _ _ upd_same) hD
      refine lc_list (xs := vs) (fun i M2 => FI p c H l vs L1 Da i M2 ∧ M2 lo = some (.lst (os.map V.int)) ∧ M2 nr = some (.lst (cutV (os.map V.int) none (some (1 + r)))))
        ⟨⟨⟨[], [], upd_same, .nil, (fun _ z => nomatch z), Nat.le_refl _⟩, by rw [upd_ne nlD]; exact e1, e2.mono (new_tup hD), D2.new hD, (KN1.trans (kp_same s1)).trans (kp_new hD)⟩, by rw [upd_ne no]; exact s1 _ _ so1, by rw [upd_ne nrD]; exact s1 _ _ upd_same⟩ (fun i M2 _ fi => SqL.of fi.1.src) ?_ ?_
      · rintro i x M2 hx ⟨fi, so, sn⟩
        have hi : i < vs.length := (List.getElem?_eq_some_iff.mp hx).1
        have := e2.len
        obtain ⟨a, q, rfl, hq, ha⟩ := fi.prs.get hx
        refine ⟨rfl, _, rfl, a, _, _, _, rfl, rfl, SqT.of ha, atI_nat (j := 0) rfl, _, rfl, nr, _, rfl, .inl (SqL.of sn), rfl, flat, _, rfl, a, _, _, _, rfl, rfl, SqT.of ha, atI_nat (j := 1) rfl, _, rfl, nr, _, rfl, .inl (SqL.of sn), rfl, flat, rfl, _, rfl, ite2 (fun h2 => ?_) (fun h2 => ?_)⟩
        · obtain ⟨acc, f1, f2, f3⟩ := fi.put hDa nlD dp dc (by omega) hx
          exact ⟨_, rfl, acc, f1, f2, f3, by rw [upd_ne no]; exact so, by rw [upd_ne nrD]; exact sn⟩
        · exact ⟨fi.skip, so, sn⟩
      rintro M2 ⟨fi, so, sn⟩
      -- .. some of them
      obtain ⟨ws, L2, f1, f2, f3, f4⟩ := fi.ex
      have lL2 : L2.length ≤ 144 := by have := e2.len; omega
      refine ⟨_, rfl, Da, rfl, ⟨_, SqL.of f1⟩, fun Db hb => ?_⟩
      have hDb : H Db = none := fi.kp.dom fi.dk hb
      obtain ⟨bp, bc⟩ := D.inp hDb
      have nab : Da ≠ Db := ne_of_none f1 hb
      have nob : lo ≠ Db := ne_of_none so hb
      refine lc_list (xs := ws) (fun i M3 => FI p c H Da ws L2 Db i M3 ∧ M3 lo = some (.lst (os.map V.int)))
        ⟨⟨⟨[], [], upd_same, .nil, (fun _ z => nomatch z), Nat.le_refl _⟩, by rw [upd_ne nab]; exact f1, f2.mono (new_tup hb), fi.dk.new hb, fi.kp.trans (kp_new hb)⟩, by rw [upd_ne nob]; exact so⟩ (fun i M3 _ fj => SqL.of fj.1.src) ?_ ?_
      · rintro i x M3 hx ⟨fj, so⟩
        have hi : i < ws.length := (List.getElem?_eq_some_iff.mp hx).1
        have := f2.len
        refine ⟨rfl, _, rfl, p, c, _, rfl, fj.dk, by decide, by decide, fun r M4 r0 r1 D3 K3 => ⟨_, rfl, _, _, rfl, rfl, _, rfl, ite2 (fun h2 => ?_) (fun h2 => ?_)⟩⟩
        · obtain ⟨acc, g1, g2, g3⟩ := (fj.step dp dc bp bc D3 K3).put hDb nab bp bc (by omega) hx
          exact ⟨_, rfl, acc, g1, g2, g3, by rw [upd_ne nob]; exact K3 _ _ np nc so⟩
        · exact ⟨(fj.step dp dc bp bc D3 K3).skip, K3 _ _ np nc so⟩
      · rintro M3 ⟨fj, so⟩
        obtain ⟨ws', L3, g1, g2, g3, g4⟩ := fj.ex
        have := f2.len
        exact nx _ _ ⟨wy, th, lo, os, Db, L3, _, rfl, hDb, ⟨ws', g1, g2⟩, (hB1.sub f3).sub g3, by omega, hos, hlo, so, fj.dk, fj.kp⟩
    case i3 =>
      rintro D0 σ M ⟨wy, th, lo, os, ls, L, o6, rfl, hls, hL, hB, hlen, hos, hlo, src, D1, K1⟩ nx
      obtain ⟨np, nc⟩ := D.inp hlo
      have stay := nx _ _ ⟨wy, th, lo, os, ls, L, o6, rfl, hls, hL, hB, hlen, hos, hlo, src, D1, K1⟩
      refine ⟨_, rfl, rfl, _, rfl, ite2 (fun h1 => ⟨_, rfl, _, _, rfl, rfl, _, rfl, ite2 (fun h2 => ?_) (fun h2 => stay)⟩) (fun h1 => stay)⟩
      have n3 : 2 < n := by have := of_decide_eq_true h2; omega
      refine ⟨_, rfl, _, rfl, by omega, by omega, fun Da hD => ?_⟩
      have hDa : H Da = none := K1.dom D1 hD
      obtain ⟨dp, dc⟩ := D.inp hDa
      have nlD : lo ≠ Da := ne_of_none src hD
      refine lc_range (lo := 0) (n := (n : Int).toNat) (fun i M2 => GI p c H lo os n Da i M2) ⟨⟨[], [], upd_same, .nil, .nil, Nat.le_refl _⟩, by rw [upd_ne nlD]; exact src, D1.new hD, K1.trans (kp_new hD)⟩ ?_ ?_
      · rintro i M2 hi g
        obtain ⟨y, y1, y2, y3, y4⟩ := os_at hos (i := i) (by omega)
        obtain ⟨x, j, x1, x2, x3, x4, xj⟩ : ∃ (x : Int) (j : Nat), os[j]? = some x ∧ atI (os.map V.int) (0 + (i : Int) - 1) = some (.int x) ∧ 0 ≤ x ∧ x < n ∧ j ≠ i := by
          cases i with
          | zero =>
            obtain ⟨x, h1, h2⟩ := atI_neg1 hos hn1
            have := hos.mem (List.mem_of_getElem? h1)
            exact ⟨x, n - 1, h1, h2, this.1, this.2, by omega⟩
          | succ i =>
            obtain ⟨x, h1, h2, h3, h4⟩ := os_at hos (i := i) (by omega)
            refine ⟨x, i, h1, ?_, h3, h4, by omega⟩
            rw [show (0 + ((i + 1 : Nat) : Int) - 1) = (i : Int) by omega]
            exact atI_nat h2
        have e0 : atI (os.map V.int) (0 + (i : Int)) = some (.int y) := by rw [Int.zero_add]; exact atI_nat y2
        refine ⟨rfl, ?_⟩
        unfold tYes
        refine iteT ?_
        refine ⟨_, rfl, _, rfl, _, _, rfl, rfl, lo, _, _, _, rfl, rfl, SqL.of g.src, x2, _, rfl, _, rfl, lo, _, _, _, rfl, rfl, SqL.of g.src, e0, x, y, rfl, fun a ha => ?_⟩
        exact g.put hDa nlD dp dc (by omega) ha (mm_bel ⟨x3, x4⟩ ⟨y3, y4⟩ (hos.ne x1 y1 xj))
      · rintro M2 g
        obtain ⟨ws, L2, f1, f2, f3, f4⟩ := g.ex
        exact nx _ _ ⟨wy, th, lo, os, Da, L2, o6, rfl, hDa, ⟨ws, f1, f2⟩, f3, by omega, hos, hlo, g.src, g.dk, g.kp⟩
    case i4 =>
      rintro D0 σ M ⟨wy, th, lo, os, ls, L, o6, rfl, hls, hL, hB, hlen, hos, hlo, src, D1, K1⟩ nx
      obtain ⟨np, nc⟩ := D.inp hlo
      refine ⟨_, rfl, rfl, _, rfl, ite2 (fun h1 => ?_) (fun h1 => nx _ _ ⟨wy, th, lo, os, ls, L, o6, rfl, hls, hL, hB, hlen, hos, hlo, src, D1, K1⟩)⟩
      refine ⟨_, rfl, _, _, rfl, ⟨by omega, by omega, by omega, by omega⟩, fun Da hD => ?_⟩
      have hDa : H Da = none := K1.dom D1 hD
      obtain ⟨dp, dc⟩ := D.inp hDa
      have nlD : lo ≠ Da := ne_of_none src hD
      refine lc_range (lo := 1) (n := ((n : Int) - 1).toNat) (fun i M2 => GI p c H lo os n Da i M2) ⟨⟨[], [], upd_same, .nil, .nil, Nat.le_refl _⟩, by rw [upd_ne nlD]; exact src, D1.new hD, K1.trans (kp_new hD)⟩ ?_ ?_
      · rintro i M2 hi g
        obtain ⟨y, y1, y2, y3, y4⟩ := os_at hos (i := i + 1) (by omega)
        have e0 : atI (os.map V.int) (1 + (i : Int)) = some (.int y) := by rw [show (1 + (i : Int)) = ((i + 1 : Nat) : Int) by omega]; exact atI_nat y2
        refine ⟨rfl, ?_⟩
        unfold tYes
        refine iteT ?_
        refine ⟨_, rfl, _, rfl, lo, _, _, _, rfl, rfl, SqL.of g.src, e0, _, rfl, _, rfl, _, rfl, p, c, _, rfl, g.dk, by omega, by omega, fun r M3 r0 r1 D3 K3 => ?_⟩
        obtain ⟨j, rfl⟩ : ∃ j : Nat, r = j := ⟨r.toNat, by omega⟩
        obtain ⟨x, x1, x2, x3, x4⟩ := os_at hos (i := j) (by omega)
        have g3 := g.step np nc dp dc D3 K3
        refine ⟨lo, _, _, _, rfl, rfl, SqL.of g3.src, atI_nat x2, y, x, rfl, fun a ha => ?_⟩
        exact g3.put hDa nlD dp dc (by omega) ha (mm_bel ⟨y3, y4⟩ ⟨x3, x4⟩ (hos.ne y1 x1 (by omega)))
      · rintro M2 g
        obtain ⟨ws, L2, f1, f2, f3, f4⟩ := g.ex
        exact nx _ _ ⟨wy, th, lo, os, Da, L2, o6, rfl, hDa, ⟨ws, f1, f2⟩, f3, by omega, hos, hlo, g.src, g.dk, g.kp⟩
    case i5 =>
      rintro D0 σ M ⟨wy, th, lo, os, ls, L, o6, rfl, hls, hL, hB, hlen, hos, hlo, src, D1, K1⟩ nx
      obtain ⟨np, nc⟩ := D.inp hlo
      refine ⟨_, rfl, rfl, _, rfl, ite2 (fun h1 => ?_) (fun h1 => nx _ _ ⟨wy, th, lo, os, ls, L, o6, rfl, hls, hL, hB, hlen, hos, hlo, src, D1, K1⟩)⟩
      refine ⟨_, rfl, _, _, rfl, rfl, _, _, _, n / 2, rfl, range2_12 hn1 hn2, fun Da hD => ?_⟩
      have hDa : H Da = none := K1.dom D1 hD
      obtain ⟨dp, dc⟩ := D.inp hDa
      have nlD : lo ≠ Da := ne_of_none src hD
      refine lc_it walk_rangeC (fun i M2 => GI p c H lo os n Da i M2) ⟨⟨[], [], upd_same, .nil, .nil, Nat.le_refl _⟩, by rw [upd_ne nlD]; exact src, D1.new hD, K1.trans (kp_new hD)⟩ (fun _ _ _ _ => trivial) ?_ ?_
      · rintro i v M2 M2' hi g ⟨rfl, rfl⟩
        obtain ⟨y, y1, y2, y3, y4⟩ := os_at hos (i := i * 2) (by omega)
        obtain ⟨x, x1, x2, x3, x4⟩ := os_at hos (i := i * 2 + 1) (by omega)
        have e0 : atI (os.map V.int) (0 + (i : Int) * 2) = some (.int y) := by rw [show (0 + (i : Int) * 2) = ((i * 2 : Nat) : Int) by omega]; exact atI_nat y2
        have e1 : atI (os.map V.int) (0 + (i : Int) * 2 + 1) = some (.int x) := by rw [show (0 + (i : Int) * 2 + 1) = ((i * 2 + 1 : Nat) : Int) by omega]; exact atI_nat x2
        refine ⟨rfl, ?_⟩
        unfold tYes
        refine iteT ?_
        refine ⟨_, rfl, _, rfl, lo, _, _, _, rfl, rfl, SqL.of g.src, e0, _, rfl, _, rfl, _, _, rfl, rfl, lo, _, _, _, rfl, rfl, SqL.of g.src, e1, y, x, rfl, fun a ha => ?_⟩
        exact g.put hDa nlD dp dc (by omega) ha (mm_bel ⟨y3, y4⟩ ⟨x3, x4⟩ (hos.ne y1 x1 (by omega)))
      · rintro M2 g
        obtain ⟨ws, L2, f1, f2, f3, f4⟩ := g.ex
        exact nx _ _ ⟨wy, th, lo, os, Da, L2, o6, rfl, hDa, ⟨ws, f1, f2⟩, f3, by omega, hos, hlo, g.src, g.dk, g.kp⟩
    case i6 =>
      rintro σ M Q1 ⟨⟨wy, th, lo, os, ls, L, o6, rfl, _, _, _, _, _, _, _, D1, K1⟩, q⟩
      refine ⟨_, rfl, _, _, rfl, rfl, _, rfl, ite2 (fun h1 => ?_) (fun h1 => ?_)⟩
      · refine ⟨_, rfl, _, _, rfl, rfl, _, rfl, ite2 (fun h2 => ?_) (fun h2 => ?_)⟩
        · refine ⟨_, rfl, p, c, _, rfl, D1, by decide, by decide, fun r M1 r0 r1 D2 K2 => ?_⟩
          obtain ⟨j, rfl⟩ : ∃ j : Nat, r = j := ⟨r.toNat, by omega⟩
          have := of_decide_eq_true h1
          exact q j M1 (by omega) (.inr (by omega)) D2 K2
        · exact q 0 M (by decide) (.inl rfl) D1 fun _ _ _ _ e => e
      · exact q 0 M (by decide) (.inl rfl) D1 fun _ _ _ _ e => e
    case i0 =>
      refine ⟨_, rfl, p, c, _, rfl, D, by decide, by decide, fun wy H1 w0 w1 D1 K1 => ⟨_, rfl, p, c, _, rfl, D1, by decide, by decide, fun th H2 t0 t1 D2 K2 => ⟨_, _, rfl, rfl, _, rfl, _, rfl, p, c, n, rfl, hn2, D2, fun lo os H3 lon loe hos D3 K3 => ⟨Nat.zero_le _, fun ls hls => ⟨by show 4 ≤ sizeLine; decide, fun t ht => ?_⟩⟩⟩⟩⟩
      have D4 := (D3.new (o := .lst []) hls).new (o := .tup [.int wy, .int (1 + th), .ref lo, .ref ls]) ht
      have K4 : Kp p c H (upd (upd H3 ls (.lst [])) t (.tup [.int wy, .int (1 + th), .ref lo, .ref ls])) := ((((K1.trans K2).trans K3).trans (kp_new hls)).trans (kp_new ht))
      have K12 := K1.trans K2
      have hlsH : H ls = none := (K12.trans K3).dom D3 hls
      have hloH : H lo = none := K12.dom D2 lon
      have e1 : (upd (upd H3 ls (.lst [])) t (.tup [.int wy, .int (1 + th), .ref lo, .ref ls])) ls = some (.lst []) := by rw [upd_ne (ne_of_none upd_same ht)]; exact upd_same
      have e2 : (upd (upd H3 ls (.lst [])) t (.tup [.int wy, .int (1 + th), .ref lo, .ref ls])) lo = some (.lst (os.map V.int)) := by
        have q : (upd H3 ls (.lst [])) lo = some (.lst (os.map V.int)) := by rw [upd_ne (ne_of_none loe hls)]; exact loe
        rw [upd_ne (ne_of_none q ht)]
        exact q
      refine ⟨t, _, rfl, SqT.of upd_same, rfl, _, _, rfl, _, _, rfl, _, _, rfl, _, _, rfl, rfl, ?_⟩
      refine ⟨⟨wy, 1 + th, lo, os, ls, [], none, rfl, hlsH, ⟨[], e1, .nil⟩, .nil, Nat.zero_le _, hos, hloH, e2, D4, K4⟩, fun σ1 M1 j1 => ⟨j1, fun σ2 M2 j2 => ⟨j2, fun σ3 M3 j3 => ⟨j3, fun σ4 M4 j4 => ⟨j4, fun σ5 M5 j5 => ⟨j5, fun m M6 hm hm2 D6 K6 => ?_⟩⟩⟩⟩⟩⟩
      obtain ⟨wy', th', lo', os', ls', L, o6, rfl, hls', hL, hB, hlen, _, _, _, D5, K5⟩ := j5
      obtain ⟨lp, lc⟩ := D.inp hls'
      refine ⟨_, rfl, by omega, by omega, ?_⟩
      refine for_range (lo := 0) (n := (m : Int).toNat) (fun i σ M => ∃ (L : List (Int × Int)) (o7 o8 o9 : Option V), σ = [some (.ref p), some (.int n), some (.int wy'), some (.int th'), some (.ref lo'), some (.ref ls'), o6, o7, o8, o9, none, none] ∧ LP M ls' L ∧ Bel n L ∧ L.length ≤ 144 + i ∧ Deck M p c ∧ Kp p c H M)
        ⟨L, none, none, none, rfl, hL.kp D5 K6 lp lc, hB, hlen, D6, K5.trans K6⟩ ?_ ?_
      · rintro i σ M hi ⟨L, o7, o8, o9, rfl, hL, hB, hlen, D7, K7⟩
        have hn : 2 ≤ n := by omega
        refine ⟨_, rfl, _, rfl, p, c, _, rfl, D7, by omega, by omega, fun x N1 x0 x1 E1 G1 => ⟨_, rfl, _, rfl, _, _, rfl, rfl, p, c, _, rfl, E1, by omega, by omega, fun y N2 y0 y1 E2 G2 => ⟨_, _, rfl, rfl, _, _, rfl, ?_⟩⟩⟩
        have hL2 := (hL.kp D7 G1 lp lc).kp E1 G2 lp lc
        obtain ⟨vs, f1, f2⟩ := hL2
        have fm := fmod_in (a := x + (1 + y)) (b := (n : Int)) (by omega)
        have ne : x ≠ (x + (1 + y)).fmod n := by
          rw [Int.fmod_eq_emod_of_nonneg _ (by omega)]
          by_cases z : x + (1 + y) < n
          · rw [Int.emod_eq_of_lt (by omega) z]; omega
          · have : (x + (1 + y)) % (n : Int) = x + (1 + y) - n := by
              rw [← Int.sub_emod_right, Int.emod_eq_of_lt (by omega) (by omega)]
            rw [this]; omega
        refine ⟨_, rfl, .inl ⟨rfl, _, SqL.of f1⟩, _, rfl, _, rfl, _, rfl, _, _, rfl, rfl, .inl ⟨_, rfl, _, rfl, _, _, rfl, rfl, by omega, ?_⟩⟩
        refine ⟨_, _, rfl, fun a ha => ?_⟩
        have f1' : (upd N2 a (.tup [.int (mm x ((x + (1 + y)).fmod n)).1, .int (mm x ((x + (1 + y)).fmod n)).2])) ls' = some (.lst vs) := by rw [upd_ne (ne_of_none f1 ha)]; exact f1
        refine ⟨ls', _, _, rfl, rfl, f1', by rw [f2.len, sizeLine_eq]; omega, L ++ [mm x ((x + (1 + y)).fmod n)], _, _, _, rfl, ⟨_, upd_same, ((f2.mono (new_tup ha)).app (.cons upd_same .nil)).mono (upd_tup f1')⟩, hB.snoc (mm_bel ⟨x0, x1⟩ fm ne), by rw [List.length_append]; show L.length + 1 ≤ _; omega, (E2.new ha).put lp lc, ?_⟩
        exact ((((K7.trans G1).trans G2).trans (kp_new ha)).own hls')
      · rintro σ M ⟨L, o7, o8, o9, rfl, hL, hB, hlen, D7, K7⟩
        exact ⟨_, rfl, k ls' L M hls' hL hB (by omega) D7 K7⟩
end
end K0

set_option Elab.async false
set_option linter.all false
set_option maxRecDepth 100000
set_option maxHeartbeats 8000000
/-! A drawn web. -/
namespace K0
open PySem PySem.Spec L2
open PyProof.Rows hiding St
/-- a pair as data -/
def pd (q : Int × Int) : PyData := .tuple [.int q.1, .int q.2]
theorem Prs.dp {K : PySem.W.Frag} {H : Hp} {vs : List V} {L : List (Int × Int)} (p : Prs H vs L) : DpAll K H vs (L.map pd) := by
  induction p with
  | nil => exact .nil
  | cons h t ih => exact .cons (Dp.tup (SqT.of h) (.cons (.int _) (.cons (.int _) .nil))) ih
theorem pd_shaped (L : List (Int × Int)) : SeqAt.shaped (.list (L.map pd)) = true := by
  have h : ∀ M : List (Int × Int), PyData.canLayAll0 (M.map pd) = true ∧ PyData.depthAll (M.map pd) ≤ 1 := fun M => by
    induction M with
    | nil => exact ⟨by simp [PyData.canLayAll0], by simp [PyData.depthAll]⟩
    | cons y ys ih => exact ⟨by simp [pd, PyData.canLayAll0, PyData.canLay0, ih.1], by
        have := ih.2
        simp only [List.map_cons, pd, PyData.depthAll, PyData.depth] at this ⊢
        omega⟩
  show (PyData.canLay0 _ && decide (PyData.depth _ ≤ 64)) = true
  rw [Bool.and_eq_true]
  exact ⟨by simp only [PyData.canLay0]; exact (h L).1, decide_eq_true (by simp only [PyData.depth]; have := (h L).2; omega)⟩
theorem pd_eqv0 (L : List (Int × Int)) : PyData.eqv (.list (L.map pd)) (.list []) = decide (L = []) := by
  cases L with
  | nil => rfl
  | cons q L => simp [PyData.eqv, PyData.eqvAll]
/-- the order of pairs -/
def cd (q : Int × Int) : Int := q.1 * 64 + q.2
def Srt (L : List (Int × Int)) : Prop := L.Pairwise fun a b => cd a ≤ cd b
theorem Prs.mem {H : Hp} {vs : List V} {L : List (Int × Int)} (p : Prs H vs L) : ∀ {q : Int × Int}, q ∈ L → ∃ a, V.ref a ∈ vs ∧ H a = some (.tup [.int q.1, .int q.2]) := by
  induction p with
  | nil => intro q z; cases z
  | @cons a r vs L h t ih =>
    intro q z
    rcases List.mem_cons.mp z with rfl | z
    · exact ⟨a, List.mem_cons_self .., h⟩
    · obtain ⟨b, h1, h2⟩ := ih z
      exact ⟨b, List.mem_cons_of_mem _ h1, h2⟩
theorem Prs.memV {H : Hp} {vs : List V} {L : List (Int × Int)} (p : Prs H vs L) : ∀ {v : V}, v ∈ vs → ∃ a q, v = .ref a ∧ q ∈ L ∧ H a = some (.tup [.int q.1, .int q.2]) := by
  induction p with
  | nil => intro q z; cases z
  | @cons a r vs L h t ih =>
    intro v z
    rcases List.mem_cons.mp z with rfl | z
    · exact ⟨a, r, rfl, List.mem_cons_self .., h⟩
    · obtain ⟨b, q, h1, h2, h3⟩ := ih z
      exact ⟨b, q, h1, List.mem_cons_of_mem _ h2, h3⟩
theorem tupI_pr {K : PySem.W.Frag} {H : Hp} {a : Addr} {q : Int × Int} (h : H a = some (.tup [.int q.1, .int q.2])) : TupI K H (.ref a) [q.1, q.2] := ⟨a, rfl, SqT.of h⟩
theorem Prs.srt {K : PySem.W.Frag} {H : Hp} {ys : List V} {M : List (Int × Int)} (p : Prs H ys M) : ys.Pairwise (fun x y => ∀ n m, TupI K H x n → TupI K H y m → TS.code 64 n ≤ TS.code 64 m) → Srt M := by
  induction p with
  | nil => intro _; exact .nil
  | @cons a r vs L h t ih =>
    intro z
    obtain ⟨z1, z2⟩ := List.pairwise_cons.mp z
    refine List.pairwise_cons.mpr ⟨fun q hq => ?_, ih z2⟩
    obtain ⟨b, hb, eb⟩ := t.mem hq
    have := z1 _ hb _ _ (tupI_pr h) (tupI_pr eb)
    rw [code_pair, code_pair] at this
    exact this
theorem Prs.tups {K : PySem.W.Frag} {H : Hp} {vs : List V} {L : List (Int × Int)} {n : Int} (p : Prs H vs L) (hB : Bel n L) (hn : n ≤ 64) : ∀ x ∈ vs, ∃ ns, TupI K H x ns ∧ ns.length = 2 ∧ TS.Bd 64 ns := fun x hx => by
  obtain ⟨a, q, rfl, hq, h⟩ := p.memV hx
  have := hB q hq
  refine ⟨_, tupI_pr h, rfl, fun m hm => ?_⟩
  rcases List.mem_cons.mp hm with rfl | hm
  · omega
  · rw [List.mem_singleton.mp hm]; omega
/-- a web stands at w -/
structure Web (H : Hp) (w : Addr) (n : Nat) (L : List (Int × Int)) : Prop where
  ex : ∃ (t : Addr) (vs : List V), H w = some (.tup [.int n, .ref t]) ∧ H t = some (.tup vs) ∧ Prs H vs L
theorem Web.mono {H H' : Hp} {w : Addr} {n : Nat} {L : List (Int × Int)} (W : Web H w n L) (s : ∀ a x, H a = some (.tup x) → H' a = some (.tup x)) : Web H' w n L := by
  obtain ⟨t, vs, h1, h2, h3⟩ := W.ex
  exact ⟨t, vs, s _ _ h1, s _ _ h2, h3.mono s⟩
theorem Web.same {H H' : Hp} {w : Addr} {n : Nat} {L : List (Int × Int)} (W : Web H w n L) (s : Same H H') : Web H' w n L := W.mono (same_tup s)
/-- what a comprehension of new pairs has made -/
structure GJ (p c : Addr) (H : Hp) (n : Int) (Da : Addr) (i : Nat) (M : Hp) : Prop where
  ex : ∃ (ws : List V) (L2 : List (Int × Int)), M Da = some (.lst ws) ∧ Prs M ws L2 ∧ Bel n L2 ∧ L2.length ≤ i
  dk : Deck M p c
  kp : Kp p c H M
theorem GJ.put {p c Da : Addr} {H M : Hp} {n : Int} {i : Nat} (h : GJ p c H n Da i M) (hD : H Da = none) (n3 : Da ≠ p) (n4 : Da ≠ c) (hi : i ≤ 1000) {a : Addr} {q : Int × Int} (ha : M a = none) (hq : 0 ≤ q.1 ∧ q.1 < q.2 ∧ q.2 < n) :
    ∃ acc, (upd M a (.tup [.int q.1, .int q.2])) Da = some (.lst acc) ∧ acc.length < sizeLine ∧ GJ p c H n Da (i + 1) (upd (upd M a (.tup [.int q.1, .int q.2])) Da (.lst (acc ++ [.ref a]))) := by
  obtain ⟨ws, L2, e1, e2, e3, e4⟩ := h.ex
  have e1' : (upd M a (.tup [.int q.1, .int q.2])) Da = some (.lst ws) := by rw [upd_ne (ne_of_none e1 ha)]; exact e1
  exact ⟨ws, e1', by rw [e2.len, sizeLine_eq]; omega, ⟨ws ++ [.ref a], L2 ++ [q], upd_same, ((e2.mono (new_tup ha)).app (.cons upd_same .nil)).mono (upd_tup e1'), e3.snoc hq, by rw [List.length_append]; show L2.length + 1 ≤ _; omega⟩, (h.dk.new ha).put n3 n4, (h.kp.trans (kp_new ha)).own hD⟩
/-- a row of pairs stays while a new tuple and another list are written -/
theorem LP.past {M : Hp} {l a Da : Addr} {L : List (Int × Int)} {o : HO} {ws : List V} {acc : List V} (h : LP M l L) (ha : M a = none) (eD : (upd M a o) Da = some (.lst acc)) (ne : l ≠ Da) : LP (upd (upd M a o) Da (.lst ws)) l L :=
  (h.mono (fun ys e => by rw [upd_ne (ne_of_none e ha)]; exact e) (new_tup ha)).mono (fun ys e => by rw [upd_ne ne]; exact e) (upd_tup eD)
theorem LP.new {M : Hp} {l a : Addr} {L : List (Int × Int)} {o : HO} (h : LP M l L) (ha : M a = none) : LP (upd M a o) l L := h.mono (fun ys e => by rw [upd_ne (ne_of_none e ha)]; exact e) (new_tup ha)
def spWeb : Sp := fun vs H Q _ => ∃ (p c : Addr) (n m : Nat), vs = [.ref p, .int n, .int m] ∧ 1 ≤ n ∧ n ≤ 12 ∧ m ≤ 40 ∧ Deck H p c ∧ ∀ (w : Addr) (L : List (Int × Int)) (H' : Hp), H w = none → Web H' w n L → Bel n L → Srt L → L.length ≤ m → Deck H' p c → Kp p c H H' → Q (.ref w) H'
abbrev nWeb : List Str := ["_law_deck_here", "_law_n", "_law_most", "_law_near_here", "_law_some", "_law_order_here", "_law_turn", "_law_one", "_law_other"]
/-- between the statements -/
def WJ (p c : Addr) (n m : Nat) (H : Hp) (near b lb : Nat) (σ : St) (M : Hp) : Prop := ∃ (ls lo : Addr) (L : List (Int × Int)) (os : List Int) (o6 : Option V),
  σ = [some (.ref p), some (.int n), some (.int m), some (.int near), some (.ref ls), some (.ref lo), o6, none, none] ∧ 1 ≤ near ∧ near ≤ n ∧ H ls = none ∧ H lo = none ∧ LP M ls L ∧ L.length ≤ lb ∧
  IsOrd n os ∧ M lo = some (.lst (os.map V.int)) ∧ Deck M p c ∧ Kp p c H M ∧ Bel b L
section
variable {P : Program} {w : World} {K : PySem.W.Frag} {mg : Str → Option Value} {base : Heap}
theorem scWeb : FnScope nWeb ["_law_deck_here", "_law_n", "_law_most"] (defScope sWeb) := ⟨rfl, rfl, rfl, by decide +kernel, rfl, by decide +kernel, by decide +kernel⟩
theorem ok_web {f fD fO fP fT fK : Addr} {fd fdD fdO fdP fdT fdK : FuncData} (F : Fun K "_law_web" "_law_web" sWeb f fd) (T : Bj mg) (GD : Dn P w K mg base "_law_draw" 1 ["_law_deck_here", "_law_many"] spDraw fD fdD)
    (GO : Dn P w K mg base "_law_order" 2 ["_law_deck_here", "_law_n"] spOrder fO fdO) (GP : Dn P w K mg base "_law_pair" 1 ["_law_one", "_law_other"] spPair fP fdP) (GT : Dn P w K mg base "_law_drawn_ties" 3 ["_law_deck_here", "_law_n"] spTies fT fdT)
    (GK : Dn P w K mg base "_law_pick" 2 ["_law_deck_here", "_law_some"] spPick fK fdK) :
    FnOk P w K mg base CX0 4 f fd ["_law_deck_here", "_law_n", "_law_most"] spWeb := by
  refine F.ok scWeb (fun vs H Q E h => ?_) (fun cdv A outer s H vs Q E hr h => ?_)
  · obtain ⟨p, c, n, m, rfl, _⟩ := h
    rfl
  · obtain ⟨p, c, n, m, rfl, hn1, hn2, hm, D, k⟩ := h
    have hr1 : Room 1 (A.deeper (envOfC "_law_web" (defScope sWeb) s.heap.objs.size f cdv)) := hr.mono (by decide)
    have hr2 : Room 2 (A.deeper (envOfC "_law_web" (defScope sWeb) s.heap.objs.size f cdv)) := hr.mono (by decide)
    have hu6 : A.units + 3 + 64 < cLine := by have := hr.un; have e : (A.deeper (envOfC "_law_web" (defScope sWeb) s.heap.objs.size f cdv)).units = A.units + 3 := rfl; omega
    refine ⟨_, pss_cons (ps_set (i := 3) scWeb.nd rfl (.inr rfl) (pe_imp (t' := fun σ M Q => σ = start nWeb [.ref p, .int n, .int m] ∧ M = H ∧ ∀ (k : Nat) (M1 : Hp), 1 ≤ k → k ≤ n → Deck M1 p c → Kp p c H M1 → Q (.int k) M1)
          (pe_ifExp (pt_cmpR op_eq (pe_call GD.ok hr1 rfl GD.g GD.kp GD.b .nil pass0 (pa_cons (pv 0) (pa_cons pe_int pa_nil))) pe_int (nomark _))
            (pe_op op_add pe_int (pe_call GD.ok hr1 rfl GD.g GD.kp GD.b .nil pass0 (pa_cons (pv 0) (pa_cons (pv 1) pa_nil)))) (pv 1)) ?j1))
      <| pss_cons (ps_asg (pe_tup (pa_cons (pe_call GT.ok hr rfl GT.g GT.kp GT.b .nil pass0 (pa_cons (pv 0) (pa_cons (pv 3) pa_nil))) (pa_cons (pe_listRg rfl (by rfl) T.list (prg_1 (by rfl) T.range (pv 1))) pa_nil)))
          (pg_tup rfl (pgs_cons (pg_name (i := 4) scWeb.nd rfl (.inl rfl)) (pgs_cons (pg_name (i := 5) scWeb.nd rfl (.inr rfl)) pgs_nil))))
      <| pss_cons (ps_inv (J := fun σ M => ∃ near, WJ p c n m H near near 160 σ M) (J' := fun σ M => ∃ near, WJ p c n m H near n 320 σ M) (ps_if (pt_cmpR op_lt (pv 3) (pv 1) (nomark _))
          (pss_cons (ps_set (i := 4) scWeb.nd rfl (.inl rfl) (pe_op op_cat (pv 4) (pe_lc (own := [("_law_one", 7), ("_law_other", 8)]) (g := gTup K 2 (gCons (gName 7) (gCons (gName 8) gNil))) (tt := tYes) rfl scWeb.nd
              (pi_list (pe_call GT.ok hr rfl GT.g GT.kp GT.b .nil pass0 (pa_cons (pv 0) (pa_cons (pe_op op_sub (pv 1) (pv 3)) pa_nil)))) (blkOk_by (N := nWeb) (sc := defScope sWeb) (by decide +kernel))
              (fun _ _ _ _ _ => pg_tup rfl (pgs_cons (pg_name (i := 7) scWeb.nd rfl (.inl rfl) (.inr rfl)) (pgs_cons (pg_name (i := 8) scWeb.nd rfl (.inl rfl) (.inr rfl)) pgs_nil))) (fun _ _ _ _ _ => pts_nil)
              (fun _ _ _ _ _ => pe_tup (pa_cons (pe_op op_add (pv 7) (pv 3)) (pa_cons (pe_op op_add (pv 8) (pv 3)) pa_nil))))))
          <| pss_one (ps_set (i := 5) scWeb.nd rfl (.inr rfl) (pe_call GO.ok hr2 rfl GO.g GO.kp GO.b .nil pass0 (pa_cons (pv 0) (pa_cons (pv 1) pa_nil))))) pss_nil) ?j2)
      <| pss_cons (ps_inv (J := fun σ M => ∃ near, WJ p c n m H near n 320 σ M) (J' := fun σ M => ∃ near, WJ p c n m H near n 320 σ M) (ps_setLc (i := 4) (own := [("_law_one", 7), ("_law_other", 8)]) (g := gTup K 2 (gCons (gName 7) (gCons (gName 8) gNil))) (tt := tYes) rfl scWeb.nd rfl rfl (sw_true rfl rfl rfl (by decide +kernel))
              (pi_list (pv 4)) (blkOk_by (N := nWeb) (sc := defScope sWeb) (by decide +kernel))
              (fun _ _ _ _ _ => pg_tup rfl (pgs_cons (pg_name (i := 7) scWeb.nd rfl (.inl rfl) (.inr rfl)) (pgs_cons (pg_name (i := 8) scWeb.nd rfl (.inl rfl) (.inr rfl)) pgs_nil))) (fun _ _ _ _ _ => pts_nil)
              (fun _ _ _ _ _ => pe_call GP.ok hr1 rfl GP.g GP.kp GP.b .nil pass0 (pa_cons (pe_ix (show IxR _ (rIxL K) from ix_list) (pv 5) (pv 7) (fun _ _ => rfl)) (pa_cons (pe_ix (show IxR _ (rIxL K) from ix_list) (pv 5) (pv 8) (fun _ _ => rfl)) pa_nil)))) ?j3)
      <| pss_cons (ps_for PassesOwn.never rfl (pi_range1 (by rfl) T.range (pa_cons (pe_imp (t' := fun σ M Q => (∃ near, WJ p c n m H near n 320 σ M) ∧ ∀ (ls : Addr) (j : Nat) (M1 : Hp), σ[4]? = some (some (.ref ls)) → j ≤ 3 → (∀ L, LP M ls L → LP M1 ls L ∧ (j = 0 ∨ L ≠ [])) → Deck M1 p c → Kp p c H M1 → Q (.int j) M1)
            (pe_ifExp (pt_cmpR (op_neD hu6) (pv 4) (pe_lst pa_nil) (nomark _)) (pe_call GD.ok hr1 rfl GD.g GD.kp GD.b .nil pass0 (pa_cons (pv 0) (pa_cons pe_int pa_nil))) pe_int) ?j4) pa_nil)) (pg_name (i := 6) scWeb.nd rfl (.inl rfl))
          (pss_one (ps_expr (pe_bm PySem.F.plainAttrs_list PySem.F.slot_list_append PySem.F.type_list_append mt_append (pv 4) (pa_cons (pe_call GK.ok hr2 rfl GK.g GK.kp GK.b .nil pass0 (pa_cons (pv 0) (pa_cons (pv 4) pa_nil))) pa_nil)))))
      <| pss_cons (ps_for PassesOwn.never rfl (pi_range1 (by rfl) T.range (pa_cons (pe_op op_sub (pe_callB call_len_seq (by rfl) T.len PySem.boot_len (pa_cons (pv 4) pa_nil)) (pv 2)) pa_nil)) (pg_name (i := 6) scWeb.nd rfl (.inl rfl))
          (pss_one (ps_expr (pe_bm PySem.F.plainAttrs_list PySem.F.slot_list_pop PySem.F.type_list_pop mt_popAt (pv 4) (pa_cons (pe_call GD.ok hr1 rfl GD.g GD.kp GD.b .nil pass0 (pa_cons (pv 0) (pa_cons (pe_callB call_len_seq (by rfl) T.len PySem.boot_len (pa_cons (pv 4) pa_nil)) pa_nil))) pa_nil)))))
      <| pss_one (ps_ret (pe_tup (pa_cons (pv 1) (pa_cons (pe_callTy call_tuple_of (by rfl) T.tuple (by decide +kernel) (pa_cons (pe_callB (cr_sortT (d := 2) (B := 64) (by decide)) (by rfl) T.sorted (by decide +kernel) (pa_cons (pv 4) pa_nil)) pa_nil)) pa_nil)))), ?j0⟩
    case j1 =>
      rintro σ M Q1 ⟨rfl, rfl, q⟩
      refine ⟨_, rfl, p, c, _, rfl, D, by decide, by decide, fun r M1 r0 r1 D1 K1 => ⟨rfl, _, rfl, ite2 (fun h1 => ?_) (fun h1 => ⟨_, rfl, q n M1 hn1 (Nat.le_refl _) D1 K1⟩)⟩⟩
      refine ⟨_, rfl, _, rfl, p, c, _, rfl, D1, by omega, by omega, fun x M2 x0 x1 D2 K2 => ⟨_, _, rfl, rfl, ?_⟩⟩
      obtain ⟨j, rfl⟩ : ∃ j : Nat, x = j := ⟨x.toNat, by omega⟩
      have e := q (1 + j) M2 (by omega) (by omega) D2 (K1.trans K2)
      rwa [show ((1 + j : Nat) : Int) = 1 + (j : Int) by omega] at e
    case j4 =>
      rintro σ M Q1 ⟨⟨near, ls, lo, L, os, o6, rfl, n1, n2, hls, hlo, ⟨vs, e1, e2⟩, hlen, hos, src, D1, K1, hB⟩, q⟩
      obtain ⟨lp, lc⟩ := D.inp hls
      refine ⟨_, rfl, Nat.zero_le _, fun l hl => ?_⟩
      have e1' : (upd M l (.lst [])) ls = some (.lst vs) := by rw [upd_ne (ne_of_none e1 hl)]; exact e1
      refine ⟨.list (L.map pd), .list [], .lst (SqL.of e1') (e2.mono (new_tup hl)).dp, .lst (SqL.of upd_same) .nil, pd_shaped L, by decide, _, rfl, ?_⟩
      rw [pd_eqv0]
      have D2 := D1.new (o := .lst []) hl
      have keep : ∀ L, LP M ls L → LP (upd M l (.lst [])) ls L := fun L h => h.mono (fun ys e => by rw [upd_ne (ne_of_none e hl)]; exact e) (new_tup hl)
      have LPi : ∀ {L' : List (Int × Int)}, LP M ls L' → L ≠ [] → L' ≠ [] := fun ⟨ws, f1, f2⟩ hL hz => by
        rw [e1] at f1
        cases f1
        have a := e2.len
        have b := f2.len
        rw [hz] at b
        exact hL (List.length_eq_zero_iff.mp (by rw [← a, b]; rfl))
      by_cases hL : L = []
      · rw [decide_eq_true hL]
        exact q ls 0 _ rfl (by decide) (fun L' h => ⟨keep L' h, .inl rfl⟩) D2 (K1.trans (kp_new hl))
      · rw [decide_eq_false hL]
        refine ⟨_, rfl, p, c, _, rfl, D2, by decide, by decide, fun r M1 r0 r1 D3 K3 => ?_⟩
        obtain ⟨j, rfl⟩ : ∃ j : Nat, r = j := ⟨r.toNat, by omega⟩
        exact q ls j M1 rfl (by omega) (fun L' h => ⟨(keep L' h).kp D2 K3 lp lc, .inr (LPi h hL)⟩) D3 ((K1.trans (kp_new hl)).trans K3)
    case j2 =>
      rintro D0 σ M ⟨near, ls, lo, L, os, o6, rfl, n1, n2, hls, hlo, hL, hlen, hos, src, D1, K1, hB⟩ nx
      obtain ⟨sp, sc⟩ := D.inp hls
      refine ⟨_, rfl, _, rfl, _, _, rfl, rfl, _, rfl, ite2 (fun h1 => ?_) (fun h1 => nx _ _ ⟨near, ls, lo, L, os, o6, rfl, n1, n2, hls, hlo, hL, by omega, hos, src, D1, K1, ?_⟩)⟩
      · have h1' := of_decide_eq_true h1
        refine ⟨_, rfl, _, rfl, _, rfl, _, rfl, _, _, rfl, rfl, p, c, n - near, by show [V.ref p, V.int ((n : Int) - (near : Int))] = _; rw [show ((n : Int) - (near : Int)) = ((n - near : Nat) : Int) by omega], by omega, by omega, D1, fun l L1 M1 ln hL1 hB1 hlen1 D2 K2 => ?_⟩
        have hlH : H l = none := K1.dom D1 ln
        obtain ⟨lp, lc⟩ := D.inp hlH
        obtain ⟨vs, e1, e2⟩ := id hL1
        refine ⟨l, rfl, ⟨_, SqL.of e1⟩, fun Da hD => ?_⟩
        have K12 := K1.trans K2
        have hDa : H Da = none := K12.dom D2 hD
        obtain ⟨dp, dc⟩ := D.inp hDa
        have nlD : l ≠ Da := ne_of_none e1 hD
        have hLs := hL.kp D1 K2 sp sc
        have nsD : ls ≠ Da := by obtain ⟨ws, f1, _⟩ := hLs; exact ne_of_none f1 hD
        refine lc_list (xs := vs) (fun i M2 => GJ p c H n Da i M2 ∧ M2 l = some (.lst vs) ∧ Prs M2 vs L1 ∧ LP M2 ls L) ⟨⟨⟨[], [], upd_same, .nil, .nil, Nat.le_refl _⟩, D2.new hD, K12.trans (kp_new hD)⟩, by rw [upd_ne nlD]; exact e1, e2.mono (new_tup hD), hLs.new hD⟩ (fun i M2 _ g => SqL.of g.2.1) ?_ ?_
        · rintro i x M2 hx ⟨g, g1, g2, g3⟩
          have hi : i < vs.length := (List.getElem?_eq_some_iff.mp hx).1
          have := e2.len
          obtain ⟨a, q, rfl, hq, ha⟩ := g2.get hx
          have hb := hB1 q (List.mem_of_getElem? hq)
          refine ⟨a, _, rfl, SqT.of ha, rfl, _, _, rfl, _, _, rfl, rfl, rfl, ?_⟩
          unfold tYes
          refine iteT ?_
          refine ⟨_, rfl, _, rfl, _, _, rfl, rfl, _, rfl, _, rfl, _, _, rfl, rfl, by show 2 ≤ sizeLine; decide, fun t ht => ?_⟩
          obtain ⟨acc, f1, f2, f3⟩ := g.put (q := (q.1 + near, q.2 + near)) hDa dp dc (by omega) ht ⟨by show 0 ≤ q.1 + (near : Int); omega, by show q.1 + (near : Int) < q.2 + near; omega, by show q.2 + (near : Int) < n; omega⟩
          exact ⟨acc, f1, f2, f3, by rw [upd_ne nlD, upd_ne (ne_of_none g1 ht)]; exact g1, (g2.mono (new_tup ht)).mono (upd_tup f1), g3.past ht f1 nsD⟩
        · rintro M2 ⟨g, g1, g2, ws0, f1, f2⟩
          obtain ⟨ws, L2, d1, d2, d3, d4⟩ := g.ex
          have l0 := f2.len
          have l2 := d2.len
          have le := e2.len
          refine ⟨ls, Da, _, _, rfl, rfl, f1, d1, by rw [sizeLine_eq]; omega, fun b hb => ?_⟩
          have hbH : H b = none := g.kp.dom g.dk hb
          obtain ⟨bp, bc⟩ := D.inp hbH
          refine ⟨_, rfl, _, rfl, p, c, n, rfl, hn2, g.dk.new hb, fun lo' os' M3 ln' e3 hos' D3 K3 => ?_⟩
          have hlo' : H lo' = none := (g.kp.trans (kp_new hb)).dom (g.dk.new hb) ln'
          have hLb : LP (upd M2 b (.lst (ws0 ++ ws))) b (L ++ L2) := ⟨_, upd_same, (f2.app d2).mono (new_tup hb)⟩
          refine nx _ _ ⟨near, b, lo', L ++ L2, os', o6, rfl, n1, n2, hbH, hlo', hLb.kp (g.dk.new hb) K3 bp bc, by rw [List.length_append]; omega, hos', e3, D3, (g.kp.trans (kp_new hb)).trans K3, Bel.app (fun q z => ?_) d3⟩
          have := hB q z
          omega
      · have : near = n := by
          have h1' : ¬ ((near : Int) < n) := fun z => h1 (decide_eq_true z)
          omega
        rw [← this]
        exact hB
    case j3 =>
      rintro D0 σ M ⟨near, ls, lo, L, os, o6, rfl, n1, n2, hls, hlo, ⟨vs, e1, e2⟩, hlen, hos, src, D1, K1, hB⟩ nx
      obtain ⟨sp, sc⟩ := D.inp hls
      refine ⟨_, rfl, ls, rfl, ⟨_, SqL.of e1⟩, fun Da hD => ?_⟩
      have hDa : H Da = none := K1.dom D1 hD
      obtain ⟨dp, dc⟩ := D.inp hDa
      have nsD : ls ≠ Da := ne_of_none e1 hD
      have noD : lo ≠ Da := ne_of_none src hD
      refine lc_list (xs := vs) (fun i M2 => GJ p c H n Da i M2 ∧ M2 ls = some (.lst vs) ∧ Prs M2 vs L ∧ M2 lo = some (.lst (os.map V.int))) ⟨⟨⟨[], [], upd_same, .nil, .nil, Nat.le_refl _⟩, D1.new hD, K1.trans (kp_new hD)⟩, by rw [upd_ne nsD]; exact e1, e2.mono (new_tup hD), by rw [upd_ne noD]; exact src⟩ (fun i M2 _ g => SqL.of g.2.1) ?_ ?_
      · rintro i x M2 hx ⟨g, g1, g2, g3⟩
        have hi : i < vs.length := (List.getElem?_eq_some_iff.mp hx).1
        have := e2.len
        obtain ⟨a, q, rfl, hq, ha⟩ := g2.get hx
        have hb := hB q (List.mem_of_getElem? hq)
        obtain ⟨q1, q2⟩ := q
        have hb : 0 ≤ q1 ∧ q1 < q2 ∧ q2 < n := hb
        obtain ⟨i1, rfl⟩ : ∃ j : Nat, q1 = j := ⟨q1.toNat, by omega⟩
        obtain ⟨i2, rfl⟩ : ∃ j : Nat, q2 = j := ⟨q2.toNat, by omega⟩
        obtain ⟨x, x1, x2, x3, x4⟩ := os_at hos (i := i1) (by omega)
        obtain ⟨y, y1, y2, y3, y4⟩ := os_at hos (i := i2) (by omega)
        refine ⟨a, _, rfl, SqT.of ha, rfl, _, _, rfl, _, _, rfl, rfl, rfl, ?_⟩
        unfold tYes
        refine iteT ?_
        refine ⟨_, rfl, _, rfl, lo, _, _, _, rfl, rfl, SqL.of g3, atI_nat x2, _, rfl, _, rfl, lo, _, _, _, rfl, rfl, SqL.of g3, atI_nat y2, x, y, rfl, fun t ht => ?_⟩
        obtain ⟨acc, f1, f2, f3⟩ := g.put (q := mm x y) hDa dp dc (by omega) ht (mm_bel ⟨x3, x4⟩ ⟨y3, y4⟩ (hos.ne x1 y1 (by omega)))
        exact ⟨acc, f1, f2, f3, by rw [upd_ne nsD, upd_ne (ne_of_none g1 ht)]; exact g1, (g2.mono (new_tup ht)).mono (upd_tup f1), by rw [upd_ne noD, upd_ne (ne_of_none g3 ht)]; exact g3⟩
      · rintro M2 ⟨g, g1, g2, g3⟩
        obtain ⟨ws, L2, d1, d2, d3, d4⟩ := g.ex
        have le := e2.len
        exact nx _ _ ⟨near, Da, lo, L2, os, o6, rfl, n1, n2, hDa, hlo, ⟨ws, d1, d2⟩, by omega, hos, g3, g.dk, g.kp, d3⟩
    case j0 =>
      refine ⟨rfl, rfl, fun near M1 n1 n2 D1 K1 => ?_⟩
      refine ⟨_, rfl, _, rfl, p, c, near, rfl, n1, by omega, D1, fun ls L M2 ln hL hB hlen D2 K2 => ⟨_, rfl, _, rfl, .of_le (by omega) (by omega) (by omega) (by omega), fun lo hlo => ⟨by show 2 ≤ sizeLine; decide, fun t ht => ?_⟩⟩⟩
      rw [rg_ints] at ht ⊢
      have K12 := K1.trans K2
      have hlsH : H ls = none := K1.dom D1 ln
      have hloH : H lo = none := K12.dom D2 hlo
      obtain ⟨sp, sc⟩ := D.inp hlsH
      have D3 := (D2.new (o := .lst (((List.range n).map fun i => ((i : Nat) : Int)).map V.int)) hlo).new (o := .tup [.ref ls, .ref lo]) ht
      have K3 := (K12.trans (kp_new (o := .lst (((List.range n).map fun i => ((i : Nat) : Int)).map V.int)) hlo)).trans (kp_new (o := .tup [.ref ls, .ref lo]) ht)
      have eo : (upd (upd M2 lo (.lst (((List.range n).map fun i => ((i : Nat) : Int)).map V.int))) t (.tup [.ref ls, .ref lo])) lo = some (.lst (((List.range n).map fun i => ((i : Nat) : Int)).map V.int)) := by rw [upd_ne (ne_of_none upd_same ht)]; exact upd_same
      refine ⟨t, _, rfl, SqT.of upd_same, rfl, _, _, rfl, _, _, rfl, rfl, ?_⟩
      refine ⟨⟨near, ls, lo, L, _, none, rfl, n1, n2, hlsH, hloH, (hL.new hlo).new ht, by omega, iota_ord n, eo, D3, K3, hB⟩, fun σ1 M3 j3 => ⟨j3, fun σ2 M4 j4 => ⟨j4, fun ls' j M5 e4 hj hkeep D5 K5 => ?_⟩⟩⟩
      obtain ⟨near', ls2, lo', L, os, o6, rfl, _, _, hls, _, hL, hlen, _, _, _, _, hB⟩ := j4
      obtain rfl : ls2 = ls' := by cases e4; rfl
      obtain ⟨hL5, h5⟩ := hkeep L hL
      obtain ⟨lp, lc⟩ := D.inp hls
      refine ⟨_, rfl, by omega, by omega, ?_⟩
      refine for_range (lo := 0) (n := (j : Int).toNat) (fun i σ M => ∃ (L : List (Int × Int)) (o6 : Option V), σ = [some (.ref p), some (.int n), some (.int m), some (.int near'), some (.ref ls2), some (.ref lo'), o6, none, none] ∧ LP M ls2 L ∧ (j = 0 ∨ L ≠ []) ∧ Bel n L ∧ L.length ≤ 320 + i ∧ Deck M p c ∧ Kp p c H M)
        ⟨L, o6, rfl, hL5, h5, hB, hlen, D5, K5⟩ ?_ ?_
      · rintro i σ M hi ⟨L, o6, rfl, ⟨vs, f1, f2⟩, h0, hB, hlen, D6, K6⟩
        have len := f2.len
        have pos : L.length ≠ 0 := fun z => by
          rcases h0 with h0 | h0
          · omega
          · exact h0 (List.length_eq_zero_iff.mp z)
        refine ⟨_, rfl, .inl ⟨rfl, _, SqL.of f1⟩, _, rfl, _, rfl, p, c, ls2, vs, rfl, D6, f1, lp, lc, by omega, by omega, fun k v M6 hv D7 K7 => ?_⟩
        have f1' := K7 _ _ lp lc f1
        have f2' := f2.mono (K7.tup D6)
        obtain ⟨a, q, rfl, hq, ha⟩ := f2'.get hv
        exact ⟨ls2, _, _, rfl, rfl, f1', by rw [sizeLine_eq]; omega, L ++ [q], _, rfl, ⟨_, upd_same, (f2'.app (.cons ha .nil)).mono (upd_tup f1')⟩, .inr (by simp), hB.snoc (hB q (List.mem_of_getElem? hq)), by rw [List.length_append]; show L.length + 1 ≤ _; omega, D7.put lp lc, (K6.trans K7).own hls⟩
      · rintro σ M ⟨L, o6, rfl, ⟨vs, f1, f2⟩, h0, hB, hlen, D6, K6⟩
        have len := f2.len
        refine ⟨_, rfl, ls2, _, rfl, .inl (SqL.of f1), _, rfl, _, _, rfl, rfl, _, rfl, by omega, by omega, ?_⟩
        refine for_range (lo := 0) (n := (((vs.length : Nat) : Int) - (m : Int)).toNat) (fun i σ M' => ∃ (L' : List (Int × Int)) (o6 : Option V), σ = [some (.ref p), some (.int n), some (.int m), some (.int near'), some (.ref ls2), some (.ref lo'), o6, none, none] ∧ LP M' ls2 L' ∧ Bel n L' ∧ L'.length + i = L.length ∧ Deck M' p c ∧ Kp p c H M')
          ⟨L, o6, rfl, ⟨vs, f1, f2⟩, hB, rfl, D6, K6⟩ ?_ ?_
        · rintro i σ M' hi ⟨L', o6, rfl, ⟨ws, g1, g2⟩, hB', hl', D7, K7⟩
          have len' := g2.len
          refine ⟨_, rfl, .inl ⟨rfl, _, SqL.of g1⟩, _, rfl, _, rfl, ls2, _, rfl, .inl (SqL.of g1), p, c, _, rfl, D7, by omega, by omega, fun r M6 r0 r1 D8 K8 => ?_⟩
          obtain ⟨k, rfl⟩ : ∃ k : Nat, r = k := ⟨r.toNat, by omega⟩
          have g1' := K8 _ _ lp lc g1
          have hk : k < ws.length := by omega
          have si : seqIndex? (k : Int) ws.length = some k := (ixN_seq (n := ws.length) (by unfold ixN; rw [if_pos (by omega), if_pos (by omega)]; rfl)).1
          refine ⟨ls2, _, _, k, ws[k], rfl, rfl, g1', by omega, by omega, si, by simp [hk], L'.eraseIdx k, _, rfl, ⟨_, upd_same, ((g2.mono (K8.tup D7)).erase k).mono (upd_tup g1')⟩, hB'.sub fun q z => List.mem_of_mem_eraseIdx z, ?_, D8.put lp lc, (K7.trans K8).own hls⟩
          rw [List.length_eraseIdx, if_pos (by omega)]
          omega
        · rintro σ M' ⟨L', o6, rfl, ⟨ws, g1, g2⟩, hB', hl', D7, K7⟩
          have len' := g2.len
          have few : L'.length ≤ m := by omega
          refine ⟨_, rfl, _, rfl, ls2, ws, rfl, SqL.of g1, by omega, g2.tups hB' (by omega), fun ys b pm pw hb => ?_⟩
          obtain ⟨M2, pm2, pr⟩ := Prs.perm pm g2
          have sr := pr.srt pw
          refine ⟨b, ys, rfl, .inl ⟨SqL.of upd_same, fun t ht => ⟨by show 2 ≤ sizeLine; decide, fun wa hw => ?_⟩⟩⟩
          have hbt : b ≠ t := ne_of_none upd_same ht
          have htb : (upd M' b (.lst ys)) t = none := ht
          have pr' : Prs (upd (upd (upd M' b (.lst ys)) t (.tup ys)) wa (.tup [.int n, .ref t])) ys M2 := ((pr.mono (new_tup hb)).mono (new_tup ht)).mono (new_tup hw)
          have hwH : H wa = none := ((K7.trans (kp_new hb)).trans (kp_new ht)).dom ((D7.new hb).new ht) hw
          exact k wa M2 _ hwH ⟨t, ys, upd_same, by rw [upd_ne (ne_of_none upd_same hw)]; exact upd_same, pr'⟩ (hB'.sub fun q z => pm2.mem_iff.mp z) sr (by rw [pm2.length_eq]; exact few) (((D7.new hb).new ht).new hw) (((K7.trans (kp_new hb)).trans (kp_new ht)).trans (kp_new hw))
end
end K0

set_option Elab.async false
set_option linter.all false
set_option maxRecDepth 100000
set_option maxHeartbeats 4000000
/-! Own exceptions over WebError(Exception) whose making says super().__init__(text) and keeps one field, at the machine's level. -/
namespace PySem.EX
open PySem PySem.W PySem.Calls PyProof.Rows Builtin Builtin.ObjectAttr

/-- the mro behind the own classes -/
abbrev tailE : List Value := [.type "Exception", .type "BaseException", .type "object"]
/-- the text of such a class's making: its one parameter f, what it says, the places -/
def aA (f : Str) (p1 p2 : Pos) : Arguments :=
  { posonlyargs := [], args := [⟨"self", none, p1⟩, ⟨f, none, p2⟩], vararg := none, kwonlyargs := [], kw_defaults := [], kwarg := none, defaults := [] }
def aS (f : Str) : Scope :=
  { kind := .function, names := [("self", .local), (f, .local), ("__class__", .free), ("super", .globalImplicit)], isGenerator := false, isCoroutine := false, more := [] }
def sSay (txt : Str) (k : Nat) (q1 q2 q3 q4 q5 q6 : Pos) : Stmt :=
  .Expr (.Call (.Attribute (.Call (.Name "super" q1) [] [] q2) "__init__" q3) [.Constant (.str txt) k q4] [] q5) q6
def sKeep (f : Str) (q1 q2 q3 q4 : Pos) : Stmt := .Assign [.Attribute (.Name "self" q1) f q2] (.Name f q3) q4

/-- what the written part says of the class at C -/
structure ClsT (P : Program) (K : Frag) (C : Addr) : Prop where
  ex : excInitIn K C tailE "Exception.__new__" = true
  ov : excOver K C tailE = true
  sa : findIn K (.ref C) "__setattr__" = some (some (.builtin "object.__setattr__"))
  hd : hasDictIn K C = true
  su : ks_superIn K C C "__init__" = some (some (.builtin "Exception.__init__"))
  sE : subIn K (.ref C) (.type "Exception") = some true
  mr : mroIn K C (.ref C) = some true
  op : nsIn K cStatics "thirdparty.any" = some none
  kp : keepIn K (.ref C) = true
  file : (P.main.scope.names.lookup ("super" : Str)).isSome = false

/-- the def at fI is this class's making -/
structure IniT (P : Program) (K : Frag) (C fI : Addr) (args : Arguments) (body : List Stmt) (sc : Scope) : Prop where
  fi : findIn K (.ref C) "__init__" = some (some (.ref fI))
  ty : typeIn K (.ref fI) = some (.type "function")
  fn : ∃ (oc : Value) (od : Option Addr) (qual : Str) (dV kV doc pm : Value) (an : Option Addr) (cda : Addr) (ct : Value) (osl : Array (Option Value)) (cc : Addr),
    K.lookup fI = some ⟨oc, od, .func (ksFn "__init__" qual args body sc .none .none doc pm an (.ref cda) ct cc), osl⟩ ∧ codeIn K (.ref cda) qual = true ∧
    (∃ ccl cdd vs ccs file tf, K.lookup cda = some ⟨ccl, cdd, .fields vs, ccs⟩ ∧ vs[2]? = some (.str file tf) ∧ ((P.main.file : Str) == file) = true) ∧
    (∃ cl cld csl, K.lookup cc = some ⟨cl, cld, .cell (some (.ref C)), csl⟩)

section
variable {prog : Program} {w : World} {A : Around} {E : Value → Shared → Prop} {s : Shared} {K : Frag} {mg mb : Str → Option Value} {C fI : Addr}

/-- such a def's scope, its names ns -/
abbrev scp (ns : List (Str × NameKind)) : Scope := { kind := .function, names := ns, isGenerator := false, isCoroutine := false, more := [] }
theorem say {ns : List (Str × NameKind)} {L f cc cda : Addr} {m : Str → Option Value} {q : Str} {x t0 : Addr} {txt : Str} {n : Nat} {q1 q2 q3 q4 q5 q6 : Pos} {fd : FuncData} {of : Obj} {ar : Arg} {body : List Stmt} {Q : Flow → Shared → Prop}
    (T : ClsT prog K C) (X : K.In s.heap) (G : s.heap.Ns mainGlobals mg) (hs : mg "super" = none) (B : s.heap.Ns builtinsNs mb) (hb : mb "super" = some (.type "super"))
    (hl : s.heap.Ns L m) (hv : m ar.arg = some (.ref x)) (hx : s.heap.get? x = some (HandSPX.excO C t0)) (hnC : x ≠ C)
    (hf : s.heap.get? f = some of) (hfd : of.data = .func fd) (hp : (fd.params.posonlyargs ++ fd.params.args).head? = some ar)
    (hcode : ∃ ccl cdd vs ccs file tf, K.lookup cda = some ⟨ccl, cdd, .fields vs, ccs⟩ ∧ vs[2]? = some (.str file tf) ∧ ((prog.main.file : Str) == file) = true)
    (hcell : ∃ cl cld csl, K.lookup cc = some ⟨cl, cld, .cell (some (.ref C)), csl⟩)
    (hks : ns.lookup ("super" : Str) = some .globalImplicit) (hkc : ns.lookup ("__class__" : Str) = some .free) (hka : ns.lookup ar.arg = some .local)
    (hpos : (q3.endLine == q5.line) = true)
    (h : ∀ h' tk t1, (∀ b o, b ≠ x → s.heap.get? b = some o → h'.get? b = some o) → h'.get? x = some (HandSPX.excO C t1) → Q .next { s with heap := h', toks := tk }) :
    _root_.PySem.wpAt (model prog w) A (.func body (ksEnv q (scp ns) L f (.ref cda) cc)) (exec (sSay txt n q1 q2 q3 q4 q5 q6) (ksEnv q (scp ns) L f (.ref cda) cc)) Q E s := by
  obtain ⟨nm, N, qn, bs, bm, hdct, sn, sub, ab, col, dd, k0, k1, k2, k3, k5, hC, hT⟩ := excInit_of X T.ex
  obtain ⟨ccl, cdd, vs, ccs, file, tf, hc1, hc2, hc3⟩ := hcode
  obtain ⟨cl, cld, csl, hcc⟩ := hcell
  have I : InstAt s.heap x (HandSPX.excO C t0) C none := ⟨hx, rfl, rfl, trivial⟩
  obtain ⟨hp0, g, d, t, os⟩ := s
  unfold sSay
  refine ks_wpAt_Expr_any ?_
  refine ks_wpAt_MethodCall (pl := do return (← importBound (.Call (.Name "super" q1) [] [] q2) (ksEnv q (scp ns) L f (.ref cda) cc)).getD true) ?_ (by
    rw [arm_eval_Call]
    unfold methodCall methodCallPos calleeOf
    rw [show (methodCallForm ([Expr.Constant (Const.str txt) n q4].length + ([] : List Keyword).length) (backTo q5 (starEach [Expr.Constant (Const.str txt) n q4] (ksEnv q (scp ns) L f (.ref cda) cc))) (backToKw q5 (keywordEach [] (ksEnv q (scp ns) L f (.ref cda) cc)))) = true from rfl, hpos]
    simp only [Bool.not_true, Bool.false_or, if_true, pure_bind]
    rfl)
  refine ks_wpAt_super_base (env := ksEnv q (scp ns) L f (.ref cda) cc) hks hkc rfl rfl hf hfd hp rfl (X _ _ hc1) rfl hc2 hc3 T.file ?_
  refine ks_loadName_global rfl hks (loadGlobal_builtin (env := ksEnv q (scp ns) L f (.ref cda) cc) G hs B hb ⟨rfl, ?_⟩)
  refine wpAny_loadName_free rfl hkc rfl ⟨_, X _ _ hcc, rfl⟩ ?_
  refine wpAny_loadName_local rfl hka hl hv ?_
  refine ks_wpAny_isType_cls hC rfl ⟨rfl, ?_⟩
  refine ks_wpAny_call_super hC rfl hx rfl (fun c z => nomatch z) (looks_mroIn X T.mr) (fun h1 e1 k1 => ?_)
  have X1 : K.In h1 := X.keeps k1
  have I1 : InstAt h1 x (HandSPX.excO C t0) C none := ⟨k1 _ _ hx, rfl, rfl, trivial⟩
  have su := T.su
  unfold ks_superIn at su
  cases hc : clsIn K C with
  | none => rw [hc] at su; cases su
  | some cd =>
    rw [hc] at su
    refine PySem.ESX.getMethod_super e1 (looks_opaque X1 T.op) (l₀ := cd.mro) (fun A Q E s k z => wpAny_bind ((looks_clsIn X1 hc) A _ E s k (wpAny_pure z))) rfl X1 su hnC rfl (I1.type.andThen (looks_subIn X1 T.sE)) ?_
    refine PySem.ESX.callWith_bound (x := x) ?_
    show wpAny _ _ (spliced ((false, eval (.Constant (.str txt) n q4) (ksEnv q (scp ns) L f (.ref cda) cc)) :: [])) _ _ _
    refine spliced_cons (Constant_str (spliced_nil ⟨Heap.get?_push_size h1 rfl, ?_⟩))
    have kb : ∀ b o, hp0.get? b = some o → (h1.push (ESX.bw x)).get? b = some o := fun b o z => Heap.get?_push_of_some _ (k1 b o z)
    refine PySem.ESX.call_bw (C := C) (e := x) (kb _ _ hC) (kb _ _ hx) (Heap.get?_push_size h1 rfl) (by rw [sizeLine_eq]; exact (by decide : 1 ≤ 16777216)) fun h' t1 kk hx' => ?_
    exact h h' _ t1 (fun b o hb z => kk b o hb (kb b o z)) hx'

/-- self.f = v, the first field of an exception that has none -/
theorem keep {env : Env} {m : Str → Option Value} {f : Str} {x t0 : Addr} {v : Value} {q1 q2 q3 q4 : Pos} {Q : Flow → Shared → Prop}
    (T : ClsT prog K C) (X : K.In s.heap) (hno : findIn K (.ref C) f = some none) (hx : s.heap.get? x = some (HandSPX.excO C t0))
    (hl : s.heap.Ns env.locals m) (hf : m f = some v) (hs : m "self" = some (.ref x)) (hk : env.scope.kind = .function) (lf : env.kindOf f = some .local) (ls : env.kindOf "self" = some .local) (hd : (f == ("__debug__" : Str)) = false)
    (hsw : swapsWith (.Name f q3) (some (.Attribute (.Name "self" q1) f q2)) q4.line env = pure false)
    (h : ∀ h' tk dx, (∀ b o, b ≠ x → s.heap.get? b = some o → h'.get? b = some o) → s.heap.objs.size ≤ dx → dx ≠ x →
      h'.get? x = some { cls := .ref C, dict := some dx, data := .fields #[.ref t0, .none, .none, .none, .bool false, .none] } → h'.Ns1 dx (fun y => if y = f then some v else none) → Q .next { s with heap := h', toks := tk }) :
    wpAny (model prog w) A (exec (sKeep f q1 q2 q3 q4) env) Q E s := by
  unfold sKeep
  refine plainObj_wpAny_Assign_Attribute ?_ hsw
  refine wpAny_Name (wpAny_loadName_local hk lf hl hf ?_) hd
  refine wpAny_Name (wpAny_loadName_local hk ls hl hs ?_)
  refine set_plain X (ox := HandSPX.excO C t0) (od := none) ⟨hx, rfl, rfl, trivial⟩ T.sa ?_
  obtain ⟨cd, hc, hd'⟩ := any_some T.hd
  have ht : takerIn K C f = some none := by unfold takerIn; rw [hno] <;> rfl
  refine osa_openX (s := { s with toks := s.toks + 1 }) (od := none) F.store_Exception X ⟨hx, rfl, rfl, trivial⟩ T.ov ht fun b => ?_
  have hxs : x ≠ s.heap.objs.size := Nat.ne_of_lt (Heap.lt_size hx)
  refine wpAny_bind (wpAny_pure (wpAny_bind (instanceDict_exc (t := t0) (c2 := .none) hx (looks_clsIn X hc) hd' ?_)))
  show wpAny _ _ (storeInDict s.heap.objs.size (.str f s.toks) f v) _ _ _
  refine HandSPX.store_in_new ⟨_, #[], _, (Heap.get?_update_ne _ _ _ _ hxs.symm).trans (Heap.get?_push_size _ rfl), rfl, fun e he => absurd he (by simp), fun _ => rfl⟩ fun h' tk' hn' hs' => ?_
  have e1 : (s.heap.push (dictOf [] 0)).get? x = some (HandSPX.excO C t0) := Heap.get?_push_of_some _ hx
  refine h h' tk' s.heap.objs.size (fun b o hb ho => ?_) (Nat.le_refl _) hxs.symm ?_ hn'
  · exact (hs'.2 b (Nat.ne_of_lt (Heap.lt_size ho))).trans ((Heap.get?_update_ne _ _ _ _ hb).trans (Heap.get?_push_of_some _ ho))
  · exact (hs'.2 x hxs).trans (Heap.get?_update_self _ e1 rfl)
end
end PySem.EX

set_option Elab.async false
set_option linter.all false
set_option maxRecDepth 100000
set_option maxHeartbeats 4000000
/-! An own exception class called, by position and by name. -/
namespace PySem.EX
open PySem PySem.W PySem.Calls PyProof.Rows Builtin Builtin.ObjectAttr PySem.HandSPX
section
variable {prog : Program} {w : World} {M : Model} {A : Around} {E : Value → Shared → Prop} {R : Result → Shared → Prop} {h : Heap} {g : Array GenState} {d : Drawn} {t : Nat} {os : OsState}
variable {nm q : Str} {C N : Addr} {bs bm bmB : List Value} {hdct : Bool} {sn : List Str} {sub : List Value} {ab : Bool} {col : Option Bool} {dd : Option Addr} {k0 k1 k2 k3 k5 : Option Value} {B newId initId : String}

theorem chk_new (F : ExcBaseFacts B newId initId bmB) (hT : ∀ X : String, bm.contains (.type X) = bmB.contains (.type X)) {rest : List Value} {kw : List (Str × Value)} {Q : Unit → Shared → Prop}
    (hC : h.get? C = some (excClassObj nm q C N bs bm hdct sn sub ab col dd k0 k1 k2 k3 k5 newId)) (hq : Q () ⟨h, g, d, t, os⟩) : wpAny M A (checkBuiltinCall newId ⟨.ref C :: rest, kw⟩) Q E ⟨h, g, d, t, os⟩ := by
  have e1 : (Value.ref C :: bm).contains (.type B) = true := by rw [List.contains_cons, hT, F.hasB, Bool.or_true]
  have e2 := F.noStar
  simp only [checkBuiltinCall, F.newKind, F.newSplit, F.newRow]
  repeat (first
    | refine wpAny_loadPart_at hC ?_
    | (refine wpAny_isSubtype_exc hC ?_; rw [e1])
    | refine wpAny_staticBase_exc hC ?_
    | refine wpAny_madeBy_exc hC ?_
    | simp only [bne_self_eq_false, Bool.false_eq_true, if_false]
    | wp_step)
  all_goals exact hq

theorem mk_new (F : ExcBaseFacts B newId initId bmB) (hT : ∀ X : String, bm.contains (.type X) = bmB.contains (.type X)) {rest : List Value} {kw : List (Str × Value)} (hz : rest.length ≤ sizeLine)
    (hC : h.get? C = some (excClassObj nm q C N bs bm hdct sn sub ab col dd k0 k1 k2 k3 k5 newId))
    (hq : R (.ok (.ret (.ref (h.objs.size + 1)))) ⟨(h.push (kdv_tup rest)).push (excO C h.objs.size), g, d, t, os⟩) :
    codeAny (model prog w) A (.builtin newId ⟨.ref C :: rest, kw⟩) R ⟨h, g, d, t, os⟩ := by
  have e0 := F.ends
  have e1 : (Value.ref C :: bm).contains (.type B) = true := by rw [List.contains_cons, hT, F.hasB, Bool.or_true]
  have e2 : (Value.ref C :: bm).contains (.type "AttributeError") = false := by rw [List.contains_cons, hT, F.noAttr] <;> rfl
  have e3 : (Value.ref C :: bm).contains (.type "NameError") = false := by rw [List.contains_cons, hT, F.noName] <;> rfl
  refine codeAny_builtinAt F.entry (show _root_.PySem.wpAt _ _ _ (Builtin.«BaseException.__new__» _) _ _ _ from ?_)
  unfold Builtin.«BaseException.__new__»
  refine wpAt_bind (show _root_.PySem.wpAt _ _ _ (stack >>= _) _ _ _ from wpAt_bind (wpAt_stack fun _ _ => wpAt_of_wpAny ?_))
  wp_walk
  refine wpAt_of_wpAny ?_; rw [F.owner]
  repeat (first
    | with_reducible refine wpAny_madeHere_exc F.canon hC ?_
    | with_reducible refine wpAny_loadPart_at hC ?_
    | (with_reducible refine wpAny_isSubtype_exc hC ?_
       first | rw [e1] | rw [e2] | rw [e3])
    | wp_step)
  show R _ _; rw [Heap.size_push]; exact hq

theorem mk_type (F : ExcBaseFacts B newId initId bmB) (hT : ∀ X : String, bm.contains (.type X) = bmB.contains (.type X)) {rest : List Value} {kw : List (Str × Value)} {fI : Addr} {Q : Fin → Shared → Prop} (hz : rest.length ≤ sizeLine)
    (hC : h.get? C = some (excClassObj nm q C N bs bm hdct sn sub ab col dd k0 k1 k2 k3 k5 newId))
    (hi : W.Looks (model prog w) h (typeLookup (.ref C) "__init__") (some (.ref fI))) (hb : ∀ self, W.Looks (model prog w) h (bindSpecial (.ref fI) self) (.ref fI, [self]))
    (hq : codeAny (model prog w) A (.call (.ref fI) ⟨.ref (h.objs.size + 1) :: rest, kw⟩)
      (fun r s' => match r with | .ok (.ret v) => v = .none ∧ Q (.done (.ret (.ref (h.objs.size + 1)))) s' | .ok _ => False | .error e => E e s')
      ⟨(h.push (kdv_tup rest)).push (excO C h.objs.size), g, d, t, os⟩) :
    wpAny (model prog w) A (Builtin.«type.__call__» ⟨.ref C :: rest, kw⟩) Q E ⟨h, g, d, t, os⟩ := by
  repeat (first
    | with_reducible refine wpAny_loadPart_at hC ?_
    | with_reducible refine wpAny_madeBy_exc hC ?_
    | wp_step)
  refine codeAny_call_builtin_code (Code.quiet_builtin _ F.quiet) (chk_new F hT hC (mk_new F hT hz hC (show wpAny _ _ _ _ _ _ from ?_)))
  have kk : ∀ b o, h.get? b = some o → ((h.push (kdv_tup rest)).push (excO C h.objs.size)).get? b = some o := fun b o e => Heap.get?_push_of_some _ (Heap.get?_push_of_some _ e)
  have c1 := kk _ _ hC
  have c2 : ((h.push (kdv_tup rest)).push (excO C h.objs.size)).get? (h.objs.size + 1) = some (excO C h.objs.size) := by heap_get
  have c3 : (Value.ref C :: bm).contains (.ref C) = true := by simp
  unfold isInstance
  repeat (first
    | with_reducible refine wpAny_loadPart_at c2 ?_
    | (with_reducible refine wpAny_isSubtype_exc c1 ?_
       rw [c3])
    | wp_step)
  refine (show wpAny _ _ (typeLookup (.ref C) _) _ _ _ from (hi.keeps kk).at (wpAny_holding (wpAny_bind (((hb (.ref (h.objs.size + 1))).keeps kk).at ?_))))
  refine wpAny_bind (wpAny_call (codeAny_mono hq fun r s' z => ?_))
  cases r with
  | error e => exact z
  | ok fl =>
    cases fl with
    | ret v =>
      obtain ⟨rfl, z⟩ := z
      first | exact wpAny_pure (wpAny_pure z) | (wp_walk; exact z)
    | next => exact z.elim
    | brk => exact z.elim
    | cont => exact z.elim

theorem chk_type {rest : List Value} {kw : List (Str × Value)} {Q : Unit → Shared → Prop} (hC : h.get? C = some (excClassObj nm q C N bs bm hdct sn sub ab col dd k0 k1 k2 k3 k5 newId)) (hq : Q () ⟨h, g, d, t, os⟩) :
    wpAny M A (checkBuiltinCall "type.__call__" ⟨.ref C :: rest, kw⟩) Q E ⟨h, g, d, t, os⟩ := by
  have e1 := tc_sub
  have e2 : (⟨h, g, d, t, os⟩ : Shared).TypeIs (.ref C) "type" := ⟨_, hC, rfl⟩
  simp only [checkBuiltinCall, tc_kind, tc_split]
  repeat (any_goals (first
    | assumption
    | with_reducible refine wpAny_loadPart_at hC ?_
    | with_reducible refine wpAny_onRaise ?_
    | with_reducible refine wpAny_map ?_
    | wp_step))

theorem mk_call (F : ExcBaseFacts B newId initId bmB) (hT : ∀ X : String, bm.contains (.type X) = bmB.contains (.type X)) {rest : List Value} {kw : List (Str × Value)} {fI : Addr} (hz : rest.length ≤ sizeLine)
    (hC : h.get? C = some (excClassObj nm q C N bs bm hdct sn sub ab col dd k0 k1 k2 k3 k5 newId))
    (hi : W.Looks (model prog w) h (typeLookup (.ref C) "__init__") (some (.ref fI))) (hb : ∀ self, W.Looks (model prog w) h (bindSpecial (.ref fI) self) (.ref fI, [self]))
    (hq : codeAny (model prog w) (A.under (.builtin "type.__call__" ⟨.ref C :: rest, kw⟩)) (.call (.ref fI) ⟨.ref (h.objs.size + 1) :: rest, kw⟩) (W.InitBack (h.objs.size + 1) R)
      ⟨(h.push (kdv_tup rest)).push (excO C h.objs.size), g, d, t, os⟩) :
    codeAny (model prog w) A (.call (.ref C) ⟨rest, kw⟩) R ⟨h, g, d, t, os⟩ := by
  have e1 := tc_lookup
  have e2 := tc_bind (.ref C)
  have e3 : (⟨h, g, d, t, os⟩ : Shared).TypeIs (.ref C) "type" := ⟨_, hC, rfl⟩
  refine codeAny_of_tree (show wpAny _ _ (callAny (.ref C) _) _ _ _ from ?_)
  repeat (any_goals (first
    | assumption
    | with_reducible refine wpAny_loadPart_at hC ?_
    | wp_step))
  refine ⟨rfl, codeAny_call_builtin_at (Code.quiet_builtin _ (by decide +kernel)) entry_typeCall ?_⟩
  refine chk_type hC (mk_type F hT hz hC hi hb (codeAny_mono hq fun r s' z => ?_))
  cases r with
  | error e => exact z
  | ok fl => cases fl <;> exact z
end
end PySem.EX

set_option Elab.async false
set_option linter.all false
set_option maxRecDepth 100000
set_option maxHeartbeats 4000000
/-! An own exception made: what stands behind it. -/
namespace PySem.EX
open PySem PySem.W PySem.Calls PyProof.Rows Builtin Builtin.ObjectAttr PySem.HandSPX

/-- the names of a making with the parameter f, of one without -/
abbrev ns1 (f : Str) : List (Str × NameKind) := [("self", .local), (f, .local), ("__class__", .free), ("super", .globalImplicit)]
abbrev ns0 : List (Str × NameKind) := [("self", .local), ("__class__", .free), ("super", .globalImplicit)]
abbrev aA0 (p1 : Pos) : Arguments := { posonlyargs := [], args := [⟨"self", none, p1⟩], vararg := none, kwonlyargs := [], kw_defaults := [], kwarg := none, defaults := [] }
/-- the six names of parameters that the errors have -/
def fNames : List Str := ["thing", "number", "at", "pairing", "certificate", "place"]

/-- a made error with a field, one without -/
structure Made1 (h h' : Heap) (e C d : Addr) (f : Str) (v : Value) : Prop where
  keep : ∀ b o, h.get? b = some o → h'.get? b = some o
  new : h.objs.size ≤ e
  obj : ∃ t, h'.get? e = some { cls := .ref C, dict := some d, data := .fields #[.ref t, .none, .none, .none, .bool false, .none] }
  dbig : h.objs.size ≤ d
  dne : d ≠ e
  ns : h'.Ns1 d (fun y => if y = f then some v else none)
structure Made0 (h h' : Heap) (e C : Addr) : Prop where
  keep : ∀ b o, h.get? b = some o → h'.get? b = some o
  new : h.objs.size ≤ e
  obj : ∃ t, h'.get? e = some (excO C t)

/-- the making's def, as it stands behind the top -/
structure Fn1 (P : Program) (K : Frag) (C fI : Addr) (f : Str) : Prop where
  fi : findIn K (.ref C) "__init__" = some (some (.ref fI))
  ty : typeIn K (.ref fI) = some (.type "function")
  no : findIn K (.ref C) f = some none
  fn : ∃ (oc : Value) (od : Option Addr) (qual txt : Str) (doc pm : Value) (an : Option Addr) (cda : Addr) (ct : Value) (osl : Array (Option Value)) (cc : Addr) (p1 p2 q1 q2 q3 q4 q5 q6 r1 r2 r3 r4 : Pos),
    K.lookup fI = some ⟨oc, od, .func (ksFn "__init__" qual (aA f p1 p2) [sSay txt 0 q1 q2 q3 q4 q5 q6, sKeep f r1 r2 r3 r4] (scp (ns1 f)) .none .none doc pm an (.ref cda) ct cc), osl⟩ ∧ codeIn K (.ref cda) qual = true ∧ (q3.endLine == q5.line) = true ∧
    (∃ ccl cdd vs ccs file tf, K.lookup cda = some ⟨ccl, cdd, .fields vs, ccs⟩ ∧ vs[2]? = some (.str file tf) ∧ ((P.main.file : Str) == file) = true) ∧
    (∃ cl cld csl, K.lookup cc = some ⟨cl, cld, .cell (some (.ref C)), csl⟩)
structure Fn0 (P : Program) (K : Frag) (C fI : Addr) : Prop where
  fi : findIn K (.ref C) "__init__" = some (some (.ref fI))
  ty : typeIn K (.ref fI) = some (.type "function")
  fn : ∃ (oc : Value) (od : Option Addr) (qual txt : Str) (doc pm : Value) (an : Option Addr) (cda : Addr) (ct : Value) (osl : Array (Option Value)) (cc : Addr) (p1 q1 q2 q3 q4 q5 q6 : Pos),
    K.lookup fI = some ⟨oc, od, .func (ksFn "__init__" qual (aA0 p1) [sSay txt 0 q1 q2 q3 q4 q5 q6] (scp ns0) .none .none doc pm an (.ref cda) ct cc), osl⟩ ∧ codeIn K (.ref cda) qual = true ∧ (q3.endLine == q5.line) = true ∧
    (∃ ccl cdd vs ccs file tf, K.lookup cda = some ⟨ccl, cdd, .fields vs, ccs⟩ ∧ vs[2]? = some (.str file tf) ∧ ((P.main.file : Str) == file) = true) ∧
    (∃ cl cld csl, K.lookup cc = some ⟨cl, cld, .cell (some (.ref C)), csl⟩)

section
variable {prog : Program} {w : World} {A : Around} {R : Result → Shared → Prop} {s : Shared} {K : Frag} {mg mb : Str → Option Value} {C fI : Addr} {f : Str}

theorem init1 (T : ClsT prog K C) (F1 : Fn1 prog K C fI f) (hf : f ∈ fNames) {args : Args} {x t0 : Addr} {v : Value} (X : K.In s.heap) (hlim : s.heap.NoLimit) (G : s.heap.Ns mainGlobals mg) (hs : mg "super" = none) (B : s.heap.Ns builtinsNs mb) (hb : mb "super" = some (.type "super"))
    (ha : args = ⟨[.ref x, v], []⟩ ∨ args = ⟨[.ref x], [(f, v)]⟩) (hx : s.heap.get? x = some (excO C t0)) (hnx : K.lookup x = none) (hnC : x ≠ C) (hroom : A.depth < recursionLimit)
    (hq : ∀ h' tk dx t1, (∀ b o, b ≠ x → s.heap.get? b = some o → h'.get? b = some o) → s.heap.objs.size ≤ dx → dx ≠ x → h'.get? x = some { cls := .ref C, dict := some dx, data := .fields #[.ref t1, .none, .none, .none, .bool false, .none] } →
      h'.Ns1 dx (fun y => if y = f then some v else none) → R (.ok (.ret .none)) { s with heap := h', toks := tk }) :
    codeAny (model prog w) A (.call (.ref fI) args) R s := by
  obtain ⟨oc, od, qual, txt, doc, pm, an, cda, ct, osl, cc, p1, p2, q1, q2, q3, q4, q5, q6, r1, r2, r3, r4, ho, hcd, hpos, hcode, hcell⟩ := F1.fn
  have hfs : (("self" : Str) == f) = false ∧ (f == ("self" : Str)) = false ∧ (f == ("__debug__" : Str)) = false := by
    simp only [fNames, List.mem_cons, List.not_mem_nil, or_false] at hf
    rcases hf with rfl | rfl | rfl | rfl | rfl | rfl <;> decide +kernel
  have hbind : BindsTo s (ksFn "__init__" qual (aA f p1 p2) [sSay txt 0 q1 q2 q3 q4 q5 q6, sKeep f r1 r2 r3 r4] (scp (ns1 f)) .none .none doc pm an (.ref cda) ct cc) args [("self", .ref x), (f, v)] := by
    refine BindsTo.of_eq ?_
    simp only [fNames, List.mem_cons, List.not_mem_nil, or_false] at hf
    rcases ha with rfl | rfl <;> rcases hf with rfl | rfl | rfl | rfl | rfl | rfl <;> rfl
  have lf : (ns1 f).lookup f = some .local := by simp [ns1, List.lookup, hfs.2.1]
  have lk : (ns1 f).lookup ("super" : Str) = some .globalImplicit ∧ (ns1 f).lookup ("__class__" : Str) = some .free := by
    simp only [fNames, List.mem_cons, List.not_mem_nil, or_false] at hf
    rcases hf with rfl | rfl | rfl | rfl | rfl | rfl <;> exact ⟨rfl, rfl⟩
  refine ks_codeAny_call_defAt hroom (X _ _ ho) rfl hlim (codeRec_of X hcd) rfl hbind ?_ ?_ (fun h₁ hns hk₁ => ?_) rfl rfl rfl
  · intro y hy
    simp only [ns1, List.mem_cons, List.not_mem_nil, or_false] at hy
    rcases hy with rfl | rfl | rfl | rfl <;> exact fun z => nomatch z
  · intro y hy
    simp only [List.mem_cons, List.not_mem_nil, or_false] at hy
    rcases hy with rfl | rfl
    · rfl
    · exact lf
  have m1 : ([(("self" : Str), Value.ref x), (f, v)]).reverse.lookup ("self" : Str) = some (Value.ref x) := by simp [List.lookup, hfs.1]
  have m2 : ([(("self" : Str), Value.ref x), (f, v)]).reverse.lookup f = some v := by simp [List.lookup]
  show _root_.PySem.wpAt _ _ (.func _ (ksEnv qual (scp (ns1 f)) s.heap.objs.size fI (.ref cda) cc)) (execs _ (ksEnv qual (scp (ns1 f)) s.heap.objs.size fI (.ref cda) cc)) _ _ _
  refine ks_wpAt_execs_cons ?_
  have hL : s.heap.objs.size ≠ x := Nat.ne_of_gt (Heap.lt_size hx)
  refine say (s := { s with heap := h₁, toks := s.toks + 2 }) (ar := ⟨"self", none, p1⟩) T (X.keeps hk₁) (G.keeps hk₁) hs (B.keeps hk₁) hb hns m1 (hk₁ _ _ hx) hnC (hk₁ _ _ (X _ _ ho)) rfl rfl hcode hcell lk.1 lk.2 rfl hpos fun h₂ tk₂ t1 k2 hx2 => ?_
  have X2 : K.In h₂ := fun a o e => k2 a o (fun z => by rw [z, hnx] at e; cases e) (X.keeps hk₁ a o e)
  have hns2 : h₂.Ns s.heap.objs.size (fun y => ([(("self" : Str), Value.ref x), (f, v)]).reverse.lookup y) := by
    obtain ⟨o, es, ep, e, r⟩ := hns
    exact ⟨o, es, ep, k2 _ _ hL e, r⟩
  refine wpAt_of_wpAny (wpAny_execs_cons ?_)
  refine keep (s := { s with heap := h₂, toks := tk₂ }) (env := ksEnv qual (scp (ns1 f)) s.heap.objs.size fI (.ref cda) cc) T X2 F1.no hx2 hns2 m2 m1 rfl lf rfl hfs.2.2 ?_ fun h₃ tk₃ dx k3 dn dne hx3 hn3 => ?_
  · simp only [fNames, List.mem_cons, List.not_mem_nil, or_false] at hf
    rcases hf with rfl | rfl | rfl | rfl | rfl | rfl <;> rfl
  have z1 : s.heap.objs.size < h₂.objs.size := by
    obtain ⟨o, es, ep, e, r⟩ := hns2
    exact Heap.lt_size e
  exact wpAny_execs_nil (hq h₃ tk₃ dx t1 (fun b o hb e => k3 b o hb (k2 b o hb (hk₁ b o e))) (Nat.le_of_lt (Nat.lt_of_lt_of_le z1 dn)) dne hx3 hn3)

theorem init0 (T : ClsT prog K C) (F0 : Fn0 prog K C fI) {x t0 : Addr} (X : K.In s.heap) (hlim : s.heap.NoLimit) (G : s.heap.Ns mainGlobals mg) (hs : mg "super" = none) (B : s.heap.Ns builtinsNs mb) (hb : mb "super" = some (.type "super"))
    (hx : s.heap.get? x = some (excO C t0)) (hnC : x ≠ C) (hroom : A.depth < recursionLimit)
    (hq : ∀ h' tk t1, (∀ b o, b ≠ x → s.heap.get? b = some o → h'.get? b = some o) → h'.get? x = some (excO C t1) → R (.ok (.ret .none)) { s with heap := h', toks := tk }) :
    codeAny (model prog w) A (.call (.ref fI) ⟨[.ref x], []⟩) R s := by
  obtain ⟨oc, od, qual, txt, doc, pm, an, cda, ct, osl, cc, p1, q1, q2, q3, q4, q5, q6, ho, hcd, hpos, hcode, hcell⟩ := F0.fn
  refine ks_codeAny_call_defAt (binds := [("self", .ref x)]) hroom (X _ _ ho) rfl hlim (codeRec_of X hcd) rfl (BindsTo.of_eq rfl) (show ∀ y ∈ ns0, y.2 ≠ NameKind.cell by decide) ?_ (fun h₁ hns hk₁ => ?_) rfl rfl rfl
  · intro y hy
    simp only [List.mem_cons, List.not_mem_nil, or_false] at hy
    subst hy
    rfl
  show _root_.PySem.wpAt _ _ (.func _ (ksEnv qual (scp ns0) s.heap.objs.size fI (.ref cda) cc)) (execs _ (ksEnv qual (scp ns0) s.heap.objs.size fI (.ref cda) cc)) _ _ _
  refine ks_wpAt_execs_cons ?_
  refine say (s := { s with heap := h₁, toks := s.toks + 1 }) (ar := ⟨"self", none, p1⟩) T (X.keeps hk₁) (G.keeps hk₁) hs (B.keeps hk₁) hb hns (by rfl) (hk₁ _ _ hx) hnC (hk₁ _ _ (X _ _ ho)) rfl rfl hcode hcell rfl rfl rfl hpos fun h₂ tk₂ t1 k2 hx2 => ?_
  exact wpAt_of_wpAny (wpAny_execs_nil (hq h₂ tk₂ t1 (fun b o hb e => k2 b o hb (hk₁ b o e)) hx2))

theorem one_le (v : Value) : [v].length ≤ sizeLine := by rw [sizeLine_eq]; exact (by decide : 1 ≤ 16777216)

theorem made1 (T : ClsT prog K C) (F1 : Fn1 prog K C fI f) (hf : f ∈ fNames) {rest : List Value} {kw : List (Str × Value)} {v : Value} (X : K.In s.heap) (hlim : s.heap.NoLimit) (G : s.heap.Ns mainGlobals mg) (hs : mg "super" = none) (B : s.heap.Ns builtinsNs mb) (hb : mb "super" = some (.type "super"))
    (ha : (rest = [v] ∧ kw = []) ∨ (rest = [] ∧ kw = [(f, v)])) (hroom : A.depth + 1 < recursionLimit)
    (hq : ∀ h' tk e d, Made1 s.heap h' e C d f v → R (.ok (.ret (.ref e))) { s with heap := h', toks := tk }) : codeAny (model prog w) A (.call (.ref C) ⟨rest, kw⟩) R s := by
  obtain ⟨nm, N, qn, bs, bm, hdct, sn, sub, ab, col, dd, k0, k1, k2, k3, k5, hC, hT⟩ := excInit_of X T.ex
  obtain ⟨hp, g, dr, tk, os⟩ := s
  have kk : ∀ b o, hp.get? b = some o → ((hp.push (kdv_tup rest)).push (excO C hp.objs.size)).get? b = some o := fun b o e => Heap.get?_push_of_some _ (Heap.get?_push_of_some _ e)
  have hget : ((hp.push (kdv_tup rest)).push (excO C hp.objs.size)).get? (hp.objs.size + 1) = some (excO C hp.objs.size) := by heap_get
  have hnx : K.lookup (hp.objs.size + 1) = none := by
    cases e : K.lookup (hp.objs.size + 1) with
    | none => rfl
    | some o => exact absurd (Nat.lt_of_succ_lt (Heap.lt_size (show hp.get? (hp.objs.size + 1) = some o from X _ _ e))) (Nat.lt_irrefl _)
  have hnC : hp.objs.size + 1 ≠ C := fun z => absurd (Nat.lt_of_succ_lt (Heap.lt_size (show hp.get? (hp.objs.size + 1) = some _ from z ▸ hC))) (Nat.lt_irrefl _)
  have hz : rest.length ≤ sizeLine := by
    rcases ha with ⟨rfl, _⟩ | ⟨rfl, _⟩
    · exact one_le v
    · exact Nat.zero_le _
  refine mk_call F.excBase_Exception hT hz hC (looks_findIn X F1.fi) (fun self => bind_fn X self F1.ty) ?_
  refine init1 (s := ⟨(hp.push (kdv_tup rest)).push (excO C hp.objs.size), g, dr, tk, os⟩) T F1 hf (X.keeps kk) (hlim.keeps kk) (G.keeps kk) hs (B.keeps kk) hb (v := v) ?_ hget hnx hnC (show A.depth + 1 < recursionLimit from hroom) fun h' tk' dx t1 k' dn dne hx hns => ?_
  · rcases ha with ⟨rfl, rfl⟩ | ⟨rfl, rfl⟩
    · exact .inl rfl
    · exact .inr rfl
  · have z : hp.objs.size + 1 + 1 ≤ dx := by
      have q := dn
      dsimp only at q
      rw [Heap.size_push, Heap.size_push] at q
      exact q
    exact ⟨rfl, hq h' tk' (hp.objs.size + 1) dx ⟨fun b o e => k' b o (Nat.ne_of_lt (Nat.lt_succ_of_lt (Heap.lt_size e))) (kk b o e), Nat.le_succ _, ⟨t1, hx⟩, (show hp.objs.size ≤ dx by omega), dne, hns⟩⟩

theorem made0 (T : ClsT prog K C) (F0 : Fn0 prog K C fI) (X : K.In s.heap) (hlim : s.heap.NoLimit) (G : s.heap.Ns mainGlobals mg) (hs : mg "super" = none) (B : s.heap.Ns builtinsNs mb) (hb : mb "super" = some (.type "super"))
    (hroom : A.depth + 1 < recursionLimit) (hq : ∀ h' tk e, Made0 s.heap h' e C → R (.ok (.ret (.ref e))) { s with heap := h', toks := tk }) : codeAny (model prog w) A (.call (.ref C) ⟨[], []⟩) R s := by
  obtain ⟨nm, N, qn, bs, bm, hdct, sn, sub, ab, col, dd, k0, k1, k2, k3, k5, hC, hT⟩ := excInit_of X T.ex
  obtain ⟨hp, g, dr, tk, os⟩ := s
  have kk : ∀ b o, hp.get? b = some o → ((hp.push (kdv_tup [])).push (excO C hp.objs.size)).get? b = some o := fun b o e => Heap.get?_push_of_some _ (Heap.get?_push_of_some _ e)
  have hget : ((hp.push (kdv_tup [])).push (excO C hp.objs.size)).get? (hp.objs.size + 1) = some (excO C hp.objs.size) := by heap_get
  have hnC : hp.objs.size + 1 ≠ C := fun z => absurd (Nat.lt_of_succ_lt (Heap.lt_size (show hp.get? (hp.objs.size + 1) = some _ from z ▸ hC))) (Nat.lt_irrefl _)
  refine mk_call F.excBase_Exception hT (Nat.zero_le _) hC (looks_findIn X F0.fi) (fun self => bind_fn X self F0.ty) ?_
  refine init0 (s := ⟨(hp.push (kdv_tup [])).push (excO C hp.objs.size), g, dr, tk, os⟩) T F0 (X.keeps kk) (hlim.keeps kk) (G.keeps kk) hs (B.keeps kk) hb hget hnC (show A.depth + 1 < recursionLimit from hroom) fun h' tk' t1 k' hx => ?_
  exact ⟨rfl, hq h' tk' (hp.objs.size + 1) ⟨fun b o e => k' b o (Nat.ne_of_lt (Nat.lt_succ_of_lt (Heap.lt_size e))) (kk b o e), Nat.le_succ _, ⟨t1, hx⟩⟩⟩
end
end PySem.EX

set_option Elab.async false
set_option linter.all false
set_option maxRecDepth 100000
set_option maxHeartbeats 4000000
/-! Own errors over the tracked heap: made, read, asked for their class, raised. -/
namespace K0
open PySem PySem.Spec L2
open PyProof.Rows hiding St

abbrev exOb (C : Addr) (d : Option Addr) (t : Addr) : Obj := { cls := .ref C, dict := d, data := .fields #[.ref t, .none, .none, .none, .bool false, .none] }
/-- an error as a value: its class at C, its own dict d -/
def ExV (C : Addr) (d : Option Addr) (a : Addr) : HO := .ext fun h => ∃ t, h.get? a = some (exOb C d t)
theorem exv_ok {P : Program} {w : World} {H : Hp} {h : Heap} {a C t : Addr} {d : Option Addr} (e : h.get? a = some (exOb C d t)) : ObjOk P w H h a (ExV C d a) :=
  ⟨⟨t, e⟩, ⟨_, e⟩, fun _ _ ⟨t, q⟩ k => ⟨t, k _ q⟩⟩

/-- what the written part says of an own error's class -/
structure ErrC (P : Program) (K : PySem.W.Frag) (C : Addr) : Prop where
  cl : PySem.EX.ClsT P K C
  ga : PySem.W.findIn K (.ref C) "__getattribute__" = some (some (.builtin "BaseException.__getattribute__"))
  gg : PySem.W.findIn K (.ref C) "__getattr__" = some none
  eB : PySem.W.subIn K (.ref C) (.type "BaseException") = some true
  tC : PySem.W.typeIn K (.ref C) = some (.type "type")
  ha : PySem.W.findIn K (.ref C) "__class__" = some (some (.builtin "object.__class__"))
  hn : PySem.W.specialIn K (.builtin "object.__class__") "__get__" = some (some (.builtin "getset_descriptor.__get__"))
  ht : PySem.W.takesIn K (.builtin "object.__class__") = some true
  hm : PySem.W.mroIn K C (.type "object") = some true
theorem ErrC.xf {P : Program} {K : PySem.W.Frag} {C : Addr} (E : ErrC P K C) : XfC K C := ⟨E.ga, E.gg, E.eB, E.cl.hd⟩

section
variable {X : Cx} {C fI : Addr} {f x : Str} {k : Nat}
/-- the call of the class by position or by name, at the machine -/
theorem run_made1 {pins : List (Addr × Obj)} {σ : St} {H1 : Hp} {s1 : Shared} {v : V} {u : Value} {us : List Value} {kw : List (Str × Value)} {R : Value → Shared → Prop} (T : ErrC X.prog X.K C) (F1 : PySem.EX.Fn1 X.prog X.K C fI f) (hf : f ∈ PySem.EX.fNames) (hs : X.mg "super" = none) (hr : Room k X.A)
    (I1 : Inv X pins σ H1 s1) (rv : RelV v u) (ha : (us = [u] ∧ kw = []) ∨ (us = [] ∧ kw = [(f, u)]))
    (h : ∀ (a d t : Addr) (G : Heap) (h' : Heap) (tk : Nat), H1 a = none → H1 d = none → d ≠ a → Inv X pins σ (upd H1 d (.xd [(f, v)])) { s1 with heap := G, toks := tk } → (∀ b o, G.get? b = some o → h'.get? b = some o) → G.get? a = none → h'.get? a = some (exOb C (some d) t) → R (.ref a) { s1 with heap := h', toks := tk }) :
    wpAny (model X.prog X.w) X.A (call (.ref C) us kw) R X.xe s1 := by
  have hlim := I1.nolimit
  have hX := I1.kIn
  have hG : s1.heap.Ns mainGlobals X.mg := I1.mod.glob.keeps I1.bk
  obtain ⟨mb, hB, hBB⟩ := I1.mod.blt
  have hb : mb "super" = some (.type "super") := (hBB _ (by decide)).trans (by decide +kernel)
  have hB' : s1.heap.Ns builtinsNs mb := hB.keeps I1.bk
  refine wpAny_call (PySem.EX.made1 T.cl F1 hf hX hlim hG hs hB' hb ha (by have := hr.dp; omega) fun h' tk e d M => ?_)
  obtain ⟨t, ht⟩ := M.obj
  obtain ⟨G, g1, g2⟩ := restrict h' fun b => decide (b ≠ e)
  have gk : ∀ b, b ≠ e → G.get? b = h'.get? b := fun b hb => g1 b (decide_eq_true hb)
  have ge : G.get? e = none := g2 e (by simp)
  have old : ∀ b o, s1.heap.get? b = some o → G.get? b = some o := fun b o q => (gk b (Nat.ne_of_lt (Nat.lt_of_lt_of_le (Heap.lt_size q) M.new))).trans (M.keep b o q)
  have ob : ObjOk X.prog X.w (upd H1 d (.xd [(f, v)])) G d (.xd [(f, v)]) := ⟨_, M.ns.at (fun o q => (gk d M.dne).trans q), fun g => by
    by_cases hw : g = f
    · subst hw
      rw [if_pos rfl, show List.lookup g [(g, v)] = some v by simp [List.lookup]]
      exact rv
    · have qw : (g == f) = false := by simpa using hw
      rw [if_neg hw, show List.lookup g [(f, v)] = none by simp [List.lookup, qw]]
      trivial⟩
  have J : Inv X pins σ (upd H1 d (.xd [(f, v)])) { s1 with heap := G, toks := tk } := I1.laid (t' := tk) old M.dbig ob
  exact h e d t G h' tk (I1.hok.fresh M.new) (I1.hok.fresh M.dbig) M.dne J (fun b o q => by
    by_cases hb : b = e
    · rw [hb, ge] at q; cases q
    · exact (gk b hb).symm.trans q) ge ht

/-- X(e) -/
def tMk1 (C : Addr) (f : Str) (ta : TA) : TE := fun σ H Q => ta σ H fun vs H1 => ∃ v, vs = [v] ∧ ∀ a d, H1 a = none → H1 d = none → d ≠ a → Q (.ref a) (upd (upd H1 d (.xd [(f, v)])) a (ExV C (some d) a))
def tMkX1 (C : Addr) (f : Str) (ta : TA) : St → Hp → XK → Prop := fun σ H Q => ta σ H fun vs H1 => ∃ v, vs = [v] ∧ ∀ d, H1 d = none → Q (.ref C) (some d) (upd H1 d (.xd [(f, v)]))
theorem fin1 {pins : List (Addr × Obj)} {σ : St} {H1 : Hp} {s1 : Shared} {v : V} {Q : VK} {a d t : Addr} {G h' : Heap} {tk : Nat} (na : H1 a = none) (nd : d ≠ a) (J : Inv X pins σ (upd H1 d (.xd [(f, v)])) { s1 with heap := G, toks := tk })
    (k : ∀ b o, G.get? b = some o → h'.get? b = some o) (ga : G.get? a = none) (ha : h'.get? a = some (exOb C (some d) t)) (q : Q (.ref a) (upd (upd H1 d (.xd [(f, v)])) a (ExV C (some d) a))) : EP X pins σ Q (.ref a) { s1 with heap := h', toks := tk } :=
  ⟨.ref a, _, J.laidN (t' := tk) k ga (by rw [upd_ne nd.symm]; exact na) (exv_ok ha), rfl, q⟩
theorem finX {pins : List (Addr × Obj)} {σ : St} {H1 : Hp} {s1 : Shared} {v : V} {Q : XK} {a d t : Addr} {G h' : Heap} {tk : Nat} (T : ErrC X.prog X.K C) (bare : AllBare s1.gens) (na : H1 a = none) (nd : d ≠ a) (J : Inv X pins σ (upd H1 d (.xd [(f, v)])) { s1 with heap := G, toks := tk })
    (k : ∀ b o, G.get? b = some o → h'.get? b = some o) (ga : G.get? a = none) (ha : h'.get? a = some (exOb C (some d) t)) (q : Q (.ref C) (some d) (upd H1 d (.xd [(f, v)]))) : MkP X pins σ Q (.ref a) { s1 with heap := h', toks := tk } :=
  ⟨a, _, _, { s1 with heap := G, toks := tk }, _, .ref C, some d, rfl, J, k, ga, ha, ⟨rfl, rfl⟩, rfl, rfl, by rw [upd_ne nd.symm]; exact na, rfl, bare, raises_own T.eB T.tC, q⟩

section
variable {e : Expr} {ta : TA} {p pos : Pos} (T : ErrC X.prog X.K C) (F1 : PySem.EX.Fn1 X.prog X.K C fI f) (hf : f ∈ PySem.EX.fNames) (hs : X.mg "super" = none) (hr : Room k X.A) (hm : X.mg x = some (.ref C))
include T F1 hf hs hr hm
theorem pe_mk1 (ha : PA X [e] ta) (hg : Gl X x := by rfl) (he : starEach [e] X.env = (false, eval e X.env) :: starEach [] X.env := by rfl) (hpl : (backTo pos (starEach [] X.env)).any (·.1) = false := by rfl) (hdb : (x == ("__debug__" : Str)) = false := by decide) :
    PE X (.Call (.Name x p) [e] [] pos) (tMk1 C f ta) := by
  refine ⟨fun pins s σ H Q I h => ?_⟩
  refine wpAny_Call_Name_kw (ld_glob I hg hm ?_ hdb)
  refine PySem.W.callWith_K (h₀ := X.base) I.ok.mod.kin T.cl.kp (thn (ha.run pos pins s σ H _ I h) fun us s1 hh => ?_) he hpl
  obtain ⟨vs, H1, I1, r1, v, rfl, q1⟩ := hh
  obtain ⟨u, rfl, ru⟩ := vals1 r1
  exact ⟨I1.kIn, run_made1 T F1 hf hs hr I1 ru (.inl ⟨rfl, rfl⟩) fun a d t G h' tk na nd dne J k ga ha' => fin1 na dne J k ga ha' (q1 a d na nd dne)⟩
theorem pmk1 (ha : PA X [e] ta) (hg : Gl X x := by rfl) (he : starEach [e] X.env = (false, eval e X.env) :: starEach [] X.env := by rfl) (hpl : (backTo pos (starEach [] X.env)).any (·.1) = false := by rfl) (hdb : (x == ("__debug__" : Str)) = false := by decide) :
    PMk X (.Call (.Name x p) [e] [] pos) (tMkX1 C f ta) := by
  intro pins s σ H Q I h
  refine wpAny_Call_Name_kw (ld_glob I hg hm ?_ hdb)
  refine PySem.W.callWith_K (h₀ := X.base) I.ok.mod.kin T.cl.kp (thn (ha.run pos pins s σ H _ I h) fun us s1 hh => ?_) he hpl
  obtain ⟨vs, H1, I1, r1, v, rfl, q1⟩ := hh
  obtain ⟨u, rfl, ru⟩ := vals1 r1
  exact ⟨I1.kIn, run_made1 T F1 hf hs hr I1 ru (.inl ⟨rfl, rfl⟩) fun a d t G h' tk na nd dne J k ga ha' => finX T I1.bare na dne J k ga ha' (q1 d nd)⟩
theorem pe_mkK {kws : List Keyword} (ha : PK X kws ta) (hks : (backToKw pos (keywordEach kws X.env)).filterMap (·.1) = [f] := by rfl) (hall : (backToKw pos (keywordEach kws X.env)).all (·.1.isSome) = true := by rfl) (hg : Gl X x := by rfl)
    (hpl : ((backTo pos (starEach [] X.env)).any (·.1) || (backToKw pos (keywordEach kws X.env)).any (·.1.isNone)) = false := by rfl) (hdb : (x == ("__debug__" : Str)) = false := by decide) :
    PE X (.Call (.Name x p) [] kws pos) (tMk1 C f ta) := by
  refine ⟨fun pins s σ H Q I h => ?_⟩
  refine wpAny_Call_Name_kw (ld_glob I hg hm ?_ hdb)
  refine PySem.W.callWith_KW0 (h₀ := X.base) I.ok.mod.kin T.cl.kp hall (thn (ha.run pos pins s σ H _ I h) fun us s1 hh => ?_) hpl
  obtain ⟨vs, H1, I1, r1, v, rfl, q1⟩ := hh
  obtain ⟨u, rfl, ru⟩ := vals1 r1
  rw [hks]
  exact ⟨I1.kIn, run_made1 T F1 hf hs hr I1 ru (.inr ⟨rfl, rfl⟩) fun a d t G h' tk na nd dne J k ga ha' => fin1 na dne J k ga ha' (q1 a d na nd dne)⟩
theorem pmkK {kws : List Keyword} (ha : PK X kws ta) (hks : (backToKw pos (keywordEach kws X.env)).filterMap (·.1) = [f] := by rfl) (hall : (backToKw pos (keywordEach kws X.env)).all (·.1.isSome) = true := by rfl) (hg : Gl X x := by rfl)
    (hpl : ((backTo pos (starEach [] X.env)).any (·.1) || (backToKw pos (keywordEach kws X.env)).any (·.1.isNone)) = false := by rfl) (hdb : (x == ("__debug__" : Str)) = false := by decide) :
    PMk X (.Call (.Name x p) [] kws pos) (tMkX1 C f ta) := by
  intro pins s σ H Q I h
  refine wpAny_Call_Name_kw (ld_glob I hg hm ?_ hdb)
  refine PySem.W.callWith_KW0 (h₀ := X.base) I.ok.mod.kin T.cl.kp hall (thn (ha.run pos pins s σ H _ I h) fun us s1 hh => ?_) hpl
  obtain ⟨vs, H1, I1, r1, v, rfl, q1⟩ := hh
  obtain ⟨u, rfl, ru⟩ := vals1 r1
  rw [hks]
  exact ⟨I1.kIn, run_made1 T F1 hf hs hr I1 ru (.inr ⟨rfl, rfl⟩) fun a d t G h' tk na nd dne J k ga ha' => finX T I1.bare na dne J k ga ha' (q1 d nd)⟩
end
end
end K0

set_option Elab.async false
set_option linter.all false
set_option maxRecDepth 100000
set_option maxHeartbeats 8000000
/-! The program's looks at webs. -/
namespace K0
open PySem PySem.Spec L2
open PyProof.Rows hiding St
open KR (TupX)
abbrev pWhole : Stmt := top 11
abbrev pBelow : Stmt := top 12
abbrev pPair2 : Stmt := top 13
abbrev pTie : Stmt := top 14
abbrev pWeb : Stmt := top 15
abbrev pCheckWeb : Stmt := top 16
/-- what kind of value stands here -/
inductive VT (H : Hp) : V → String → Prop
  | non : VT H .non "NoneType"
  | bl (b : Bool) : VT H (.bl b) "bool"
  | int (i : Int) : VT H (.int i) "int"
  | str (x : Str) : VT H (.str x) "str"
  | lst {a : Addr} {xs : List V} (e : H a = some (.lst xs)) : VT H (.ref a) "list"
  | tup {a : Addr} {xs : List V} (e : TT H a xs) : VT H (.ref a) "tuple"
  | dct {a : Addr} {kvs : List (Key × V)} (e : H a = some (.dK kvs)) : VT H (.ref a) "dict"
theorem VT.ty {K : PySem.W.Frag} {H : Hp} {v : V} {t : String} (h : VT H v t) : TyX K H v (.type t) := by
  cases h with
  | non => exact .base .non
  | bl b => exact .base (.bl b)
  | int i => exact .base (.int i)
  | str x => exact .base (.str x)
  | lst e => exact .base (.lst e)
  | tup e => exact e.elim (fun e => .base (.tup e)) fun ⟨_, e⟩ => .fTuple e
  | dct e => exact .base (.dK e)
theorem VT.mono {H H' : Hp} {v : V} {t : String} (h : VT H v t) (s : Same H H') : VT H' v t := by
  cases h with
  | non => exact .non
  | bl b => exact .bl b
  | int i => exact .int i
  | str x => exact .str x
  | lst e => exact .lst (s _ _ e)
  | tup e => exact .tup (e.keep fun o q => s _ _ q)
  | dct e => exact .dct (s _ _ e)
theorem VT.kit {K : PySem.W.Frag} {H : Hp} {v : V} {t : String} (h : VT H v t) : PySem.W.kitOne K (.type t) (.type "int") = some (decide (t = "int" ∨ t = "bool")) ∧ PySem.W.kitOne K (.type t) (.type "bool") = some (decide (t = "bool")) ∧ PySem.W.kitOne K (.type t) (.type "tuple") = some (decide (t = "tuple")) := by
  cases h <;> exact ⟨kit_ty (by decide +kernel), kit_ty (by decide +kernel), kit_ty (by decide +kernel)⟩
theorem DV.vt {H : Hp} {T : Addr → Prop} {v : V} {d : PyData} (D : DV H T v d) : ∃ t, VT H v t := by
  cases D with
  | non => exact ⟨_, .non⟩
  | bl b => exact ⟨_, .bl b⟩
  | int i => exact ⟨_, .int i⟩
  | str x => exact ⟨_, .str x⟩
  | lst _ e => exact ⟨_, .lst e⟩
  | tup _ e => exact ⟨_, .tup e⟩
  | dct _ e => exact ⟨_, .dct e⟩
def wholeV : V → Bool
  | .int _ => true
  | _ => false
theorem VT.whole {H : Hp} {v : V} {t : String} (h : VT H v t) : wholeV v = decide (t = "int") := by cases h <;> rfl
def belowV (v : V) (n : Int) : Bool := match v with
  | .int i => decide (0 ≤ i) && decide (i < n)
  | _ => false
/-- isinstance(x, T) -/
theorem isi_run {K : PySem.W.Frag} {H : Hp} {v : V} {t T : String} {b : Bool} {Q : VK} (h : VT H v t) (k : PySem.W.kitOne K (.type t) (.type T) = some b) (q : Q (.bl b) H) : rIsi K [v, .ty T] H Q := ⟨v, .ty T, .type t, .type T, b, rfl, .ty T, h.ty, k, q⟩
def spWhole : Sp := fun vs H Q _ => ∃ (v : V) (t : String), vs = [v] ∧ VT H v t ∧ Q (.bl (wholeV v)) H
def spBelow : Sp := fun vs H Q _ => ∃ (v : V) (t : String) (n : Int), vs = [v, .int n] ∧ VT H v t ∧ Q (.bl (belowV v n)) H
def spIsPair : Sp := fun vs H Q _ => ∃ (a : Addr) (x y : V), vs = [.ref a] ∧ H a = some (.tup [x, y]) ∧ Q (.bl true) H
def spIsTie : Sp := fun vs H Q _ => ∃ (a : Addr) (q : Int × Int) (n : Int), vs = [.ref a, .int n] ∧ H a = some (.tup [.int q.1, .int q.2]) ∧ (0 ≤ q.1 ∧ q.1 < q.2 ∧ q.2 < n) ∧ Q (.bl true) H
/-- a web that is one -/
structure GW (H : Hp) (w : Addr) (n : Nat) (L : List (Int × Int)) : Prop where
  web : Web H w n L
  n1 : 1 ≤ n
  n2 : n ≤ 12
  bel : Bel n L
  srt : Srt L
  few : L.length ≤ 40
theorem GW.same {H H' : Hp} {w : Addr} {n : Nat} {L : List (Int × Int)} (g : GW H w n L) (s : Same H H') : GW H' w n L := ⟨g.web.same s, g.n1, g.n2, g.bel, g.srt, g.few⟩
def spIsWeb : Sp := fun vs H Q _ => ∃ (w : Addr) (n : Nat) (L : List (Int × Int)), vs = [.ref w] ∧ GW H w n L ∧ ∀ H', Same H H' → Q (.bl true) H'
def spCheckWeb : Sp := fun vs H Q _ => ∃ (w : Addr) (n : Nat) (L : List (Int × Int)), vs = [.ref w] ∧ GW H w n L ∧ ∀ H', Same H H' → Q .non H'
theorem cd_inj {n : Int} {a b : Int × Int} (ha : 0 ≤ a.1 ∧ a.1 < a.2 ∧ a.2 < n) (hb : 0 ≤ b.1 ∧ b.1 < b.2 ∧ b.2 < n) (hn : n ≤ 12) (e : cd a = cd b) : a = b := by
  obtain ⟨a1, a2⟩ := a
  obtain ⟨b1, b2⟩ := b
  unfold cd at e
  dsimp only at ha hb e
  have h1 : a1 = b1 := by omega
  have h2 : a2 = b2 := by omega
  rw [h1, h2]
/-- what is sorted in one order is one row -/
theorem srt_uniq {n : Int} (hn : n ≤ 12) : ∀ {L M : List (Int × Int)}, L.Perm M → Bel n L → Srt L → Srt M → L = M
  | [], M, p, _, _, _ => (List.nil_perm.mp p).symm
  | a :: L, [], p, _, _, _ => absurd (List.perm_nil.mp p) (by simp)
  | a :: L, b :: M, p, hb, s1, s2 => by
    obtain ⟨s1a, s1b⟩ := List.pairwise_cons.mp s1
    obtain ⟨s2a, s2b⟩ := List.pairwise_cons.mp s2
    have ab : a = b := by
      have ha : a ∈ b :: M := p.mem_iff.mp (List.mem_cons_self ..)
      have hb' : b ∈ a :: L := p.mem_iff.mpr (List.mem_cons_self ..)
      refine cd_inj (hb a (List.mem_cons_self ..)) (hb b hb') hn ?_
      have h1 : cd b ≤ cd a := by
        rcases List.mem_cons.mp ha with e | e
        · rw [e]; exact Int.le_refl _
        · exact s2a _ e
      have h2 : cd a ≤ cd b := by
        rcases List.mem_cons.mp hb' with e | e
        · rw [e]; exact Int.le_refl _
        · exact s1a _ e
      omega
    subst ab
    rw [srt_uniq hn ((List.perm_cons a).mp p) (fun q z => hb q (List.mem_cons_of_mem _ z)) s1b s2b]
section
variable {P : Program} {w : World} {K : PySem.W.Frag} {mg : Str → Option Value} {base : Heap}
theorem scpWhole : FnScope ["thing"] ["thing"] (defScope pWhole) := ⟨rfl, rfl, rfl, by decide +kernel, rfl, by decide +kernel, by decide +kernel⟩
theorem ok_whole {f : Addr} {fd : FuncData} (F : Fun K "is_whole" "is_whole" pWhole f fd) (T : Bj mg) : FnOk P w K mg base CX0 1 f fd ["thing"] spWhole := by
  refine F.ok scpWhole (fun vs H Q E h => ?_) (fun cdv A outer s H vs Q E hr h => ?_)
  · obtain ⟨v, t, rfl, _⟩ := h
    rfl
  · obtain ⟨v, t, rfl, hv, k⟩ := h
    refine ⟨_, pss_one (ps_ret (pe_and (pe_callB call_isi (by rfl) T.isi (by decide +kernel) (pa_cons (pv 0) (pa_cons (pe_bltn (v := .ty "int") (u := .type "int") (by rfl) T.int (by decide +kernel) rfl) pa_nil)))
      (pe_one (pe_not (pe_callB call_isi (by rfl) T.isi (by decide +kernel) (pa_cons (pv 0) (pa_cons (pe_bltn (v := .ty "bool") (u := .type "bool") (by rfl) T.bool (by decide +kernel) rfl) pa_nil))))))), ?_⟩
    obtain ⟨k1, k2, _⟩ := hv.kit (K := K)
    have hw := hv.whole
    refine ⟨_, rfl, v, .ty "int", .type t, .type "int", _, rfl, .ty "int", hv.ty, k1, _, rfl, ?_⟩
    by_cases h1 : t = "int" ∨ t = "bool"
    · rw [if_pos (decide_eq_true h1)]
      refine ⟨_, rfl, v, .ty "bool", .type t, .type "bool", _, rfl, .ty "bool", hv.ty, k2, _, rfl, ?_⟩
      have e : (!decide (t = "bool")) = wholeV v := by
        rw [hw]
        rcases h1 with rfl | rfl <;> decide
      rw [e]
      exact k
    · rw [if_neg (by rw [decide_eq_false h1]; exact Bool.false_ne_true)]
      have e : false = wholeV v := by rw [hw, decide_eq_false (fun z => h1 (.inl z))]
      rw [e]
      exact k
theorem scpBelow : FnScope ["thing", "bound"] ["thing", "bound"] (defScope pBelow) := ⟨rfl, rfl, rfl, by decide +kernel, rfl, by decide +kernel, by decide +kernel⟩
theorem ok_below {f fW : Addr} {fd fdW : FuncData} (F : Fun K "is_below" "is_below" pBelow f fd) (GW : Dn P w K mg base "is_whole" 1 ["thing"] spWhole fW fdW) : FnOk P w K mg base CX0 2 f fd ["thing", "bound"] spBelow := by
  refine F.ok scpBelow (fun vs H Q E h => ?_) (fun cdv A outer s H vs Q E hr h => ?_)
  · obtain ⟨v, t, n, rfl, _⟩ := h
    rfl
  · obtain ⟨v, t, n, rfl, hv, k⟩ := h
    refine ⟨_, pss_one (ps_ret (pe_and (pe_call GW.ok hr rfl GW.g GW.kp GW.b .nil pass0 (pa_cons (pv 0) pa_nil)) (pe_one (pe_chain op_le op_lt pe_int (pv 0) (pv 1))))), ?_⟩
    refine ⟨_, rfl, v, t, rfl, hv, _, rfl, ?_⟩
    cases hv with
    | int i =>
      refine ⟨_, rfl, _, _, rfl, rfl, _, rfl, ?_⟩
      have kk : Q (.bl (decide (0 ≤ i) && decide (i < n))) H := k
      by_cases h0 : (0 : Int) ≤ i
      · rw [if_pos (decide_eq_true h0)]
        rw [decide_eq_true h0, Bool.true_and] at kk
        exact ⟨_, rfl, _, _, rfl, rfl, kk⟩
      · rw [if_neg (by rw [decide_eq_false h0]; exact Bool.false_ne_true)]
        rw [decide_eq_false h0, Bool.false_and] at kk
        exact kk
    | _ => exact k
theorem scpPair2 : FnScope ["thing"] ["thing"] (defScope pPair2) := ⟨rfl, rfl, rfl, by decide +kernel, rfl, by decide +kernel, by decide +kernel⟩
theorem ok_isPair {f : Addr} {fd : FuncData} (F : Fun K "is_pair" "is_pair" pPair2 f fd) (T : Bj mg) : FnOk P w K mg base CX0 1 f fd ["thing"] spIsPair := by
  refine F.ok scpPair2 (fun vs H Q E h => ?_) (fun cdv A outer s H vs Q E hr h => ?_)
  · obtain ⟨a, x, y, rfl, _⟩ := h
    rfl
  · obtain ⟨a, x, y, rfl, ha, k⟩ := h
    refine ⟨_, pss_one (ps_ret (pe_and (pe_callB call_isi (by rfl) T.isi (by decide +kernel) (pa_cons (pv 0) (pa_cons (pe_bltn (v := .ty "tuple") (u := .type "tuple") (by rfl) T.tuple (by decide +kernel) rfl) pa_nil)))
      (pe_one (pe_cmpR op_eq (pe_callB call_len_seq (by rfl) T.len PySem.boot_len (pa_cons (pv 0) pa_nil)) pe_int (nomark _))))), ?_⟩
    have hv : VT H (.ref a) "tuple" := .tup (.inl ha)
    refine ⟨_, rfl, .ref a, .ty "tuple", .type "tuple", .type "tuple", _, rfl, .ty "tuple", hv.ty, hv.kit.2.2, _, rfl, ?_⟩
    refine iteT ⟨_, rfl, a, _, rfl, .inr (SqT.of ha), rfl, k⟩
theorem scpTie : FnScope ["thing", "places"] ["thing", "places"] (defScope pTie) := ⟨rfl, rfl, rfl, by decide +kernel, rfl, by decide +kernel, by decide +kernel⟩
theorem ok_isTie {f fP fB : Addr} {fd fdP fdB : FuncData} (F : Fun K "is_tie" "is_tie" pTie f fd) (GP : Dn P w K mg base "is_pair" 1 ["thing"] spIsPair fP fdP) (GB : Dn P w K mg base "is_below" 2 ["thing", "bound"] spBelow fB fdB) :
    FnOk P w K mg base CX0 3 f fd ["thing", "places"] spIsTie := by
  refine F.ok scpTie (fun vs H Q E h => ?_) (fun cdv A outer s H vs Q E hr h => ?_)
  · obtain ⟨a, q, n, rfl, _⟩ := h
    rfl
  · obtain ⟨a, q, n, rfl, ha, hq, k⟩ := h
    have hr1 : Room 1 _ := hr.mono (by decide)
    refine ⟨_, pss_one (ps_ret (pe_and (pe_call GP.ok hr1 rfl GP.g GP.kp GP.b .nil pass0 (pa_cons (pv 0) pa_nil))
      (pe_and (pe_call GB.ok hr rfl GB.g GB.kp GB.b .nil pass0 (pa_cons (pe_ix ix_tup (pv 0) pe_int (fun _ _ => rfl)) (pa_cons (pv 1) pa_nil)))
        (pe_one (pe_call GB.ok hr rfl GB.g GB.kp GB.b .nil pass0 (pa_cons (pe_ix ix_tup (pv 0) pe_int (fun _ _ => rfl)) (pa_cons (pe_ix ix_tup (pv 0) pe_int (fun _ _ => rfl)) pa_nil))))))), ?_⟩
    have b2 : belowV (.int q.2) n = true := by show (decide _ && decide _) = true; rw [decide_eq_true (by omega), decide_eq_true (by omega)] <;> rfl
    have b1 : belowV (.int q.1) q.2 = true := by show (decide _ && decide _) = true; rw [decide_eq_true (by omega), decide_eq_true (by omega)] <;> rfl
    refine ⟨_, rfl, a, _, _, rfl, ha, _, rfl, iteT ⟨_, rfl, a, _, _, _, rfl, rfl, SqT.of ha, atI_nat (j := 1) rfl, _, rfl, _, "int", n, rfl, .int _, _, rfl, ?_⟩⟩
    rw [b2]
    refine iteT ⟨_, rfl, a, _, _, _, rfl, rfl, SqT.of ha, atI_nat (j := 0) rfl, _, rfl, a, _, _, _, rfl, rfl, SqT.of ha, atI_nat (j := 1) rfl, _, "int", q.2, rfl, .int _, ?_⟩
    rw [b1]
    exact k
end
end K0

set_option Elab.async false
set_option linter.all false
set_option maxRecDepth 100000
set_option maxHeartbeats 8000000
/-! A web is told as one. -/
namespace K0
open PySem PySem.Spec L2
open PyProof.Rows hiding St
/-- what the program's own names hold -/
structure Bk (mg : Str → Option Value) : Prop extends Bj mg where
  most : ∃ t, mg "MOST_PLACES" = some (.int 12 t)
  sup : mg "super" = none
theorem pd_eqv (L : List (Int × Int)) : PyData.eqv (.list (L.map pd)) (.list (L.map pd)) = true := SeqAt.eqv_refl _ (by
  have h := pd_shaped L
  unfold SeqAt.shaped at h
  rw [Bool.and_eq_true] at h
  exact h.1)
section
variable {P : Program} {w : World} {K : PySem.W.Frag} {mg : Str → Option Value} {base : Heap}
abbrev nIsWeb : List Str := ["thing", "places", "ties", "tie"]
theorem scIsWeb : FnScope nIsWeb ["thing"] (defScope pWeb) := ⟨rfl, rfl, rfl, by decide +kernel, rfl, by decide +kernel, by decide +kernel⟩
theorem ok_isWeb {f fP fW fT : Addr} {fd fdP fdW fdT : FuncData} (F : Fun K "is_web" "is_web" pWeb f fd) (T : Bk mg) (GP : Dn P w K mg base "is_pair" 1 ["thing"] spIsPair fP fdP) (GW' : Dn P w K mg base "is_whole" 1 ["thing"] spWhole fW fdW)
    (GT : Dn P w K mg base "is_tie" 3 ["thing", "places"] spIsTie fT fdT) : FnOk P w K mg base CX0 4 f fd ["thing"] spIsWeb := by
  refine F.ok scIsWeb (fun vs H Q E h => ?_) (fun cdv A outer s H vs Q E hr h => ?_)
  · obtain ⟨w, n, L, rfl, _⟩ := h
    rfl
  · obtain ⟨w, n, L, rfl, G, k⟩ := h
    have hr1 : Room 1 _ := hr.mono (by decide)
    have hu6 : A.units + 3 + 64 < cLine := by have := hr.un; have e : (A.deeper (envOfC "is_web" (defScope pWeb) s.heap.objs.size f cdv)).units = A.units + 3 := rfl; omega
    obtain ⟨tk, hmost⟩ := T.most
    refine ⟨_, pss_cons (ps_if (pt_not (pt_val (pe_call GP.ok hr1 rfl GP.g GP.kp GP.b .nil pass0 (pa_cons (pv 0) pa_nil)))) (pss_one (ps_ret pe_bl)) pss_nil)
      <| pss_cons (ps_asg (pv 0) (pg_tup rfl (pgs_cons (pg_name (i := 1) scIsWeb.nd rfl (.inr rfl)) (pgs_cons (pg_name (i := 2) scIsWeb.nd rfl (.inl rfl)) pgs_nil))))
      <| pss_cons (ps_if (PW.pt (pw_or (pt_not (pt_val (pe_call GW'.ok hr1 rfl GW'.g GW'.kp GW'.b .nil pass0 (pa_cons (pv 1) pa_nil))))
          (pw_or (pt_not (pt_chain op_le op_le pe_int (pv 1) (pe_glob rfl hmost (show RelV (.int 12) _ from ⟨_, rfl⟩))))
            (pw_or1 (pt_not (pt_val (pe_callB call_isi (by rfl) T.isi (by decide +kernel) (pa_cons (pv 2) (pa_cons (pe_bltn (v := .ty "tuple") (u := .type "tuple") (by rfl) T.tuple (by decide +kernel) rfl) pa_nil)))))))))
          (pss_one (ps_ret pe_bl)) pss_nil)
      <| pss_one (ps_ret (pe_and (pe_callB (cr_all rfl) (by rfl) T.all (by decide +kernel) (pa_cons (pe_lc (own := [("tie", 3)]) (g := gName 3) (tt := tYes) rfl scIsWeb.nd (pi_tup (pv 2)) (blkOk_by (N := nIsWeb) (sc := defScope pWeb) (by decide +kernel))
            (fun _ _ _ _ _ => pg_name (i := 3) scIsWeb.nd rfl (Or.inl rfl)) (fun _ _ _ _ _ => pts_nil) (fun _ _ _ _ _ => pe_call GT.ok hr rfl GT.g GT.kp GT.b .nil pass0 (pa_cons (pv 3) (pa_cons (pv 1) pa_nil)))) pa_nil))
          (pe_one (pe_cmpR (op_eqD hu6) (pe_callTy call_list_of (by rfl) T.list (by decide +kernel) (pa_cons (pv 2) pa_nil)) (pe_callB (KR.cr_sortTT (d := 2) (B := 64) (by decide)) (by rfl) T.sorted (by decide +kernel) (pa_cons (pv 2) pa_nil)) (nomark _))))), ?_⟩
    obtain ⟨t, vs, e1, e2, e3⟩ := G.web.ex
    have n1 := G.n1
    have n2 := G.n2
    have few := G.few
    have len := e3.len
    refine ⟨_, rfl, w, _, _, rfl, e1, _, rfl, ?_⟩
    refine ⟨_, rfl, w, _, rfl, SqT.of e1, rfl, _, _, rfl, _, _, rfl, rfl, ?_⟩
    have htup : VT H (.ref t) "tuple" := .tup (.inl e2)
    have c1 : decide ((1 : Int) ≤ n) = true := decide_eq_true (by omega)
    have c2 : decide ((n : Int) ≤ 12) = true := decide_eq_true (by omega)
    refine ⟨_, rfl, _, "int", rfl, .int _, _, rfl, _, rfl, _, _, rfl, rfl, _, rfl, ?_⟩
    rw [if_pos c1]
    refine ⟨_, _, rfl, rfl, ?_⟩
    refine ⟨_, rfl, iteNS (c := (n : Int) ≤ 12) (by omega) ?_⟩
    refine ⟨_, rfl, .ref t, .ty "tuple", .type "tuple", .type "tuple", _, rfl, .ty "tuple", htup.ty, htup.kit.2.2, _, rfl, iteNS (c := "tuple" = "tuple") rfl ?_⟩
    refine ⟨_, rfl, t, rfl, ⟨_, SqT.of e2⟩, fun Da hD => ?_⟩
    refine lc_it (walk_tup (xs := vs)) (fun i M => M Da = some (.lst (List.replicate i (.bl true))) ∧ Same H M) ⟨upd_same, same_new hD⟩ (fun i M _ g => SqT.of (g.2 _ _ e2)) ?_ ?_
    · rintro i x M M' hi ⟨g1, g2⟩ ⟨rfl, hx⟩
      obtain ⟨a, q, rfl, hq, ha⟩ := e3.get hx
      refine ⟨rfl, ?_⟩
      unfold tYes
      refine iteT ?_
      refine ⟨_, rfl, _, rfl, a, q, n, rfl, g2 _ _ ha, G.bel q (List.mem_of_getElem? hq), _, g1, by rw [List.length_replicate, sizeLine_eq]; omega, by rw [upd_same, List.replicate_succ'], fun b o e => by rw [upd_ne (ne_of_none e hD)]; exact g2 _ _ e⟩
    · rintro M ⟨g1, g2⟩
      have all1 : ∀ m : Nat, (List.replicate m true).all id = true := fun m => by
        induction m with
        | zero => rfl
        | succ m ih => rw [List.replicate_succ, List.all_cons, ih] <;> rfl
      refine ⟨Da, List.replicate vs.length true, rfl, SqL.of (by rw [g1, List.map_replicate]), _, rfl, ?_⟩
      rw [all1]
      refine iteT ?_
      refine ⟨_, rfl, t, vs, rfl, .inr (SqT.of (g2 _ _ e2)), fun l hl => ?_⟩
      have s1 : Same H (upd M l (.lst vs)) := g2.trans (same_new hl)
      refine ⟨_, rfl, t, vs, rfl, SqT.of (s1 _ _ e2), by omega, (e3.mono (same_tup s1)).tups G.bel (by omega), fun ys p pm pw hp => ?_⟩
      obtain ⟨M2, pm2, pr⟩ := Prs.perm pm (e3.mono (same_tup s1))
      have eM : M2 = L := (srt_uniq (n := n) (by omega) pm2.symm G.bel G.srt (pr.srt pw)).symm
      subst eM
      have s2 : Same H (upd (upd M l (.lst vs)) p (.lst ys)) := s1.trans (same_new hp)
      refine ⟨.list (M2.map pd), .list (M2.map pd), .lst (SqL.of (by rw [upd_ne (ne_of_none upd_same hp)]; exact upd_same)) (e3.mono (same_tup s2)).dp, .lst (SqL.of upd_same) (pr.mono (new_tup hp)).dp, pd_shaped M2, pd_shaped M2, ?_⟩
      rw [pd_eqv]
      exact k _ s2
theorem scCheckWeb : FnScope ["thing"] ["thing"] (defScope pCheckWeb) := ⟨rfl, rfl, rfl, by decide +kernel, rfl, by decide +kernel, by decide +kernel⟩
theorem ok_checkWeb {f fW : Addr} {fd fdW : FuncData} (F : Fun K "check_web" "check_web" pCheckWeb f fd) (GW' : Dn P w K mg base "is_web" 4 ["thing"] spIsWeb fW fdW) : FnOk P w K mg base CX0 5 f fd ["thing"] spCheckWeb := by
  refine F.ok scCheckWeb (fun vs H Q E h => ?_) (fun cdv A outer s H vs Q E hr h => ?_)
  · obtain ⟨w, n, L, rfl, _⟩ := h
    rfl
  · obtain ⟨w, n, L, rfl, G, k⟩ := h
    refine ⟨_, pss_one (ps_if (pt_not (pt_val (pe_call GW'.ok hr rfl GW'.g GW'.kp GW'.b .nil pass0 (pa_cons (pv 0) pa_nil)))) (pss_one ps_never) pss_nil), ?_⟩
    exact ⟨_, rfl, w, n, L, rfl, G, fun H' s1 => ⟨_, rfl, k H' s1⟩⟩
end
end K0

set_option Elab.async false
set_option linter.all false
set_option maxRecDepth 100000
set_option maxHeartbeats 8000000
/-! Lots: told, refused. -/
namespace K0
open PySem PySem.Spec L2
open PyProof.Rows hiding St
abbrev pIsTieNo : Stmt := top 17
abbrev pPlacesBut : Stmt := top 18
/-- a value that may be a lot: a tuple of such items, or none -/
inductive Th (H : Hp) : V → Option (List V) → Prop
  | tup {a : Addr} {xs : List V} (e : TT H a xs) (h : ∀ x ∈ xs, ∃ t, VT H x t) (l : xs.length ≤ 60) : Th H (.ref a) (some xs)
  | oth {v : V} {t : String} (h : VT H v t) (ne : t ≠ "tuple") : Th H v none
theorem Th.same {H H' : Hp} {v : V} {o : Option (List V)} (h : Th H v o) (s : Same H H') : Th H' v o := by
  cases h with
  | tup e h l => exact .tup (e.keep fun o q => s _ _ q) (fun x hx => let ⟨t, q⟩ := h x hx; ⟨t, q.mono s⟩) l
  | oth h ne => exact .oth (h.mono s) ne
def intV : V → Int
  | .int i => i
  | _ => 0
def lotD (n : Int) (xs : List V) : Bool := xs.all (belowV · n) && decide ((xs.map intV).Pairwise (· < ·))
def lotO (n : Int) : Option (List V) → Bool
  | some xs => lotD n xs
  | none => false
/-- a lot of the places below n -/
structure IsLot (n : Int) (ns : List Int) : Prop where
  bel : ∀ i ∈ ns, 0 ≤ i ∧ i < n
  inc : ns.Pairwise (· < ·)
theorem below_ints {n : Int} : ∀ {xs : List V}, xs.all (belowV · n) = true → xs = (xs.map intV).map V.int ∧ ∀ i ∈ xs.map intV, 0 ≤ i ∧ i < n
  | [], _ => ⟨rfl, fun _ z => nomatch z⟩
  | x :: xs, h => by
    rw [List.all_cons, Bool.and_eq_true] at h
    obtain ⟨h1, h2⟩ := h
    obtain ⟨e1, e2⟩ := below_ints h2
    cases x with
    | int i =>
      have h1 : (decide (0 ≤ i) && decide (i < n)) = true := h1
      rw [Bool.and_eq_true, decide_eq_true_eq, decide_eq_true_eq] at h1
      refine ⟨by rw [List.map_cons, List.map_cons, ← e1] <;> rfl, fun j hj => ?_⟩
      rw [List.map_cons] at hj
      rcases List.mem_cons.mp hj with rfl | z
      · exact h1
      · exact e2 j z
    | _ => cases h1
theorem lot_of {n : Int} {xs : List V} (h : lotD n xs = true) : xs = (xs.map intV).map V.int ∧ IsLot n (xs.map intV) := by
  unfold lotD at h
  rw [Bool.and_eq_true, decide_eq_true_eq] at h
  obtain ⟨e1, e2⟩ := below_ints h.1
  exact ⟨e1, e2, h.2⟩
theorem map_intV (ns : List Int) : (ns.map V.int).map intV = ns := by
  rw [List.map_map]
  exact (List.map_congr_left fun i _ => rfl).trans (List.map_id ns)
theorem of_lot {n : Int} {ns : List Int} (h : IsLot n ns) : lotD n (ns.map V.int) = true := by
  unfold lotD
  rw [map_intV, Bool.and_eq_true, decide_eq_true_eq]
  refine ⟨List.all_eq_true.mpr fun x hx => ?_, h.inc⟩
  obtain ⟨i, hi, rfl⟩ := List.mem_map.mp hx
  have := h.bel i hi
  show (decide _ && decide _) = true
  rw [decide_eq_true this.1, decide_eq_true this.2] <;> rfl
/-- rows that rise and have the same members are one -/
theorem inc_uniq : ∀ {a b : List Int}, a.Pairwise (· < ·) → b.Pairwise (· < ·) → (∀ k, k ∈ a ↔ k ∈ b) → a = b
  | [], [], _, _, _ => rfl
  | [], y :: b, _, _, h => absurd ((h y).mpr (List.mem_cons_self ..)) List.not_mem_nil
  | x :: a, [], _, _, h => absurd ((h x).mp (List.mem_cons_self ..)) List.not_mem_nil
  | x :: a, y :: b, ha, hb, h => by
    obtain ⟨a1, a2⟩ := List.pairwise_cons.mp ha
    obtain ⟨b1, b2⟩ := List.pairwise_cons.mp hb
    have e : x = y := by
      have hx := (h x).mp (List.mem_cons_self ..)
      have hy := (h y).mpr (List.mem_cons_self ..)
      rcases List.mem_cons.mp hx with e | z
      · exact e
      · rcases List.mem_cons.mp hy with e | z'
        · exact e.symm
        · have := b1 _ z
          have := a1 _ z'
          omega
    subst e
    rw [inc_uniq a2 b2 fun k => ⟨fun hk => ?_, fun hk => ?_⟩]
    · rcases List.mem_cons.mp ((h k).mp (List.mem_cons_of_mem _ hk)) with e | z
      · have := a1 _ hk; omega
      · exact z
    · rcases List.mem_cons.mp ((h k).mpr (List.mem_cons_of_mem _ hk)) with e | z
      · have := b1 _ hk; omega
      · exact z
theorem eqvAll_ints : ∀ a b : List Int, PyData.eqvAll (a.map PyData.int) (b.map PyData.int) = decide (a = b)
  | [], [] => by simp [PyData.eqvAll]
  | [], y :: b => by simp [PyData.eqvAll]
  | x :: a, [] => by simp [PyData.eqvAll]
  | x :: a, y :: b => by
    simp only [List.map_cons, PyData.eqvAll, PyData.eqv, eqvAll_ints a b, List.cons.injEq]
    by_cases h : x = y <;> by_cases g : a = b <;> simp [h, g]
theorem eqv_ints (a b : List Int) : PyData.eqv (.list (a.map PyData.int)) (.list (b.map PyData.int)) = decide (a = b) := by
  rw [← eqvAll_ints a b]
  simp only [PyData.eqv]
def spIsLotOf : Sp := fun vs H Q _ => ∃ (w : Addr) (n : Nat) (L : List (Int × Int)) (v : V) (o : Option (List V)), vs = [.ref w, v] ∧ GW H w n L ∧ Th H v o ∧ ∀ H', Same H H' → Q (.bl (lotO n o)) H'
/-- an error with a field -/
structure ErX (P : Program) (K : PySem.W.Frag) (mg : Str → Option Value) (nm : Str) (C fI : Addr) (f : Str) : Prop where
  er : ErrC P K C
  f1 : PySem.EX.Fn1 P K C fI f
  g : mg nm = some (.ref C)
/-- an error is raised that carries v -/
def Rz (C : Addr) (f : Str) (v : V) (H : Hp) (E : XK) : Prop := ∀ (d : Addr) (H' : Hp), Same H H' → H d = none → H' d = some (.xd [(f, v)]) → E (.ref C) (some d) H'
theorem Rz.same {C : Addr} {f : Str} {v : V} {H H1 : Hp} {E : XK} (r : Rz C f v H E) (s : Same H H1) : Rz C f v H1 E := fun d H' s' hd e => r d H' (s.trans s') (s.free hd) e
def spCheckLot (C : Addr) : Sp := fun vs H Q E => ∃ (w : Addr) (n : Nat) (L : List (Int × Int)) (v : V) (o : Option (List V)), vs = [.ref w, v] ∧ GW H w n L ∧ Th H v o ∧ (lotO n o = true → ∀ H', Same H H' → Q .non H') ∧ (lotO n o = false → Rz C "thing" v H E)
def spIsTieNo : Sp := fun vs H Q _ => ∃ (w : Addr) (n : Nat) (L : List (Int × Int)) (v : V) (t : String), vs = [.ref w, v] ∧ GW H w n L ∧ VT H v t ∧ Q (.bl (belowV v L.length)) H
def spCheckTie (C : Addr) : Sp := fun vs H Q E => ∃ (w : Addr) (n : Nat) (L : List (Int × Int)) (v : V) (t : String), vs = [.ref w, v] ∧ GW H w n L ∧ VT H v t ∧ (belowV v L.length = true → Q .non H) ∧ (belowV v L.length = false → Rz C "number" v H E)
section
variable {P : Program} {w0 : World} {K : PySem.W.Frag} {mg : Str → Option Value} {base : Heap}
abbrev nIsLotOf : List Str := ["web", "thing", "place"]
theorem scIsTieNo : FnScope ["web", "thing"] ["web", "thing"] (defScope pIsTieNo) := ⟨rfl, rfl, rfl, by decide +kernel, rfl, by decide +kernel, by decide +kernel⟩
theorem ok_isTieNo {f fB : Addr} {fd fdB : FuncData} (F : Fun K "is_tie_number" "is_tie_number" pIsTieNo f fd) (T : Bk mg) (GB : Dn P w0 K mg base "is_below" 2 ["thing", "bound"] spBelow fB fdB) : FnOk P w0 K mg base CX0 3 f fd ["web", "thing"] spIsTieNo := by
  refine F.ok scIsTieNo (fun vs H Q E h => ?_) (fun cdv A outer s H vs Q E hr h => ?_)
  · obtain ⟨w, n, L, v, t, rfl, _⟩ := h
    rfl
  · obtain ⟨w, n, L, v, t, rfl, G, ht, k⟩ := h
    refine ⟨_, pss_one (ps_ret (pe_call GB.ok hr rfl GB.g GB.kp GB.b .nil pass0 (pa_cons (pv 1) (pa_cons (pe_callB call_len_seq (by rfl) T.len PySem.boot_len (pa_cons (pe_ix ix_tup (pv 0) pe_int (fun _ _ => rfl)) pa_nil)) pa_nil)))), ?_⟩
    obtain ⟨ta, vs, e1, e2, e3⟩ := G.web.ex
    refine ⟨_, rfl, _, rfl, w, _, _, _, rfl, rfl, SqT.of e1, atI_nat (j := 1) rfl, ta, vs, rfl, .inr (SqT.of e2), v, t, _, rfl, ht, ?_⟩
    rw [e3.len]
    exact k
end
end K0

/-! Places as bits. -/
namespace K0
/-- a and b are tied -/
def Adj (L : List (Int × Int)) (a b : Nat) : Prop := ((a : Int), (b : Int)) ∈ L ∨ ((b : Int), (a : Int)) ∈ L
instance (L : List (Int × Int)) (a b : Nat) : Decidable (Adj L a b) := by unfold Adj; infer_instance
theorem Adj.symm {L : List (Int × Int)} {a b : Nat} (h : Adj L a b) : Adj L b a := Or.symm h
/-- the places that are joined with r within m -/
inductive Rch (L : List (Int × Int)) (m : Nat) (r : Nat) : Nat → Prop
  | refl (h : m.testBit r = true) : Rch L m r r
  | step {b c : Nat} (h : Rch L m r b) (a : Adj L b c) (k : m.testBit c = true) : Rch L m r c
theorem Rch.bit {L : List (Int × Int)} {m r i : Nat} (h : Rch L m r i) : m.testBit i = true := by
  cases h with
  | refl h => exact h
  | step _ _ k => exact k
theorem Rch.root {L : List (Int × Int)} {m r i : Nat} (h : Rch L m r i) : m.testBit r = true := by
  induction h with
  | refl h => exact h
  | step _ _ _ ih => exact ih
theorem Rch.mono {L : List (Int × Int)} {m m' r i : Nat} (h : Rch L m r i) (s : ∀ j, m.testBit j = true → m'.testBit j = true) : Rch L m' r i := by
  induction h with
  | refl h => exact .refl (s _ h)
  | step _ a k ih => exact .step ih a (s _ k)
/-- a set that is closed holds what is joined -/
theorem Rch.closed {L : List (Int × Int)} {m r i : Nat} (h : Rch L m r i) {S : Nat → Prop} (h0 : S r) (hs : ∀ b c, S b → Adj L b c → m.testBit c = true → S c) : S i := by
  induction h with
  | refl _ => exact h0
  | step _ a k ih => exact hs _ _ ih a k
theorem Rch.trans {L : List (Int × Int)} {m r i j : Nat} (h : Rch L m r i) (g : Rch L m i j) : Rch L m r j := g.closed h fun _ _ s a k => .step s a k
theorem Rch.symm {L : List (Int × Int)} {m r i : Nat} (h : Rch L m r i) : Rch L m i r := by
  induction h with
  | refl h => exact .refl h
  | step s a k ih => exact .trans (.step (.refl k) a.symm s.bit) ih
/-! ### bits -/
theorem sub_le {a b : Nat} (h : ∀ i, a.testBit i = true → b.testBit i = true) : a ≤ b := by
  have e : a &&& b = a := Nat.eq_of_testBit_eq fun i => by
    rw [Nat.testBit_and]
    cases z : a.testBit i with
    | false => rfl
    | true => rw [h i z] <;> rfl
  rw [← e]
  exact Nat.and_le_right
theorem bit_lt {a i n : Nat} (ha : a < 2 ^ n) (h : a.testBit i = true) : i < n := by
  rcases Nat.lt_or_ge i n with z | z
  · exact z
  · rw [Nat.testBit_lt_two_pow (Nat.lt_of_lt_of_le ha (Nat.pow_le_pow_right (by decide) z))] at h
    cases h
theorem or_grows {p f : Nat} (d : ∀ i, f.testBit i = true → p.testBit i = false) (h : f ≠ 0) : p < p ||| f := by
  have le : p ≤ p ||| f := sub_le fun i z => by rw [Nat.testBit_or, z, Bool.true_or]
  refine Nat.lt_of_le_of_ne le fun e => ?_
  obtain ⟨i, hi⟩ := Nat.exists_testBit_of_ne_zero h
  have := congrArg (·.testBit i) e
  simp only [Nat.testBit_or, hi, d i hi, Bool.or_true] at this
  cases this
theorem full_bit (n i : Nat) : (2 ^ n - 1).testBit i = decide (i < n) := Nat.testBit_two_pow_sub_one ..
/-- the places of a mask -/
def lotN (m : Nat) : List Nat := (List.range 12).filter m.testBit
theorem lotN_mem {m i : Nat} (h : m < 2 ^ 12) : i ∈ lotN m ↔ m.testBit i = true := by
  unfold lotN
  rw [List.mem_filter, List.mem_range]
  exact ⟨fun z => z.2, fun z => ⟨bit_lt h z, z⟩⟩
theorem lotN_inc (m : Nat) : (lotN m).Pairwise (· < ·) := List.pairwise_lt_range.filter _
/-! ### near places -/
/-- what stands in the list of near places -/
structure Near (L : List (Int × Int)) (n : Nat) (ms : List Nat) : Prop where
  len : ms.length = n
  bit : ∀ a b, a < n → (ms.getD a 0).testBit b = decide (Adj L a b)
theorem near_nil (n : Nat) : Near [] n (List.replicate n 0) := ⟨List.length_replicate, fun a b h => by
  have e : (List.replicate n 0).getD a 0 = 0 := by rw [List.getD_eq_getElem?_getD, List.getElem?_replicate]; split <;> rfl
  rw [e, Nat.zero_testBit]
  exact (decide_eq_false fun z => by unfold Adj at z; simp at z).symm⟩
theorem near_snoc {L : List (Int × Int)} {n : Nat} {ms : List Nat} (h : Near L n ms) {a b : Nat} (lt : a < b) (hb : b < n) :
    Near (L ++ [((a : Int), (b : Int))]) n ((ms.set a (ms.getD a 0 ||| 2 ^ b)).set b (((ms.set a (ms.getD a 0 ||| 2 ^ b)).getD b 0) ||| 2 ^ a)) := by
  have len := h.len
  refine ⟨by rw [List.length_set, List.length_set, len], fun x y hx => ?_⟩
  have e1 : (ms.set a (ms.getD a 0 ||| 2 ^ b)).getD b 0 = ms.getD b 0 := by
    rw [List.getD_eq_getElem?_getD, List.getElem?_set_ne (by omega), ← List.getD_eq_getElem?_getD]
  rw [e1]
  have adj : ∀ x y : Nat, Adj (L ++ [((a : Int), (b : Int))]) x y ↔ Adj L x y ∨ (x = a ∧ y = b) ∨ (x = b ∧ y = a) := fun x y => by
    unfold Adj
    simp only [List.mem_append, List.mem_singleton, Prod.mk.injEq, Int.natCast_inj]
    constructor
    · rintro ((z | z) | (z | z))
      · exact .inl (.inl z)
      · exact .inr (.inl z)
      · exact .inl (.inr z)
      · exact .inr (.inr ⟨z.2, z.1⟩)
    · rintro ((z | z) | z | z)
      · exact .inl (.inl z)
      · exact .inr (.inl z)
      · exact .inl (.inr z)
      · exact .inr (.inr ⟨z.2, z.1⟩)
  have key := h.bit x y hx
  by_cases hxb : x = b
  · subst hxb
    rw [List.getD_eq_getElem?_getD, List.getElem?_set_self (by rw [List.length_set]; omega)]
    show (ms.getD x 0 ||| 2 ^ a).testBit y = _
    rw [Nat.testBit_or, key, Nat.testBit_two_pow, ← Bool.decide_or]
    refine decide_eq_decide.mpr ?_
    rw [adj]
    constructor
    · rintro (z | z)
      · exact .inl z
      · exact .inr (.inr ⟨rfl, z.symm⟩)
    · rintro (z | z | z)
      · exact .inl z
      · omega
      · exact .inr z.2.symm
  · rw [List.getD_eq_getElem?_getD, List.getElem?_set_ne (fun z => hxb z.symm)]
    by_cases hxa : x = a
    · subst hxa
      rw [List.getElem?_set_self (by omega)]
      show (ms.getD x 0 ||| 2 ^ b).testBit y = _
      rw [Nat.testBit_or, key, Nat.testBit_two_pow, ← Bool.decide_or]
      refine decide_eq_decide.mpr ?_
      rw [adj]
      constructor
      · rintro (z | z)
        · exact .inl z
        · exact .inr (.inl ⟨rfl, z.symm⟩)
      · rintro (z | z | z)
        · exact .inl z
        · exact .inr z.2.symm
        · omega
    · rw [List.getElem?_set_ne (fun z => hxa z.symm), ← List.getD_eq_getElem?_getD, key]
      refine decide_eq_decide.mpr ?_
      rw [adj]
      constructor
      · exact .inl
      · rintro (z | z | z)
        · exact z
        · exact absurd z.1 hxa
        · exact absurd z.1 hxb
/-! ### parts -/
/-- p is the part of r within m -/
def IsPart (L : List (Int × Int)) (m r p : Nat) : Prop := ∀ i, p.testBit i = true ↔ Rch L m r i
/-- the state of the search -/
structure Flood (L : List (Int × Int)) (m r part fresh : Nat) : Prop where
  rch : ∀ i, part.testBit i = true → Rch L m r i
  root : part.testBit r = true
  fr : ∀ i, fresh.testBit i = true → part.testBit i = true
  cl : ∀ b c, part.testBit b = true → Adj L b c → m.testBit c = true → part.testBit c = true ∨ fresh.testBit b = true
theorem Flood.start {L : List (Int × Int)} {m r : Nat} (h : m.testBit r = true) : Flood L m r (2 ^ r) (2 ^ r) := by
  have e : ∀ i, (2 ^ r).testBit i = true ↔ r = i := fun i => by rw [Nat.testBit_two_pow, decide_eq_true_eq]
  refine ⟨fun i z => ?_, (e r).mpr rfl, fun _ z => z, fun b c z _ _ => .inr z⟩
  rw [← (e i).mp z]
  exact .refl h
theorem Flood.turn {L : List (Int × Int)} {m r part fresh met : Nat} (F : Flood L m r part fresh) (hm : ∀ c, met.testBit c = true ↔ ∃ b, fresh.testBit b = true ∧ Adj L b c) :
    Flood L m r (part ||| (met &&& (m ^^^ part))) (met &&& (m ^^^ part)) ∧ ∀ i, (met &&& (m ^^^ part)).testBit i = true → part.testBit i = false := by
  have mb : ∀ i, part.testBit i = true → m.testBit i = true := fun i z => (F.rch i z).bit
  have xb : ∀ i, (met &&& (m ^^^ part)).testBit i = true ↔ met.testBit i = true ∧ m.testBit i = true ∧ part.testBit i = false := fun i => by
    rw [Nat.testBit_and, Nat.testBit_xor]
    have := mb i
    cases h1 : met.testBit i <;> cases h2 : m.testBit i <;> cases h3 : part.testBit i <;> simp_all
  refine ⟨⟨fun i z => ?_, by rw [Nat.testBit_or, F.root, Bool.true_or], fun i z => by rw [Nat.testBit_or, z, Bool.or_true], fun b c z a k => ?_⟩, fun i z => ((xb i).mp z).2.2⟩
  · rw [Nat.testBit_or, Bool.or_eq_true] at z
    rcases z with z | z
    · exact F.rch i z
    · obtain ⟨h1, h2, _⟩ := (xb i).mp z
      obtain ⟨b, hb, ab⟩ := (hm i).mp h1
      exact .step (F.rch b (F.fr b hb)) ab h2
  · rw [Nat.testBit_or, Bool.or_eq_true] at z
    rw [Nat.testBit_or, Bool.or_eq_true]
    by_cases hc : part.testBit c = true
    · exact .inl (.inl hc)
    · have hc : part.testBit c = false := by cases q : part.testBit c <;> simp_all
      rcases z with z | z
      · rcases F.cl b c z a k with y | y
        · exact .inl (.inl y)
        · exact .inl (.inr ((xb c).mpr ⟨(hm c).mpr ⟨b, y, a⟩, k, hc⟩))
      · exact .inr z
theorem Flood.done {L : List (Int × Int)} {m r part : Nat} (F : Flood L m r part 0) : IsPart L m r part := fun i => ⟨F.rch i, fun h => h.closed F.root fun b c z a k => by
  rcases F.cl b c z a k with y | y
  · exact y
  · rw [Nat.zero_testBit] at y; cases y⟩
theorem Flood.lt {L : List (Int × Int)} {m r part fresh : Nat} (F : Flood L m r part fresh) (h : m < 4096) : part < 4096 ∧ fresh < 4096 := by
  have h1 : part ≤ m := sub_le fun i z => (F.rch i z).bit
  have h2 : fresh ≤ part := sub_le F.fr
  omega
/-- some parts, each with its least place, and what is left -/
structure Some_ (L : List (Int × Int)) (m left : Nat) (ps : List (Nat × Nat)) : Prop where
  sub : ∀ i, left.testBit i = true → m.testBit i = true
  cl : ∀ b c, m.testBit b = true → m.testBit c = true → Adj L b c → left.testBit b = left.testBit c
  part : ∀ q ∈ ps, m.testBit q.1 = true ∧ IsPart L m q.1 q.2 ∧ ∀ i, q.2.testBit i = true → q.1 ≤ i
  inc : ps.Pairwise fun a b => a.1 < b.1
  low : ∀ q ∈ ps, ∀ i, left.testBit i = true → q.1 < i
  all : ∀ i, m.testBit i = true → left.testBit i = true ∨ ∃ q ∈ ps, q.2.testBit i = true
theorem Some_.start (L : List (Int × Int)) (m : Nat) : Some_ L m m [] := ⟨fun _ z => z, fun b c hb hc _ => (by rw [hb, hc]), (fun _ z => nomatch z), .nil, (fun _ z => nomatch z), fun _ z => .inl z⟩
theorem Some_.turn {L : List (Int × Int)} {m left r p : Nat} {ps : List (Nat × Nat)} (S : Some_ L m left ps) (hr : left.testBit r = true) (lo : ∀ i, left.testBit i = true → r ≤ i) (hp : IsPart L left r p) :
    Some_ L m (left ^^^ p) (ps ++ [(r, p)]) ∧ left ^^^ p < left := by
  have pl : ∀ i, p.testBit i = true → left.testBit i = true := fun i z => ((hp i).mp z).bit
  have lb : ∀ i, (left ^^^ p).testBit i = true ↔ left.testBit i = true ∧ p.testBit i = false := fun i => by
    rw [Nat.testBit_xor]
    have := pl i
    cases h1 : left.testBit i <;> cases h2 : p.testBit i <;> simp_all
  have hp' : IsPart L m r p := fun i => ⟨fun z => ((hp i).mp z).mono S.sub, fun z => (hp i).mpr ?_⟩
  · refine ⟨⟨fun i z => S.sub i ((lb i).mp z).1, fun b c hb hc a => ?_, fun q hq => ?_, ?_, fun q hq i z => ?_, fun i z => ?_⟩, ?_⟩
    · rw [Nat.testBit_xor, Nat.testBit_xor, S.cl b c hb hc a]
      have e : p.testBit b = p.testBit c := by
        have h1 : ∀ b c, m.testBit b = true → m.testBit c = true → Adj L b c → p.testBit b = true → p.testBit c = true := fun b c hb hc a z => (hp c).mpr (.step ((hp b).mp z) a (by rw [← S.cl b c hb hc a]; exact pl b z))
        cases x : p.testBit b with
        | true => exact (h1 b c hb hc a x).symm
        | false =>
          cases y : p.testBit c with
          | false => rfl
          | true => rw [h1 c b hc hb a.symm y] at x; cases x
      rw [e]
    · rcases List.mem_append.mp hq with hq | hq
      · exact S.part q hq
      · rw [List.mem_singleton.mp hq]
        exact ⟨S.sub r hr, hp', fun i z => lo i (pl i z)⟩
    · refine List.pairwise_append.mpr ⟨S.inc, List.pairwise_singleton .., fun a ha b hb => ?_⟩
      rw [List.mem_singleton.mp hb]
      exact S.low a ha r hr
    · obtain ⟨z1, z2⟩ := (lb i).mp z
      rcases List.mem_append.mp hq with hq | hq
      · exact S.low q hq i z1
      · rw [List.mem_singleton.mp hq]
        refine Nat.lt_of_le_of_ne (lo i z1) fun e => ?_
        have e : r = i := e
        rw [← e, (hp r).mpr (.refl hr)] at z2
        cases z2
    · rcases S.all i z with y | ⟨q, hq, y⟩
      · cases x : p.testBit i with
        | true => exact .inr ⟨(r, p), List.mem_append_right _ (List.mem_singleton.mpr rfl), x⟩
        | false => exact .inl ((lb i).mpr ⟨y, x⟩)
      · exact .inr ⟨q, List.mem_append_left _ hq, y⟩
    · refine Nat.lt_of_le_of_ne (sub_le fun i z => ((lb i).mp z).1) fun e => ?_
      have := (lb r).mp (by rw [e]; exact hr)
      rw [(hp r).mpr (.refl hr)] at this
      cases this.2
  · refine z.closed (S := fun i => Rch L left r i) (.refl hr) fun b c s a k => .step s a ?_
    rw [← S.cl b c (S.sub b s.bit) k a]
    exact s.bit
/-- all parts of m -/
structure Parts (L : List (Int × Int)) (m : Nat) (ps : List (Nat × Nat)) : Prop where
  part : ∀ q ∈ ps, m.testBit q.1 = true ∧ IsPart L m q.1 q.2 ∧ ∀ i, q.2.testBit i = true → q.1 ≤ i
  inc : ps.Pairwise fun a b => a.1 < b.1
  all : ∀ i, m.testBit i = true → ∃ q ∈ ps, q.2.testBit i = true
theorem Some_.done {L : List (Int × Int)} {m : Nat} {ps : List (Nat × Nat)} (S : Some_ L m 0 ps) : Parts L m ps := ⟨S.part, S.inc, fun i z => (S.all i z).resolve_left fun y => by rw [Nat.zero_testBit] at y; cases y⟩
theorem inc_few : ∀ {ps : List (Nat × Nat)} {n k : Nat}, k ≤ n → (ps.Pairwise fun a b => a.1 < b.1) → (∀ q ∈ ps, k ≤ q.1 ∧ q.1 < n) → ps.length + k ≤ n
  | [], n, k, h, _, _ => by simpa using h
  | q :: ps, n, k, h, p, b => by
    obtain ⟨p1, p2⟩ := List.pairwise_cons.mp p
    have hq := b q (List.mem_cons_self ..)
    have := inc_few (k := q.1 + 1) hq.2 p2 fun r hr => ⟨p1 r hr, (b r (List.mem_cons_of_mem _ hr)).2⟩
    rw [List.length_cons]
    omega
end K0

/-! Rings of ties. -/
namespace K0
/-- the ends of the k-th tie -/
def tie (L : List (Int × Int)) (k : Nat) : Int × Int := L.getD k (0, 0)
def has (q : Int × Int) (p : Int) : Bool := decide (p = q.1) || decide (p = q.2)
def other (q : Int × Int) (p : Int) : Int := q.1 + q.2 - p
/-- the places that are met, the first one among them -/
def wk (L : List (Int × Int)) : Int → List Nat → List Int
  | s, [] => [s]
  | s, k :: r => s :: wk L (other (tie L k) s) r
def okW (L : List (Int × Int)) : Int → List Nat → Bool
  | _, [] => true
  | s, k :: r => has (tie L k) s && okW L (other (tie L k) s) r
/-- where it leads -/
def ed (L : List (Int × Int)) : Int → List Nat → Int
  | s, [] => s
  | s, k :: r => ed L (other (tie L k) s) r
section
variable {L : List (Int × Int)}
theorem has_iff {q : Int × Int} {p : Int} : has q p = true ↔ p = q.1 ∨ p = q.2 := by unfold has; simp
theorem other_has {q : Int × Int} {p : Int} (h : has q p = true) : has q (other q p) = true := by
  rw [has_iff] at h ⊢
  unfold other
  omega
theorem other_other (q : Int × Int) (p : Int) : other q (other q p) = p := by unfold other; omega
theorem wk_len : ∀ (ns : List Nat) (s : Int), (wk L s ns).length = ns.length + 1
  | [], _ => rfl
  | k :: r, s => by rw [wk, List.length_cons, wk_len r, List.length_cons]
theorem wk_head : ∀ (ns : List Nat) (s : Int), wk L s ns = s :: (wk L s ns).tail
  | [], _ => rfl
  | _ :: _, _ => rfl
theorem wk_app : ∀ (ns ms : List Nat) (s : Int), wk L s (ns ++ ms) = (wk L s ns).dropLast ++ wk L (ed L s ns) ms
  | [], _, _ => rfl
  | k :: r, ms, s => by
    rw [List.cons_append, wk, wk_app r, wk, ed]
    rw [wk_head r, List.dropLast_cons_cons, List.cons_append]
theorem wk_last : ∀ (ns : List Nat) (s : Int), wk L s ns = (wk L s ns).dropLast ++ [ed L s ns]
  | [], _ => rfl
  | k :: r, s => by
    rw [wk, ed]
    have h := wk_last r (other (tie L k) s)
    rw [wk_head r] at h ⊢
    rw [List.dropLast_cons_cons, List.cons_append, ← h]
theorem ok_app : ∀ (ns ms : List Nat) (s : Int), okW L s (ns ++ ms) = (okW L s ns && okW L (ed L s ns) ms)
  | [], _, _ => rfl
  | k :: r, ms, s => by rw [List.cons_append, okW, okW, ed, ok_app r, Bool.and_assoc]
theorem ed_app : ∀ (ns ms : List Nat) (s : Int), ed L s (ns ++ ms) = ed L (ed L s ns) ms
  | [], _, _ => rfl
  | k :: r, ms, s => by rw [List.cons_append, ed, ed, ed_app r]
/-- they lead round from s -/
structure Rnd (L : List (Int × Int)) (s : Int) (ns : List Nat) : Prop where
  ok : okW L s ns = true
  ed : ed L s ns = s
  nd : (wk L s ns).dropLast.Nodup
theorem Rnd.tail {s : Int} {k : Nat} {r : List Nat} (h : Rnd L s (k :: r)) : (wk L s (k :: r)).tail.Nodup := by
  have e := wk_last (L := L) r (other (tie L k) s)
  have nd := h.nd
  rw [wk, wk_head r, List.dropLast_cons_cons, ← wk_head r] at nd
  rw [wk, List.tail_cons, e, show K0.ed L (other (tie L k) s) r = s from h.ed]
  exact (List.perm_append_comm (l₁ := [s])).nodup_iff.mp nd
theorem Rnd.rot {s : Int} {k : Nat} {r : List Nat} (h : Rnd L s (k :: r)) : Rnd L (other (tie L k) s) (r ++ [k]) := by
  have hk := h.ok
  have he : K0.ed L (other (tie L k) s) r = s := h.ed
  rw [okW, Bool.and_eq_true] at hk
  refine ⟨?_, ?_, ?_⟩
  · rw [ok_app, hk.2, he, okW, hk.1] <;> rfl
  · rw [ed_app, he] <;> rfl
  · have e := wk_app (L := L) r [k] (other (tie L k) s)
    have w := wk_last (L := L) r (other (tie L k) s)
    rw [he] at e w
    rw [e, show wk L s [k] = [s, other (tie L k) s] from rfl, show (wk L (other (tie L k) s) r).dropLast ++ [s, other (tie L k) s] = ((wk L (other (tie L k) s) r).dropLast ++ [s]) ++ [other (tie L k) s] by rw [List.append_assoc] <;> rfl, List.dropLast_concat, ← w]
    exact h.tail
theorem rot_at {s : Int} {ns : List Nat} (h : Rnd L s ns) : ∀ i, i ≤ ns.length → ∃ t, Rnd L t (ns.drop i ++ ns.take i)
  | 0, _ => ⟨s, by simpa using h⟩
  | i + 1, hi => by
    obtain ⟨t, g⟩ := rot_at h i (by omega)
    rw [List.drop_eq_getElem_cons (by omega), List.cons_append] at g
    refine ⟨_, (?_ : ns.drop (i + 1) ++ ns.take i ++ [ns[i]] = _) ▸ g.rot⟩
    rw [List.append_assoc, List.take_add_one, List.getElem?_eq_getElem (by omega)] <;> rfl
theorem wk_rev : ∀ (ns : List Nat) (s : Int), okW L s ns = true → okW L (ed L s ns) ns.reverse = true ∧ wk L (ed L s ns) ns.reverse = (wk L s ns).reverse ∧ ed L (ed L s ns) ns.reverse = s
  | [], _, _ => ⟨rfl, rfl, rfl⟩
  | k :: r, s, h => by
    rw [okW, Bool.and_eq_true] at h
    obtain ⟨i1, i2, i3⟩ := wk_rev r _ h.2
    have oh := other_has h.1
    refine ⟨?_, ?_, ?_⟩
    · rw [List.reverse_cons, ed, ok_app, i1, i3, okW, oh] <;> rfl
    · have w := wk_last (L := L) r.reverse (ed L (other (tie L k) s) r)
      rw [i3] at w
      rw [List.reverse_cons, ed, wk_app, i3, show wk L s (k :: r) = s :: wk L (other (tie L k) s) r from rfl, List.reverse_cons, ← i2]
      rw [show wk L (other (tie L k) s) [k] = [other (tie L k) s, other (tie L k) (other (tie L k) s)] from rfl, other_other]
      conv => rhs; rw [w]
      rw [List.append_assoc] <;> rfl
    · rw [List.reverse_cons, ed, ed_app, i3]
      exact other_other _ _
theorem Rnd.rev {s : Int} {ns : List Nat} (h : Rnd L s ns) : Rnd L s ns.reverse := by
  obtain ⟨i1, i2, i3⟩ := wk_rev ns s h.ok
  rw [h.ed] at i1 i2 i3
  refine ⟨i1, i3, ?_⟩
  rw [i2]
  cases ns with
  | nil => exact .nil
  | cons k r =>
    have := h.tail
    rw [wk, List.tail_cons] at this
    rw [wk, List.reverse_cons, List.dropLast_concat]
    exact (List.reverse_perm _).nodup_iff.mpr this
/-- ties of a cut, along a way -/
def crB (mem : Int → Bool) (q : Int × Int) : Bool := mem q.1 != mem q.2
theorem cross (mem : Int → Bool) : ∀ (ns : List Nat) (s : Int), okW L s ns = true → (ns.filter fun k => crB mem (tie L k)).length % 2 = if mem s = mem (ed L s ns) then 0 else 1
  | [], s, _ => by simp [ed]
  | k :: r, s, h => by
    rw [okW, Bool.and_eq_true] at h
    have ih := cross mem r _ h.2
    have hs := has_iff.mp h.1
    have c : crB mem (tie L k) = (mem s != mem (other (tie L k) s)) := by
      unfold crB other
      rcases hs with e | e
      · rw [e, show (tie L k).1 + (tie L k).2 - (tie L k).1 = (tie L k).2 by omega]
      · rw [e, show (tie L k).1 + (tie L k).2 - (tie L k).2 = (tie L k).1 by omega]
        cases mem (tie L k).1 <;> cases mem (tie L k).2 <;> rfl
    rw [List.filter_cons, ed]
    cases x : mem s <;> cases y : mem (other (tie L k) s) <;> cases z : mem (ed L (other (tie L k) s) r) <;> simp only [c, x, y, z] at ih ⊢ <;> simp at ih ⊢ <;> omega
theorem Rnd.even {s : Int} {ns : List Nat} (h : Rnd L s ns) (mem : Int → Bool) : (ns.filter fun k => crB mem (tie L k)).length % 2 = 0 := by
  rw [cross mem ns s h.ok, h.ed, if_pos rfl]
theorem Rnd.col {s : Int} {ns : List Nat} (h : Rnd L s ns) {mem : Int → Bool} (c : ∀ k ∈ ns, crB mem (tie L k) = true) : ns.length % 2 = 0 := by
  have e := h.even mem
  rwa [List.filter_eq_self.mpr c] at e
/-! ### what is told of it -/
def rndB (L : List (Int × Int)) (s : Int) (ns : List Nat) : Bool := okW L s ns && decide (ed L s ns = s) && decide (wk L s ns).dropLast.Nodup
theorem rndB_iff {s : Int} {ns : List Nat} : rndB L s ns = true ↔ Rnd L s ns := by
  unfold rndB
  simp only [Bool.and_eq_true, decide_eq_true_eq]
  exact ⟨fun ⟨⟨a, b⟩, c⟩ => ⟨a, b, c⟩, fun ⟨a, b, c⟩ => ⟨⟨a, b⟩, c⟩⟩
def ringB (L : List (Int × Int)) (ns : List Nat) : Bool := decide (2 ≤ ns.length) && decide ns.Nodup && (rndB L (tie L (ns.getD 0 0)).1 ns || rndB L (tie L (ns.getD 0 0)).2 ns)
theorem ringB_of {s : Int} {ns : List Nat} (h : Rnd L s ns) (h2 : 2 ≤ ns.length) (nd : ns.Nodup) : ringB L ns = true := by
  unfold ringB
  rw [decide_eq_true h2, decide_eq_true nd]
  cases ns with
  | nil => simp at h2
  | cons k r =>
    have ok := h.ok
    rw [okW, Bool.and_eq_true] at ok
    show (true && true && (rndB L (tie L k).1 (k :: r) || rndB L (tie L k).2 (k :: r))) = true
    rcases has_iff.mp ok.1 with e | e
    · rw [← e, rndB_iff.mpr h] <;> rfl
    · rw [← e, rndB_iff.mpr h, Bool.or_true] <;> rfl
theorem of_ringB {ns : List Nat} (h : ringB L ns = true) : 2 ≤ ns.length ∧ ns.Nodup ∧ ∃ s, Rnd L s ns := by
  unfold ringB at h
  rw [Bool.and_eq_true, Bool.and_eq_true, decide_eq_true_eq, decide_eq_true_eq, Bool.or_eq_true] at h
  obtain ⟨⟨h1, h2⟩, h3⟩ := h
  exact ⟨h1, h2, h3.elim (fun z => ⟨_, rndB_iff.mp z⟩) fun z => ⟨_, rndB_iff.mp z⟩⟩
/-- a ring may be begun anywhere, and turned round -/
theorem ring_rot {ns : List Nat} (h : ringB L ns = true) {i : Nat} (hi : i ≤ ns.length) : ringB L (ns.drop i ++ ns.take i) = true := by
  obtain ⟨h1, h2, s, g⟩ := of_ringB h
  obtain ⟨t, g'⟩ := rot_at g i hi
  have p : (ns.drop i ++ ns.take i).Perm ns := List.perm_append_comm.trans (List.Perm.of_eq (List.take_append_drop i ns))
  exact ringB_of g' (by rw [p.length_eq]; exact h1) (p.nodup_iff.mpr h2)
theorem ring_rev {ns : List Nat} (h : ringB L ns = true) : ringB L ns.reverse = true := by
  obtain ⟨h1, h2, s, g⟩ := of_ringB h
  exact ringB_of g.rev (by rw [List.length_reverse]; exact h1) ((List.reverse_perm _).nodup_iff.mpr h2)
/-- ties are ties -/
def BelT (L : List (Int × Int)) : Prop := ∀ k, k < L.length → (tie L k).1 < (tie L k).2
theorem ring_two (B : BelT L) {i j : Nat} (hi : i < L.length) (hj : j < L.length) (ne : i ≠ j) : ringB L [i, j] = decide (tie L i = tie L j) := by
  have b1 := B i hi
  have b2 := B j hj
  have nd : [i, j].Nodup := by simp [ne]
  by_cases e : tie L i = tie L j
  · rw [decide_eq_true e]
    refine ringB_of (s := (tie L i).1) ⟨?_, ?_, ?_⟩ (Nat.le_refl 2) nd
    · simp only [okW, Bool.and_true, ← e, Bool.and_eq_true]
      exact ⟨has_iff.mpr (.inl rfl), other_has (has_iff.mpr (.inl rfl))⟩
    · simp only [ed, ← e]; exact other_other _ _
    · show [(tie L i).1, other (tie L i) (tie L i).1].Nodup
      unfold other
      simp only [List.nodup_cons, List.mem_singleton, List.not_mem_nil, not_false_eq_true, List.nodup_nil, and_true]
      omega
  · rw [decide_eq_false e]
    cases h : ringB L [i, j] with
    | false => rfl
    | true =>
      obtain ⟨_, _, s, ok, ed', _⟩ := of_ringB h
      simp only [okW, Bool.and_true, Bool.and_eq_true] at ok
      simp only [ed] at ed'
      have h1 := has_iff.mp ok.1
      have h2 := has_iff.mp ok.2
      unfold other at h2 ed'
      refine absurd (Prod.ext ?_ ?_) e <;> omega
/-- the program's look -/
def leadsP (L : List (Int × Int)) (start : Int) : Int → List Int → List Nat → Bool
  | p, _, [] => decide (p = start)
  | p, met, k :: r => if decide (p ∈ met) = true then false else if has (tie L k) p = true then leadsP L start (other (tie L k) p) (met ++ [p]) r else false
theorem leadsP_eq (start : Int) : ∀ (ns : List Nat) (p : Int) (met : List Int), met.Nodup → leadsP L start p met ns = (okW L p ns && decide (ed L p ns = start) && decide (met ++ (wk L p ns).dropLast).Nodup)
  | [], p, met, h => by
    rw [leadsP, okW, ed, wk, show ([p] : List Int).dropLast = [] from rfl, List.append_nil, decide_eq_true h, Bool.and_true, Bool.true_and]
  | k :: r, p, met, h => by
    rw [leadsP, okW, ed, wk, wk_head r, List.dropLast_cons_cons, ← wk_head r]
    by_cases hp : p ∈ met
    · rw [if_pos (decide_eq_true hp)]
      refine (Bool.and_eq_false_iff.mpr (.inr (decide_eq_false fun z => ?_))).symm
      exact (List.nodup_append.mp z).2.2 p hp p (List.mem_cons_self ..) rfl
    · rw [if_neg (by simpa using hp)]
      by_cases hh : has (tie L k) p = true
      · rw [if_pos hh, hh, leadsP_eq start r _ _ (List.nodup_append.mpr ⟨h, by simp, fun a ha b hb e => by rw [List.mem_singleton.mp hb] at e; exact hp (e ▸ ha)⟩), List.append_assoc, Bool.true_and] <;> rfl
      · rw [if_neg hh, show has (tie L k) p = false by cases q : has (tie L k) p <;> simp_all] <;> rfl
theorem leadsP_rnd (s : Int) (ns : List Nat) : leadsP L s s [] ns = rndB L s ns := by rw [leadsP_eq s ns s [] .nil, List.nil_append] <;> rfl
/-- the law's look: the place and what is met -/
def lawW (L : List (Int × Int)) : Int → List Int → List Nat → Int × List Int
  | p, met, [] => (p, met)
  | p, met, k :: r => if has (tie L k) p = true then lawW L (other (tie L k) p) (met ++ [other (tie L k) p]) r else lawW L p met r
theorem lawW_le : ∀ (ns : List Nat) (p : Int) (met : List Int), (lawW L p met ns).2.length ≤ met.length + ns.length
  | [], _, _ => Nat.le_refl _
  | k :: r, p, met => by
    rw [lawW]
    split
    · have := lawW_le r (other (tie L k) p) (met ++ [other (tie L k) p])
      rw [List.length_append, List.length_singleton] at this
      rw [List.length_cons]
      omega
    · have := lawW_le r p met
      rw [List.length_cons]
      omega
theorem lawW_ok : ∀ (ns : List Nat) (p : Int) (met : List Int), okW L p ns = true → lawW L p met ns = (ed L p ns, met ++ (wk L p ns).tail)
  | [], p, met, _ => by rw [lawW, ed, wk, List.tail_cons, List.append_nil]
  | k :: r, p, met, h => by
    rw [okW, Bool.and_eq_true] at h
    rw [lawW, if_pos h.1, lawW_ok r _ _ h.2, ed, wk, List.tail_cons]
    conv => rhs; rw [wk_head r]
    rw [List.append_assoc] <;> rfl
theorem lawW_no : ∀ (ns : List Nat) (p : Int) (met : List Int), okW L p ns = false → (lawW L p met ns).2.length < met.length + ns.length
  | [], _, _, h => by cases h
  | k :: r, p, met, h => by
    rw [lawW]
    by_cases hh : has (tie L k) p = true
    · rw [okW, hh, Bool.true_and] at h
      rw [if_pos hh]
      have := lawW_no r _ (met ++ [other (tie L k) p]) h
      rw [List.length_append, List.length_singleton] at this
      rw [List.length_cons]
      omega
    · rw [if_neg hh]
      have := lawW_le (L := L) r p met
      rw [List.length_cons]
      omega
theorem law_rnd {ns : List Nat} (s : Int) (h : ns ≠ []) : (decide ((lawW L s [] ns).1 = s) && (decide ((lawW L s [] ns).2.length = ns.length) && decide (lawW L s [] ns).2.Nodup)) = rndB L s ns := by
  cases ok : okW L s ns with
  | false =>
    have := lawW_no ns s [] ok
    simp only [List.length_nil, Nat.zero_add] at this
    unfold rndB
    rw [ok, decide_eq_false (p := (lawW L s [] ns).2.length = ns.length) (by omega)]
    simp
  | true =>
    rw [lawW_ok ns s [] ok, List.nil_append]
    unfold rndB
    rw [ok, Bool.true_and]
    have hl : (wk L s ns).tail.length = ns.length := by rw [List.length_tail, wk_len] <;> rfl
    rw [decide_eq_true hl, Bool.true_and]
    by_cases he : ed L s ns = s
    · rw [decide_eq_true he, Bool.true_and, Bool.true_and]
      refine decide_eq_decide.mpr ?_
      cases ns with
      | nil => exact absurd rfl h
      | cons k r =>
        have w := wk_last (L := L) r (other (tie L k) s)
        rw [show ed L (other (tie L k) s) r = s from he] at w
        have p : (wk L s (k :: r)).tail.Perm (wk L s (k :: r)).dropLast := by
          rw [wk, List.tail_cons]
          conv => rhs; rw [wk_head r, List.dropLast_cons_cons, ← wk_head r]
          conv => lhs; rw [w]
          exact List.perm_append_comm
        exact p.nodup_iff
    · rw [decide_eq_false he] <;> rfl
/-! ### a drawn walk -/
theorem wk_drop : ∀ (j : Nat) (ns : List Nat) (s : Int), j ≤ ns.length → okW L s ns = true → (wk L s ns).drop j = wk L (ed L s (ns.take j)) (ns.drop j) ∧ okW L (ed L s (ns.take j)) (ns.drop j) = true
  | 0, _, _, _, h => ⟨rfl, h⟩
  | j + 1, [], _, h, _ => by simp at h
  | j + 1, k :: r, s, h, ok => by
    rw [okW, Bool.and_eq_true] at ok
    rw [wk, List.drop_succ_cons, List.take_succ_cons, List.drop_succ_cons, ed]
    exact wk_drop j r _ (by simpa using h) ok.2
theorem walked_ring (B : BelT L) {p0 p : Int} {ns : List Nat} {ps : List Int} (ok : okW L p0 ns = true) (w : wk L p0 ns = ps ++ [p]) (nd : ps.Nodup) (nn : ns.Nodup) (lt : ∀ k ∈ ns, k < L.length) {j : Nat} (hj : ps[j]? = some p) : ringB L (ns.drop j) = true := by
  have len : ps.length = ns.length := by
    have := congrArg List.length w
    rw [wk_len, List.length_append, List.length_singleton] at this
    omega
  have jl : j < ps.length := (List.getElem?_eq_some_iff.mp hj).1
  obtain ⟨d1, d2⟩ := wk_drop j ns p0 (by omega) ok
  have d1' := d1
  rw [w, List.drop_append_of_le_length (by omega), List.drop_eq_getElem_cons jl] at d1
  have e : ps[j] = p := by rw [List.getElem?_eq_getElem jl] at hj; exact Option.some.inj hj
  rw [e] at d1
  have es : ed L p0 (ns.take j) = p := by
    rw [wk_head] at d1
    exact (List.cons.inj d1).1.symm
  rw [es] at d1 d2
  have wl := wk_last (L := L) (ns.drop j) p
  have r : Rnd L p (ns.drop j) := by
    have q : ps.drop j ++ [p] = (wk L p (ns.drop j)).dropLast ++ [ed L p (ns.drop j)] := by rw [← wl, ← d1, List.drop_eq_getElem_cons jl, e] 
    have q1 := List.append_inj' q rfl
    refine ⟨d2, (List.cons.inj q1.2).1.symm, ?_⟩
    rw [← q1.1]
    exact (List.drop_sublist j ps).nodup nd
  refine ringB_of r ?_ ((List.drop_sublist j ns).nodup nn)
  rw [List.length_drop]
  by_cases one : ns.length - j = 1
  · have : (ns.drop j).length = 1 := by rw [List.length_drop]; exact one
    obtain ⟨k, hk⟩ := List.length_eq_one_iff.mp this
    rw [hk] at r
    have kl : k < L.length := lt k (List.mem_of_mem_drop (by rw [hk]; exact List.mem_singleton.mpr rfl))
    have b := B k kl
    have o := r.ok
    have e := r.ed
    simp only [okW, Bool.and_true] at o
    simp only [ed] at e
    have := has_iff.mp o
    unfold other at e
    omega
  · omega
theorem wk_snoc {p0 p : Int} {ns : List Nat} {ps : List Int} (ok : okW L p0 ns = true) (w : wk L p0 ns = ps ++ [p]) {k : Nat} (h : has (tie L k) p = true) : okW L p0 (ns ++ [k]) = true ∧ wk L p0 (ns ++ [k]) = (ps ++ [p]) ++ [other (tie L k) p] := by
  have wl := wk_last (L := L) ns p0
  rw [w] at wl
  have q := List.append_inj' wl rfl
  have e : ed L p0 ns = p := (List.cons.inj q.2).1.symm
  refine ⟨by rw [ok_app, ok, e, okW, h] <;> rfl, ?_⟩
  rw [wk_app, e, show (wk L p0 ns).dropLast = ps by rw [w, List.dropLast_concat], List.append_assoc] <;> rfl
end
end K0

set_option Elab.async false
set_option linter.all false
set_option maxRecDepth 100000
set_option maxHeartbeats 8000000
/-! Plain webs, rests. -/
namespace K0
open PySem PySem.Spec L2
open PyProof.Rows hiding St
/-! ### members of a row of ints -/
theorem inV_ints (k : Int) (ns : List Int) : inV (.int k) (ns.map V.int) = decide (k ∈ ns) := by
  unfold inV
  rw [List.any_map]
  induction ns with
  | nil => rfl
  | cons n ns ih =>
    rw [List.any_cons, ih]
    show ((n == k) || decide (k ∈ ns)) = decide (k ∈ n :: ns)
    by_cases h : n = k
    · subst h
      simp
    · have h' : ¬ k = n := fun z => h z.symm
      simp [h, h', List.mem_cons]
theorem flat_ints (ns : List Int) : (ns.map V.int).all flatV = true := List.all_eq_true.mpr fun v hv => by
  obtain ⟨i, _, rfl⟩ := List.mem_map.mp hv
  rfl
/-- the places that are not in ns -/
def iota (n : Nat) : List Int := (List.range n).map fun i => ((i : Nat) : Int)
def restN (n : Nat) (ns : List Int) : List Int := (iota n).filter fun i => !decide (i ∈ ns)
theorem iota_succ (n : Nat) : iota (n + 1) = iota n ++ [(n : Int)] := by
  unfold iota
  rw [List.range_succ, List.map_append] <;> rfl
theorem rest_succ (n : Nat) (ns : List Int) : restN (n + 1) ns = if (!decide ((n : Int) ∈ ns)) = true then restN n ns ++ [(n : Int)] else restN n ns := by
  unfold restN
  rw [iota_succ, List.filter_append]
  by_cases h : (n : Int) ∈ ns
  · simp [h]
  · simp [h]
theorem iota_mem {n : Nat} {i : Int} : i ∈ iota n ↔ 0 ≤ i ∧ i < n := by
  unfold iota
  rw [List.mem_map]
  constructor
  · rintro ⟨k, hk, rfl⟩
    have := List.mem_range.mp hk
    omega
  · intro h
    exact ⟨i.toNat, List.mem_range.mpr (by omega), by omega⟩
theorem iota_inc (n : Nat) : (iota n).Pairwise (· < ·) := by
  unfold iota
  exact List.pairwise_map.mpr (List.pairwise_lt_range.imp fun {a b} z => by omega)
theorem rest_mem {n : Nat} {ns : List Int} {i : Int} : i ∈ restN n ns ↔ (0 ≤ i ∧ i < n) ∧ i ∉ ns := by
  unfold restN
  rw [List.mem_filter, iota_mem]
  simp
theorem rest_lot (n : Nat) (ns : List Int) : IsLot n (restN n ns) := ⟨fun i hi => (rest_mem.mp hi).1, (iota_inc n).filter _⟩
theorem rest_len (n : Nat) (ns : List Int) : (restN n ns).length ≤ n := by
  unfold restN iota
  refine Nat.le_trans (List.length_filter_le _ _) ?_
  rw [List.length_map, List.length_range]
  exact Nat.le_refl _
theorem inc_nd {ns : List Int} (h : ns.Pairwise (· < ·)) : ns.Nodup := h.imp fun {a b} z e => by omega
theorem nd_len : ∀ {α : Type} [DecidableEq α] {M L : List α}, M.Nodup → (∀ q ∈ M, q ∈ L) → M.length ≤ L.length
  | _, _, [], L, _, _ => Nat.zero_le _
  | _, _, q :: M, L, h, s => by
    obtain ⟨h1, h2⟩ := List.pairwise_cons.mp h
    have hq := s q (List.mem_cons_self ..)
    have := nd_len (M := M) (L := L.erase q) h2 fun r hr => (List.mem_erase_of_ne (fun e => h1 r hr e.symm)).mpr (s r (List.mem_cons_of_mem _ hr))
    rw [List.length_erase_of_mem hq] at this
    have pos := List.length_pos_of_mem hq
    rw [List.length_cons]
    omega
theorem lot_len {n : Nat} {ns : List Int} (h : IsLot n ns) : ns.length ≤ n := by
  have := nd_len (L := iota n) (inc_nd h.inc) fun i hi => iota_mem.mpr (h.bel i hi)
  rwa [iota, List.length_map, List.length_range] at this
/-! ### a web without doubled ties -/
structure IsPl (L M : List (Int × Int)) : Prop where
  nd : M.Nodup
  srt : Srt M
  mem : ∀ q, q ∈ M ↔ q ∈ L
theorem pl_uniq {n : Int} {L M M' : List (Int × Int)} (hn : n ≤ 12) (hB : Bel n L) (a : IsPl L M) (b : IsPl L M') : M = M' :=
  srt_uniq hn ((List.perm_ext_iff_of_nodup a.nd b.nd).mpr fun q => (a.mem q).trans (b.mem q).symm) (hB.sub fun q z => (a.mem q).mp z) a.srt b.srt
theorem pl_self {L M : List (Int × Int)} (a : IsPl L M) : IsPl M M := ⟨a.nd, a.srt, fun _ => Iff.rfl⟩
theorem pl_two {L M M' : List (Int × Int)} (a : IsPl L M) (b : IsPl M M') : IsPl L M' := ⟨b.nd, b.srt, fun q => (b.mem q).trans (a.mem q)⟩
theorem GW.pl {H : Hp} {w w' : Addr} {n : Nat} {L M : List (Int × Int)} (g : GW H w n L) (W : Web H w' n M) (p : IsPl L M) : GW H w' n M :=
  ⟨W, g.n1, g.n2, g.bel.sub fun q z => (p.mem q).mp z, p.srt, Nat.le_trans (nd_len p.nd fun q z => (p.mem q).mp z) g.few⟩
theorem Prs.ks {H : Hp} {vs : List V} {L : List (Int × Int)} (p : Prs H vs L) : ∃ ks : List (Addr × List Int), vs = ks.map (fun e => V.ref e.1) ∧ (∀ e ∈ ks, ∃ q ∈ L, e.2 = [q.1, q.2] ∧ H e.1 = some (.tup [.int q.1, .int q.2])) ∧ (∀ q ∈ L, ∃ e ∈ ks, e.2 = [q.1, q.2]) ∧ ks.length = L.length := by
  induction p with
  | nil => exact ⟨[], rfl, (fun _ z => nomatch z), (fun _ z => nomatch z), rfl⟩
  | @cons a r vs L h t ih =>
    obtain ⟨ks, e1, e2, e3, e4⟩ := ih
    refine ⟨(a, [r.1, r.2]) :: ks, by rw [e1] <;> rfl, fun e he => ?_, fun q hq => ?_, by rw [List.length_cons, List.length_cons, e4]⟩
    · rcases List.mem_cons.mp he with rfl | he
      · exact ⟨r, List.mem_cons_self .., rfl, h⟩
      · obtain ⟨q, q1, q2⟩ := e2 e he
        exact ⟨q, List.mem_cons_of_mem _ q1, q2⟩
    · rcases List.mem_cons.mp hq with rfl | hq
      · exact ⟨_, List.mem_cons_self .., rfl⟩
      · obtain ⟨e, e1, e2⟩ := e3 q hq
        exact ⟨e, List.mem_cons_of_mem _ e1, e2⟩
theorem ks_prs {H : Hp} {L : List (Int × Int)} : ∀ {ks : List (Addr × List Int)}, (∀ e ∈ ks, ∃ q ∈ L, e.2 = [q.1, q.2] ∧ H e.1 = some (.tup [.int q.1, .int q.2])) → ∃ M : List (Int × Int), Prs H (ks.map fun e => V.ref e.1) M ∧ ks.map (·.2) = M.map fun q => [q.1, q.2]
  | [], _ => ⟨[], .nil, rfl⟩
  | e :: ks, h => by
    obtain ⟨q, _, h1, h2⟩ := h e (List.mem_cons_self ..)
    obtain ⟨M, m1, m2⟩ := ks_prs (ks := ks) fun e z => h e (List.mem_cons_of_mem _ z)
    exact ⟨q :: M, .cons h2 m1, by rw [List.map_cons, List.map_cons, h1, m2]⟩
theorem pr_inj : ∀ {a b : Int × Int}, ([a.1, a.2] : List Int) = [b.1, b.2] → a = b := fun {a b} h => by
  obtain ⟨a1, a2⟩ := a
  obtain ⟨b1, b2⟩ := b
  simp only [List.cons.injEq, and_true] at h
  rw [h.1, h.2]
def spPlainOf : Sp := fun vs H Q _ => ∃ (w : Addr) (n : Nat) (L : List (Int × Int)), vs = [.ref w] ∧ GW H w n L ∧ ∀ (w' : Addr) (M : List (Int × Int)) (H' : Hp), Same H H' → H w' = none → Web H' w' n M → IsPl L M → Q (.ref w') H'
def spPlacesBut : Sp := fun vs H Q _ => ∃ (w a : Addr) (n : Nat) (L : List (Int × Int)) (ns : List Int), vs = [.ref w, .ref a] ∧ GW H w n L ∧ TT H a (ns.map V.int) ∧ ∀ (t : Addr) (H' : Hp), Same H H' → H t = none → H' t = some (.tup ((restN n ns).map V.int)) → Q (.ref t) H'
def spIsLot : Sp := fun vs H Q _ => ∃ (w : Addr) (n : Nat) (L : List (Int × Int)) (v : V) (o : Option (List V)), vs = [.ref w, v] ∧ GW H w n L ∧ Th H v o ∧ ∀ H', Same H H' → Q (.bl (lotO n o)) H'
/-- a def of a web and a lot, that refuses what is none -/
def spLot (C : Addr) (G : Hp → Addr → Nat → List (Int × Int) → List Int → VK → Prop) : Sp := fun vs H Q E => ∃ (w : Addr) (n : Nat) (L : List (Int × Int)) (v : V) (o : Option (List V)), vs = [.ref w, v] ∧ GW H w n L ∧ Th H v o ∧
  (∀ (a : Addr) (ns : List Int), v = .ref a → o = some (ns.map V.int) → IsLot n ns → TT H a (ns.map V.int) → G H a n L ns Q) ∧ (lotO n o = false → Rz C "thing" v H E)
def gRest : Hp → Addr → Nat → List (Int × Int) → List Int → VK → Prop := fun H _ n _ ns Q => ∀ (t : Addr) (H' : Hp), Same H H' → H t = none → H' t = some (.tup ((restN n ns).map V.int)) → Q (.ref t) H'
/-- it is a lot, or refused -/
theorem th_cases {H : Hp} {v : V} {o : Option (List V)} {n : Int} (h : Th H v o) : (lotO n o = true ∧ ∃ a ns, v = .ref a ∧ o = some (ns.map V.int) ∧ IsLot n ns ∧ TT H a (ns.map V.int)) ∨ lotO n o = false := by
  cases h with
  | oth _ _ => exact .inr rfl
  | @tup a xs e _ _ =>
    cases z : lotD n xs with
    | false => exact .inr z
    | true =>
      obtain ⟨e1, e2⟩ := lot_of z
      exact .inl ⟨z, a, _, rfl, congrArg some e1, e2, e1 ▸ e⟩
section
variable {P : Program} {w0 : World} {K : PySem.W.Frag} {mg : Str → Option Value} {base : Heap}
abbrev nPlacesBut : List Str := ["web", "lot", "place"]
theorem scPlacesBut : FnScope nPlacesBut ["web", "lot"] (defScope pPlacesBut) := ⟨rfl, rfl, rfl, by decide +kernel, rfl, by decide +kernel, by decide +kernel⟩
theorem ok_placesBut {f : Addr} {fd : FuncData} (F : Fun K "places_but" "places_but" pPlacesBut f fd) (T : Bk mg) : FnOk P w0 K mg base CX0 1 f fd ["web", "lot"] spPlacesBut := by
  refine F.ok scPlacesBut (fun vs H Q E h => ?_) (fun cdv A outer s H vs Q E hr h => ?_)
  · obtain ⟨w, a, n, L, ns, rfl, _⟩ := h
    rfl
  · obtain ⟨w, a, n, L, ns, rfl, G, hl, k⟩ := h
    refine ⟨_, pss_one (ps_ret (pe_callTy call_tuple_of (by rfl) T.tuple (by decide +kernel) (pa_cons (pe_lc (own := [("place", 2)]) (g := gName 2) rfl scPlacesBut.nd (pi_range1 (by rfl) T.range (pa_cons (pe_ix ix_tup (pv 0) pe_int (fun _ _ => rfl)) pa_nil))
      (blkOk_by (N := nPlacesBut) (sc := defScope pPlacesBut) (by decide +kernel)) (fun _ _ _ _ _ => pg_name (i := 2) scPlacesBut.nd rfl (Or.inl rfl)) (fun _ _ _ _ _ => pts_one (pt_cmpR (show OpR _ (compareOp .NotIn) (rIn K true) from op_notIn_seq) (pv 2) (pv 1) (by rfl))) (fun _ _ _ _ _ => pv 2)) pa_nil))), ?_⟩
    obtain ⟨ta, vs, e1, e2, e3⟩ := G.web.ex
    have n2 := G.n2
    refine ⟨_, rfl, w, _, _, _, rfl, rfl, SqT.of e1, atI_nat (j := 0) rfl, _, rfl, by omega, by omega, fun Da hD => ?_⟩
    refine lc_range (lo := 0) (n := (n : Int).toNat) (fun i M => M Da = some (.lst ((restN i ns).map V.int)) ∧ Same H M) ⟨upd_same, same_new hD⟩ ?_ ?_
    · rintro i M hi ⟨g1, g2⟩
      refine ⟨rfl, _, rfl, _, rfl, a, _, rfl, .inr (hl.keep fun o q => g2 _ _ q).sq, rfl, flat_ints ns, _, rfl, ?_⟩
      have e : (if true = true then !inV (V.int (0 + (i : Int))) (ns.map V.int) else inV (V.int (0 + (i : Int))) (ns.map V.int)) = !decide ((i : Int) ∈ ns) := by rw [if_pos rfl, inV_ints, Int.zero_add]
      rw [e]
      have rs := rest_succ i ns
      cases h : (!decide ((i : Int) ∈ ns)) with
      | true =>
        rw [if_pos h] at rs
        exact iteT ⟨_, rfl, _, g1, by rw [List.length_map, sizeLine_eq]; have := rest_len i ns; omega, by rw [upd_same, rs, List.map_append, Int.zero_add] <;> rfl, fun b o e => by rw [upd_ne (ne_of_none e hD)]; exact g2 _ _ e⟩
      | false =>
        rw [if_neg (by rw [h]; exact Bool.false_ne_true)] at rs
        exact iteF ⟨by rw [rs]; exact g1, g2⟩
    · rintro M ⟨g1, g2⟩
      rw [show (n : Int).toNat = n by omega] at g1
      exact ⟨Da, _, rfl, .inl ⟨SqL.of g1, fun t ht => k t _ (g2.trans (same_new ht)) (g2.free ht) upd_same⟩⟩
end
end K0

set_option Elab.async false
set_option linter.all false
set_option maxRecDepth 100000
set_option maxHeartbeats 8000000
/-! Cuts, the web within a lot and without it, ends. -/
namespace K0
open PySem PySem.Spec L2
open PyProof.Rows hiding St
/-! ### cuts -/
def crs (L : List (Int × Int)) (ns : List Int) (i : Nat) : Bool := match L[i]? with
  | some q => decide (q.1 ∈ ns) != decide (q.2 ∈ ns)
  | none => false
def cutG (L : List (Int × Int)) (ns : List Int) (i : Nat) : List Int := ((List.range i).filter (crs L ns)).map fun i => ((i : Nat) : Int)
abbrev cutN (L : List (Int × Int)) (ns : List Int) : List Int := cutG L ns L.length
theorem cut_succ (L : List (Int × Int)) (ns : List Int) (i : Nat) : cutG L ns (i + 1) = if crs L ns i = true then cutG L ns i ++ [(i : Int)] else cutG L ns i := by
  unfold cutG
  rw [List.range_succ, List.filter_append]
  cases h : crs L ns i <;> simp [h]
theorem crs_at {L : List (Int × Int)} {ns : List Int} {i : Nat} {q : Int × Int} (h : L[i]? = some q) : crs L ns i = (decide (q.1 ∈ ns) != decide (q.2 ∈ ns)) := by
  unfold crs
  rw [h]
theorem cut_len (L : List (Int × Int)) (ns : List Int) (i : Nat) : (cutG L ns i).length ≤ i := by
  unfold cutG
  rw [List.length_map]
  refine Nat.le_trans (List.length_filter_le _ _) ?_
  rw [List.length_range]
  exact Nat.le_refl _
theorem ne_bl (a b : Bool) : (!decide (V.bl a = V.bl b)) = (a != b) := by cases a <;> cases b <;> decide
/-! ### the web within a lot -/
def idx (ns : List Int) (k : Int) : Int := ((ns.idxOf k : Nat) : Int)
def both (ns : List Int) (q : Int × Int) : Bool := decide (q.1 ∈ ns) && decide (q.2 ∈ ns)
def withinL (L : List (Int × Int)) (ns : List Int) : List (Int × Int) := (L.filter (both ns)).map fun q => (idx ns q.1, idx ns q.2)
theorem within_snoc (L : List (Int × Int)) (ns : List Int) (q : Int × Int) : withinL (L ++ [q]) ns = if both ns q = true then withinL L ns ++ [(idx ns q.1, idx ns q.2)] else withinL L ns := by
  unfold withinL
  rw [List.filter_append]
  cases h : both ns q <;> simp [h]
theorem within_len (L : List (Int × Int)) (ns : List Int) : (withinL L ns).length ≤ L.length := by
  unfold withinL
  rw [List.length_map]
  exact List.length_filter_le _ _
theorem take_snoc {α : Type} {L : List α} {i : Nat} {q : α} (h : L[i]? = some q) : L.take (i + 1) = L.take i ++ [q] := by rw [List.take_add_one, h] <;> rfl
theorem rest_len_eq {n : Nat} {ns : List Int} (h : IsLot n ns) : (restN n ns).length + ns.length = n := by
  have p : (restN n ns ++ ns).Perm (iota n) := by
    refine (List.perm_ext_iff_of_nodup ?_ (inc_nd (iota_inc n))).mpr fun i => ?_
    · refine List.nodup_append.mpr ⟨inc_nd (rest_lot n ns).inc, inc_nd h.inc, fun a ha b hb e => ?_⟩
      subst e
      exact (rest_mem.mp ha).2 hb
    · rw [List.mem_append, rest_mem, iota_mem]
      constructor
      · rintro (z | z)
        · exact z.1
        · exact h.bel i z
      · intro z
        by_cases m : i ∈ ns
        · exact .inr m
        · exact .inl ⟨z, m⟩
  have := p.length_eq
  rw [List.length_append, iota, List.length_map, List.length_range] at this
  exact this
/-- the dict of the places -/
def kvA : List Int → Int → List (Key × V)
  | [], _ => []
  | k :: r, s => (Sum.inl k, .int s) :: kvA r (s + 1)
theorem kv_len : ∀ (ns : List Int) (s : Int), (kvA ns s).length = ns.length
  | [], _ => rfl
  | k :: r, s => by rw [kvA, List.length_cons, List.length_cons, kv_len]
theorem kv_val (k : Int) : ∀ (ns : List Int) (s : Int), valV (kvA ns s) (Sum.inl k) = if k ∈ ns then some (.int (s + idx ns k)) else none
  | [], _ => rfl
  | j :: r, s => by
    by_cases h : j = k
    · subst h
      rw [if_pos (List.mem_cons_self ..)]
      show valV ((Sum.inl j, .int s) :: kvA r (s + 1)) (Sum.inl j) = _
      rw [valV_pos rfl]
      unfold idx
      rw [List.idxOf_cons_self]
      simp
    · show valV ((Sum.inl j, .int s) :: kvA r (s + 1)) (Sum.inl k) = _
      rw [valV_neg (fun z => h (Sum.inl.inj z)), kv_val k r (s + 1)]
      have h' : ¬ k = j := fun z => h z.symm
      have hb : (j == k) = false := by simpa using h
      by_cases g : k ∈ r
      · rw [if_pos g, if_pos (List.mem_cons_of_mem _ g)]
        unfold idx
        rw [List.idxOf_cons, hb]
        simp only [cond_false]
        congr 2
        omega
      · rw [if_neg g, if_neg (by rw [List.mem_cons]; exact fun z => z.elim h' g)]
theorem kv_put (k : Int) (ns : List Int) (h : k ∉ ns) : putK (kvA ns 0) (Sum.inl k) (.int (ns.length : Nat)) = kvA (ns ++ [k]) 0 := by
  rw [putK_new _ (by rw [kv_val, if_neg h])]
  have e : ∀ (ms : List Int) (s : Int), kvA ms s ++ [(Sum.inl k, V.int (s + (ms.length : Nat)))] = kvA (ms ++ [k]) s := fun ms => by
    induction ms with
    | nil => intro s; simp [kvA]
    | cons m ms ih =>
      intro s
      rw [List.cons_append, kvA, kvA, List.cons_append, ← ih (s + 1), show (s + (((m :: ms).length : Nat) : Int)) = (s + 1) + (ms.length : Nat) by rw [List.length_cons]; omega]
  have := e ns 0
  rw [Int.zero_add] at this
  exact this
theorem dc_it {J : It} {n : Nat} {G : Hp → Prop} {Y : Nat → Hp → V → Hp → Prop} (w : Walk J n G Y) {g : TG} {tt : L2.TT} {tk tv : TE} {vs : List Nat} {σ : St} {H1 : Hp} {D : Addr} {Qd : Hp → Prop} (Pv : Nat → Hp → Prop) (h0 : Pv 0 (upd H1 D (.dK []))) (hG : ∀ i H, i ≤ n → Pv i H → G H)
    (hs : ∀ i x H H', i < n → Pv i H → Y i H x H' → g x (wipe σ vs) H' fun σ2 H2 => wipe σ2 vs = wipe σ vs ∧ tt σ2 H2 fun b H3 =>
      if b = true then tk σ2 H3 fun y H4 => tv σ2 H4 fun z H5 => ∃ kvs k, y = kV k ∧ H5 D = some (.dK kvs) ∧ kvs.length < sizeLine ∧ Pv (i + 1) (upd H5 D (.dK (putK kvs k z))) else Pv (i + 1) H3) (hd : ∀ H, Pv n H → Qd H) :
    ∃ W : Nat → Nat → Hp → Prop, (∃ m, W 0 m (upd H1 D (.dK []))) ∧ ∀ i m H, W i m H →
      (J.stop i H ∧ Qd H) ∨ (J.go i H ∧ ∃ Nx : Hp → Prop, (∀ H', Nx H' → ∃ m', m' < m ∧ W (i + 1) m' H') ∧ ∀ x H', J.yld i H x H' → g x (wipe σ vs) H' fun σ2 H2 => wipe σ2 vs = wipe σ vs ∧ tt σ2 H2 fun b H3 =>
        if b = true then tk σ2 H3 fun y H4 => tv σ2 H4 fun z H5 => ∃ kvs k, y = kV k ∧ H5 D = some (.dK kvs) ∧ kvs.length < sizeLine ∧ Nx (upd H5 D (.dK (putK kvs k z))) else Nx H3) := by
  refine ⟨fun i m H => m = n - i ∧ i ≤ n ∧ Pv i H, ⟨n, by simp, Nat.zero_le _, h0⟩, ?_⟩
  rintro i m H ⟨rfl, hi, p⟩
  have q := hG i H hi p
  by_cases lt : i < n
  · exact .inr ⟨w.goes i H lt q, Pv (i + 1), fun H' p' => ⟨n - (i + 1), by omega, rfl, lt, p'⟩, fun x H' y => hs i x H H' lt p (w.yields i H x H' lt q y)⟩
  · have e : i = n := by omega
    subst e
    exact .inl ⟨w.stops H q, hd H p⟩
/-- a def of a web and a lot, that refuses what is none, and may refuse a lot too -/
def spLotX (C : Addr) (G : Hp → Addr → Nat → List (Int × Int) → List Int → VK → XK → Prop) : Sp := fun vs H Q E => ∃ (w : Addr) (n : Nat) (L : List (Int × Int)) (v : V) (o : Option (List V)), vs = [.ref w, v] ∧ GW H w n L ∧ Th H v o ∧
  (∀ (a : Addr) (ns : List Int), v = .ref a → o = some (ns.map V.int) → IsLot n ns → TT H a (ns.map V.int) → G H a n L ns Q E) ∧ (lotO n o = false → Rz C "thing" v H E)
def gCut : Hp → Addr → Nat → List (Int × Int) → List Int → VK → Prop := fun H _ _ L ns Q => ∀ (t : Addr) (H' : Hp), Same H H' → H t = none → H' t = some (.tup ((cutN L ns).map V.int)) → Q (.ref t) H'
def spCutTies : Sp := fun vs H Q _ => ∃ (w a : Addr) (n : Nat) (L : List (Int × Int)) (ns : List Int), vs = [.ref w, .ref a] ∧ GW H w n L ∧ TT H a (ns.map V.int) ∧ gCut H a n L ns Q
def gIn (H : Hp) (L : List (Int × Int)) (ns : List Int) (Q : VK) : Prop := ∀ (w' : Addr) (H' : Hp), Same H H' → H w' = none → Web H' w' ns.length (withinL L ns) → Q (.ref w') H'
def gWithin (C : Addr) : Hp → Addr → Nat → List (Int × Int) → List Int → VK → XK → Prop := fun H a _ L ns Q E => (ns ≠ [] → gIn H L ns Q) ∧ (ns = [] → Rz C "thing" (.ref a) H E)
def gWithout (C : Addr) : Hp → Addr → Nat → List (Int × Int) → List Int → VK → XK → Prop := fun H a n L ns Q E => (restN n ns ≠ [] → gIn H L (restN n ns) Q) ∧ (restN n ns = [] → Rz C "thing" (.ref a) H E)
def spWebOf : Sp := fun vs H Q _ => ∃ (w a : Addr) (n : Nat) (L : List (Int × Int)) (ns : List Int), vs = [.ref w, .ref a] ∧ GW H w n L ∧ TT H a (ns.map V.int) ∧ IsLot n ns ∧ gIn H L ns Q
def spEnds (C : Addr) : Sp := fun vs H Q E => ∃ (w : Addr) (n : Nat) (L : List (Int × Int)) (v : V) (t : String), vs = [.ref w, v] ∧ GW H w n L ∧ VT H v t ∧
  (∀ (i : Nat) (q : Int × Int), v = .int i → L[i]? = some q → ∀ (a : Addr) (H' : Hp), Same H H' → H' a = some (.tup [.int q.1, .int q.2]) → Q (.ref a) H') ∧ (belowV v L.length = false → Rz C "number" v H E)
section
variable {P : Program} {w0 : World} {K : PySem.W.Frag} {mg : Str → Option Value} {base : Heap}
abbrev nCutTies : List Str := ["web", "lot", "number", "a", "b"]
end
end K0

set_option Elab.async false
set_option linter.all false
set_option maxRecDepth 100000
set_option maxHeartbeats 4000000
/-! Rules: how many unlike ints, a tuple of ints sorted. -/
namespace KR
open PySem PySem.Spec L2
open PyProof.Rows hiding St
/-- rows with the same members -/
theorem nd_perm : ∀ {ks ns : List Int}, ks.Nodup → (∀ k ∈ ks, k ∈ ns) → ns.length ≤ ks.length → ks.Perm ns
  | [], ns, _, _, h => by
    have : ns = [] := List.length_eq_zero_iff.mp (Nat.le_zero.mp h)
    rw [this]
  | q :: M, ns, nd, s, h => by
    obtain ⟨n1, n2⟩ := List.nodup_cons.mp nd
    have hq := s q (List.mem_cons_self ..)
    have pe := List.perm_cons_erase hq
    have pos := List.length_pos_of_mem hq
    refine (List.Perm.cons q (nd_perm n2 (fun r hr => ?_) ?_)).trans pe.symm
    · exact (List.mem_erase_of_ne (fun e : r = q => n1 (e ▸ hr))).mpr (s r (List.mem_cons_of_mem _ hr))
    · rw [List.length_erase_of_mem hq]
      rw [List.length_cons] at h
      omega
theorem nd_le : ∀ {ks ns : List Int}, ks.Nodup → (∀ k ∈ ks, k ∈ ns) → ks.length ≤ ns.length
  | [], _, _, _ => Nat.zero_le _
  | q :: M, ns, nd, s => by
    obtain ⟨n1, n2⟩ := List.nodup_cons.mp nd
    have hq := s q (List.mem_cons_self ..)
    have pos := List.length_pos_of_mem hq
    have := nd_le (ks := M) (ns := ns.erase q) n2 fun r hr => (List.mem_erase_of_ne (fun e : r = q => n1 (e ▸ hr))).mpr (s r (List.mem_cons_of_mem _ hr))
    rw [List.length_erase_of_mem hq] at this
    rw [List.length_cons]
    omega
/-- how many there are tells whether there are equal ones -/
theorem nd_count {ks ns : List Int} (nd : ks.Nodup) (h : ∀ k, k ∈ ks ↔ k ∈ ns) : ks.length ≤ ns.length ∧ (ks.length = ns.length ↔ ns.Nodup) := by
  refine ⟨nd_le nd fun k z => (h k).mp z, fun e => ?_, fun z => ?_⟩
  · exact (nd_perm nd (fun k z => (h k).mp z) (by omega)).nodup_iff.mp nd
  · have a := nd_le nd fun k z => (h k).mp z
    have b := nd_le z fun k z => (h k).mpr z
    omega
theorem met_nd (val : Nat → Int) : ∀ i, (firstMet val i).Nodup ∧ ∀ k, k ∈ firstMet val i ↔ k ∈ (List.range i).map val
  | 0 => ⟨by rw [firstMet_zero]; exact .nil, fun k => by rw [firstMet_zero] <;> simp⟩
  | i + 1 => by
    obtain ⟨a, b⟩ := met_nd val i
    rw [firstMet_succ, List.range_succ, List.map_append]
    unfold step_dedup
    by_cases c : (firstMet val i).any (· == val i) = true
    · rw [if_pos c]
      have m : val i ∈ firstMet val i := by
        obtain ⟨x, hx, e⟩ := List.any_eq_true.mp c
        rw [beq_iff_eq] at e
        exact e ▸ hx
      refine ⟨a, fun k => ?_⟩
      rw [b k, List.mem_append]
      exact ⟨.inl, fun z => z.elim id fun z => by rw [List.mem_map] at z; obtain ⟨j, hj, e⟩ := z; rw [List.mem_singleton] at hj; subst hj; rw [← e]; exact (b _).mp m⟩
    · rw [if_neg c]
      refine ⟨List.nodup_append.mpr ⟨a, by simp, fun x hx y hy e => ?_⟩, fun k => ?_⟩
      · rw [List.mem_singleton.mp hy] at e
        subst e
        exact c (List.any_eq_true.mpr ⟨_, hx, beq_self_eq_true _⟩)
      · rw [List.mem_append, List.mem_append, b k]
        simp
section
variable {prog : Program} {w : World} {A : Around} {E : Value → Shared → Prop} {s : Shared} {l : Addr} {its : List Value} {ns : List Int} {Q : Value → Shared → Prop}
/-- sum(t), t a tuple of ints -/
theorem sum_rawT (hh : A.handled = none) (hl : s.heap.IsTuple l its.toArray) (hi : IntsAre its ns)
    (h : ∀ h' tk t', (∀ b o, s.heap.get? b = some o → h'.get? b = some o) → Q (.int ns.sum t') { s with heap := h', toks := tk }) : wpAny (model prog w) A (call (.builtin "sum") [.ref l]) Q E s := by
  obtain ⟨xs, e⟩ := hi.allInts.items
  have hn : numsOf (intItems xs).toList = ns := by rw [← e]; exact hi.numsOf
  rw [nums_intItems] at hn
  rw [e] at hl
  have hlt : l < s.heap.objs.size := by obtain ⟨_, e, _⟩ := hl; exact Heap.lt_size e
  refine call_sum_walkG (wpAny_pyIter_tuple hl ?_)
  refine ⟨_, [_, l], [_], _, _, _, numAt xs, rfl, Walks.tuple (A := A.in1) hh _ l (Nat.ne_of_lt hlt) (intItems xs), ⟨⟨_, Heap.get?_push_size _ rfl, rfl, rfl⟩, hl.push _⟩, fun c hc => ?_, (fun _ _ => intItems_at), fun h' tk t' hk => ?_⟩
  · show c < (s.heap.push _).objs.size
    rw [Heap.size_push]
    rcases List.mem_cons.mp hc with rfl | hc
    · exact Nat.lt_succ_self _
    · rcases List.mem_cons.mp hc with rfl | hc
      · exact Nat.lt_succ_of_lt hlt
      · cases hc
  · have hold : ∀ c o, s.heap.get? c = some o → h'.get? c = some o := fun c o e => by
      refine hk c o (fun hm => ?_) (Heap.get?_push_of_some _ e)
      rcases List.mem_cons.mp hm with e1 | hm
      · have := Heap.lt_size e
        rw [e1] at this
        exact Nat.lt_irrefl _ this
      · cases hm
    have := h h' tk t' hold
    have sz : (intItems xs).size = xs.size := by simp [intItems]
    rw [sz, preSum_eq, List.take_of_length_le (by simp), hn]
    exact this
end
section
variable {X : Cx}
def rSumT (K : PySem.W.Frag) : List V → Hp → VK → Prop := fun vs H Q => ∃ (a : Addr) (ns : List Int), vs = [V.ref a] ∧ SqT K H a (ns.map V.int) ∧ Q (.int ns.sum) H
theorem cr_sumT (hc : X.calm = true) : CallR X (.builtin "sum") (rSumT X.K) := by
  intro pins s σ H vs us Q I r h
  obtain ⟨a, ns, rfl, hs, q⟩ := h
  obtain ⟨its, rv, hl, _⟩ := I.tuple hs
  rw [Vals.ref1 r]
  exact sum_rawT (I.ok.hd hc) hl rv.ints fun h' tk t' hk => ⟨.int _, H, I.kept hk, ⟨_, rfl⟩, q⟩
/-- len of a set of ints -/
def rLenO (w : World) : List V → Hp → VK → Prop := fun xs H Q => ∃ (a : Addr) (S : Int → Bool) (n : Nat), xs = [V.ref a] ∧ H a = some (SetO w a S n) ∧ ∀ ks : List Int, ks.Nodup → (∀ k, S k = true ↔ k ∈ ks) → ks.length = n → Q (.int (n : Nat)) H
theorem call_len_setO : CallR X (.builtin "len") (rLenO X.w) := by
  intro pins s σ H xs us Q I r h
  obtain ⟨a, S, n, rfl, ha, q⟩ := h
  obtain ⟨o, es, ep, t, ho, hex, hd, g, nd, hm, hb, hf, hn, _⟩ := setO_get I ha
  rw [Vals.ref1 r]
  refine call_len_set ho hex hd hf (by unfold scanBound at hb; omega) ⟨.int es.size, H, I.tok _, ⟨_, rfl⟩, ?_⟩
  rw [hn]
  refine q (es.toList.map keyOf) nd hm ?_
  rw [List.length_map, Array.length_toList, hn]
/-- len(set(xs)), xs a list of ints -/
def tLenSetN (K : PySem.W.Frag) (ta : TE) : TE := fun σ H Q => ta σ H fun x H1 => ∃ (l : Addr) (ns : List Int), x = .ref l ∧ SqL K H1 l (ns.map V.int) ∧ ns.length ≤ 4000 ∧ ∀ c : Nat, c ≤ ns.length → (c = ns.length ↔ ns.Nodup) → Q (.int (c : Nat)) H1
theorem pe_lenSetN {a : Expr} {ta : TE} {p p2 q pos : Pos} (hg : Gl X "len") (hm : X.mg "len" = none) (hg2 : Gl X "set") (hm2 : X.mg "set" = none) (ha : PE X a ta) (hc : X.calm = true := by rfl)
    (na : starEach [a] X.env = (false, eval a X.env) :: starEach [] X.env := by rfl) : PE X (.Call (.Name "len" p) [.Call (.Name "set" p2) [a] [] q] [] pos) (tLenSetN X.K ta) := by
  refine ⟨fun pins s σ H Q I h => ?_⟩
  refine Call_ (ld_blt I hg hm boot_len ?_)
  refine PyProof.Rows.callWith_builtin1 (PyProof.Rows.args_cons ?_ rfl) rfl rfl
  refine Call_ (ld_blt I hg2 hm2 boot_set ?_)
  refine PyProof.Rows.callWith_type1 (PyProof.Rows.args_cons (thn (ha.run pins s σ H _ I h) fun v s1 ⟨x, H1, I1, r1, q1⟩ => PyProof.Rows.args_nil ?_) na) na rfl
  obtain ⟨l, ns, rfl, hq, hl, q1⟩ := q1
  cases r1
  obtain ⟨its, r, pl, hz⟩ := I1.list hq
  have hlen : its.toArray.size = ns.length := by rw [List.size_toArray, ← r.length, List.length_map]
  refine call_set_list (I1.ok.hd hc) pl.isList (by simpa using r.ints) (by rw [hlen]; unfold scanBound; omega) fun h' tk hS hk => ?_
  refine PyProof.Rows.args_nil ?_
  rw [hlen] at hS
  obtain ⟨o, es, ep, t, ho, hex, hd, _, _, _, hf, hn⟩ := hS
  have I2 : Inv X pins σ H1 { s1 with heap := h', toks := tk } := I1.kept fun b o e => hk b o (Heap.lt_size e) e
  obtain ⟨m1, m2⟩ := met_nd (fun i => ns.getD i 0) ns.length
  have e0 : (List.range ns.length).map (fun i => ns.getD i 0) = ns := by
    refine List.ext_getElem (by simp) fun i h1 h2 => ?_
    simp [List.getD_eq_getElem?_getD, h2]
  rw [e0] at m2
  obtain ⟨c1, c2⟩ := nd_count m1 m2
  refine call_len_set ho hex hd hf (by rw [hn]; omega) ⟨.int es.size, H1, I2.tok _, ⟨_, rfl⟩, ?_⟩
  rw [hn]
  exact q1 _ c1 c2
/-- sorted(t), t a tuple of ints -/
def rSortTI (K : PySem.W.Frag) : List V → Hp → VK → Prop := fun vs H Q => ∃ (a : Addr) (ns : List Int), vs = [V.ref a] ∧ SqT K H a (ns.map V.int) ∧ ∀ (ms : List Int) (p : Addr), ms.Perm ns → ms.Pairwise (· ≤ ·) → H p = none → Q (.ref p) (upd H p (.lst (ms.map V.int)))
theorem cr_sortTI : CallR X (.builtin "sorted") (rSortTI X.K) := by
  intro pins s σ H vs us Q I r h
  obtain ⟨a, ns, rfl, hs, q⟩ := h
  obtain ⟨its, rv, tp, hz⟩ := I.tuple hs
  rw [Vals.ref1 r]
  have hi := rv.ints
  have len : its.length = ns.length := by rw [← rv.length, List.length_map]
  rw [List.length_map] at hz
  obtain ⟨o, ho, hcl, n, hda⟩ := id tp
  refine Calls.call_function_entry kind_sorted plain_sorted entry_sorted (args_sorted1 _) ?_
  unfold Builtin.«sorted»
  refine wpAny_bind (m := checkCount "sorted" 1 1 _) (wpAny_pure ?_)
  refine wpAny_bind (gather_tup ho hcl hda (by show its.toArray.size ≤ sizeLine; rw [List.size_toArray, len]; exact hz) fun h1 k1 ge => ?_)
  refine wpAny_bind (wpAny_newList ?_ (by show its.length ≤ _; rw [len]; exact hz))
  have atL : (h1.push (seqObj "list" its.toArray 0)).get? h1.objs.size = some (seqObj "list" its.toArray 0) := Heap.get?_push_size _ rfl
  have keep : ∀ b u, s.heap.get? b = some u → (h1.push (seqObj "list" its.toArray 0)).get? b = some u := fun b u e => Heap.get?_push_of_some _ (k1 b u e)
  have atL' : (h1.push (seqObj "list" (its.toArray.toList.toArray) 0)).get? h1.objs.size = some (seqObj "list" its.toArray 0) := by simpa using atL
  have red : its.toArray.toList = its := by simp
  rw [red]
  refine wpAny_bind (wpAny_holding (wpAny_call_entry (s := { s with heap := h1.push (seqObj "list" its.toArray 0) }) PyProof.Rows.slot_list_sort ⟨_, atL, rfl⟩ PyProof.Rows.entry_list_sort
    (SrtO.list_sort_ord SrtO.swo_int atL (by rw [len]; exact hz) (fun h2 => SrtO.ints_sortable hi h2) fun out g1 g2 => ⟨.none, rfl, ?_⟩) (PyProof.Rows.args_list_sort _)))
  obtain ⟨j1, j2, j3⟩ := SrtO.ints_out hi g1 g2
  obtain ⟨c, hc⟩ := sortedHeap_at (vs := its) (out := out.toArray) atL
  have szs : ((out.map SrtO.iv).map V.int).length ≤ sizeLine := by rw [List.length_map, j2.length_eq]; exact hz
  have old : ∀ b u, s.heap.get? b = some u → (sortedHeap (h1.push (seqObj "list" its.toArray 0)) h1.objs.size its out.toArray).get? b = some u := fun b u e => by
    have lt := Heap.lt_size (k1 b u e)
    rw [sortedHeap_old (Nat.ne_of_lt lt) (by rw [size_push']; exact Nat.lt_succ_of_lt lt)]
    exact keep b u e
  exact wpAny_pure ⟨_, rfl, .ref h1.objs.size, upd H h1.objs.size (.lst ((out.map SrtO.iv).map V.int)), I.laid (t' := s.toks) old ge ⟨szs, out, c, vals_of_ints j1, hc⟩, rfl, q _ _ j2 j3 (I.hok.fresh ge)⟩
end
end KR

set_option Elab.async false
set_option linter.all false
set_option maxRecDepth 100000
set_option maxHeartbeats 8000000
/-! The web within a lot and without it, ends. -/
namespace K0
open PySem PySem.Spec L2
open PyProof.Rows hiding St
section
variable {P : Program} {w0 : World} {K : PySem.W.Frag} {mg : Str → Option Value} {base : Heap}
abbrev nWebOf : List Str := ["web", "lot", "names", "at", "place", "a", "b"]
end
end K0

set_option Elab.async false
set_option linter.all false
set_option maxRecDepth 100000
set_option maxHeartbeats 8000000
/-! The law's own looks. -/
namespace K0
open PySem PySem.Spec L2
open PyProof.Rows hiding St
open KR (TupX)
abbrev lWithin : Stmt := top 37
abbrev lWhole : Stmt := top 44
abbrev lIsLot : Stmt := top 45
/-! ### a list beside the empty one -/
section
variable {X : Cx}
def rEq0 (K : PySem.W.Frag) : R2 := fun x y H Q => ∃ a b xs, x = .ref a ∧ y = .ref b ∧ SqL K H a xs ∧ SqL K H b [] ∧ Q (.bl xs.isEmpty) H
def rNe0 (K : PySem.W.Frag) : R2 := fun x y H Q => ∃ a b xs, x = .ref a ∧ y = .ref b ∧ SqL K H a xs ∧ SqL K H b [] ∧ Q (.bl (!xs.isEmpty)) H
theorem op_eq0 (hu : X.A.units < cLine) : OpR X (compareOp .Eq) (rEq0 X.K) := by
  intro pins s σ H x y v u Q I rx ry h
  obtain ⟨a, b, xs, rfl, rfl, ha, hb, q⟩ := h
  cases rx
  cases ry
  obtain ⟨its, r1, p1, _⟩ := I.list ha
  obtain ⟨jts, r2, p2, _⟩ := I.list hb
  cases r2
  cases r1 with
  | nil => exact SeqAt.RcAt.lists (e := fun _ => true) p1.isList p2.isList rfl hu (fun j h1 => absurd h1 (Nat.not_lt_zero _)) X.prog X.w _ _ ⟨.bl true, H, I, rfl, q⟩
  | cons r rr => exact SeqAt.RcAt.lists_lengths p1.isList p2.isList (by simp) hu X.prog X.w _ _ ⟨.bl false, H, I, rfl, q⟩
theorem op_ne0 (hu : X.A.units < cLine) : OpR X (compareOp .NotEq) (rNe0 X.K) := by
  intro pins s σ H x y v u Q I rx ry h
  obtain ⟨a, b, xs, rfl, rfl, ha, hb, q⟩ := h
  cases rx
  cases ry
  obtain ⟨its, r1, p1, _⟩ := I.list ha
  obtain ⟨jts, r2, p2, _⟩ := I.list hb
  cases r2
  cases r1 with
  | nil => exact SeqAt.RcNeAt.lists (e := fun _ => true) p1.isList p2.isList rfl hu (fun j h1 => absurd h1 (Nat.not_lt_zero _)) X.prog X.w _ _ ⟨.bl false, H, I, rfl, q⟩
  | cons r rr => exact SeqAt.RcNeAt.lists_lengths p1.isList p2.isList (by simp) hu X.prog X.w _ _ ⟨.bl true, H, I, rfl, q⟩
end
/-! ### the lot of a number -/
def bitAt (x : Nat) (i : Nat) : Bool := decide (x / 2 ^ i % 2 = 1)
def bitsN (x : Nat) (i : Nat) : List Int := ((List.range i).filter (bitAt x)).map fun i => ((i : Nat) : Int)
theorem bits_succ (x i : Nat) : bitsN x (i + 1) = if bitAt x i = true then bitsN x i ++ [(i : Int)] else bitsN x i := by
  unfold bitsN
  rw [List.range_succ, List.filter_append]
  cases h : bitAt x i <;> simp [h]
theorem bits_len (x i : Nat) : (bitsN x i).length ≤ i := by
  unfold bitsN
  rw [List.length_map]
  refine Nat.le_trans (List.length_filter_le _ _) ?_
  rw [List.length_range]
  exact Nat.le_refl _
theorem bits_lot {x n : Nat} (h : x < 2 ^ n) (hn : n ≤ 12) : IsLot n (bitsN x 12) := by
  refine ⟨fun i hi => ?_, ?_⟩
  · unfold bitsN at hi
    obtain ⟨j, hj, rfl⟩ := List.mem_map.mp hi
    obtain ⟨_, h2⟩ := List.mem_filter.mp hj
    refine ⟨by omega, ?_⟩
    rcases Nat.lt_or_ge j n with z | z
    · omega
    · exfalso
      have h3 : x / 2 ^ j = 0 := Nat.div_eq_of_lt (Nat.lt_of_lt_of_le h (Nat.pow_le_pow_right (by decide) z))
      have h2' := of_decide_eq_true h2
      rw [h3] at h2'
      exact absurd h2' (by decide)
  · unfold bitsN
    exact List.pairwise_map.mpr ((List.pairwise_lt_range.filter _).imp fun {a b} z => by omega)
theorem bit_one (x i : Nat) : decide (Builtin.bitAnd ((x : Int) / 2 ^ ((0 : Int) + (i : Int)).toNat) 1 = 1) = bitAt x i := by
  have e : ((0 : Int) + (i : Int)).toNat = i := by omega
  rw [e]
  have p : (0 : Int) ≤ (x : Int) / 2 ^ i := Int.ediv_nonneg (by omega) (by exact_mod_cast Nat.zero_le _)
  have m := Bits.bitAnd_mask 1 p
  rw [show ((2 : Int) ^ 1 - 1) = 1 by decide, show ((2 : Int) ^ 1) = 2 by decide] at m
  rw [m]
  unfold bitAt
  have c : (x : Int) / 2 ^ i % 2 = ((x / 2 ^ i % 2 : Nat) : Int) := by simp
  rw [c]
  by_cases h : x / 2 ^ i % 2 = 1
  · rw [h]; rfl
  · rw [decide_eq_false h]
    exact decide_eq_false fun z => h (by omega)
def spLLot : Sp := fun vs H Q _ => ∃ (x : Nat), vs = [.int x] ∧ ∀ (t : Addr) (H' : Hp), Same H H' → H t = none → TupX H' t ((bitsN x 12).map V.int) → Q (.ref t) H'
def spLRest : Sp := fun vs H Q _ => ∃ (w a : Addr) (n : Nat) (L : List (Int × Int)) (ns : List Int), vs = [.ref w, .ref a] ∧ GW H w n L ∧ TT H a (ns.map V.int) ∧ ∀ (t : Addr) (H' : Hp), Same H H' → H t = none → TupX H' t ((restN n ns).map V.int) → Q (.ref t) H'
def spLCut : Sp := fun vs H Q _ => ∃ (w a : Addr) (n : Nat) (L : List (Int × Int)) (ns : List Int), vs = [.ref w, .ref a] ∧ GW H w n L ∧ TT H a (ns.map V.int) ∧ ∀ (t : Addr) (H' : Hp), Same H H' → H t = none → H' t = some (.tup ((cutN L ns).map V.int)) → Q (.ref t) H'
def spLWithin : Sp := fun vs H Q _ => ∃ (w a : Addr) (n : Nat) (L : List (Int × Int)) (ns : List Int), vs = [.ref w, .ref a] ∧ GW H w n L ∧ TupX H a (ns.map V.int) ∧ gIn H L ns Q
def spLIsLot : Sp := fun vs H Q _ => ∃ (n : Nat) (v : V) (o : Option (List V)), vs = [.int n, v] ∧ n ≤ 1000 ∧ Th H v o ∧ ∀ H', Same H H' → Q (.bl (lotO n o)) H'
section
variable {P : Program} {w0 : World} {K : PySem.W.Frag} {mg : Str → Option Value} {base : Heap}
abbrev nLLot : List Str := ["_law_number", "_law_at"]
abbrev nLRest : List Str := ["_law_web_here", "_law_lot", "_law_place"]
abbrev nLCut : List Str := ["_law_web_here", "_law_lot", "_law_at", "_law_tie"]
abbrev nLWithin : List Str := ["_law_web_here", "_law_lot", "_law_some", "_law_one", "_law_other"]
theorem scLWithin : FnScope nLWithin ["_law_web_here", "_law_lot"] (defScope lWithin) := ⟨rfl, rfl, rfl, by decide +kernel, rfl, by decide +kernel, by decide +kernel⟩
theorem ok_lWithin {f : Addr} {fd : FuncData} (F : Fun K "_law_within" "_law_within" lWithin f fd) (T : Bk mg) : FnOk P w0 K mg base CX0 1 f fd ["_law_web_here", "_law_lot"] spLWithin := by
  refine F.ok scLWithin (fun vs H Q E h => ?_) (fun cdv A outer s H vs Q E hr h => ?_)
  · obtain ⟨w, a, n, L, ns, rfl, _⟩ := h
    rfl
  · obtain ⟨w, a, n, L, ns, rfl, G, tx, k⟩ := h
    refine ⟨_, pss_cons (ps_setLc (i := 2) (own := [("_law_one", 3), ("_law_other", 4)]) (g := gTup K 2 (gCons (gName 3) (gCons (gName 4) gNil))) rfl scLWithin.nd rfl rfl (sw_true rfl rfl rfl (by decide +kernel)) (pi_tup (pe_ix ix_tup (pv 0) pe_int (fun _ _ => rfl)))
            (blkOk_by (N := nLWithin) (sc := defScope lWithin) (by decide +kernel)) (fun _ _ _ _ _ => pg_tup rfl (pgs_cons (pg_name (i := 3) scLWithin.nd rfl (.inl rfl) (.inr rfl)) (pgs_cons (pg_name (i := 4) scLWithin.nd rfl (.inl rfl) (.inr rfl)) pgs_nil)))
            (fun _ _ _ _ _ => pts_one (PW.pt (pw_and (pt_cmpR (show OpR _ (compareOp .In) (rIn K false) from op_in_seq) (pv 3) (pv 1) (by rfl)) (pw_and1 (pt_cmpR (show OpR _ (compareOp .In) (rIn K false) from op_in_seq) (pv 4) (pv 1) (by rfl))))))
            (fun _ _ _ _ _ => pe_tup (pa_cons (KR.pe_tindex (pv 1) (pa_cons (pv 3) pa_nil)) (pa_cons (KR.pe_tindex (pv 1) (pa_cons (pv 4) pa_nil)) pa_nil))))
      <| pss_one (ps_ret (pe_tup (pa_cons (pe_callB call_len_seq (by rfl) T.len PySem.boot_len (pa_cons (pv 1) pa_nil)) (pa_cons (pe_callTy call_tuple_of (by rfl) T.tuple (by decide +kernel) (pa_cons (pv 2) pa_nil)) pa_nil)))), ?_⟩
    obtain ⟨ta, vs, e1, e2, e3⟩ := G.web.ex
    have len := e3.len
    have few := G.few
    refine ⟨_, rfl, w, _, _, _, rfl, rfl, SqT.of e1, atI_nat (j := 1) rfl, ta, rfl, ⟨_, SqT.of e2⟩, fun Da hD => ?_⟩
    refine lc_it (walk_tup (xs := vs)) (fun i N => (∃ ws, N Da = some (.lst ws) ∧ Prs N ws (withinL (L.take i) ns)) ∧ Same H N) ⟨⟨[], upd_same, .nil⟩, same_new hD⟩ (fun i N _ g => SqT.of (g.2 _ _ e2)) ?_ ?_
    · rintro i x N N' hi ⟨⟨ws, f1, f2⟩, f4⟩ ⟨rfl, hx⟩
      obtain ⟨b, q, rfl, hq, hb⟩ := e3.get hx
      have ts := take_snoc hq
      have wl := within_len (L.take i) ns
      rw [List.length_take] at wl
      have wsn := within_snoc (L.take i) ns q
      rw [← ts] at wsn
      have tN := tx.same f4
      have ein : ∀ j : Int, (if false = true then !inV (V.int j) (ns.map V.int) else inV (V.int j) (ns.map V.int)) = decide (j ∈ ns) := fun j => by rw [if_neg Bool.false_ne_true, inV_ints]
      refine ⟨b, _, rfl, SqT.of (f4 _ _ hb), rfl, _, _, rfl, _, _, rfl, rfl, rfl, _, rfl, _, rfl, a, _, rfl, .inr tN.sq, rfl, flat_ints ns, _, rfl, ?_⟩
      rw [ein]
      by_cases h1 : q.1 ∈ ns
      · rw [decide_eq_true h1]
        refine iteT ⟨_, rfl, _, rfl, a, _, rfl, .inr tN.sq, rfl, flat_ints ns, _, rfl, ?_⟩
        rw [ein]
        by_cases h2 : q.2 ∈ ns
        · have hbo : both ns q = true := by unfold both; rw [decide_eq_true h1, decide_eq_true h2] <;> rfl
          rw [if_pos hbo] at wsn
          rw [decide_eq_true h2]
          refine iteT ⟨_, rfl, ⟨a, _, rfl, tN⟩, _, rfl, a, ns, q.1, rfl, rfl, tN, h1, _, rfl, ⟨a, _, rfl, tN⟩, _, rfl, a, ns, q.2, rfl, rfl, tN, h2, by show 2 ≤ sizeLine; decide, fun t ht => ?_⟩
          have f1' : (upd N' t (.tup [.int (idx ns q.1), .int (idx ns q.2)])) Da = some (.lst ws) := by rw [upd_ne (ne_of_none f1 ht)]; exact f1
          refine ⟨ws, f1', by rw [f2.len, sizeLine_eq]; omega, ⟨_, upd_same, ?_⟩, fun c o e => by rw [upd_ne (ne_of_none e hD), upd_ne (ne_of_none (f4 _ _ e) ht)]; exact f4 _ _ e⟩
          rw [wsn]
          exact ((f2.mono (new_tup ht)).app (.cons (q := (idx ns q.1, idx ns q.2)) upd_same .nil)).mono (upd_tup f1')
        · have hbo : both ns q = false := by unfold both; rw [decide_eq_false h2, Bool.and_false]
          rw [if_neg (by rw [hbo]; exact Bool.false_ne_true)] at wsn
          rw [decide_eq_false h2]
          exact iteF ⟨⟨ws, f1, by rw [wsn]; exact f2⟩, f4⟩
      · have hbo : both ns q = false := by unfold both; rw [decide_eq_false h1, Bool.false_and]
        rw [if_neg (by rw [hbo]; exact Bool.false_ne_true)] at wsn
        rw [decide_eq_false h1]
        exact iteF ⟨⟨ws, f1, by rw [wsn]; exact f2⟩, f4⟩
    · rintro N ⟨⟨ws, f1, f2⟩, f4⟩
      rw [len, List.take_length] at f2
      refine ⟨_, rfl, a, _, rfl, .inr (tx.same f4).sq, _, rfl, Da, ws, rfl, .inl ⟨SqL.of f1, fun t ht => ⟨by show 2 ≤ sizeLine; decide, fun w' hw => ?_⟩⟩⟩
      have s3 := f4.trans (same_new (o := .tup ws) ht)
      have ew : ((ns.map V.int).length : Nat) = ns.length := List.length_map ..
      refine k w' _ (s3.trans (same_new hw)) (s3.free hw) ⟨t, ws, by rw [upd_same, ew], by rw [upd_ne (ne_of_none upd_same hw)]; exact upd_same, (f2.mono (new_tup ht)).mono (new_tup hw)⟩
end
end K0

set_option Elab.async false
set_option linter.all false
set_option maxRecDepth 100000
set_option maxHeartbeats 8000000
/-! The law's own word on lots. -/
namespace K0
open PySem PySem.Spec L2
open PyProof.Rows hiding St
open KR (TupX tobj)
/-- (a, b, ..), known whole -/
def tTupF (t : TA) : TE := fun σ H Q => t σ H fun xs H1 => xs.length ≤ sizeLine ∧ ∀ p us, H1 p = none → Q (.ref p) (upd H1 p (.frz (tobj us) (.tup xs)))
theorem pe_tupF {X : Cx} {es : List Expr} {x1} {t : TA} {pos : Pos} (h : PA X es t) : PE X (.Tuple es x1 pos) (tTupF t) := by
  refine ⟨fun pins s σ H Q I hq => wpAny_Tuple_spliced (thn (h.run pos pins s σ H _ I hq) fun us s1 ⟨xs, H1, I1, r, z, q⟩ => ⟨by rw [← r.length]; exact z, ?_⟩)⟩
  have hf : H1 s1.heap.objs.size = none := I1.hok.fresh (Nat.le_refl _)
  exact ⟨.ref s1.heap.objs.size, _, I1.laid (t' := s1.toks) (fun b u e => Heap.get?_push_of_some _ e) (Nat.le_refl _) (KR.frz_ok (us := us) (Heap.get?_push_size _ rfl) r z), rfl, q _ us hf⟩
theorem whole_ints : ∀ {xs : List V}, xs.all wholeV = true → xs = (xs.map intV).map V.int
  | [], _ => rfl
  | x :: xs, h => by
    rw [List.all_cons, Bool.and_eq_true] at h
    cases x with
    | int i => rw [List.map_cons, List.map_cons, ← whole_ints h.2] <;> rfl
    | _ => cases h.1
theorem fl_empty {α : Type} (p : α → Bool) (xs : List α) : (xs.filter fun x => !p x).isEmpty = xs.all p := by
  induction xs with
  | nil => rfl
  | cons x xs ih => cases h : p x <;> simp [h] <;> simpa using ih
theorem below_whole {n : Int} {xs : List V} (h : xs.all wholeV = false) : xs.all (belowV · n) = false := by
  induction xs with
  | nil => cases h
  | cons x xs ih =>
    rw [List.all_cons] at h ⊢
    cases x with
    | int i =>
      have : xs.all wholeV = false := by simpa [wholeV] using h
      rw [ih this, Bool.and_false]
    | _ => rfl
def inR (n i : Int) : Bool := decide (0 ≤ i) && decide (i < n)
theorem all_inR (n : Int) (ns : List Int) : (ns.map V.int).all (belowV · n) = ns.all (inR n) := by
  rw [List.all_map]
  rfl
section
variable {P : Program} {w0 : World} {K : PySem.W.Frag} {mg : Str → Option Value} {base : Heap}
theorem scLWhole : FnScope ["_law_thing"] ["_law_thing"] (defScope lWhole) := ⟨rfl, rfl, rfl, by decide +kernel, rfl, by decide +kernel, by decide +kernel⟩
theorem ok_lWhole {f : Addr} {fd : FuncData} (F : Fun K "_law_is_whole" "_law_is_whole" lWhole f fd) (T : Bj mg) : FnOk P w0 K mg base CX0 1 f fd ["_law_thing"] spWhole := by
  refine F.ok scLWhole (fun vs H Q E h => ?_) (fun cdv A outer s H vs Q E hr h => ?_)
  · obtain ⟨v, t, rfl, _⟩ := h
    rfl
  · obtain ⟨v, t, rfl, hv, k⟩ := h
    refine ⟨_, pss_one (ps_ret (pe_and (pe_callB call_isi (by rfl) T.isi (by decide +kernel) (pa_cons (pv 0) (pa_cons (pe_bltn (v := .ty "int") (u := .type "int") (by rfl) T.int (by decide +kernel) rfl) pa_nil)))
      (pe_one (pe_not (pe_callB call_isi (by rfl) T.isi (by decide +kernel) (pa_cons (pv 0) (pa_cons (pe_bltn (v := .ty "bool") (u := .type "bool") (by rfl) T.bool (by decide +kernel) rfl) pa_nil))))))), ?_⟩
    obtain ⟨k1, k2, _⟩ := hv.kit (K := K)
    have hw := hv.whole
    refine ⟨_, rfl, v, .ty "int", .type t, .type "int", _, rfl, .ty "int", hv.ty, k1, _, rfl, ?_⟩
    by_cases h1 : t = "int" ∨ t = "bool"
    · rw [if_pos (decide_eq_true h1)]
      refine ⟨_, rfl, v, .ty "bool", .type t, .type "bool", _, rfl, .ty "bool", hv.ty, k2, _, rfl, ?_⟩
      have e : (!decide (t = "bool")) = wholeV v := by
        rw [hw]
        rcases h1 with rfl | rfl <;> decide
      rw [e]
      exact k
    · rw [if_neg (by rw [decide_eq_false h1]; exact Bool.false_ne_true)]
      have e : false = wholeV v := by rw [hw, decide_eq_false (fun z => h1 (.inl z))]
      rw [e]
      exact k
abbrev nLIsLot : List Str := ["_law_n", "_law_thing", "_law_it"]
theorem scLIsLot : FnScope nLIsLot ["_law_n", "_law_thing"] (defScope lIsLot) := ⟨rfl, rfl, rfl, by decide +kernel, rfl, by decide +kernel, by decide +kernel⟩
theorem ok_lIsLot {f fW : Addr} {fd fdW : FuncData} (F : Fun K "_law_is_lot" "_law_is_lot" lIsLot f fd) (T : Bk mg) (GW' : Dn P w0 K mg base "_law_is_whole" 1 ["_law_thing"] spWhole fW fdW) : FnOk P w0 K mg base CX0 2 f fd ["_law_n", "_law_thing"] spLIsLot := by
  refine F.ok scLIsLot (fun vs H Q E h => ?_) (fun cdv A outer s H vs Q E hr h => ?_)
  · obtain ⟨n, v, o, rfl, _⟩ := h
    rfl
  · obtain ⟨n, v, o, rfl, hn, th, k⟩ := h
    have hu0 := hr.units0
    have hu6 : A.units + 3 + 64 < cLine := by have := hr.un; have e : (A.deeper (envOfC "_law_is_lot" (defScope lIsLot) s.heap.objs.size f cdv)).units = A.units + 3 := rfl; omega
    refine ⟨_, pss_cons (ps_if (PW.pt (pw_or (pt_not (pt_val (pe_callB call_isi (by rfl) T.isi (by decide +kernel) (pa_cons (pv 1) (pa_cons (pe_bltn (v := .ty "tuple") (u := .type "tuple") (by rfl) T.tuple (by decide +kernel) rfl) pa_nil)))))
          (pw_or1 (pt_cmpR (op_ne0 hu0) (pe_lc (own := [("_law_it", 2)]) (g := gName 2) rfl scLIsLot.nd (pi_tup (pv 1)) (blkOk_by (N := nLIsLot) (sc := defScope lIsLot) (by decide +kernel))
            (fun _ _ _ _ _ => pg_name (i := 2) scLIsLot.nd rfl (Or.inl rfl)) (fun _ _ _ _ _ => pts_one (pt_not (pt_val (pe_call GW'.ok hr rfl GW'.g GW'.kp GW'.b .nil pass0 (pa_cons (pv 2) pa_nil))))) (fun _ _ _ _ _ => pv 2)) (pe_lst pa_nil) (nomark _)))))
          (pss_one (ps_ret pe_bl)) pss_nil)
      <| pss_one (ps_ret (pe_and (pe_cmpR (op_eq0 hu0) (pe_lc (own := [("_law_it", 2)]) (g := gName 2) rfl scLIsLot.nd (pi_tup (pv 1)) (blkOk_by (N := nLIsLot) (sc := defScope lIsLot) (by decide +kernel))
            (fun _ _ _ _ _ => pg_name (i := 2) scLIsLot.nd rfl (Or.inl rfl)) (fun _ _ _ _ _ => pts_one (PW.pt (pw_or (pt_cmpR op_lt (pv 2) pe_int (nomark _)) (pw_or1 (pt_cmpR op_ge (pv 2) (pv 0) (nomark _)))))) (fun _ _ _ _ _ => pv 2)) (pe_lst pa_nil) (nomark _))
          (pe_one (pe_cmpR (op_eqD hu6) (pe_callTy call_list_of (by rfl) T.list (by decide +kernel) (pa_cons (pv 1) pa_nil)) (pe_callB (cr_sortedSet rfl) (by rfl) T.sorted (by decide +kernel) (pa_cons (pe_callTy (KR.cr_setTI rfl) (by rfl) T.set (by decide +kernel) (pa_cons (pv 1) pa_nil)) pa_nil)) (nomark _))))), ?_⟩
    cases th with
    | @oth v t h ne =>
      exact ⟨_, rfl, v, .ty "tuple", .type t, .type "tuple", _, rfl, .ty "tuple", h.ty, h.kit.2.2, _, rfl, by
        rw [decide_eq_false ne]
        exact k H (Same.refl H)⟩
    | @tup a xs e h l =>
      have hv : VT H (.ref a) "tuple" := .tup e
      refine ⟨_, rfl, .ref a, .ty "tuple", .type "tuple", .type "tuple", _, rfl, .ty "tuple", hv.ty, hv.kit.2.2, _, rfl, iteNS (c := "tuple" = "tuple") rfl ?_⟩
      refine ⟨_, rfl, a, rfl, ⟨_, e.sq⟩, fun Da hD => ?_⟩
      refine lc_it (walk_tup (xs := xs)) (fun i M => M Da = some (.lst ((xs.take i).filter fun x => !wholeV x)) ∧ Same H M) ⟨upd_same, same_new hD⟩ (fun i M _ g => (e.keep fun o q => g.2 _ _ q).sq) ?_ ?_
      · rintro i x M M' hi ⟨g1, g2⟩ ⟨rfl, hx⟩
        obtain ⟨t, ht⟩ := h x (List.mem_of_getElem? hx)
        have fl : ((xs.take i).filter fun x => !wholeV x).length ≤ 60 := Nat.le_trans (List.length_filter_le _ _) (by rw [List.length_take]; omega)
        refine ⟨rfl, _, rfl, x, t, rfl, ht.mono g2, _, rfl, ?_⟩
        have tk : (xs.take (i + 1)).filter (fun x => !wholeV x) = (xs.take i).filter (fun x => !wholeV x) ++ [x].filter fun x => !wholeV x := by rw [take_snoc hx, List.filter_append]
        cases hw : wholeV x with
        | true =>
          refine iteF ⟨?_, g2⟩
          rw [tk, g1]
          simp [hw]
        | false =>
          refine iteT ⟨_, rfl, _, g1, by rw [sizeLine_eq]; omega, ?_, fun b o e => by rw [upd_ne (ne_of_none e hD)]; exact g2 _ _ e⟩
          rw [tk, upd_same]
          simp [hw]
      · rintro M ⟨g1, g2⟩
        rw [List.take_length] at g1
        refine ⟨by show 0 ≤ sizeLine; exact Nat.zero_le _, fun b0 hb0 => ?_⟩
        have s1 : Same H (upd M b0 (.lst [])) := g2.trans (same_new hb0)
        refine ⟨Da, b0, _, rfl, rfl, SqL.of (by rw [upd_ne (ne_of_none g1 hb0)]; exact g1), SqL.of upd_same, _, rfl, ?_⟩
        rw [fl_empty]
        cases ha : xs.all wholeV with
        | false =>
          have ans : false = lotO n (some xs) := by
            show _ = lotD n xs
            unfold lotD
            rw [below_whole ha, Bool.false_and]
          show Q (.bl false) _
          rw [ans]
          exact k _ s1
        | true =>
          have x1 := whole_ints ha
          generalize hns : xs.map intV = ns at x1
          have hlen : ns.length ≤ 60 := by rw [← hns, List.length_map]; exact l
          have eM : ∀ {M' : Hp}, Same H M' → TT M' a (ns.map V.int) := fun s => x1 ▸ (e.keep fun o q => s _ _ q)
          refine ⟨_, rfl, a, rfl, ⟨_, (eM s1).sq⟩, fun Db hb => ?_⟩
          have hDb := s1.free hb
          refine lc_it (walk_tup (xs := ns.map V.int)) (fun i M2 => M2 Db = some (.lst (((ns.take i).filter fun i => !inR n i).map V.int)) ∧ Same H M2) ⟨upd_same, s1.trans (same_new hb)⟩ (fun i M2 _ g => (eM g.2).sq) ?_ ?_
          · rintro i x M2 M3 hi ⟨f1, f2⟩ ⟨rfl, hx⟩
            rw [List.getElem?_map] at hx
            have hi' : i < ns.length := by rw [List.length_map] at hi; exact hi
            rw [List.getElem?_eq_getElem hi'] at hx
            cases hx
            have fl : (((ns.take i).filter fun i => !inR n i).map V.int).length ≤ 60 := by
              rw [List.length_map]
              exact Nat.le_trans (List.length_filter_le _ _) (by rw [List.length_take]; omega)
            have tk : (ns.take (i + 1)).filter (fun i => !inR n i) = (ns.take i).filter (fun i => !inR n i) ++ [ns[i]].filter fun i => !inR n i := by rw [take_snoc (List.getElem?_eq_getElem hi'), List.filter_append]
            have put : (!inR n ns[i]) = true → ∃ acc, M3 Db = some (.lst acc) ∧ acc.length < sizeLine ∧ (upd M3 Db (.lst (acc ++ [V.int ns[i]]))) Db = some (.lst (((ns.take (i + 1)).filter fun i => !inR n i).map V.int)) ∧ Same H (upd M3 Db (.lst (acc ++ [V.int ns[i]]))) := fun hz => by
              refine ⟨_, f1, by rw [sizeLine_eq]; omega, ?_, fun b o e => by rw [upd_ne (ne_of_none e hDb)]; exact f2 _ _ e⟩
              rw [tk, upd_same]
              simp [hz]
            have skip : (!inR n ns[i]) = false → M3 Db = some (.lst (((ns.take (i + 1)).filter fun i => !inR n i).map V.int)) ∧ Same H M3 := fun hz => by
              refine ⟨?_, f2⟩
              rw [tk, f1]
              simp [hz]
            refine ⟨rfl, _, rfl, _, _, rfl, rfl, _, rfl, ?_⟩
            by_cases h0 : ns[i] < 0
            · have hz : (!inR n ns[i]) = true := by unfold inR; rw [decide_eq_false (show ¬ (0 : Int) ≤ ns[i] by omega)] <;> rfl
              rw [decide_eq_true h0]
              exact iteT ⟨_, rfl, put hz⟩
            · rw [decide_eq_false h0]
              refine iteF ⟨_, rfl, _, rfl, _, _, rfl, rfl, _, rfl, ?_⟩
              by_cases h1 : ns[i] ≥ n
              · have hz : (!inR n ns[i]) = true := by unfold inR; rw [decide_eq_false (show ¬ ns[i] < (n : Int) by omega), Bool.and_false] <;> rfl
                rw [decide_eq_true h1]
                exact iteT ⟨_, rfl, put hz⟩
              · have hz : (!inR n ns[i]) = false := by unfold inR; rw [decide_eq_true (show (0 : Int) ≤ ns[i] by omega), decide_eq_true (show ns[i] < (n : Int) by omega)] <;> rfl
                rw [decide_eq_false h1]
                exact iteF (skip hz)
          · rintro M2 ⟨f1, f2⟩
            rw [List.length_map, List.take_length] at f1
            refine ⟨by show 0 ≤ sizeLine; exact Nat.zero_le _, fun b1 hb1 => ?_⟩
            have s2 : Same H (upd M2 b1 (.lst [])) := f2.trans (same_new hb1)
            refine ⟨Db, b1, _, rfl, rfl, SqL.of (by rw [upd_ne (ne_of_none f1 hb1)]; exact f1), SqL.of upd_same, _, rfl, ?_⟩
            rw [show ((ns.filter fun i => !inR n i).map V.int).isEmpty = ns.all (inR n) by rw [← fl_empty (inR n)]; cases ns.filter fun i => !inR n i <;> rfl]
            have lo : lotO n (some xs) = (ns.all (inR n) && decide (ns.Pairwise (· < ·))) := by
              show lotD n xs = _
              unfold lotD
              rw [hns, x1, all_inR]
            cases hR : ns.all (inR n) with
            | false =>
              rw [hR, Bool.false_and] at lo
              show Q (.bl false) _
              rw [← lo]
              exact k _ s2
            | true =>
              rw [hR, Bool.true_and] at lo
              refine ⟨_, rfl, a, _, rfl, .inr (eM s2).sq, fun l1 hl1 => ⟨_, rfl, a, ns, rfl, (eM (s2.trans (same_new hl1))).sq, by omega, fun b c hb2 hc => ⟨b, _, c, rfl, upd_same, by omega, fun ms p m1 m2 _ hp => ?_⟩⟩⟩
              have s3 := ((s2.trans (same_new (o := .lst (ns.map V.int)) hl1)).trans (same_new hb2)).trans (same_new (o := .lst (ms.map V.int)) hp)
              have n1p : l1 ≠ b := ne_of_none upd_same hb2
              have n2p : l1 ≠ p := ne_of_none (by rw [upd_ne n1p]; exact upd_same) hp
              refine ⟨.list (ns.map PyData.int), .list (ms.map PyData.int), .lst (SqL.of (by rw [upd_ne n2p, upd_ne n1p]; exact upd_same)) (ints_dp ns), .lst (SqL.of upd_same) (ints_dp ms), ints_shaped ns, ints_shaped ms, ?_⟩
              rw [eqv_ints]
              have ans : decide (ns = ms) = lotO n (some xs) := by
                rw [lo]
                by_cases hp : ns.Pairwise (· < ·)
                · rw [decide_eq_true hp]
                  exact decide_eq_true (inc_uniq hp m1 fun k => by rw [m2 k, decide_eq_true_eq])
                · rw [decide_eq_false hp]
                  exact decide_eq_false fun e => hp (e ▸ m1)
              rw [ans]
              exact k _ s3
end
end K0

set_option Elab.async false
set_option linter.all false
set_option maxRecDepth 100000
set_option maxHeartbeats 8000000
/-! The program's masks. -/
namespace K0
open PySem PySem.Spec L2
open PyProof.Rows hiding St
abbrev pLotOf : Stmt := top 2
abbrev pFull : Stmt := top 3
abbrev pNear : Stmt := top 4
def natV (i : Nat) : V := .int (i : Int)
theorem natV_ints (l : List Nat) : l.map natV = (l.map fun i => ((i : Nat) : Int)).map V.int := by rw [List.map_map] <;> rfl
/-! ### bits of ints -/
theorem and_nat (a b : Nat) : Builtin.bitAnd (a : Int) (b : Int) = ((a &&& b : Nat) : Int) := by rw [bitAnd_pp (by omega) (by omega)] <;> rfl
theorem or_nat (a b : Nat) : Builtin.bitOr (a : Int) (b : Int) = ((a ||| b : Nat) : Int) := by rw [Bits.bitOr_pp (by omega) (by omega)] <;> rfl
theorem xor_nat (a b : Nat) : Builtin.bitXor (a : Int) (b : Int) = ((a ^^^ b : Nat) : Int) := by rw [Bits.bitXor_pp (by omega) (by omega)] <;> rfl
theorem xor_lt {a b n : Nat} (ha : a < 2 ^ n) (hb : b < 2 ^ n) : a ^^^ b < 2 ^ n := Nat.xor_lt_two_pow ha hb
def lotT (m : Nat) : Bool := decide (Builtin.Int.intBits (m : Int) ≤ 12) && decide ((List.range (Builtin.Int.intBits (m : Int))).filter m.testBit = lotN m)
theorem lot_tbl : (List.range 4096).all lotT = true := by decide +kernel
theorem lot_at {m : Nat} (h : m < 4096) : Builtin.Int.intBits (m : Int) ≤ 12 ∧ (List.range (Builtin.Int.intBits (m : Int))).filter m.testBit = lotN m := by
  have := List.all_eq_true.mp lot_tbl m (List.mem_range.mpr h)
  unfold lotT at this
  rwa [Bool.and_eq_true, decide_eq_true_eq, decide_eq_true_eq] at this
def lowT (m : Nat) : Bool := match lotN m with
  | [] => m == 0
  | r :: _ => decide (Builtin.bitAnd (m : Int) (-(m : Int)) = ((2 ^ r : Nat) : Int))
theorem low_tbl : (List.range 4096).all lowT = true := by decide +kernel
/-- the least bit -/
theorem low_at {m : Nat} (h : m < 4096) (h0 : m ≠ 0) : ∃ r, Builtin.bitAnd (m : Int) (-(m : Int)) = ((2 ^ r : Nat) : Int) ∧ m.testBit r = true ∧ (∀ i, m.testBit i = true → r ≤ i) ∧ r < 12 ∧ ∃ t, lotN m = r :: t := by
  have := List.all_eq_true.mp low_tbl m (List.mem_range.mpr h)
  unfold lowT at this
  have mem : ∀ i, i ∈ lotN m ↔ m.testBit i = true := fun i => lotN_mem h
  have inc := lotN_inc m
  split at this
  · rename_i e
    exact absurd (by simpa using this) h0
  · rename_i r t e
    rw [decide_eq_true_eq] at this
    rw [e] at inc
    have hr := (mem r).mp (by rw [e]; exact List.mem_cons_self ..)
    refine ⟨r, this, hr, fun i hi => ?_, bit_lt h hr, t, e⟩
    have := (mem i).mpr hi
    rw [e] at this
    rcases List.mem_cons.mp this with z | z
    · omega
    · exact Nat.le_of_lt ((List.pairwise_cons.mp inc).1 i z)
theorem odd_bit (m i : Nat) : ((((m / 2 ^ i) % 2 : Nat) : Int) != 0) = m.testBit i := by
  rw [Nat.testBit_eq_decide_div_mod_eq]
  rcases Nat.mod_two_eq_zero_or_one (m / 2 ^ i) with e | e <;> rw [e] <;> rfl
def rNN (f : Nat → Nat → Nat) : R2 := fun x y H Q => ∃ a b : Nat, x = .int (a : Int) ∧ y = .int (b : Int) ∧ Q (.int ((f a b : Nat) : Int)) H
section
variable {X : Cx}
theorem iop_orN : OpR X (inplaceOp .BitOr) (rNN (· ||| ·)) := fun pins s σ H x y v u Q I rx ry h => by
  obtain ⟨a, b, rfl, rfl, q⟩ := h
  exact iop_or pins s σ H _ _ v u Q I rx ry ⟨_, _, rfl, rfl, by show Q (.int (Builtin.bitOr (a : Int) (b : Int))) H; rw [or_nat]; exact q⟩
theorem iop_xorN : OpR X (inplaceOp .BitXor) (rNN (· ^^^ ·)) := fun pins s σ H x y v u Q I rx ry h => by
  obtain ⟨a, b, rfl, rfl, q⟩ := h
  exact iop_xor pins s σ H _ _ v u Q I rx ry ⟨_, _, rfl, rfl, by show Q (.int (Builtin.bitXor (a : Int) (b : Int))) H; rw [xor_nat]; exact q⟩
theorem op_xorN : OpR X (binaryOp .BitXor) (rNN (· ^^^ ·)) := fun pins s σ H x y v u Q I rx ry h => by
  obtain ⟨a, b, rfl, rfl, q⟩ := h
  exact op_xor pins s σ H _ _ v u Q I rx ry ⟨_, _, rfl, rfl, by show Q (.int (Builtin.bitXor (a : Int) (b : Int))) H; rw [xor_nat]; exact q⟩
theorem op_andN : OpR X (binaryOp .BitAnd) (rNN (· &&& ·)) := fun pins s σ H x y v u Q I rx ry h => by
  obtain ⟨a, b, rfl, rfl, q⟩ := h
  exact op_and pins s σ H _ _ v u Q I rx ry ⟨_, _, rfl, rfl, by show Q (.int (Builtin.bitAnd (a : Int) (b : Int))) H; rw [and_nat]; exact q⟩
/-- 1 << k -/
def rOneN : R2 := fun x y H Q => ∃ k : Nat, x = .int 1 ∧ y = .int (k : Int) ∧ k ≤ 1000 ∧ Q (.int ((2 ^ k : Nat) : Int)) H
theorem op_oneN : OpR X (binaryOp .LShift) rOneN := fun pins s σ H x y v u Q I rx ry h => by
  obtain ⟨k, rfl, rfl, hk, q⟩ := h
  exact op_oneShl pins s σ H _ _ v u Q I rx ry ⟨k, rfl, rfl, by omega, by show Q (.int ((2 : Int) ^ k)) H; rw [show (2 : Int) ^ k = ((2 ^ k : Nat) : Int) by rw [Int.natCast_pow] <;> rfl]; exact q⟩
/-- n & -n -/
def rLow : R2 := fun x y H Q => ∃ m : Nat, x = .int (m : Int) ∧ y = .int (-(m : Int)) ∧ m < 4096 ∧ m ≠ 0 ∧ ∀ r : Nat, m.testBit r = true → (∀ i, m.testBit i = true → r ≤ i) → r < 12 → (∃ t, lotN m = r :: t) → Q (.int ((2 ^ r : Nat) : Int)) H
theorem op_low : OpR X (binaryOp .BitAnd) rLow := fun pins s σ H x y v u Q I rx ry h => by
  obtain ⟨m, rfl, rfl, h1, h2, q⟩ := h
  obtain ⟨r, r1, r2, r3, r4, r5⟩ := low_at h1 h2
  exact op_and pins s σ H _ _ v u Q I rx ry ⟨_, _, rfl, rfl, by show Q (.int (Builtin.bitAnd (m : Int) (-(m : Int)))) H; rw [r1]; exact q r r2 r3 r4 r5⟩
end
/-- a truth, named -/
def tTru (K : PySem.W.Frag) (ta : TE) : L2.TT := fun σ H Q => ta σ H fun x H' => ∃ k, TruV K x H' k ∧ Q k H'
theorem pt_truthK {X : Cx} {a : Expr} {ta : TE} {K0 : PySem.W.Frag} (hK : X.K = K0) (ha : PE X a ta) (he : ∀ whole, isTrue a X.env whole = (do let v ← whole; standAt a.pos; holding [v] (truthy v))) : PT X a (tTru K0 ta) := hK ▸ pt_truth ha he
def spLotOf : Sp := fun vs H Q _ => ∃ m : Nat, vs = [.int (m : Int)] ∧ m < 4096 ∧ ∀ (t : Addr) (H' : Hp), Same H H' → H t = none → H' t = some (.tup ((lotN m).map natV)) → Q (.ref t) H'
def spFull : Sp := fun vs H Q _ => ∃ (w : Addr) (n : Nat) (L : List (Int × Int)), vs = [.ref w] ∧ GW H w n L ∧ Q (.int ((2 ^ n - 1 : Nat) : Int)) H
def spNear : Sp := fun vs H Q _ => ∃ (w : Addr) (n : Nat) (L : List (Int × Int)), vs = [.ref w] ∧ GW H w n L ∧ ∀ (l : Addr) (ms : List Nat) (H' : Hp), Same H H' → H l = none → H' l = some (.lst (ms.map natV)) → Near L n ms → Q (.ref l) H'
def spPart : Sp := fun vs H Q _ => ∃ (l : Addr) (m r n : Nat) (ms : List Nat) (L : List (Int × Int)), vs = [.ref l, .int (m : Int), .int ((2 ^ r : Nat) : Int)] ∧ H l = some (.lst (ms.map natV)) ∧ Near L n ms ∧ n ≤ 12 ∧ Bel n L ∧ m < 2 ^ n ∧ m.testBit r = true ∧ ∀ (p : Nat) (H' : Hp), Same H H' → IsPart L m r p → Q (.int (p : Int)) H'
def spParts : Sp := fun vs H Q _ => ∃ (l : Addr) (m n : Nat) (ms : List Nat) (L : List (Int × Int)), vs = [.ref l, .int (m : Int)] ∧ H l = some (.lst (ms.map natV)) ∧ Near L n ms ∧ n ≤ 12 ∧ Bel n L ∧ m < 2 ^ n ∧ ∀ (a : Addr) (ps : List (Nat × Nat)) (H' : Hp), Same H H' → H a = none → H' a = some (.lst (ps.map fun q => natV q.2)) → Parts L m ps → Q (.ref a) H'
section
variable {P : Program} {w0 : World} {K : PySem.W.Frag} {mg : Str → Option Value} {base : Heap}
abbrev nLotOf : List Str := ["mask", "place"]
theorem scLotOf : FnScope nLotOf ["mask"] (defScope pLotOf) := ⟨rfl, rfl, rfl, by decide +kernel, rfl, by decide +kernel, by decide +kernel⟩
theorem ok_lotOf {f : Addr} {fd : FuncData} (F : Fun K "lot_of" "lot_of" pLotOf f fd) (T : Bj mg) : FnOk P w0 K mg base CX0 1 f fd ["mask"] spLotOf := by
  refine F.ok scLotOf (fun vs H Q E h => ?_) (fun cdv A outer s H vs Q E hr h => ?_)
  · obtain ⟨m, rfl, _⟩ := h
    rfl
  · obtain ⟨m, rfl, hm, k⟩ := h
    refine ⟨_, pss_one (ps_ret (pe_callTy call_tuple_of (by rfl) T.tuple (by decide +kernel) (pa_cons (pe_lc (own := [("place", 1)]) (g := gName 1) rfl scLotOf.nd (pi_range1 (by rfl) T.range (pa_cons (pe_bits (pv 0)) pa_nil))
      (blkOk_by (N := nLotOf) (sc := defScope pLotOf) (by decide +kernel)) (fun _ _ _ _ _ => pg_name (i := 1) scLotOf.nd rfl (Or.inl rfl)) (fun _ _ _ _ _ => pts_one (pt_truthK (K0 := K) rfl (pe_op op_odd (pe_op op_shrN (pv 0) (pv 1)) pe_int) (by intro _; rfl))) (fun _ _ _ _ _ => pv 1)) pa_nil))), ?_⟩
    obtain ⟨hb, hf⟩ := lot_at hm
    refine ⟨_, rfl, _, rfl, _, rfl, by omega, by omega, fun Da hD => ?_⟩
    refine lc_range (lo := 0) (n := ((Builtin.Int.intBits (m : Int) : Nat) : Int).toNat) (fun i M => M Da = some (.lst (((List.range i).filter m.testBit).map natV)) ∧ Same H M) ⟨upd_same, same_new hD⟩ ?_ ?_
    · rintro i M hi ⟨g1, g2⟩
      refine ⟨rfl, _, rfl, _, rfl, (m : Int), i, rfl, by rw [Int.zero_add], m / 2 ^ i, by rw [Int.natCast_ediv, Int.natCast_pow] <;> rfl, rfl, _, rfl, ?_⟩
      rw [odd_bit]
      have rs : (List.range (i + 1)).filter m.testBit = if m.testBit i = true then (List.range i).filter m.testBit ++ [i] else (List.range i).filter m.testBit := by
        rw [List.range_succ, List.filter_append]
        cases h : m.testBit i <;> simp [h]
      cases h : m.testBit i with
      | true =>
        rw [if_pos h] at rs
        exact iteT ⟨_, rfl, _, g1, by rw [List.length_map, sizeLine_eq]; have := List.length_filter_le m.testBit (List.range i); rw [List.length_range] at this; omega, by rw [upd_same, rs, List.map_append, Int.zero_add] <;> rfl, fun b o e => by rw [upd_ne (ne_of_none e hD)]; exact g2 _ _ e⟩
      | false =>
        rw [if_neg (by rw [h]; exact Bool.false_ne_true)] at rs
        exact iteF ⟨by rw [rs]; exact g1, g2⟩
    · rintro M ⟨g1, g2⟩
      rw [Int.toNat_natCast, hf] at g1
      exact ⟨Da, _, rfl, .inl ⟨SqL.of g1, fun t ht => k t _ (g2.trans (same_new ht)) (g2.free ht) upd_same⟩⟩
theorem scFull : FnScope ["web"] ["web"] (defScope pFull) := ⟨rfl, rfl, rfl, by decide +kernel, rfl, by decide +kernel, by decide +kernel⟩
theorem ok_full {f : Addr} {fd : FuncData} (F : Fun K "full_mask" "full_mask" pFull f fd) : FnOk P w0 K mg base CX0 1 f fd ["web"] spFull := by
  refine F.ok scFull (fun vs H Q E h => ?_) (fun cdv A outer s H vs Q E hr h => ?_)
  · obtain ⟨w, n, L, rfl, _⟩ := h
    rfl
  · obtain ⟨w, n, L, rfl, G, k⟩ := h
    refine ⟨_, pss_one (ps_ret (pe_op op_sub (pe_op op_oneShl pe_int (pe_ix ix_tup (pv 0) pe_int (fun _ _ => rfl))) pe_int)), ?_⟩
    obtain ⟨ta, vs, e1, e2, e3⟩ := G.web.ex
    have n2 := G.n2
    refine ⟨_, rfl, w, _, _, _, rfl, rfl, SqT.of e1, atI_nat (j := 0) rfl, n, rfl, rfl, by omega, _, _, rfl, rfl, ?_⟩
    have e : (2 ^ n - 1 : Int) = ((2 ^ n - 1 : Nat) : Int) := by
      have := Nat.one_le_two_pow (n := n)
      rw [Int.natCast_sub this, Int.natCast_pow] <;> rfl
    show Q (.int ((2 : Int) ^ n - 1)) H
    rw [e]
    exact k
end
end K0

set_option Elab.async false
set_option linter.all false
set_option maxRecDepth 100000
set_option maxHeartbeats 8000000
/-! Near places, parts. -/
namespace K0
open PySem PySem.Spec L2
open PyProof.Rows hiding St
theorem ixN_n {n j : Nat} (hj : j < n) : ixN n (j : Int) = some j := by
  unfold ixN
  rw [if_pos (by omega), if_pos (by omega), Int.toNat_natCast]
theorem flat_zeros : ∀ n : Nat, (List.replicate n [V.int 0]).flatten = (List.replicate n 0).map natV
  | 0 => rfl
  | n + 1 => by rw [List.replicate_succ, List.flatten_cons, flat_zeros n, List.replicate_succ, List.map_cons] <;> rfl
theorem nat_get {ms : List Nat} {i : Nat} (h : i < ms.length) : (ms.map natV)[i]? = some (natV (ms.getD i 0)) := by
  rw [List.getElem?_map, List.getD_eq_getElem?_getD, List.getElem?_eq_getElem h] <;> rfl
theorem nat_set (ms : List Nat) (i x : Nat) : (ms.map natV).set i (natV x) = (ms.set i x).map natV := List.map_set.symm
theorem nat_set' (ms : List Nat) (i : Nat) (x : Nat) : some (HO.lst ((ms.map natV).set i (.int (x : Int)))) = some (.lst ((ms.set i x).map natV)) := congrArg (fun z => some (HO.lst z)) (nat_set ..)
theorem near_lt {L : List (Int × Int)} {n : Nat} {ms : List Nat} (h : Near L n ms) (hB : Bel n L) {a : Nat} (ha : a < n) : ms.getD a 0 < 2 ^ n := by
  refine Nat.lt_pow_two_of_testBit _ fun i hi => ?_
  rw [h.bit a i ha]
  refine decide_eq_false fun z => ?_
  unfold Adj at z
  rcases z with z | z
  · have := hB _ z
    dsimp only at this
    omega
  · have := hB _ z
    dsimp only at this
    omega
theorem while_ex {c : L2.TT} {tb : TS} {D : Ends} {σ : L2.St} {H : Hp} (Pv : L2.St → Hp → Prop) (μ : L2.St → Hp → Nat) (h0 : Pv σ H)
    (hs : ∀ σ H, Pv σ H → c σ H fun b H1 => if b = true then tb { D with nx := fun σ' H' => Pv σ' H' ∧ μ σ' H' < μ σ H, ct := fun σ' H' => Pv σ' H' ∧ μ σ' H' < μ σ H, bk := D.nx } σ H1 else D.nx σ H1)
    (mono : ∀ σ H Q Q', (∀ b H1, Q b H1 → Q' b H1) → c σ H Q → c σ H Q') : ∃ W : Nat → L2.St → Hp → Prop, (∃ m, W m σ H) ∧ ∀ m σ H, W m σ H →
      c σ H fun b H1 => if b = true then ∃ N : L2.St → Hp → Prop, (∀ σ' H', N σ' H' → ∃ m', m' < m ∧ W m' σ' H') ∧ tb { D with nx := N, ct := N, bk := D.nx } σ H1 else D.nx σ H1 := while_by Pv μ h0 hs mono
/-- lots at their places -/
inductive LotsAt (H : Hp) : List V → List (Nat × Nat) → Prop
  | nil : LotsAt H [] []
  | cons {a : Addr} {q : Nat × Nat} {vs : List V} {ps : List (Nat × Nat)} (h : H a = some (.tup ((lotN q.2).map natV))) (t : LotsAt H vs ps) : LotsAt H (.ref a :: vs) (q :: ps)
theorem LotsAt.mono {H H' : Hp} {vs : List V} {ps : List (Nat × Nat)} (p : LotsAt H vs ps) (s : ∀ a x, H a = some (.tup x) → H' a = some (.tup x)) : LotsAt H' vs ps := by
  induction p with
  | nil => exact .nil
  | cons h t ih => exact .cons (s _ _ h) ih
theorem LotsAt.app {H : Hp} {vs ws : List V} {ps qs : List (Nat × Nat)} (p : LotsAt H vs ps) (q : LotsAt H ws qs) : LotsAt H (vs ++ ws) (ps ++ qs) := by
  induction p with
  | nil => exact q
  | cons h t ih => exact .cons h ih
theorem LotsAt.len {H : Hp} {vs : List V} {ps : List (Nat × Nat)} (p : LotsAt H vs ps) : vs.length = ps.length := by
  induction p with
  | nil => rfl
  | cons h t ih => rw [List.length_cons, List.length_cons, ih]
theorem LotsAt.get {H : Hp} {vs : List V} {ps : List (Nat × Nat)} (p : LotsAt H vs ps) : ∀ {i : Nat} {v : V}, vs[i]? = some v → ∃ a q, v = .ref a ∧ ps[i]? = some q ∧ H a = some (.tup ((lotN q.2).map natV)) := by
  induction p with
  | nil => intro i v h; simp at h
  | @cons a q vs ps h t ih =>
    intro i v hv
    cases i with
    | zero =>
      simp only [List.getElem?_cons_zero, Option.some.injEq] at hv
      exact ⟨a, q, hv.symm, rfl, h⟩
    | succ i =>
      simp only [List.getElem?_cons_succ] at hv ⊢
      exact ih hv
def spPartLots : Sp := fun vs H Q _ => ∃ (w : Addr) (n : Nat) (L : List (Int × Int)), vs = [.ref w] ∧ GW H w n L ∧ ∀ (t : Addr) (us : List V) (ps : List (Nat × Nat)) (H' : Hp), Same H H' → H t = none → H' t = some (.tup us) → LotsAt H' us ps → Parts L (2 ^ n - 1) ps → Q (.ref t) H'
theorem set_same {H M : Hp} {a : Addr} {o : HO} (h : H a = none) (s : Same H M) : Same H (upd M a o) := fun b u e => by rw [upd_ne (ne_of_none e h)]; exact s _ _ e
section
variable {P : Program} {w0 : World} {K : PySem.W.Frag} {mg : Str → Option Value} {base : Heap}
abbrev nNear : List Str := ["web", "near", "a", "b"]
theorem scNear : FnScope nNear ["web"] (defScope pNear) := ⟨rfl, rfl, rfl, by decide +kernel, rfl, by decide +kernel, by decide +kernel⟩
theorem ok_near {f : Addr} {fd : FuncData} (F : Fun K "near_masks" "near_masks" pNear f fd) : FnOk P w0 K mg base CX0 1 f fd ["web"] spNear := by
  refine F.ok scNear (fun vs H Q E h => ?_) (fun cdv A outer s H vs Q E hr h => ?_)
  · obtain ⟨w, n, L, rfl, _⟩ := h
    rfl
  · obtain ⟨w, n, L, rfl, G, k⟩ := h
    refine ⟨_, pss_cons (ps_set (i := 1) scNear.nd rfl (.inl rfl) (pe_op op_rep (pe_lst (pa_cons pe_int pa_nil)) (pe_ix ix_tup (pv 0) pe_int (fun _ _ => rfl))))
      <| pss_cons (ps_for PassesOwn.never rfl (pi_tup (pe_ix ix_tup (pv 0) pe_int (fun _ _ => rfl))) (pg_tup rfl (pgs_cons (pg_name (i := 2) scNear.nd rfl (.inl rfl)) (pgs_cons (pg_name (i := 3) scNear.nd rfl (.inl rfl)) pgs_nil)))
          (pss_cons (ps_augS (pv 1) (pv 2) KR.get_list (pe_op op_oneN pe_int (pv 3)) iop_orN set_list) <| pss_one (ps_augS (pv 1) (pv 3) KR.get_list (pe_op op_oneN pe_int (pv 2)) iop_orN set_list)))
      <| pss_one (ps_ret (pv 1)), ?_⟩
    obtain ⟨ta, vs, e1, e2, e3⟩ := G.web.ex
    have n2 := G.n2
    have hB := G.bel
    refine ⟨by show 1 ≤ sizeLine; decide, fun l0 hl0 => ?_⟩
    have s0 : Same H (upd H l0 (.lst [.int 0])) := same_new hl0
    refine ⟨_, rfl, w, _, _, _, rfl, rfl, SqT.of (s0 _ _ e1), atI_nat (j := 0) rfl, l0, (n : Int), [.int 0], rfl, rfl, upd_same, by omega, by omega, by simp [sizeLine_eq]; omega, fun p hp => ?_⟩
    have hpH : H p = none := s0.free hp
    have s1 : Same H (upd (upd H l0 (.lst [.int 0])) p (.lst (List.replicate (n : Int).toNat [V.int 0]).flatten)) := s0.trans (same_new hp)
    refine ⟨_, rfl, w, _, _, _, rfl, rfl, SqT.of (s1 _ _ e1), atI_nat (j := 1) rfl, ta, rfl, ⟨_, SqT.of (s1 _ _ e2)⟩, ?_⟩
    refine for_tup (K := K) (a := ta) (xs := vs) (fun i σ M => ∃ (ms : List Nat) (o2 o3 : Option V), σ = [some (.ref w), some (.ref p), o2, o3] ∧ M p = some (.lst (ms.map natV)) ∧ Near (L.take i) n ms ∧ Same H M)
      ⟨List.replicate n 0, none, none, rfl, by rw [upd_same, Int.toNat_natCast, flat_zeros], near_nil n, s1⟩ (fun i σ M _ ⟨_, _, _, _, _, _, s⟩ => SqT.of (s _ _ e2)) ?_ ?_
    · rintro i x σ M hx ⟨ms, o2, o3, rfl, f1, f2, f3⟩
      obtain ⟨b, q, rfl, hq, hb⟩ := e3.get hx
      have bq := hB q (List.mem_of_getElem? hq)
      obtain ⟨q1, q2⟩ := q
      obtain ⟨a1, rfl⟩ : ∃ a1 : Nat, q1 = a1 := ⟨q1.toNat, by have := bq.1; dsimp only at this; omega⟩
      obtain ⟨a2, rfl⟩ : ∃ a2 : Nat, q2 = a2 := ⟨q2.toNat, by have := bq.1; have := bq.2.1; dsimp only at *; omega⟩
      dsimp only at bq
      have lt : a1 < a2 := by omega
      have l2 : a2 < n := by omega
      have len := f2.len
      have ts := take_snoc hq
      refine ⟨b, _, rfl, SqT.of (f3 _ _ hb), rfl, _, _, rfl, _, _, rfl, rfl, ?_⟩
      refine ⟨_, rfl, _, rfl, p, _, _, _, rfl, rfl, f1, by omega, by rw [Int.toNat_natCast]; exact nat_get (by omega), _, rfl, a2, rfl, rfl, by omega, _, _, rfl, rfl, ?_⟩
      refine ⟨p, _, _, a1, rfl, rfl, f1, ixN_n (by rw [List.length_map]; omega), ?_⟩
      have g1 : ∀ x : Nat, (upd M p (.lst ((ms.map natV).set a1 (.int (x : Int))))) p = some (.lst ((ms.set a1 x).map natV)) := fun x => by rw [upd_same, nat_set']
      refine ⟨_, rfl, _, rfl, p, (ms.set a1 (ms.getD a1 0 ||| 2 ^ a2)).map natV, _, _, rfl, rfl, g1 _, by omega, by rw [Int.toNat_natCast]; exact nat_get (by rw [List.length_set]; omega), _, rfl, a1, rfl, rfl, by omega, _, _, rfl, rfl, ?_⟩
      refine ⟨p, (ms.set a1 (ms.getD a1 0 ||| 2 ^ a2)).map natV, _, a2, rfl, rfl, g1 _, ixN_n (by rw [List.length_map, List.length_set]; omega), ?_⟩
      refine ⟨_, _, _, rfl, by rw [upd_same]; exact congrArg (fun z => some (HO.lst z)) (nat_set ..), by rw [ts]; exact near_snoc f2 lt l2, set_same hpH (set_same hpH f3)⟩
    · rintro σ M ⟨ms, o2, o3, rfl, f1, f2, f3⟩
      rw [e3.len, List.take_length] at f2
      exact ⟨_, rfl, k p ms M f3 hpH f1 f2⟩
abbrev nPart : List Str := ["near", "mask", "start", "part", "fresh", "met", "place"]
def muPart : L2.St → Hp → Nat := fun σ _ => match σ with
  | [_, _, _, some (.int p), some (.int f), _, _] => 2 * (4096 - p.toNat) + (if f = 0 then 0 else 1)
  | _ => 0
abbrev nParts : List Str := ["near", "mask", "parts", "left", "part"]
def muParts : L2.St → Hp → Nat := fun σ _ => match σ with
  | [_, _, _, some (.int l), _] => l.toNat
  | _ => 0
abbrev nPartLots : List Str := ["web", "part"]
end
end K0

set_option Elab.async false
set_option linter.all false
set_option maxRecDepth 100000
set_option maxHeartbeats 8000000
/-! Ways from a place. -/
namespace K0
open PySem PySem.Spec L2
open PyProof.Rows hiding St
def ky (i : Nat) : Key := .inl (i : Int)
theorem ky_inj {i j : Nat} (h : ky i = ky j) : i = j := by
  have := Sum.inl.inj h
  omega
def lefts (kvs : List (Key × V)) (n : Nat) : Nat := ((List.range n).filter fun i => (valV kvs (ky i)).isNone).length
theorem lefts_put {kvs : List (Key × V)} {n j : Nat} {v : V} (hj : j < n) (h : valV kvs (ky j) = none) : lefts (kvs ++ [(ky j, v)]) n + 1 = lefts kvs n := by
  unfold lefts
  have e : ∀ l : List Nat, l.Nodup → (l.filter fun i => (valV (kvs ++ [(ky j, v)]) (ky i)).isNone).length + (if j ∈ l then 1 else 0) = (l.filter fun i => (valV kvs (ky i)).isNone).length := fun l => by
    induction l with
    | nil => intro _; rfl
    | cons i l ih =>
      intro nd
      obtain ⟨n1, n2⟩ := List.nodup_cons.mp nd
      have := ih n2
      rw [List.filter_cons, List.filter_cons, valV_snoc _ _ _ _ h]
      by_cases ij : i = j
      · subst ij
        rw [if_pos rfl, h, if_pos (List.mem_cons_self ..)]
        rw [if_neg n1] at this
        simp only [Option.isNone_some, Option.isNone_none, if_true, Bool.false_eq_true, if_false, List.length_cons]
        omega
      · rw [if_neg (fun z => ij (ky_inj z))]
        have m : (j ∈ i :: l) ↔ j ∈ l := by rw [List.mem_cons]; exact ⟨fun z => z.resolve_left fun y => ij y.symm, .inr⟩
        have mm : (if j ∈ i :: l then 1 else 0) = if j ∈ l then 1 else 0 := by by_cases q : j ∈ l <;> simp [q, m]
        rw [mm]
        cases (valV kvs (ky i)).isNone
        · simpa using this
        · simp only [if_true, List.length_cons]
          omega
  have := e (List.range n) List.nodup_range
  rw [if_pos (List.mem_range.mpr hj)] at this
  exact this
/-- what is kept of a way: ints -/
structure WV (M : Hp) (n : Nat) (kvs : List (Key × V)) : Prop where
  mem : ∀ kv ∈ kvs, ∃ i : Nat, kv.1 = ky i ∧ i < n ∧ ∃ (t : Addr) (ns : List Int), kv.2 = .ref t ∧ M t = some (.tup (ns.map V.int)) ∧ ns.length ≤ kvs.length
  len : kvs.length + lefts kvs n ≤ n + 1
theorem valV_mem {kvs : List (Key × V)} {k : Key} {v : V} (h : valV kvs k = some v) : (k, v) ∈ kvs := by
  induction kvs with
  | nil => cases h
  | cons p r ih =>
    by_cases e : p.1 = k
    · rw [valV_pos e] at h
      cases h
      rw [← e]
      exact List.mem_cons_self ..
    · rw [valV_neg e] at h
      exact List.mem_cons_of_mem _ (ih h)
theorem WV.vals {M : Hp} {n : Nat} {kvs : List (Key × V)} (w : WV M n kvs) (k : Key) (v : V) (h : valV kvs k = some v) : ∃ i : Nat, k = ky i ∧ i < n ∧ ∃ (t : Addr) (ns : List Int), v = .ref t ∧ M t = some (.tup (ns.map V.int)) ∧ ns.length ≤ kvs.length := w.mem (k, v) (valV_mem h)
theorem WV.mono {M M' : Hp} {n : Nat} {kvs : List (Key × V)} (w : WV M n kvs) (s : ∀ a x, M a = some (.tup x) → M' a = some (.tup x)) : WV M' n kvs :=
  ⟨fun kv h => let ⟨i, e, l, t, ns, ev, et, ln⟩ := w.mem kv h; ⟨i, e, l, t, ns, ev, s _ _ et, ln⟩, w.len⟩
def isK (kvs : List (Key × V)) (i : Nat) : Prop := (valV kvs (ky i)).isSome = true
theorem WV.lt {M : Hp} {n : Nat} {kvs : List (Key × V)} (w : WV M n kvs) {i : Nat} (h : isK kvs i) : i < n := by
  obtain ⟨v, hv⟩ := Option.isSome_iff_exists.mp h
  obtain ⟨j, e, l, _⟩ := w.vals _ _ hv
  rw [ky_inj e]
  exact l
theorem WV.put {M : Hp} {n j : Nat} {kvs : List (Key × V)} {t : Addr} {ns : List Int} (w : WV M n kvs) (hj : j < n) (h : valV kvs (ky j) = none) (et : M t = some (.tup (ns.map V.int))) (ln : ns.length ≤ kvs.length + 1) : WV M n (kvs ++ [(ky j, .ref t)]) := by
  refine ⟨fun kv hv => ?_, ?_⟩
  · rcases List.mem_append.mp hv with hv | hv
    · obtain ⟨i, e, l, t, ns, ev, et, ln⟩ := w.mem kv hv
      exact ⟨i, e, l, t, ns, ev, et, by rw [List.length_append]; omega⟩
    · rw [List.mem_singleton.mp hv]
      exact ⟨j, rfl, hj, t, ns, rfl, et, by rw [List.length_append]; exact ln⟩
  · have := lefts_put (v := .ref t) hj h
    have := w.len
    rw [List.length_append, List.length_singleton]
    omega
theorem isK_put {kvs : List (Key × V)} {j i : Nat} {v : V} (h : valV kvs (ky j) = none) : isK (kvs ++ [(ky j, v)]) i ↔ isK kvs i ∨ i = j := by
  unfold isK
  rw [valV_snoc _ _ _ _ h]
  by_cases e : i = j
  · subst e
    simp
  · rw [if_neg fun z => e (ky_inj z)]
    simp [e]
/-- the ways that are found -/
structure WayOk (M : Hp) (L : List (Int × Int)) (n r : Nat) (kvs : List (Key × V)) : Prop where
  wv : WV M n kvs
  root : isK kvs r
  cl : ∀ i j, isK kvs i → Adj L i j → isK kvs j
/-- while they are sought -/
structure WayAt (L : List (Int × Int)) (n r : Nat) (kvs : List (Key × V)) (ws : List Nat) : Prop where
  root : isK kvs r
  sub : ∀ i ∈ ws, isK kvs i
  cl : ∀ i j, isK kvs i → Adj L i j → isK kvs j ∨ i ∈ ws
/-- while the ties of one place are looked at -/
structure WayIn (M : Hp) (L : List (Int × Int)) (n r pl i mu : Nat) (kvs : List (Key × V)) (ws : List Nat) : Prop where
  wv : WV M n kvs
  root : isK kvs r
  me : isK kvs pl
  sub : ∀ i ∈ ws, isK kvs i
  cl : ∀ i j, isK kvs i → Adj L i j → isK kvs j ∨ (i ∈ ws ∨ i = pl)
  here : ∀ j, Adj (L.take i) pl j → isK kvs j
  mu : 2 * lefts kvs n + ws.length ≤ mu
theorem WayIn.done {M : Hp} {L : List (Int × Int)} {n r pl mu : Nat} {kvs : List (Key × V)} {ws : List Nat} (w : WayIn M L n r pl L.length mu kvs ws) : WV M n kvs ∧ WayAt L n r kvs ws := by
  refine ⟨w.wv, w.root, w.sub, fun i j hi a => ?_⟩
  rcases w.cl i j hi a with z | z | z
  · exact .inl z
  · exact .inr z
  · subst z
    exact .inl (w.here j (by rw [List.take_length]; exact a))
theorem adj_snoc {L : List (Int × Int)} {q : Int × Int} {a b : Nat} : Adj (L ++ [q]) a b ↔ Adj L a b ∨ Adj [q] a b := by
  unfold Adj
  simp only [List.mem_append]
  constructor
  · rintro ((z | z) | (z | z))
    · exact .inl (.inl z)
    · exact .inr (.inl z)
    · exact .inl (.inr z)
    · exact .inr (.inr z)
  · rintro ((z | z) | (z | z))
    · exact .inl (.inl z)
    · exact .inr (.inl z)
    · exact .inl (.inr z)
    · exact .inr (.inr z)
theorem adj_one {a1 a2 pl j : Nat} (h : Adj [((a1 : Int), (a2 : Int))] pl j) : (pl : Int) ∈ ([(a1 : Int), (a2 : Int)] : List Int) ∧ ((a1 : Int) + a2 - pl) = j := by
  unfold Adj at h
  simp only [List.mem_singleton, Prod.mk.injEq] at h
  simp only [List.mem_cons, List.not_mem_nil, or_false]
  omega
theorem WayIn.skip {M : Hp} {L : List (Int × Int)} {n r pl i mu a1 a2 : Nat} {kvs : List (Key × V)} {ws : List Nat} (w : WayIn M L n r pl i mu kvs ws) (hq : L[i]? = some ((a1 : Int), (a2 : Int))) (h : ∀ j, Adj [((a1 : Int), (a2 : Int))] pl j → isK kvs j) : WayIn M L n r pl (i + 1) mu kvs ws :=
  ⟨w.wv, w.root, w.me, w.sub, w.cl, fun j z => by rw [take_snoc hq, adj_snoc] at z; exact z.elim (w.here j) (h j), w.mu⟩
theorem WayIn.put {M M' : Hp} {L : List (Int × Int)} {n r pl i mu a1 a2 j : Nat} {kvs : List (Key × V)} {ws : List Nat} {t : Addr} {ns : List Int} (w : WayIn M L n r pl i mu kvs ws) (hq : L[i]? = some ((a1 : Int), (a2 : Int))) (hj : ((a1 : Int) + a2 - pl) = j) (jn : j < n) (hv : valV kvs (ky j) = none)
    (s : ∀ a x, M a = some (.tup x) → M' a = some (.tup x)) (et : M' t = some (.tup (ns.map V.int))) (ln : ns.length ≤ kvs.length + 1) : WayIn M' L n r pl (i + 1) mu (kvs ++ [(ky j, .ref t)]) (ws ++ [j]) := by
  have up : ∀ i, isK kvs i → isK (kvs ++ [(ky j, .ref t)]) i := fun i h => (isK_put hv).mpr (.inl h)
  refine ⟨(w.wv.mono s).put jn hv et ln, up _ w.root, up _ w.me, fun i hi => ?_, fun i k hi a => ?_, fun k z => ?_, ?_⟩
  · rcases List.mem_append.mp hi with z | z
    · exact up i (w.sub i z)
    · exact (isK_put hv).mpr (.inr (List.mem_singleton.mp z))
  · rcases (isK_put hv).mp hi with z | z
    · rcases w.cl i k z a with y | y | y
      · exact .inl (up k y)
      · exact .inr (.inl (List.mem_append_left _ y))
      · exact .inr (.inr y)
    · exact .inr (.inl (List.mem_append_right _ (List.mem_singleton.mpr z)))
  · rw [take_snoc hq, adj_snoc] at z
    rcases z with z | z
    · exact up k (w.here k z)
    · have := (adj_one z).2
      exact (isK_put hv).mpr (.inr (by omega))
  · have := lefts_put (v := .ref t) jn hv
    have := w.mu
    rw [List.length_append, List.length_singleton]
    omega
def spWays : Sp := fun vs H Q _ => ∃ (w : Addr) (n r : Nat) (L : List (Int × Int)), vs = [.ref w, .int (r : Int)] ∧ GW H w n L ∧ r < n ∧ ∀ (d : Addr) (kvs : List (Key × V)) (H' : Hp), Same H H' → H d = none → H' d = some (.dK kvs) → WayOk H' L n r kvs → Q (.ref d) H'
def muWays (n : Nat) : L2.St → Hp → Nat := fun σ M => match σ with
  | [_, _, some (.ref d), some (.ref q), _, _, _, _] => match M d, M q with
    | some (.dK kvs), some (.lst ws) => 2 * lefts kvs n + ws.length
    | _, _ => 0
  | _ => 0
section
variable {P : Program} {w0 : World} {K : PySem.W.Frag} {mg : Str → Option Value} {base : Heap}
abbrev nWays : List Str := ["web", "root", "ways", "waiting", "place", "number", "a", "b"]
end
end K0

/-! Parts of webs, as lists of places. -/
namespace K0
/-! ### one more tie -/
theorem adj_snocN {L : List (Int × Int)} {a b x y : Nat} : Adj (L ++ [((a : Int), (b : Int))]) x y ↔ Adj L x y ∨ (x = a ∧ y = b) ∨ (x = b ∧ y = a) := by
  unfold Adj
  simp only [List.mem_append, List.mem_singleton, Prod.mk.injEq, Int.natCast_inj]
  constructor
  · rintro ((z | z) | (z | z))
    · exact .inl (.inl z)
    · exact .inr (.inl z)
    · exact .inl (.inr z)
    · exact .inr (.inr ⟨z.2, z.1⟩)
  · rintro ((z | z) | z | z)
    · exact .inl (.inl z)
    · exact .inr (.inl z)
    · exact .inl (.inr z)
    · exact .inr (.inr ⟨z.2, z.1⟩)
theorem Rch.ties {L M : List (Int × Int)} {m r i : Nat} (h : Rch L m r i) (s : ∀ x y, Adj L x y → Adj M x y) : Rch M m r i := by
  induction h with
  | refl h => exact .refl h
  | step _ a k ih => exact .step ih (s _ _ a) k
theorem rch_snoc {L : List (Int × Int)} {m r i a b : Nat} (ha : m.testBit a = true) (hb : m.testBit b = true) :
    Rch (L ++ [((a : Int), (b : Int))]) m r i ↔ Rch L m r i ∨ (Rch L m r a ∧ Rch L m b i) ∨ (Rch L m r b ∧ Rch L m a i) := by
  constructor
  · intro h
    refine h.closed (S := fun i => Rch L m r i ∨ (Rch L m r a ∧ Rch L m b i) ∨ (Rch L m r b ∧ Rch L m a i)) (.inl (.refl h.root)) fun x y s ad k => ?_
    rcases adj_snocN.mp ad with ad | ⟨rfl, rfl⟩ | ⟨rfl, rfl⟩
    · rcases s with s | ⟨s1, s2⟩ | ⟨s1, s2⟩
      · exact .inl (.step s ad k)
      · exact .inr (.inl ⟨s1, .step s2 ad k⟩)
      · exact .inr (.inr ⟨s1, .step s2 ad k⟩)
    · rcases s with s | ⟨s1, s2⟩ | ⟨s1, s2⟩
      · exact .inr (.inl ⟨s, .refl hb⟩)
      · exact .inr (.inl ⟨s1, .refl hb⟩)
      · exact .inl s1
    · rcases s with s | ⟨s1, s2⟩ | ⟨s1, s2⟩
      · exact .inr (.inr ⟨s, .refl ha⟩)
      · exact .inl s1
      · exact .inr (.inr ⟨s1, .refl ha⟩)
  · have up : ∀ {x y}, Rch L m x y → Rch (L ++ [((a : Int), (b : Int))]) m x y := fun h => h.ties fun x y z => adj_snocN.mpr (.inl z)
    rintro (h | ⟨h1, h2⟩ | ⟨h1, h2⟩)
    · exact up h
    · exact (Rch.step (up h1) (adj_snocN.mpr (.inr (.inl ⟨rfl, rfl⟩))) hb).trans (up h2)
    · exact (Rch.step (up h1) (adj_snocN.mpr (.inr (.inr ⟨rfl, rfl⟩))) ha).trans (up h2)
/-! ### lists that ascend -/
theorem inc_eq {α : Type} (f : α → Nat) : ∀ {l m : List α}, (l.Pairwise fun a b => f a < f b) → (m.Pairwise fun a b => f a < f b) → (∀ x, x ∈ l ↔ x ∈ m) → l = m
  | [], [], _, _, _ => rfl
  | [], y :: m, _, _, h => absurd ((h y).mpr (List.mem_cons_self ..)) (by simp)
  | x :: l, [], _, _, h => absurd ((h x).mp (List.mem_cons_self ..)) (by simp)
  | x :: l, y :: m, hl, hm, h => by
    obtain ⟨l1, l2⟩ := List.pairwise_cons.mp hl
    obtain ⟨m1, m2⟩ := List.pairwise_cons.mp hm
    have e : x = y := by
      rcases List.mem_cons.mp ((h x).mp (List.mem_cons_self ..)) with e | z1
      · exact e
      · rcases List.mem_cons.mp ((h y).mpr (List.mem_cons_self ..)) with e | z2
        · exact e.symm
        · have := m1 x z1
          have := l1 y z2
          omega
    subst e
    rw [inc_eq f l2 m2 fun z => ?_]
    constructor
    · intro hz
      rcases List.mem_cons.mp ((h z).mp (List.mem_cons_of_mem _ hz)) with e | y
      · have := l1 z hz
        rw [e] at this
        omega
      · exact y
    · intro hz
      rcases List.mem_cons.mp ((h z).mpr (List.mem_cons_of_mem _ hz)) with e | y
      · have := m1 z hz
        rw [e] at this
        omega
      · exact y
/-! ### classes -/
/-- xs are the classes of places, in some order -/
structure Cls (L : List (Int × Int)) (m : Nat) (xs : List (List Nat)) : Prop where
  inc : ∀ c ∈ xs, c.Pairwise (· < ·)
  cls : ∀ c ∈ xs, ∃ r, m.testBit r = true ∧ ∀ i, i ∈ c ↔ Rch L m r i
  all : ∀ i, m.testBit i = true → ∃ c ∈ xs, i ∈ c
  dis : xs.Pairwise fun a b => ∀ i, i ∈ a → i ∉ b
abbrev hd (c : List Nat) : Nat := c.headD 0
theorem Cls.ne {L : List (Int × Int)} {m : Nat} {xs : List (List Nat)} (C : Cls L m xs) {c : List Nat} (h : c ∈ xs) : c ≠ [] := by
  obtain ⟨r, hr, hc⟩ := C.cls c h
  intro e
  have := (hc r).mpr (.refl hr)
  rw [e] at this
  cases this
/-- a class is told by one of its places -/
theorem Cls.one {L : List (Int × Int)} {m : Nat} {xs : List (List Nat)} (C : Cls L m xs) {c : List Nat} (h : c ∈ xs) {r : Nat} (hr : r ∈ c) (i : Nat) : i ∈ c ↔ Rch L m r i := by
  obtain ⟨q, hq, hc⟩ := C.cls c h
  have z := (hc r).mp hr
  rw [hc i]
  exact ⟨fun y => z.symm.trans y, fun y => z.trans y⟩
theorem Cls.uniq {L : List (Int × Int)} {m : Nat} {xs ys : List (List Nat)} (C : Cls L m xs) (D : Cls L m ys) {c : List Nat} (h : c ∈ xs) : c ∈ ys := by
  obtain ⟨r, hr, hc⟩ := C.cls c h
  obtain ⟨d, hd, hrd⟩ := D.all r hr
  have e : c = d := inc_eq id (C.inc c h) (D.inc d hd) fun i => by rw [hc i, D.one hd hrd i]
  rw [e]
  exact hd
theorem Cls.eq {L : List (Int × Int)} {m : Nat} {xs ys : List (List Nat)} (C : Cls L m xs) (D : Cls L m ys) (h1 : xs.Pairwise fun a b => hd a < hd b) (h2 : ys.Pairwise fun a b => hd a < hd b) : xs = ys :=
  inc_eq hd h1 h2 fun _ => ⟨C.uniq D, D.uniq C⟩
theorem Cls.ties {L M : List (Int × Int)} {m : Nat} {xs : List (List Nat)} (C : Cls L m xs) (s : ∀ x y, Adj L x y ↔ Adj M x y) : Cls M m xs := by
  refine ⟨C.inc, fun c hc => ?_, C.all, C.dis⟩
  obtain ⟨r, hr, h⟩ := C.cls c hc
  exact ⟨r, hr, fun i => (h i).trans ⟨fun z => z.ties fun x y => (s x y).mp, fun z => z.ties fun x y => (s x y).mpr⟩⟩
theorem Cls.perm {L : List (Int × Int)} {m : Nat} {xs ys : List (List Nat)} (C : Cls L m xs) (p : ys.Perm xs) : Cls L m ys := by
  refine ⟨fun c hc => C.inc c (p.mem_iff.mp hc), fun c hc => C.cls c (p.mem_iff.mp hc), fun i hi => ?_, ?_⟩
  · obtain ⟨c, hc, h⟩ := C.all i hi
    exact ⟨c, p.mem_iff.mpr hc, h⟩
  · exact (p.symm.pairwise_iff (fun {a b} h i hb ha => h i ha hb)).mp C.dis
/-- at the beginning each place is its own class -/
theorem Cls.start (n : Nat) : Cls [] (2 ^ n - 1) ((List.range n).map fun i => [i]) := by
  have adj : ∀ x y, ¬ Adj [] x y := fun x y h => by unfold Adj at h; simp at h
  refine ⟨fun c hc => ?_, fun c hc => ?_, fun i hi => ?_, ?_⟩
  · obtain ⟨i, _, rfl⟩ := List.mem_map.mp hc
    exact List.pairwise_singleton ..
  · obtain ⟨i, hi, rfl⟩ := List.mem_map.mp hc
    have hb : (2 ^ n - 1).testBit i = true := by rw [full_bit]; exact decide_eq_true (List.mem_range.mp hi)
    refine ⟨i, hb, fun j => ⟨fun h => ?_, fun h => ?_⟩⟩
    · rw [List.mem_singleton.mp h]
      exact .refl hb
    · cases h with
      | refl _ => exact List.mem_singleton.mpr rfl
      | step _ a _ => exact absurd a (adj _ _)
  · rw [full_bit, decide_eq_true_eq] at hi
    exact ⟨[i], List.mem_map.mpr ⟨i, List.mem_range.mpr hi, rfl⟩, List.mem_singleton.mpr rfl⟩
  · rw [List.pairwise_map]
    refine List.pairwise_lt_range.imp fun {a b} h i ha hb => ?_
    rw [List.mem_singleton] at ha hb
    omega
/-- a class that holds neither end stays as it is -/
theorem Cls.far {L : List (Int × Int)} {m : Nat} {xs : List (List Nat)} (C : Cls L m xs) {a b : Nat} (ha : m.testBit a = true) (hb : m.testBit b = true) {c : List Nat} (h : c ∈ xs) (na : a ∉ c) (nb : b ∉ c) :
    ∃ r, m.testBit r = true ∧ ∀ i, i ∈ c ↔ Rch (L ++ [((a : Int), (b : Int))]) m r i := by
  obtain ⟨r, hr, hc⟩ := C.cls c h
  refine ⟨r, hr, fun i => ?_⟩
  rw [rch_snoc ha hb, hc i]
  exact ⟨.inl, fun z => z.resolve_right fun y => y.elim (fun y => na ((hc a).mpr y.1)) fun y => nb ((hc b).mpr y.1)⟩
/-- the tie lies within a class -/
theorem Cls.stay {L : List (Int × Int)} {m : Nat} {xs : List (List Nat)} (C : Cls L m xs) {a b : Nat} (ha : m.testBit a = true) (hb : m.testBit b = true) (h : Rch L m a b) : Cls (L ++ [((a : Int), (b : Int))]) m xs := by
  refine ⟨C.inc, fun c hc => ?_, C.all, C.dis⟩
  obtain ⟨r, hr, e⟩ := C.cls c hc
  refine ⟨r, hr, fun i => ?_⟩
  rw [rch_snoc ha hb, e i]
  refine ⟨.inl, fun z => ?_⟩
  rcases z with z | ⟨z1, z2⟩ | ⟨z1, z2⟩
  · exact z
  · exact (z1.trans h).trans z2
  · exact (z1.trans h.symm).trans z2
/-- .. or joins two of them -/
theorem Cls.join {L : List (Int × Int)} {m : Nat} {ys : List (List Nat)} {c d e : List Nat} (C : Cls L m (c :: d :: ys)) {a b : Nat} (ha : a ∈ c) (hb : b ∈ d) (he : e.Pairwise (· < ·)) (em : ∀ i, i ∈ e ↔ i ∈ c ∨ i ∈ d) :
    Cls (L ++ [((a : Int), (b : Int))]) m (ys ++ [e]) := by
  have hc : c ∈ c :: d :: ys := List.mem_cons_self ..
  have hd : d ∈ c :: d :: ys := List.mem_cons_of_mem _ (List.mem_cons_self ..)
  have ba : m.testBit a = true := ((C.one hc ha a).mp ha).bit
  have bb : m.testBit b = true := ((C.one hd hb b).mp hb).bit
  obtain ⟨d1, d2⟩ := List.pairwise_cons.mp C.dis
  obtain ⟨d3, d4⟩ := List.pairwise_cons.mp d2
  refine ⟨fun x hx => ?_, fun x hx => ?_, fun i hi => ?_, ?_⟩
  · rcases List.mem_append.mp hx with hx | hx
    · exact C.inc x (List.mem_cons_of_mem _ (List.mem_cons_of_mem _ hx))
    · rw [List.mem_singleton.mp hx]
      exact he
  · rcases List.mem_append.mp hx with hx | hx
    · exact C.far ba bb (List.mem_cons_of_mem _ (List.mem_cons_of_mem _ hx)) (d1 x (List.mem_cons_of_mem _ hx) a ha) (d3 x hx b hb)
    · rw [List.mem_singleton.mp hx]
      refine ⟨a, ba, fun i => ?_⟩
      rw [rch_snoc ba bb, em i, C.one hc ha i, C.one hd hb i]
      constructor
      · rintro (z | z)
        · exact .inl z
        · exact .inr (.inl ⟨.refl ba, z⟩)
      · rintro (z | ⟨_, z⟩ | ⟨_, z⟩)
        · exact .inl z
        · exact .inr z
        · exact .inl z
  · obtain ⟨x, hx, h⟩ := C.all i hi
    rcases List.mem_cons.mp hx with rfl | hx
    · exact ⟨e, List.mem_append_right _ (List.mem_singleton.mpr rfl), (em i).mpr (.inl h)⟩
    rcases List.mem_cons.mp hx with rfl | hx
    · exact ⟨e, List.mem_append_right _ (List.mem_singleton.mpr rfl), (em i).mpr (.inr h)⟩
    · exact ⟨x, List.mem_append_left _ hx, h⟩
  · refine List.pairwise_append.mpr ⟨d4, List.pairwise_singleton .., fun x hx y hy i hi => ?_⟩
    rw [List.mem_singleton.mp hy, em i]
    rintro (z | z)
    · exact d1 x (List.mem_cons_of_mem _ hx) i z hi
    · exact d3 x hx i z hi
/-- the program's parts -/
theorem Parts.cls {L : List (Int × Int)} {m : Nat} {ps : List (Nat × Nat)} (P : Parts L m ps) (hm : m < 2 ^ 12) : Cls L m (ps.map fun q => lotN q.2) ∧ (ps.map fun q => lotN q.2).Pairwise fun a b => hd a < hd b := by
  have lt : ∀ q ∈ ps, q.2 < 2 ^ 12 := fun q hq => Nat.lt_of_le_of_lt (sub_le fun i z => (((P.part q hq).2.1 i).mp z).bit) hm
  have mem : ∀ q ∈ ps, ∀ i, i ∈ lotN q.2 ↔ Rch L m q.1 i := fun q hq i => (lotN_mem (lt q hq)).trans ((P.part q hq).2.1 i)
  have hdq : ∀ q ∈ ps, hd (lotN q.2) = q.1 := fun q hq => by
    have h1 : q.1 ∈ lotN q.2 := (mem q hq _).mpr (.refl (P.part q hq).1)
    have h2 := lotN_inc q.2
    cases e : lotN q.2 with
    | nil => rw [e] at h1; cases h1
    | cons x t =>
      rw [e] at h1 h2
      have h3 : q.1 ≤ x := (P.part q hq).2.2 x ((lotN_mem (lt q hq)).mp (by rw [e]; exact List.mem_cons_self ..))
      show x = q.1
      rcases List.mem_cons.mp h1 with z | z
      · exact z.symm
      · have := (List.pairwise_cons.mp h2).1 _ z
        omega
  refine ⟨⟨fun c hc => ?_, fun c hc => ?_, fun i hi => ?_, ?_⟩, ?_⟩
  · obtain ⟨q, _, rfl⟩ := List.mem_map.mp hc
    exact lotN_inc _
  · obtain ⟨q, hq, rfl⟩ := List.mem_map.mp hc
    exact ⟨q.1, (P.part q hq).1, mem q hq⟩
  · obtain ⟨q, hq, h⟩ := P.all i hi
    exact ⟨_, List.mem_map.mpr ⟨q, hq, rfl⟩, (lotN_mem (lt q hq)).mpr h⟩
  · rw [List.pairwise_map]
    refine List.Pairwise.imp_of_mem (fun {p q} hp hq h i h1 h2 => ?_) P.inc
    have z1 := (mem p hp i).mp h1
    have z2 := (mem q hq i).mp h2
    have z3 := (P.part q hq).2.2 p.1 (((P.part q hq).2.1 p.1).mpr (z2.trans z1.symm))
    omega
  · rw [List.pairwise_map]
    refine List.Pairwise.imp_of_mem (fun {p q} hp hq h => ?_) P.inc
    show hd (lotN p.2) < hd (lotN q.2)
    rw [hdq p hp, hdq q hq]
    exact h
end K0

/-! Parts behind a renaming of some places; how many places they have; lots of parts. -/
namespace K0
/-! ### indices -/
theorem idxOf_ne {k a : Nat} (ks : List Nat) (h : k ≠ a) : (k :: ks).idxOf a = ks.idxOf a + 1 := by
  rw [List.idxOf_cons]
  have e : (k == a) = false := by simpa using h
  rw [e] <;> rfl
theorem idx_mono : ∀ {ks : List Nat}, ks.Pairwise (· < ·) → ∀ {i j : Nat}, i ∈ ks → j ∈ ks → i < j → ks.idxOf i < ks.idxOf j
  | [], _, _, _, h, _, _ => nomatch h
  | k :: ks, p, i, j, hi, hj, lt => by
    obtain ⟨p1, p2⟩ := List.pairwise_cons.mp p
    rcases List.mem_cons.mp hi with rfl | hi
    · rw [List.idxOf_cons_self]
      rcases List.mem_cons.mp hj with rfl | hj
      · omega
      · rw [idxOf_ne _ (fun z => by omega)]
        omega
    · have := p1 i hi
      rcases List.mem_cons.mp hj with rfl | hj
      · omega
      · rw [idxOf_ne _ (fun z => by omega), idxOf_ne _ (fun z => by omega)]
        have := idx_mono p2 hi hj lt
        omega
theorem idx_at {ks : List Nat} (p : ks.Pairwise (· < ·)) {x a : Nat} (h : ks[x]? = some a) : ks.idxOf a = x := by
  induction ks generalizing x with
  | nil => cases h
  | cons k ks ih =>
    obtain ⟨p1, p2⟩ := List.pairwise_cons.mp p
    cases x with
    | zero =>
      cases h
      exact List.idxOf_cons_self
    | succ x =>
      have h : ks[x]? = some a := h
      have := p1 a (List.mem_of_getElem? h)
      rw [idxOf_ne _ (fun z => by omega), ih p2 h]
theorem at_idx {ks : List Nat} {a : Nat} (h : a ∈ ks) : ks[ks.idxOf a]? = some a := by
  induction ks with
  | nil => cases h
  | cons k ks ih =>
    by_cases e : k = a
    · subst e
      rw [List.idxOf_cons_self] <;> rfl
    · rw [idxOf_ne _ e, List.getElem?_cons_succ]
      exact ih ((List.mem_cons.mp h).resolve_left fun z => e z.symm)
theorem idx_lt {ks : List Nat} {a : Nat} (h : a ∈ ks) : ks.idxOf a < ks.length := List.idxOf_lt_length_of_mem h
/-- L' is what L is within ks, its places called by their indices -/
def Ren (L M : List (Int × Int)) (ks : List Nat) : Prop := ∀ x y, Adj M x y ↔ ∃ a b, ks[x]? = some a ∧ ks[y]? = some b ∧ Adj L a b
section
variable {L M : List (Int × Int)} {ks : List Nat} {m : Nat}
theorem Ren.go (R : Ren L M ks) (hm : ∀ i, m.testBit i = true ↔ i ∈ ks) {a b : Nat} (h : Rch L m a b) : Rch M (2 ^ ks.length - 1) (ks.idxOf a) (ks.idxOf b) := by
  induction h with
  | refl h => exact .refl (by rw [full_bit]; exact decide_eq_true (idx_lt ((hm _).mp h)))
  | @step b c s a k ih => exact .step ih ((R _ _).mpr ⟨b, c, at_idx ((hm _).mp s.bit), at_idx ((hm _).mp k), a⟩) (by rw [full_bit]; exact decide_eq_true (idx_lt ((hm _).mp k)))
theorem Ren.back (p : ks.Pairwise (· < ·)) (R : Ren L M ks) (hm : ∀ i, m.testBit i = true ↔ i ∈ ks) {x y a : Nat} (h : Rch M (2 ^ ks.length - 1) x y) (ha : ks[x]? = some a) : ∃ b, ks[y]? = some b ∧ Rch L m a b := by
  refine h.closed (S := fun y => ∃ b, ks[y]? = some b ∧ Rch L m a b) ⟨a, ha, .refl ((hm a).mpr (List.mem_of_getElem? ha))⟩ ?_
  rintro u v ⟨b, hb, s⟩ ad _
  obtain ⟨b', c, e1, e2, al⟩ := (R u v).mp ad
  rw [hb] at e1
  cases e1
  exact ⟨c, e2, .step s al ((hm c).mpr (List.mem_of_getElem? e2))⟩
/-- the classes, renamed -/
theorem Cls.ren {xs : List (List Nat)} (C : Cls L m xs) (p : ks.Pairwise (· < ·)) (R : Ren L M ks) (hm : ∀ i, m.testBit i = true ↔ i ∈ ks) : Cls M (2 ^ ks.length - 1) (xs.map fun c => c.map ks.idxOf) := by
  have inK : ∀ c ∈ xs, ∀ i ∈ c, i ∈ ks := fun c hc i hi => by
    obtain ⟨r, _, h⟩ := C.cls c hc
    exact (hm i).mp ((h i).mp hi).bit
  have inj : ∀ i ∈ ks, ∀ j ∈ ks, ks.idxOf i = ks.idxOf j → i = j := fun i hi j hj e => by
    have h1 := at_idx hi
    rw [e, at_idx hj] at h1
    exact (Option.some.inj h1).symm
  refine ⟨fun c hc => ?_, fun c hc => ?_, fun i hi => ?_, ?_⟩
  · obtain ⟨d, hd, rfl⟩ := List.mem_map.mp hc
    rw [List.pairwise_map]
    exact List.Pairwise.imp_of_mem (fun {a b} ha hb h => idx_mono p (inK d hd a ha) (inK d hd b hb) h) (C.inc d hd)
  · obtain ⟨d, hd, rfl⟩ := List.mem_map.mp hc
    obtain ⟨r, hr, h⟩ := C.cls d hd
    have rk := (hm r).mp hr
    refine ⟨ks.idxOf r, by rw [full_bit]; exact decide_eq_true (idx_lt rk), fun i => ⟨fun z => ?_, fun z => ?_⟩⟩
    · obtain ⟨j, hj, rfl⟩ := List.mem_map.mp z
      exact R.go hm ((h j).mp hj)
    · obtain ⟨b, hb, s⟩ := R.back p hm z (at_idx rk)
      exact List.mem_map.mpr ⟨b, (h b).mpr s, idx_at p hb⟩
  · rw [full_bit, decide_eq_true_eq] at hi
    have e := List.getElem?_eq_getElem hi
    obtain ⟨c, hc, h⟩ := C.all _ ((hm _).mpr (List.getElem_mem hi))
    exact ⟨_, List.mem_map.mpr ⟨c, hc, rfl⟩, List.mem_map.mpr ⟨_, h, idx_at p e⟩⟩
  · rw [List.pairwise_map]
    refine List.Pairwise.imp_of_mem (fun {c d} hc hd h i h1 h2 => ?_) C.dis
    obtain ⟨j, hj, rfl⟩ := List.mem_map.mp h1
    obtain ⟨k, hk, e⟩ := List.mem_map.mp h2
    rw [inj k (inK d hd k hk) j (inK c hc j hj) e] at hk
    exact h j hj hk
theorem hd_map {c : List Nat} (h : c ≠ []) (f : Nat → Nat) : hd (c.map f) = f (hd c) := by
  cases c with
  | nil => exact absurd rfl h
  | cons x t => rfl
theorem hd_mem {c : List Nat} (h : c ≠ []) : hd c ∈ c := by
  cases c with
  | nil => exact absurd rfl h
  | cons x t => exact List.mem_cons_self ..
theorem Cls.ren_hd {xs : List (List Nat)} (C : Cls L m xs) (p : ks.Pairwise (· < ·)) (hm : ∀ i, m.testBit i = true ↔ i ∈ ks) (h : xs.Pairwise fun a b => hd a < hd b) : (xs.map fun c => c.map ks.idxOf).Pairwise fun a b => hd a < hd b := by
  have inK : ∀ c ∈ xs, ∀ i ∈ c, i ∈ ks := fun c hc i hi => by
    obtain ⟨r, _, h⟩ := C.cls c hc
    exact (hm i).mp ((h i).mp hi).bit
  rw [List.pairwise_map]
  refine List.Pairwise.imp_of_mem (fun {c d} hc hd' h => ?_) h
  rw [hd_map (C.ne hc), hd_map (C.ne hd')]
  exact idx_mono p (inK c hc _ (hd_mem (C.ne hc))) (inK d hd' _ (hd_mem (C.ne hd'))) h
/-- a class of the whole web alone -/
theorem Cls.alone {xs : List (List Nat)} (C : Cls L m xs) {c : List Nat} (hc : c ∈ xs) {k : Nat} (hk : ∀ i, k.testBit i = true ↔ i ∈ c) : Cls L k [c] := by
  obtain ⟨r, hr, h⟩ := C.cls c hc
  have sub : ∀ i, k.testBit i = true → m.testBit i = true := fun i z => ((h i).mp ((hk i).mp z)).bit
  refine ⟨fun x hx => by rw [List.mem_singleton.mp hx]; exact C.inc c hc, fun x hx => ?_, fun i hi => ⟨c, List.mem_singleton.mpr rfl, (hk i).mp hi⟩, List.pairwise_singleton ..⟩
  rw [List.mem_singleton.mp hx]
  have rc : r ∈ c := (h r).mpr (.refl hr)
  refine ⟨r, (hk r).mpr rc, fun i => ⟨fun z => ?_, fun z => (h i).mpr (z.mono sub)⟩⟩
  have z := (h i).mp z
  refine (z.closed (S := fun i => Rch L m r i ∧ Rch L k r i) ⟨.refl hr, .refl ((hk r).mpr rc)⟩ fun x y s a b => ?_).2
  have z2 : Rch L m r y := .step s.1 a b
  exact ⟨z2, .step s.2 a ((hk y).mpr ((h y).mpr z2))⟩
end
/-! ### how many -/
theorem len_le {α : Type} [DecidableEq α] : ∀ {l m : List α}, l.Nodup → (∀ x ∈ l, x ∈ m) → l.length ≤ m.length
  | [], m, _, _ => Nat.zero_le _
  | x :: l, m, nd, s => by
    obtain ⟨n1, n2⟩ := List.nodup_cons.mp nd
    have hx := s x (List.mem_cons_self ..)
    have := len_le (m := m.erase x) n2 fun y hy => (List.mem_erase_of_ne (fun e => n1 (by rw [← e]; exact hy))).mpr (s y (List.mem_cons_of_mem _ hy))
    rw [List.length_erase_of_mem hx] at this
    have : 0 < m.length := List.length_pos_of_mem hx
    rw [List.length_cons]
    omega
theorem inc_nodup {l : List Nat} (h : l.Pairwise (· < ·)) : l.Nodup := h.imp fun {a b} z e => by omega
theorem Cls.flat {L : List (Int × Int)} {m : Nat} {xs : List (List Nat)} (C : Cls L m xs) : xs.flatten.Nodup := by
  have i := C.inc
  have d := C.dis
  clear C
  induction xs with
  | nil => exact List.nodup_nil
  | cons c xs ih =>
    obtain ⟨d1, d2⟩ := List.pairwise_cons.mp d
    rw [List.flatten_cons]
    refine List.nodup_append.mpr ⟨inc_nodup (i c (List.mem_cons_self ..)), ih (fun y hy => i y (List.mem_cons_of_mem _ hy)) d2, fun x hx y hy e => ?_⟩
    obtain ⟨z, hz, h⟩ := List.mem_flatten.mp hy
    rw [e] at hx
    exact d1 z hz y hx h
theorem Cls.len {L : List (Int × Int)} {m : Nat} {xs : List (List Nat)} (C : Cls L m xs) {ks : List Nat} (nk : ks.Nodup) (hm : ∀ i, m.testBit i = true ↔ i ∈ ks) : (xs.map List.length).sum = ks.length := by
  rw [← List.length_flatten]
  refine Nat.le_antisymm (len_le C.flat fun x hx => ?_) (len_le nk fun x hx => ?_)
  · obtain ⟨c, hc, h⟩ := List.mem_flatten.mp hx
    obtain ⟨r, _, e⟩ := C.cls c hc
    exact (hm x).mp ((e x).mp h).bit
  · obtain ⟨c, hc, h⟩ := C.all x ((hm x).mpr hx)
    exact List.mem_flatten.mpr ⟨c, hc, h⟩
theorem odd_sum : ∀ xs : List (List Nat), (xs.map fun c => c.length % 2).sum = (xs.filter fun c => c.length % 2 == 1).length
  | [] => rfl
  | c :: xs => by
    rw [List.map_cons, List.sum_cons, odd_sum xs]
    rcases Nat.mod_two_eq_zero_or_one c.length with e | e
    · rw [List.filter_cons_of_neg (by rw [e]; decide), e]
      omega
    · rw [List.filter_cons_of_pos (by rw [e]; decide), e, List.length_cons]
      omega
theorem odd_mod : ∀ xs : List (List Nat), (xs.map fun c => c.length % 2).sum % 2 = (xs.map List.length).sum % 2
  | [] => rfl
  | c :: xs => by
    have := odd_mod xs
    simp only [List.map_cons, List.sum_cons]
    omega
/-! ### lots and parts -/
/-- a part that has places in the lot, and places that are not -/
def brk (ks c : List Nat) : Bool := decide (0 < (c.filter fun i => decide (i ∈ ks)).length) && decide ((c.filter fun i => decide (i ∈ ks)).length < c.length)
theorem brk_no {ks c : List Nat} : brk ks c = false ↔ (∀ i ∈ c, i ∉ ks) ∨ ∀ i ∈ c, i ∈ ks := by
  have h1 : (c.filter fun i => decide (i ∈ ks)).length ≤ c.length := List.length_filter_le ..
  have h2 : (c.filter fun i => decide (i ∈ ks)).length = c.length ↔ ∀ i ∈ c, i ∈ ks := by
    rw [List.length_filter_eq_length_iff]
    exact ⟨fun h i hi => of_decide_eq_true (h i hi), fun h i hi => decide_eq_true (h i hi)⟩
  have h3 : (c.filter fun i => decide (i ∈ ks)).length = 0 ↔ ∀ i ∈ c, i ∉ ks := by
    rw [List.length_eq_zero_iff, List.filter_eq_nil_iff]
    exact ⟨fun h i hi z => h i hi (decide_eq_true z), fun h i hi z => h i hi (of_decide_eq_true z)⟩
  unfold brk
  rw [Bool.and_eq_false_iff, decide_eq_false_iff_not, decide_eq_false_iff_not, ← h2, ← h3]
  omega
theorem Cls.brk {L : List (Int × Int)} {m : Nat} {xs : List (List Nat)} (C : Cls L m xs) (hm : ∀ x y, Adj L x y → m.testBit x = true ∧ m.testBit y = true) (ks : List Nat) :
    xs.filter (brk ks) = [] ↔ ∀ x y, Adj L x y → (x ∈ ks ↔ y ∈ ks) := by
  rw [List.filter_eq_nil_iff]
  constructor
  · intro h x y a
    obtain ⟨hx, hy⟩ := hm x y a
    obtain ⟨c, hc, xc⟩ := C.all x hx
    have yc : y ∈ c := (C.one hc xc y).mpr (.step (.refl hx) a hy)
    have z : K0.brk ks c = false := by
      cases q : K0.brk ks c with
      | false => rfl
      | true => exact absurd q (h c hc)
    rcases brk_no.mp z with z | z
    · exact ⟨fun q => absurd q (z x xc), fun q => absurd q (z y yc)⟩
    · exact ⟨fun _ => z y yc, fun _ => z x xc⟩
  · intro h c hc q
    obtain ⟨r, hr, e⟩ := C.cls c hc
    have go : ∀ i ∈ c, (r ∈ ks ↔ i ∈ ks) := fun i hi => ((e i).mp hi).closed (S := fun i => r ∈ ks ↔ i ∈ ks) Iff.rfl fun x y s a _ => s.trans (h x y a)
    have z : K0.brk ks c = false := by
      rw [brk_no]
      by_cases hr : r ∈ ks
      · exact .inr fun i hi => (go i hi).mp hr
      · exact .inl fun i hi z => hr ((go i hi).mpr z)
    rw [z] at q
    cases q
/-! ### masks of lots -/
theorem add_or : ∀ (n x y : Nat), x < 2 ^ n → (∀ i, x.testBit i = true → y.testBit i = false) → x + y = x ||| y
  | 0, x, y, h, _ => by
    have : x = 0 := by omega
    subst this
    rw [Nat.zero_add, Nat.zero_or]
  | n + 1, x, y, h, d => by
    have ih := add_or n (x / 2) (y / 2) (by rw [Nat.pow_succ] at h; omega) fun i hi => by
      rw [Nat.testBit_div_two] at hi ⊢
      exact d _ hi
    have e : (x ||| y) / 2 = x / 2 ||| y / 2 := Nat.or_div_two
    have b0 : (x ||| y) % 2 = x % 2 + y % 2 := by
      have h0 := d 0
      have z : (x ||| y).testBit 0 = (x.testBit 0 || y.testBit 0) := Nat.testBit_or ..
      rw [Nat.testBit_zero, Nat.testBit_zero] at h0
      rw [Nat.testBit_zero, Nat.testBit_zero, Nat.testBit_zero] at z
      simp only [decide_eq_true_eq, decide_eq_false_iff_not] at h0
      rcases Nat.mod_two_eq_zero_or_one x with hx | hx <;> rcases Nat.mod_two_eq_zero_or_one y with hy | hy <;> rw [hx, hy] at z ⊢ <;> rcases Nat.mod_two_eq_zero_or_one (x ||| y) with hz | hz <;> rw [hz] at z ⊢ <;> simp_all
    have q1 := Nat.div_add_mod x 2
    have q2 := Nat.div_add_mod y 2
    have q3 := Nat.div_add_mod (x ||| y) 2
    rw [e, ← ih, b0] at q3
    omega
/-- the mask of places -/
def maskN (ks : List Nat) : Nat := (ks.map fun i => 2 ^ i).sum
theorem mask_bit : ∀ {ks : List Nat}, ks.Nodup → ∀ i, (maskN ks).testBit i = true ↔ i ∈ ks
  | [], _, i => by
    show (0 : Nat).testBit i = true ↔ _
    rw [Nat.zero_testBit]
    simp
  | k :: ks, nd, i => by
    obtain ⟨n1, n2⟩ := List.nodup_cons.mp nd
    have ih := mask_bit n2
    have e : maskN (k :: ks) = 2 ^ k ||| maskN ks := by
      show 2 ^ k + maskN ks = _
      refine add_or (k + 1) _ _ (Nat.pow_lt_pow_right (by decide) (by omega)) fun j hj => ?_
      rw [Nat.testBit_two_pow, decide_eq_true_eq] at hj
      subst hj
      cases q : (maskN ks).testBit k with
      | false => rfl
      | true => exact absurd ((ih k).mp q) n1
    rw [e, Nat.testBit_or, Bool.or_eq_true, ih i, Nat.testBit_two_pow, decide_eq_true_eq, List.mem_cons]
    exact or_congr_left ⟨fun z => z.symm, fun z => z.symm⟩
theorem mask_lt {ks : List Nat} (nd : ks.Nodup) {n : Nat} (h : ∀ i ∈ ks, i < n) : maskN ks < 2 ^ n := by
  refine Nat.lt_of_le_of_lt (sub_le (b := 2 ^ n - 1) fun i hi => ?_) (Nat.sub_lt (Nat.two_pow_pos n) (by decide))
  rw [full_bit]
  exact decide_eq_true (h i ((mask_bit nd i).mp hi))
theorem mask_sum : ∀ xs : List (List Nat), (xs.map maskN).sum = maskN xs.flatten
  | [] => rfl
  | c :: xs => by
    rw [List.map_cons, List.sum_cons, mask_sum xs, List.flatten_cons]
    unfold maskN
    rw [List.map_append, List.sum_append]
end K0

set_option Elab.async false
set_option linter.all false
set_option maxRecDepth 100000
set_option maxHeartbeats 8000000
/-! Closed rings; sides. -/
namespace K0
open PySem PySem.Spec L2
open PyProof.Rows hiding St
/-! ### tuples put together, by what they hold -/
theorem cut_all (xs : List V) {lo hi : Option Int} (h : HT.sIx xs.length 0 lo = 0 ∧ HT.sIx xs.length xs.length hi = xs.length) : cutV xs lo hi = xs := by
  unfold cutV
  rw [h.1, h.2, List.drop_zero, Nat.sub_zero, List.take_length]
def rCatX : R2 := fun x y H Q => ∃ a b xs ys, x = .ref a ∧ y = .ref b ∧ H a = some (.tup xs) ∧ H b = some (.tup ys) ∧ xs.length + ys.length ≤ sizeLine ∧ ∀ (p : Addr) (H' : Hp), Same H H' → H' p = some (.tup (xs ++ ys)) → Q (.ref p) H'
def rSlX' : V → Option Int → Option Int → Hp → VK → Prop := fun x lo hi H Q => ∃ a xs, x = .ref a ∧ H a = some (.tup xs) ∧ ∀ (p : Addr) (H' : Hp), Same H H' → H' p = some (.tup (cutV xs lo hi)) → Q (.ref p) H'
section
variable {X : Cx}
theorem op_catX : OpR X (binaryOp .Add) rCatX := fun pins s σ H x y v u Q I rx ry h => by
  obtain ⟨a, b, xs, ys, rfl, rfl, ha, hb, hl, q⟩ := h
  refine op_catA pins s σ H _ _ v u Q I rx ry ⟨a, b, xs, ys, rfl, rfl, SqT.of ha, SqT.of hb, hl, fun e => ?_, fun _ e => ?_, fun _ _ p hp => ?_⟩
  · subst e; exact q b H (Same.refl _) hb
  · subst e; exact q a H (Same.refl _) (by rw [List.append_nil]; exact ha)
  · exact q p _ (same_new hp) upd_same
theorem sl_X : SlR X rSlX' := fun pins s σ H x v vl vu lo hi sl Q I rx hs pl pu h => by
  obtain ⟨a, xs, rfl, ha, q⟩ := h
  refine sl_tupA pins s σ H _ v vl vu lo hi sl Q I rx hs pl pu ⟨a, xs, rfl, SqT.of ha, fun e => ?_, fun _ p hp => ?_⟩
  · exact q a H (Same.refl _) (by rw [cut_all xs e]; exact ha)
  · exact q p _ (same_new hp) upd_same
end
theorem cut_ints (ns : List Int) (lo hi : Option Int) : ∃ ms : List Int, cutV (ns.map V.int) lo hi = ms.map V.int ∧ ms.length ≤ ns.length := by
  refine ⟨(ns.drop (HT.sIx (ns.map V.int).length 0 lo)).take (HT.sIx (ns.map V.int).length (ns.map V.int).length hi - HT.sIx (ns.map V.int).length 0 lo), ?_, ?_⟩
  · unfold cutV
    rw [List.map_take, List.map_drop]
  · rw [List.length_take, List.length_drop]
    omega
def spClosed : Sp := fun vs H Q _ => ∃ (a b : Addr) (i : Int) (ns ms : List Int), vs = [.ref a, .int i, .ref b] ∧ H a = some (.tup (ns.map V.int)) ∧ H b = some (.tup (ms.map V.int)) ∧ ns.length ≤ 1000 ∧ ms.length ≤ 1000 ∧ ∀ (p : Addr) (ks : List Int) (H' : Hp), Same H H' → H' p = some (.tup (ks.map V.int)) → Q (.ref p) H'
section
variable {P : Program} {w0 : World} {K : PySem.W.Frag} {mg : Str → Option Value} {base : Heap}
abbrev nClosed : List Str := ["near", "number", "far", "same"]
end
end K0

set_option Elab.async false
set_option linter.all false
set_option maxRecDepth 100000
set_option maxHeartbeats 8000000
/-! Sides. -/
namespace K0
open PySem PySem.Spec L2
open PyProof.Rows hiding St
theorem put_mem {kvs : List (Key × V)} {k : Key} {v : V} {kv : Key × V} (h : kv ∈ putK kvs k v) : kv ∈ kvs ∨ kv = (k, v) := by
  unfold putK at h
  split at h
  · obtain ⟨p, hp, e⟩ := List.mem_map.mp h
    by_cases c : p.1 = k
    · rw [if_pos c] at e
      exact .inr (by rw [← e, c])
    · rw [if_neg c] at e
      exact .inl (e ▸ hp)
  · rcases List.mem_append.mp h with z | z
    · exact .inl z
    · exact .inr (List.mem_singleton.mp z)
theorem merge_mem : ∀ {more kvs : List (Key × V)} {kv : Key × V}, kv ∈ mergeK kvs more → kv ∈ kvs ∨ kv ∈ more
  | [], _, _, h => .inl h
  | p :: r, kvs, kv, h => by
    rcases merge_mem (more := r) (kvs := putK kvs p.1 p.2) h with z | z
    · rcases put_mem z with y | y
      · exact .inl y
      · exact .inr (by rw [y]; exact List.mem_cons_self ..)
    · exact .inr (List.mem_cons_of_mem _ z)
theorem merge_isK : ∀ {more kvs : List (Key × V)} {i : Nat}, isK kvs i ∨ isK more i → isK (mergeK kvs more) i
  | [], _, _, h => h.elim id fun z => by unfold isK at z; rw [valV_nil] at z; cases z
  | p :: r, kvs, i, h => by
    refine merge_isK (more := r) (kvs := putK kvs p.1 p.2) ?_
    unfold isK at h ⊢
    rw [valV_put]
    by_cases e : ky i = p.1
    · rw [if_pos e]
      exact .inl rfl
    · rw [if_neg e]
      rw [valV_neg fun z => e z.symm] at h
      exact h
/-- a dict of ways -/
structure WD (M : Hp) (n : Nat) (kvs : List (Key × V)) : Prop where
  mem : ∀ kv ∈ kvs, ∃ i : Nat, kv.1 = ky i ∧ i < n ∧ ∃ (t : Addr) (ns : List Int), kv.2 = .ref t ∧ M t = some (.tup (ns.map V.int)) ∧ ns.length ≤ 13
theorem WD.mono {M M' : Hp} {n : Nat} {kvs : List (Key × V)} (w : WD M n kvs) (s : ∀ a x, M a = some (.tup x) → M' a = some (.tup x)) : WD M' n kvs :=
  ⟨fun kv h => let ⟨i, e, l, t, ns, ev, et, ln⟩ := w.mem kv h; ⟨i, e, l, t, ns, ev, s _ _ et, ln⟩⟩
theorem WD.val {M : Hp} {n : Nat} {kvs : List (Key × V)} (w : WD M n kvs) {i : Nat} (h : isK kvs i) : ∃ (t : Addr) (ns : List Int), valV kvs (ky i) = some (.ref t) ∧ M t = some (.tup (ns.map V.int)) ∧ ns.length ≤ 13 := by
  obtain ⟨v, hv⟩ := Option.isSome_iff_exists.mp h
  obtain ⟨_, _, _, t, ns, e, et, l⟩ := w.mem _ (valV_mem hv)
  exact ⟨t, ns, by rw [hv]; exact congrArg some e, et, l⟩
/-- how long a way is -/
def wl (M : Hp) (kvs : List (Key × V)) (p : Int) : Nat := match valV kvs (.inl p) with
  | some (.ref t) => (match M t with | some (.tup xs) => xs.length | _ => 0)
  | _ => 0
theorem wl_at {M : Hp} {kvs : List (Key × V)} {i : Nat} {t : Addr} {xs : List V} (h : valV kvs (ky i) = some (.ref t)) (e : M t = some (.tup xs)) : wl M kvs (i : Int) = xs.length := by
  unfold wl
  rw [show valV kvs (.inl (i : Int)) = some (.ref t) from h]
  show (match M t with | some (.tup xs) => xs.length | _ => 0) = _
  rw [e]
def spSides : Sp := fun vs H Q _ => ∃ (w : Addr) (n : Nat) (L : List (Int × Int)), vs = [.ref w] ∧ GW H w n L ∧ (∀ (t v : Addr) (H' : Hp), Same H H' → H t = none → H' t = some (.tup [.str "ring", .ref v]) → Q (.ref t) H') ∧
  (∀ (t v : Addr) (H' : Hp) (mem : Int → Bool), Same H H' → H t = none → H' t = some (.tup [.str "sides", .ref v]) → (∀ q ∈ L, crB mem q = true) → Q (.ref t) H')
section
variable {P : Program} {w0 : World} {K : PySem.W.Frag} {mg : Str → Option Value} {base : Heap}
abbrev nSides : List Str := ["web", "ways", "part", "number", "a", "b", "place"]
end
end K0

set_option Elab.async false
set_option linter.all false
set_option maxRecDepth 100000
set_option maxHeartbeats 8000000
/-! The program's look at rings. -/
namespace K0
open PySem PySem.Spec L2
open PyProof.Rows hiding St
theorem tie_at {L : List (Int × Int)} {k : Nat} {q : Int × Int} (h : L[k]? = some q) : tie L k = q := by
  unfold tie
  rw [List.getD_eq_getElem?_getD, h] <;> rfl
theorem mem_pair (p a b : Int) : (decide (p ∈ ([a, b] : List Int))) = has (a, b) p := by
  unfold has
  simp [Bool.decide_or]
def natsOf (xs : List V) : List Nat := (xs.map intV).map Int.toNat
def ringO (L : List (Int × Int)) : Option (List V) → Bool
  | none => false
  | some xs => xs.all (belowV · L.length) && ringB L (natsOf xs)
/-- numbers of ties -/
theorem nats_of {n : Nat} {xs : List V} (h : xs.all (belowV · n) = true) : xs = (natsOf xs).map natV ∧ ∀ k ∈ natsOf xs, k < n := by
  obtain ⟨e, b⟩ := below_ints h
  have e2 : (natsOf xs).map natV = (xs.map intV).map V.int := by
    unfold natsOf
    rw [List.map_map]
    refine List.map_congr_left fun i hi => ?_
    have := b i hi
    show V.int ((i.toNat : Nat) : Int) = V.int i
    rw [Int.toNat_of_nonneg this.1]
  refine ⟨by rw [e2]; exact e, fun k hk => ?_⟩
  unfold natsOf at hk
  obtain ⟨i, hi, rfl⟩ := List.mem_map.mp hk
  have := b i hi
  omega
theorem nats_back (ns : List Nat) : natsOf (ns.map natV) = ns := by
  unfold natsOf
  rw [List.map_map, List.map_map]
  exact (List.map_congr_left fun i _ => rfl).trans (List.map_id ns)
theorem below_nats {n : Nat} {ns : List Nat} (h : ∀ k ∈ ns, k < n) : (ns.map natV).all (belowV · n) = true := by
  refine List.all_eq_true.mpr fun v hv => ?_
  obtain ⟨k, hk, rfl⟩ := List.mem_map.mp hv
  have := h k hk
  show (decide ((0 : Int) ≤ (k : Int)) && decide ((k : Int) < ((n : Nat) : Int))) = true
  rw [decide_eq_true (by omega), decide_eq_true (by omega)] <;> rfl
theorem ringO_nats {L : List (Int × Int)} {ns : List Nat} (h : ∀ k ∈ ns, k < L.length) : ringO L (some (ns.map natV)) = ringB L ns := by
  show ((ns.map natV).all (belowV · L.length) && ringB L (natsOf (ns.map natV))) = _
  rw [below_nats h, nats_back, Bool.true_and]
/-- what the program's own names hold, any and sum too -/
structure Bq (mg : Str → Option Value) : Prop extends Bk mg where
  any : mg "any" = none
  sum : mg "sum" = none
def spLeads : Sp := fun vs H Q _ => ∃ (w a : Addr) (n : Nat) (L : List (Int × Int)) (ns : List Nat) (s : Int), vs = [.ref w, .ref a, .int s] ∧ GW H w n L ∧ TT H a (ns.map natV) ∧ (∀ k ∈ ns, k < L.length) ∧ ns.length ≤ 60 ∧ ∀ H', Same H H' → Q (.bl (rndB L s ns)) H'
def spIsRingOf : Sp := fun vs H Q _ => ∃ (w : Addr) (n : Nat) (L : List (Int × Int)) (v : V) (o : Option (List V)), vs = [.ref w, v] ∧ GW H w n L ∧ Th H v o ∧ ∀ H', Same H H' → Q (.bl (ringO L o)) H'
section
variable {P : Program} {w0 : World} {K : PySem.W.Frag} {mg : Str → Option Value} {base : Heap}
abbrev nLeads : List Str := ["web", "ring", "start", "place", "met", "number", "a", "b"]
abbrev nIsRingOf : List Str := ["web", "thing", "number", "start"]
end
end K0

set_option Elab.async false
set_option linter.all false
set_option maxRecDepth 100000
set_option maxHeartbeats 8000000
/-! The law's own look at rings. -/
namespace K0
open PySem PySem.Spec L2
open PyProof.Rows hiding St
def wholeO : Option (List V) → Bool
  | none => false
  | some xs => xs.all wholeV
def spAreWhole : Sp := fun vs H Q _ => ∃ (v : V) (o : Option (List V)), vs = [v] ∧ Th H v o ∧ ∀ H', Same H H' → Q (.bl (wholeO o)) H'
/-- ints that rise, or are one: what tells them as a lot -/
theorem rise_lot {ns ms : List Int} (p : ms.Perm ns) (r : ms.Pairwise (· ≤ ·)) : ms.Pairwise (· < ·) ↔ ns.Nodup := by
  constructor
  · intro z
    exact p.nodup_iff.mp (z.imp fun h e => by omega)
  · intro z
    have nd : ms.Nodup := p.nodup_iff.mpr z
    exact (List.Pairwise.and r nd).imp fun h => by have := h.1; have := h.2; omega
section
variable {P : Program} {w0 : World} {K : PySem.W.Frag} {mg : Str → Option Value} {base : Heap}
abbrev nAreWhole : List Str := ["_law_thing", "_law_it"]
abbrev nLIsRing : List Str := ["_law_web_here", "_law_thing", "_law_ties", "_law_start", "_law_place", "_law_met", "_law_at"]
end
end K0

set_option Elab.async false
set_option linter.all false
set_option maxRecDepth 100000
set_option maxHeartbeats 8000000
/-! check_lot and cut_of, given lots. -/
namespace K0
open PySem PySem.Spec L2
open PyProof.Rows hiding St
def spCheckLot0 : Sp := fun vs H Q _ => ∃ (w a : Addr) (n : Nat) (L : List (Int × Int)) (ns : List Int), vs = [.ref w, .ref a] ∧ GW H w n L ∧ TT H a (ns.map V.int) ∧ IsLot n ns ∧ ∀ H', Same H H' → Q .non H'
def spCutOf0 : Sp := fun vs H Q _ => ∃ (w a : Addr) (n : Nat) (L : List (Int × Int)) (ns : List Int), vs = [.ref w, .ref a] ∧ GW H w n L ∧ TT H a (ns.map V.int) ∧ IsLot n ns ∧ gCut H a n L ns Q
section
variable {P : Program} {w0 : World} {K : PySem.W.Frag} {mg : Str → Option Value} {base : Heap}
end
end K0

set_option Elab.async false
set_option linter.all false
set_option maxRecDepth 100000
set_option maxHeartbeats 8000000
/-! Cuts of lots that are lots; walks. -/
namespace K0
open PySem PySem.Spec L2
open PyProof.Rows hiding St
theorem GW.mono {H H' : Hp} {w : Addr} {n : Nat} {L : List (Int × Int)} (g : GW H w n L) (s : ∀ a x, H a = some (.tup x) → H' a = some (.tup x)) : GW H' w n L := ⟨g.web.mono s, g.n1, g.n2, g.bel, g.srt, g.few⟩
theorem inV_nats (k : Nat) (ns : List Nat) : inV (natV k) (ns.map natV) = decide (k ∈ ns) := by
  rw [natV_ints]
  show inV (.int (k : Int)) _ = _
  rw [inV_ints]
  refine decide_eq_decide.mpr ?_
  rw [List.mem_map]
  exact ⟨fun ⟨j, hj, e⟩ => by rw [show k = j by omega]; exact hj, fun h => ⟨k, h, rfl⟩⟩
theorem flat_nats (ns : List Nat) : (ns.map natV).all flatV = true := by rw [natV_ints]; exact flat_ints _
/-- ties of a place that are not met yet -/
def someT (L : List (Int × Int)) (pl : Int) (ns : List Nat) (t : Nat) : List Nat := (List.range t).filter fun k => has (tie L k) pl && !decide (k ∈ ns)
theorem some_succ (L : List (Int × Int)) (pl : Int) (ns : List Nat) (t : Nat) : someT L pl ns (t + 1) = if (has (tie L t) pl && !decide (t ∈ ns)) = true then someT L pl ns t ++ [t] else someT L pl ns t := by
  unfold someT
  rw [List.range_succ, List.filter_append]
  cases h : (has (tie L t) pl && !decide (t ∈ ns)) <;> simp [h]
theorem some_len (L : List (Int × Int)) (pl : Int) (ns : List Nat) (t : Nat) : (someT L pl ns t).length ≤ t := by
  unfold someT
  refine Nat.le_trans (List.length_filter_le _ _) ?_
  rw [List.length_range]
  exact Nat.le_refl _
theorem some_mem {L : List (Int × Int)} {pl : Int} {ns : List Nat} {t k : Nat} (h : k ∈ someT L pl ns t) : k < t ∧ has (tie L k) pl = true ∧ k ∉ ns := by
  unfold someT at h
  obtain ⟨h1, h2⟩ := List.mem_filter.mp h
  rw [Bool.and_eq_true, Bool.not_eq_true', decide_eq_false_iff_not] at h2
  exact ⟨List.mem_range.mp h1, h2.1, h2.2⟩
def spWalked : Sp := fun vs H Q _ => ∃ (p c w : Addr) (n : Nat) (L : List (Int × Int)), vs = [.ref p, .ref w] ∧ GW H w n L ∧ Deck H p c ∧ ∀ (t : Addr) (ns : List Nat) (H' : Hp), (ns = [] ∨ ringB L ns = true) → (∀ k ∈ ns, k < L.length) → ns.length ≤ 14 → H' t = some (.tup (ns.map natV)) → Deck H' p c → Kp p c H H' → Q (.ref t) H'
def spTrail : Sp := fun vs H Q _ => ∃ (p c w : Addr) (n : Nat) (L : List (Int × Int)), vs = [.ref p, .ref w] ∧ GW H w n L ∧ Deck H p c ∧ ∀ (t : Addr) (ns : List Nat) (H' : Hp), ns.length ≤ 14 → H' t = some (.tup (ns.map natV)) → Deck H' p c → Kp p c H H' → Q (.ref t) H'
section
variable {P : Program} {w0 : World} {K : PySem.W.Frag} {mg : Str → Option Value} {base : Heap}
/-- a walk, as it stands -/
structure WkI (H M : Hp) (p c lp ln : Addr) (n : Nat) (L : List (Int × Int)) (r pl : Int) (ns : List Nat) (ps : List Int) : Prop where
  elp : M lp = some (.lst (ps.map V.int))
  eln : M ln = some (.lst (ns.map natV))
  dk : Deck M p c
  kp : Kp p c H M
  ok : okW L r ns = true
  w : wk L r ns = ps ++ [pl]
  nd : ps.Nodup
  nn : ns.Nodup
  lt : ∀ k ∈ ns, k < L.length
  pl0 : 0 ≤ pl ∧ pl < n
theorem WkI.len {H M : Hp} {p c lp ln : Addr} {n : Nat} {L : List (Int × Int)} {r pl : Int} {ns : List Nat} {ps : List Int} (w : WkI H M p c lp ln n L r pl ns ps) : ps.length = ns.length := by
  have := congrArg List.length w.w
  rw [wk_len, List.length_append, List.length_singleton] at this
  omega
theorem cut_drop (ns : List Nat) {j : Nat} (h : j ≤ ns.length) : cutV (ns.map natV) (some (j : Int)) none = (ns.drop j).map natV := by
  unfold cutV
  rw [HT.sIx_nat, HT.sIx_none, List.length_map, Nat.min_eq_left h, ← List.map_drop, List.take_of_length_le]
  rw [List.length_map, List.length_drop]
  exact Nat.le_refl _
theorem eqV_int (a b : Int) : eqV (.int a) (.int b) = decide (a = b) := by
  by_cases h : a = b
  · subst h
    rw [decide_eq_true rfl]
    simp [eqV]
  · rw [decide_eq_false h]
    simp [eqV, h]
theorem at_of_mem {ps : List Int} {pl : Int} (h : pl ∈ ps) (nd : ps.Nodup) : ∃ j : Nat, ps[j]? = some pl ∧ ∀ (m : Nat) (z' : Int), m < j → ps[m]? = some z' → z' ≠ pl := by
  obtain ⟨j, hj⟩ := List.getElem?_of_mem h
  refine ⟨j, hj, fun m z' hm hz e => ?_⟩
  subst e
  have hl := (List.getElem?_eq_some_iff.mp hz).1
  exact Nat.ne_of_lt hm ((List.getElem?_inj hl nd).mp (hz.trans hj.symm))
theorem bel_T {n : Nat} {L : List (Int × Int)} (hB : Bel n L) : BelT L := fun k hk => by
  have h := List.getElem?_eq_getElem hk
  rw [tie_at h]
  have := hB _ (List.getElem_mem hk)
  omega
theorem other_in {n : Nat} {q : Int × Int} {p : Int} (h : 0 ≤ q.1 ∧ q.1 < q.2 ∧ q.2 < (n : Int)) (hp : has q p = true) : 0 ≤ other q p ∧ other q p < n := by
  have := has_iff.mp hp
  unfold other
  omega
abbrev nWalked : List Str := ["_law_deck_here", "_law_web_here", "_law_place", "_law_places", "_law_numbers", "_law_turn", "_law_some", "_law_at", "_law_tie"]
end
end K0

set_option Elab.async false
set_option linter.all false
set_option maxRecDepth 100000
set_option maxHeartbeats 8000000
/-! Drawn walks that come back. -/
namespace K0
open PySem PySem.Spec L2
open PyProof.Rows hiding St
/-- a statement that may return -/
def tInvR (J J' : L2.St → Hp → Prop) (R : V → Hp → Prop) : TS := fun D σ H => J σ H ∧ (∀ σ' H', J' σ' H' → D.nx σ' H') ∧ ∀ v H', R v H' → D.rt v H'
theorem ps_invR {X : Cx} {st : Stmt} {t : TS} {J J' : L2.St → Hp → Prop} {R : V → Hp → Prop} (h : PS X st t) (w : ∀ D σ H, J σ H → (∀ σ' H', J' σ' H' → D.nx σ' H') → (∀ v H', R v H' → D.rt v H') → t D σ H) : PS X st (tInvR J J' R) :=
  ⟨fun pins s σ H D I q => h.run pins s σ H D I (w D σ H q.1 q.2.1 q.2.2)⟩
/-- ties of a walk -/
structure TrI (H M : Hp) (p c ln : Addr) (L : List (Int × Int)) (ns : List Nat) : Prop where
  eln : M ln = some (.lst (ns.map natV))
  dk : Deck M p c
  kp : Kp p c H M
  nn : ns.Nodup
  lt : ∀ k ∈ ns, k < L.length
theorem TrI.few {H M : Hp} {p c ln : Addr} {L : List (Int × Int)} {ns : List Nat} (w : TrI H M p c ln L ns) : ns.length ≤ L.length := by
  have := KR.nd_le (ks := ns.map fun i => ((i : Nat) : Int)) (ns := (List.range L.length).map fun i => ((i : Nat) : Int)) (List.pairwise_map.mpr (w.nn.imp fun h e => h (by omega))) fun k hk => by
    obtain ⟨i, hi, rfl⟩ := List.mem_map.mp hk
    exact List.mem_map.mpr ⟨i, List.mem_range.mpr (w.lt i hi), rfl⟩
  rwa [List.length_map, List.length_map, List.length_range] at this
/-- what a walk returns -/
def TrR (H : Hp) (p c : Addr) (L : List (Int × Int)) (v : V) (M : Hp) : Prop := ∃ (t : Addr) (ns : List Nat), v = .ref t ∧ ns.length ≤ 40 ∧ (∀ k ∈ ns, k < L.length) ∧ M t = some (.tup (ns.map natV)) ∧ Deck M p c ∧ Kp p c H M
def spTrail' : Sp := fun vs H Q _ => ∃ (p c w : Addr) (n : Nat) (L : List (Int × Int)), vs = [.ref p, .ref w] ∧ GW H w n L ∧ Deck H p c ∧ ∀ v M, TrR H p c L v M → Q v M
section
variable {P : Program} {w0 : World} {K : PySem.W.Frag} {mg : Str → Option Value} {base : Heap}
abbrev nTrail : List Str := ["_law_deck_here", "_law_web_here", "_law_first", "_law_numbers", "_law_place", "_law_turn", "_law_some", "_law_at", "_law_tie"]
def TJ1 (b2 : Bool) (H : Hp) (p c w : Addr) (L : List (Int × Int)) : L2.St → Hp → Prop := fun σ M => ∃ (fi : Int) (ln : Addr) (pl : Int) (ns : List Nat) (o5 : Int) (Da : Addr), σ = [some (.ref p), some (.ref w), some (.int fi), some (.ref ln), some (.int pl), some (.int o5), some (.ref Da), none, none] ∧
  H ln = none ∧ TrI H M p c ln L ns ∧ M Da = some (.lst ((someT L pl ns L.length).map natV)) ∧ Da ≠ p ∧ Da ≠ c ∧ ln ≠ Da ∧ (b2 = true → someT L pl ns L.length ≠ [])
end
end K0

set_option Elab.async false
set_option linter.all false
set_option maxRecDepth 100000
set_option maxHeartbeats 8000000
/-! Values near rows of numbers. -/
namespace K0
open PySem PySem.Spec L2
open PyProof.Rows hiding St
abbrev lBentN : Stmt := top 46
/-- a statement between two invariants that share a parameter -/
def tInvP {α : Type} (J J' : α → L2.St → Hp → Prop) : TS := fun D σ H => ∃ x : α, J x σ H ∧ ∀ σ' H', J' x σ' H' → D.nx σ' H'
theorem ps_invP {α : Type} {X : Cx} {st : Stmt} {t : TS} {J J' : α → L2.St → Hp → Prop} (h : PS X st t) (w : ∀ x D σ H, J x σ H → (∀ σ' H', J' x σ' H' → D.nx σ' H') → t D σ H) : PS X st (tInvP J J') :=
  ⟨fun pins s σ H D I q => let ⟨x, q1, q2⟩ := q; h.run pins s σ H D I (w x D σ H q1 q2)⟩
/-- values of a kind, whatever the deck does -/
def AV (p c : Addr) (M : Hp) (xs : List V) : Prop := ∀ x ∈ xs, ∀ M', Kp p c M M' → ∃ t, VT M' x t
def Thd (p c : Addr) (M : Hp) (v : V) : Prop := ∃ o, ∀ M', Kp p c M M' → Th M' v o
theorem kp_refl {p c : Addr} {M : Hp} : Kp p c M M := fun _ _ _ _ z => z
theorem AV.mono {p c : Addr} {M M1 : Hp} {xs : List V} (a : AV p c M xs) (k : Kp p c M M1) : AV p c M1 xs := fun x hx M' k' => a x hx M' (k.trans k')
theorem AV.sub {p c : Addr} {M : Hp} {xs ys : List V} (a : AV p c M xs) (s : ∀ x ∈ ys, x ∈ xs) : AV p c M ys := fun x hx => a x (s x hx)
theorem AV.cut {p c : Addr} {M : Hp} {xs : List V} {lo hi : Option Int} (a : AV p c M xs) : AV p c M (cutV xs lo hi) := a.sub fun x hx => List.mem_of_mem_drop (List.mem_of_mem_take hx)
theorem AV.app {p c : Addr} {M : Hp} {xs ys : List V} (a : AV p c M xs) (b : AV p c M ys) : AV p c M (xs ++ ys) := fun x hx => (List.mem_append.mp hx).elim (a x) (b x)
theorem AV.one {p c : Addr} {M : Hp} {x : V} (h : ∀ M', Kp p c M M' → ∃ t, VT M' x t) : AV p c M [x] := fun y hy => by rw [List.mem_singleton.mp hy]; exact h
theorem AV.int {p c : Addr} {M : Hp} (i : Int) : AV p c M [.int i] := AV.one fun M' _ => ⟨_, .int i⟩
theorem AV.nats {p c : Addr} {M : Hp} (ns : List Nat) : AV p c M (ns.map natV) := fun x hx M' _ => by
  obtain ⟨i, _, rfl⟩ := List.mem_map.mp hx
  exact ⟨_, .int _⟩
theorem Thd.mono {p c : Addr} {M M1 : Hp} {v : V} (a : Thd p c M v) (k : Kp p c M M1) : Thd p c M1 v := let ⟨o, h⟩ := a; ⟨o, fun M' k' => h M' (k.trans k')⟩
theorem Thd.tup {p c a : Addr} {M : Hp} {xs : List V} (D : Deck M p c) (e : M a = some (.tup xs)) (av : AV p c M xs) (l : xs.length ≤ 60) : Thd p c M (.ref a) :=
  ⟨some xs, fun M' k => .tup (.inl (k.tup D _ _ e)) (fun x hx => av x hx M' k) l⟩
theorem cutV_len {xs : List V} {lo hi : Option Int} : (cutV xs lo hi).length ≤ xs.length := by
  unfold cutV
  rw [List.length_take, List.length_drop]
  omega
/-- two cuts at one place -/
theorem cut_two (xs : List V) {a : Int} (h : 0 ≤ a) : (cutV xs none (some a)).length + (cutV xs (some a) none).length ≤ xs.length ∧ (cutV xs none (some a)).length + (cutV xs (some (a + 1)) none).length ≤ xs.length := by
  obtain ⟨k, rfl⟩ : ∃ k : Nat, a = k := ⟨a.toNat, by omega⟩
  have e1 : (cutV xs none (some (k : Int))).length = min k xs.length := by
    unfold cutV
    rw [HT.sIx_nat, HT.sIx_none, List.drop_zero, List.length_take]
    omega
  have e2 : ∀ j : Nat, (cutV xs (some (j : Int)) none).length = xs.length - min j xs.length := fun j => by
    unfold cutV
    rw [HT.sIx_nat, HT.sIx_none, List.length_take, List.length_drop]
    omega
  have e3 := e2 (k + 1)
  rw [show ((k + 1 : Nat) : Int) = (k : Int) + 1 by omega] at e3
  rw [e1, e2 k, e3]
  omega
theorem cut_last (xs : List V) : (cutV xs (some (-1)) none).length ≤ 1 := by
  unfold cutV
  rw [List.length_take, List.length_drop]
  have : HT.sIx xs.length 0 (some (-1)) = ((-1 : Int) + xs.length).toNat := by simp [HT.sIx]
  rw [this, HT.sIx_none]
  omega
def spBentN : Sp := fun vs H Q _ => ∃ (p c a : Addr) (m : Nat) (xs : List V), vs = [.ref p, .ref a, .int (m : Int)] ∧ m ≤ 40 ∧ Deck H p c ∧ H a = some (.tup xs) ∧ xs.length ≤ 40 ∧ AV p c H xs ∧ ∀ v M, Thd p c M v → Deck M p c → Kp p c H M → Q v M
/-- the row, as it stands -/
def BJ (H : Hp) (p c : Addr) (m k : Nat) (b : Nat) : L2.St → Hp → Prop := fun σ M => ∃ (a : Addr) (xs : List V) (o3 : Option V) (wy at' : Int) (o6 : Option V), σ = [some (.ref p), some (.ref a), some (.int (m : Int)), o3, some (.int wy), some (.int at'), o6] ∧ 0 ≤ at' ∧ M a = some (.tup xs) ∧ Deck M p c ∧ Kp p c H M ∧ AV p c M xs ∧ xs.length ≤ b + k ∧ b ≤ 54
section
variable {P : Program} {w0 : World} {K : PySem.W.Frag} {mg : Str → Option Value} {base : Heap}
abbrev nBentN : List Str := ["_law_deck_here", "_law_some", "_law_most", "_law_turn", "_law_way", "_law_at", "_law_odd"]
theorem scBentN : FnScope nBentN ["_law_deck_here", "_law_some", "_law_most"] (defScope lBentN) := ⟨rfl, rfl, rfl, by decide +kernel, rfl, by decide +kernel, by decide +kernel⟩
theorem ok_bentN {f fD fP : Addr} {fd fdD fdP : FuncData} (F : Fun K "_law_bent_numbers" "_law_bent_numbers" lBentN f fd) (T : Bq mg) (GD : Dn P w0 K mg base "_law_draw" 1 ["_law_deck_here", "_law_many"] spDraw fD fdD)
    (GP : Dn P w0 K mg base "_law_pick" 2 ["_law_deck_here", "_law_some"] spPick fP fdP) : FnOk P w0 K mg base CX0 3 f fd ["_law_deck_here", "_law_some", "_law_most"] spBentN := by
  refine F.ok scBentN (fun vs H Q E h => ?_) (fun cdv A outer s H vs Q E hr h => ?_)
  · obtain ⟨p, c, a, m, xs, rfl, _⟩ := h
    rfl
  · obtain ⟨p, c, a, m, xs, rfl, hm, D, ha, hl, av, k⟩ := h
    have hr1 : Room 1 (A.deeper (envOfC "_law_bent_numbers" (defScope lBentN) s.heap.objs.size f cdv)) := hr.mono (by decide)
    refine ⟨_, pss_cons (ps_for PassesOwn.never rfl (pi_range1 (by rfl) T.range (pa_cons (pe_op op_add pe_int (pe_call GD.ok hr1 rfl GD.g GD.kp GD.b .nil pass0 (pa_cons (pv 0) (pa_cons pe_int pa_nil)))) pa_nil)) (pg_name (i := 3) scBentN.nd rfl (.inl rfl))
        (pss_cons (ps_par (i := 4) (j := 5) rfl scBentN.nd rfl rfl (by decide) rfl rfl (pa_cons (pe_call GD.ok hr1 rfl GD.g GD.kp GD.b .nil pass0 (pa_cons (pv 0) (pa_cons pe_int pa_nil)))
          (pa_cons (pe_call GD.ok hr1 rfl GD.g GD.kp GD.b .nil pass0 (pa_cons (pv 0) (pa_cons (pe_op op_add (pe_callB call_len_seq (by rfl) T.len PySem.boot_len (pa_cons (pv 1) pa_nil)) pe_int) pa_nil))) pa_nil)) (by rfl))
        <| pss_cons (ps_invP (J := BJ H p c m 0) (J' := BJ H p c m 1) (ps_if (pt_cmpR op_eq (pv 4) pe_int (nomark _))
            (pss_cons (ps_set (i := 6) scBentN.nd rfl (.inl rfl) (pe_call GP.ok hr rfl GP.g GP.kp GP.b .nil pass0 (pa_cons (pv 0) (pa_cons (pe_lst (pa_cons pe_bl (pa_cons pe_bl (pa_cons pe_non (pa_cons pe_str (pa_cons (pe_un un_neg pe_int) (pa_cons (pv 2)
              (pa_cons (pe_op op_pow pe_int pe_int) (pa_cons (pe_tup (pa_cons pe_int pa_nil)) (pa_cons (pe_lst (pa_cons pe_int pa_nil)) (pa_cons pe_dnewK (pa_cons pe_int (pa_cons pe_int pa_nil))))))))))))) pa_nil))))
            <| pss_one (ps_set (i := 1) scBentN.nd rfl (.inl rfl) (pe_op op_catX (pe_op op_catX (pe_slice sl_X (pv 1) po_none (po_some (pv 5))) (pe_tup (pa_cons (pv 6) pa_nil))) (pe_slice sl_X (pv 1) (po_some (pe_op op_add (pv 5) pe_int)) po_none)))) pss_nil) ?i0)
        <| pss_cons (ps_invP (J := BJ H p c m 1) (J' := BJ H p c m 2) (ps_if (pt_cmpR op_eq (pv 4) pe_int (nomark _))
            (pss_one (ps_set (i := 1) scBentN.nd rfl (.inl rfl) (pe_op op_catX (pe_op op_catX (pe_slice sl_X (pv 1) po_none (po_some (pv 5))) (pe_tup (pa_cons (pe_call GD.ok hr1 rfl GD.g GD.kp GD.b .nil pass0 (pa_cons (pv 0) (pa_cons (pe_op op_add (pv 2) pe_int) pa_nil))) pa_nil))) (pe_slice sl_X (pv 1) (po_some (pv 5)) po_none)))) pss_nil) ?i1)
        <| pss_cons (ps_invP (J := BJ H p c m 2) (J' := BJ H p c m 3) (ps_if (pt_cmpR op_eq (pv 4) pe_int (nomark _))
            (pss_one (ps_set (i := 1) scBentN.nd rfl (.inl rfl) (pe_op op_catX (pe_slice sl_X (pv 1) po_none (po_some (pv 5))) (pe_slice sl_X (pv 1) (po_some (pe_op op_add (pv 5) pe_int)) po_none)))) pss_nil) ?i2)
        <| pss_cons (ps_invP (J := BJ H p c m 3) (J' := BJ H p c m 4) (ps_if (pt_cmpR op_eq (pv 4) pe_int (nomark _))
            (pss_one (ps_set (i := 1) scBentN.nd rfl (.inl rfl) (pe_op op_catX (KR.pe_revT (pe_slice sl_X (pv 1) po_none (po_some (pv 5)))) (pe_slice sl_X (pv 1) (po_some (pv 5)) po_none)))) pss_nil) ?i3)
        <| pss_cons (ps_invP (J := BJ H p c m 4) (J' := BJ H p c m 5) (ps_if (pt_cmpR op_eq (pv 4) pe_int (nomark _))
            (pss_one (ps_set (i := 1) scBentN.nd rfl (.inl rfl) (pe_op op_catX (pe_slice sl_X (pv 1) (po_some (pv 5)) po_none) (pe_slice sl_X (pv 1) po_none (po_some (pv 5)))))) pss_nil) ?i4)
        <| pss_cons (ps_invP (J := BJ H p c m 5) (J' := BJ H p c m 6) (ps_if (pt_cmpR op_eq (pv 4) pe_int (nomark _))
            (pss_one (ps_set (i := 1) scBentN.nd rfl (.inl rfl) (pe_op op_catX (pe_op op_catX (pe_slice sl_X (pv 1) po_none (po_some (pv 5))) (pe_slice sl_X (pe_slice sl_X (pv 1) po_none (po_some (pv 5))) (po_some (pe_un un_neg pe_int)) po_none)) (pe_slice sl_X (pv 1) (po_some (pv 5)) po_none)))) pss_nil) ?i5)
        <| pss_one (ps_invP (J := BJ H p c m 6) (J' := BJ H p c m 7) (ps_if (pt_cmpR op_eq (pv 4) pe_int (nomark _))
            (pss_one (ps_set (i := 1) scBentN.nd rfl (.inl rfl) (pe_op op_catX (pe_op op_catX (pe_slice sl_X (pv 1) po_none (po_some (pv 5))) (pe_tup (pa_cons (pe_call GD.ok hr1 rfl GD.g GD.kp GD.b .nil pass0 (pa_cons (pv 0) (pa_cons (pe_op op_add (pv 2) pe_int) pa_nil))) pa_nil))) (pe_slice sl_X (pv 1) (po_some (pe_op op_add (pv 5) pe_int)) po_none)))) pss_nil) ?i6)))
      <| pss_one (ps_ret (pe_ifExp (pt_cmpR op_eq (pe_call GD.ok hr1 rfl GD.g GD.kp GD.b .nil pass0 (pa_cons (pv 0) (pa_cons pe_int pa_nil))) pe_int (nomark _))
          (pe_call GP.ok hr rfl GP.g GP.kp GP.b .nil pass0 (pa_cons (pv 0) (pa_cons (pe_lst (pa_cons (pe_callTy call_list_of (by rfl) T.list (by decide +kernel) (pa_cons (pv 1) pa_nil)) (pa_cons (pe_tup (pa_cons (pv 1) pa_nil)) (pa_cons (pe_op op_catX (pv 1) (pe_tup (pa_cons pe_int pa_nil))) pa_nil)))) pa_nil))) (pv 1))), ?_⟩
    case i0 =>
      rintro b D0 σ M ⟨a, xs, o3, wy, at', o6, rfl, a0, ea, DM, KM, AM, lb, b28⟩ nx
      have fin : ∀ (r : Addr) (M' : Hp) (ys : List V) (o6 : Option V), M' r = some (.tup ys) → Deck M' p c → Kp p c M M' → AV p c M' ys → ys.length ≤ b + 1 → D0.nx [some (.ref p), some (.ref r), some (.int (m : Int)), o3, some (.int wy), some (.int at'), o6] M' := fun r M' ys o6 h1 h2 h3 h4 h5 => nx _ _ ⟨r, ys, o3, wy, at', o6, rfl, a0, h1, h2, KM.trans h3, h4, h5, b28⟩
      have z30 : ∀ {x : Nat}, x ≤ 1000 → x ≤ sizeLine := fun h => by rw [sizeLine_eq]; omega
      have cl1 := cutV_len (xs := xs) (lo := none) (hi := some at')
      have cl2 := cutV_len (xs := xs) (lo := some at') (hi := none)
      have cl3 := cutV_len (xs := xs) (lo := some (at' + 1)) (hi := none)
      refine ⟨_, rfl, rfl, _, rfl, ite2 (fun _ => ?_) (fun _ => nx _ _ ⟨a, xs, o3, wy, at', o6, rfl, a0, ea, DM, KM, AM, by omega, b28⟩)⟩
      refine ⟨_, rfl, _, rfl, _, rfl, _, _, rfl, rfl, ⟨by decide, by decide, by decide⟩, by show 1 ≤ sizeLine; exact z30 (by decide), fun t ht => ⟨by show 1 ≤ sizeLine; exact z30 (by decide), fun l0 hl0 d0 hd0 => ⟨by show 12 ≤ sizeLine; exact z30 (by decide), fun lm hlm => ?_⟩⟩⟩
      have s1 : Same M (upd M t (.tup [.int 0])) := same_new ht
      have s2 := s1.trans (same_new (o := .lst [.int 0]) hl0)
      have s3 := s2.trans (same_new (o := .dK []) hd0)
      have s4 : Same M (upd (upd (upd (upd M t (.tup [.int 0])) l0 (.lst [.int 0])) d0 (.dK [])) lm (.lst [.bl true, .bl false, .non, .str "0", .int (-1), .int m, .int (10 ^ (39 : Int).toNat), .ref t, .ref l0, .ref d0, .int 1, .int 0])) := s3.trans (same_new hlm)
      have D4 := DM.same s4
      obtain ⟨lp, lc⟩ := DM.inp (s3.free hlm)
      obtain ⟨tp, tc⟩ := DM.inp ht
      obtain ⟨l0p, l0c⟩ := DM.inp (s1.free hl0)
      obtain ⟨dp, dc⟩ := DM.inp (s2.free hd0)
      refine ⟨p, c, lm, _, rfl, D4, upd_same, lp, lc, by show 1 ≤ 12; decide, by show 12 < 1000; decide, fun i v M5 e D5 K5 => ?_⟩
      have e1 : (upd M t (.tup [V.int 0])) t = some (.tup [.int 0]) := upd_same
      have e2 : (upd (upd M t (.tup [V.int 0])) l0 (.lst [.int 0])) l0 = some (.lst [.int 0]) := upd_same
      have mt := K5 _ _ tp tc (show _ = some (HO.tup [.int 0]) by rw [upd_ne (ne_of_none (by rw [upd_ne (ne_of_none (by rw [upd_ne (ne_of_none e1 hl0)]; exact e1) hd0), upd_ne (ne_of_none e1 hl0)]; exact e1) hlm), upd_ne (ne_of_none (by rw [upd_ne (ne_of_none e1 hl0)]; exact e1) hd0), upd_ne (ne_of_none e1 hl0)]; exact e1)
      have ml := K5 _ _ l0p l0c (show _ = some (HO.lst [.int 0]) by rw [upd_ne (ne_of_none (by rw [upd_ne (ne_of_none e2 hd0)]; exact e2) hlm), upd_ne (ne_of_none e2 hd0)]; exact e2)
      have md := K5 _ _ dp dc (show _ = some (HO.dK []) by rw [upd_ne (ne_of_none upd_same hlm)]; exact upd_same)
      have k5 := (kp_same (p := p) (c := c) s4).trans K5
      have odd : ∀ M', Kp p c M5 M' → ∃ t, VT M' v t := fun M' k' => by
        have hv := List.mem_of_getElem? e
        simp only [List.mem_cons, List.not_mem_nil, or_false] at hv
        rcases hv with rfl | rfl | rfl | rfl | rfl | rfl | rfl | rfl | rfl | rfl | rfl | rfl
        · exact ⟨_, .bl true⟩
        · exact ⟨_, .bl false⟩
        · exact ⟨_, .non⟩
        · exact ⟨_, .str "0"⟩
        · exact ⟨_, .int (-1)⟩
        · exact ⟨_, .int m⟩
        · exact ⟨_, .int _⟩
        · exact ⟨_, .tup (.inl (k' _ _ tp tc mt))⟩
        · exact ⟨_, .lst (k' _ _ l0p l0c ml)⟩
        · exact ⟨_, .dct (k' _ _ dp dc md)⟩
        · exact ⟨_, .int 1⟩
        · exact ⟨_, .int 0⟩
      have ea5 := k5.tup DM _ _ ea
      refine ⟨_, rfl, _, rfl, _, rfl, a, xs, rfl, ea5, fun r1 M6 s6 u1 => ⟨_, rfl, by show 1 ≤ sizeLine; exact z30 (by decide), fun r2 hr2 => ?_⟩⟩
      have s7 : Same M5 (upd M6 r2 (.tup [v])) := s6.trans (same_new hr2)
      refine ⟨r1, r2, _, [v], rfl, rfl, same_new hr2 _ _ u1, upd_same, by show _ + 1 ≤ sizeLine; exact z30 (by omega), fun r3 M7 s8 u3 => ?_⟩
      refine ⟨_, rfl, _, rfl, _, _, rfl, rfl, _, rfl, a, xs, rfl, (s7.trans s8) _ _ ea5, fun r4 M8 s9 u4 => ?_⟩
      refine ⟨r3, r4, _, _, rfl, rfl, s9 _ _ u3, u4, by rw [List.length_append]; show _ + 1 + _ ≤ sizeLine; exact z30 (by omega), fun r5 M9 s10 u5 => ?_⟩
      have S5 := ((s7.trans s8).trans s9).trans s10
      have K9 := k5.trans (kp_same S5)
      exact fin r5 M9 _ _ u5 (D5.same S5) K9 (((AM.mono K9).cut.app ((AV.one odd).mono (kp_same S5))).app (AM.mono K9).cut) (by rw [List.length_append, List.length_append]; show _ + 1 + _ ≤ _; have := cut_two xs a0; omega)
    case i1 =>
      rintro b D0 σ M ⟨a, xs, o3, wy, at', o6, rfl, a0, ea, DM, KM, AM, lb, b28⟩ nx
      have fin : ∀ (r : Addr) (M' : Hp) (ys : List V) (o6 : Option V), M' r = some (.tup ys) → Deck M' p c → Kp p c M M' → AV p c M' ys → ys.length ≤ b + 2 → D0.nx [some (.ref p), some (.ref r), some (.int (m : Int)), o3, some (.int wy), some (.int at'), o6] M' := fun r M' ys o6 h1 h2 h3 h4 h5 => nx _ _ ⟨r, ys, o3, wy, at', o6, rfl, a0, h1, h2, KM.trans h3, h4, h5, b28⟩
      have z30 : ∀ {x : Nat}, x ≤ 1000 → x ≤ sizeLine := fun h => by rw [sizeLine_eq]; omega
      have cl1 := cutV_len (xs := xs) (lo := none) (hi := some at')
      have cl2 := cutV_len (xs := xs) (lo := some at') (hi := none)
      have cl3 := cutV_len (xs := xs) (lo := some (at' + 1)) (hi := none)
      refine ⟨_, rfl, rfl, _, rfl, ite2 (fun _ => ?_) (fun _ => nx _ _ ⟨a, xs, o3, wy, at', o6, rfl, a0, ea, DM, KM, AM, by omega, b28⟩)⟩
      refine ⟨_, rfl, _, rfl, _, rfl, a, xs, rfl, ea, fun r1 M1 s1 u1 => ?_⟩
      have D1 := DM.same s1
      refine ⟨_, rfl, _, rfl, _, _, rfl, rfl, p, c, _, rfl, D1, by omega, by omega, fun d M2 d0 d1 D2 K2 => ⟨by show 1 ≤ sizeLine; exact z30 (by decide), fun r2 hr2 => ?_⟩⟩
      have K02 : Kp p c M (upd M2 r2 (.tup [.int d])) := ((kp_same s1).trans K2).trans (kp_new hr2)
      have D3 := D2.new (o := .tup [.int d]) hr2
      refine ⟨r1, r2, _, [.int d], rfl, rfl, (K2.trans (kp_new hr2)).tup D1 _ _ u1, upd_same, by show _ + 1 ≤ sizeLine; exact z30 (by omega), fun r3 M3 s3 u3 => ?_⟩
      refine ⟨_, rfl, _, rfl, _, rfl, a, xs, rfl, (K02.trans (kp_same s3)).tup DM _ _ ea, fun r4 M4 s4 u4 => ?_⟩
      refine ⟨r3, r4, _, _, rfl, rfl, s4 _ _ u3, u4, by rw [List.length_append]; show _ + 1 + _ ≤ sizeLine; exact z30 (by omega), fun r5 M5 s5 u5 => ?_⟩
      have K5 := ((K02.trans (kp_same s3)).trans (kp_same s4)).trans (kp_same s5)
      exact fin r5 M5 _ _ u5 (((D3.same s3).same s4).same s5) K5 (((AM.mono K5).cut.app (AV.int d)).app (AM.mono K5).cut) (by rw [List.length_append, List.length_append]; show _ + 1 + _ ≤ _; have := cut_two xs a0; omega)
    case i2 =>
      rintro b D0 σ M ⟨a, xs, o3, wy, at', o6, rfl, a0, ea, DM, KM, AM, lb, b28⟩ nx
      have fin : ∀ (r : Addr) (M' : Hp) (ys : List V) (o6 : Option V), M' r = some (.tup ys) → Deck M' p c → Kp p c M M' → AV p c M' ys → ys.length ≤ b + 3 → D0.nx [some (.ref p), some (.ref r), some (.int (m : Int)), o3, some (.int wy), some (.int at'), o6] M' := fun r M' ys o6 h1 h2 h3 h4 h5 => nx _ _ ⟨r, ys, o3, wy, at', o6, rfl, a0, h1, h2, KM.trans h3, h4, h5, b28⟩
      have z30 : ∀ {x : Nat}, x ≤ 1000 → x ≤ sizeLine := fun h => by rw [sizeLine_eq]; omega
      have cl1 := cutV_len (xs := xs) (lo := none) (hi := some at')
      have cl2 := cutV_len (xs := xs) (lo := some at') (hi := none)
      have cl3 := cutV_len (xs := xs) (lo := some (at' + 1)) (hi := none)
      refine ⟨_, rfl, rfl, _, rfl, ite2 (fun _ => ?_) (fun _ => nx _ _ ⟨a, xs, o3, wy, at', o6, rfl, a0, ea, DM, KM, AM, by omega, b28⟩)⟩
      refine ⟨_, rfl, _, rfl, _, rfl, a, xs, rfl, ea, fun r1 M1 s1 u1 => ⟨_, rfl, _, rfl, _, _, rfl, rfl, _, rfl, a, xs, rfl, s1 _ _ ea, fun r2 M2 s2 u2 => ⟨r1, r2, _, _, rfl, rfl, s2 _ _ u1, u2, z30 (by omega), fun r3 M3 s3 u3 => ?_⟩⟩⟩
      have K3 : Kp p c M M3 := ((kp_same s1).trans (kp_same s2)).trans (kp_same s3)
      exact fin r3 M3 _ _ u3 (((DM.same s1).same s2).same s3) K3 ((AM.mono K3).cut.app (AM.mono K3).cut) (by rw [List.length_append]; have := cut_two xs a0; omega)
    case i3 =>
      rintro b D0 σ M ⟨a, xs, o3, wy, at', o6, rfl, a0, ea, DM, KM, AM, lb, b28⟩ nx
      have fin : ∀ (r : Addr) (M' : Hp) (ys : List V) (o6 : Option V), M' r = some (.tup ys) → Deck M' p c → Kp p c M M' → AV p c M' ys → ys.length ≤ b + 4 → D0.nx [some (.ref p), some (.ref r), some (.int (m : Int)), o3, some (.int wy), some (.int at'), o6] M' := fun r M' ys o6 h1 h2 h3 h4 h5 => nx _ _ ⟨r, ys, o3, wy, at', o6, rfl, a0, h1, h2, KM.trans h3, h4, h5, b28⟩
      have z30 : ∀ {x : Nat}, x ≤ 1000 → x ≤ sizeLine := fun h => by rw [sizeLine_eq]; omega
      have cl1 := cutV_len (xs := xs) (lo := none) (hi := some at')
      have cl2 := cutV_len (xs := xs) (lo := some at') (hi := none)
      have cl3 := cutV_len (xs := xs) (lo := some (at' + 1)) (hi := none)
      refine ⟨_, rfl, rfl, _, rfl, ite2 (fun _ => ?_) (fun _ => nx _ _ ⟨a, xs, o3, wy, at', o6, rfl, a0, ea, DM, KM, AM, by omega, b28⟩)⟩
      refine ⟨_, rfl, _, rfl, _, rfl, a, xs, rfl, ea, fun r1 M1 s1 u1 => ⟨r1, _, rfl, SqT.of u1, fun r0 hr0 => ?_⟩⟩
      have s1' := s1.trans (same_new (o := .tup (cutV xs none (some at')).reverse) hr0)
      refine ⟨_, rfl, _, rfl, _, rfl, a, xs, rfl, s1' _ _ ea, fun r2 M2 s2 u2 => ⟨r0, r2, _, _, rfl, rfl, s2 _ _ upd_same, u2, by rw [List.length_reverse]; exact z30 (by omega), fun r3 M3 s3 u3 => ?_⟩⟩
      have K3 : Kp p c M M3 := ((kp_same s1').trans (kp_same s2)).trans (kp_same s3)
      exact fin r3 M3 _ _ u3 (((DM.same s1').same s2).same s3) K3 (((AM.mono K3).cut.sub fun x hx => List.mem_reverse.mp hx).app (AM.mono K3).cut) (by rw [List.length_append, List.length_reverse]; have := cut_two xs a0; omega)
    case i4 =>
      rintro b D0 σ M ⟨a, xs, o3, wy, at', o6, rfl, a0, ea, DM, KM, AM, lb, b28⟩ nx
      have fin : ∀ (r : Addr) (M' : Hp) (ys : List V) (o6 : Option V), M' r = some (.tup ys) → Deck M' p c → Kp p c M M' → AV p c M' ys → ys.length ≤ b + 5 → D0.nx [some (.ref p), some (.ref r), some (.int (m : Int)), o3, some (.int wy), some (.int at'), o6] M' := fun r M' ys o6 h1 h2 h3 h4 h5 => nx _ _ ⟨r, ys, o3, wy, at', o6, rfl, a0, h1, h2, KM.trans h3, h4, h5, b28⟩
      have z30 : ∀ {x : Nat}, x ≤ 1000 → x ≤ sizeLine := fun h => by rw [sizeLine_eq]; omega
      have cl1 := cutV_len (xs := xs) (lo := none) (hi := some at')
      have cl2 := cutV_len (xs := xs) (lo := some at') (hi := none)
      have cl3 := cutV_len (xs := xs) (lo := some (at' + 1)) (hi := none)
      refine ⟨_, rfl, rfl, _, rfl, ite2 (fun _ => ?_) (fun _ => nx _ _ ⟨a, xs, o3, wy, at', o6, rfl, a0, ea, DM, KM, AM, by omega, b28⟩)⟩
      refine ⟨_, rfl, _, rfl, _, rfl, a, xs, rfl, ea, fun r1 M1 s1 u1 => ⟨_, rfl, _, rfl, _, rfl, a, xs, rfl, s1 _ _ ea, fun r2 M2 s2 u2 => ⟨r1, r2, _, _, rfl, rfl, s2 _ _ u1, u2, z30 (by omega), fun r3 M3 s3 u3 => ?_⟩⟩⟩
      have K3 : Kp p c M M3 := ((kp_same s1).trans (kp_same s2)).trans (kp_same s3)
      exact fin r3 M3 _ _ u3 (((DM.same s1).same s2).same s3) K3 ((AM.mono K3).cut.app (AM.mono K3).cut) (by rw [List.length_append]; have := cut_two xs a0; omega)
    case i5 =>
      rintro b D0 σ M ⟨a, xs, o3, wy, at', o6, rfl, a0, ea, DM, KM, AM, lb, b28⟩ nx
      have fin : ∀ (r : Addr) (M' : Hp) (ys : List V) (o6 : Option V), M' r = some (.tup ys) → Deck M' p c → Kp p c M M' → AV p c M' ys → ys.length ≤ b + 6 → D0.nx [some (.ref p), some (.ref r), some (.int (m : Int)), o3, some (.int wy), some (.int at'), o6] M' := fun r M' ys o6 h1 h2 h3 h4 h5 => nx _ _ ⟨r, ys, o3, wy, at', o6, rfl, a0, h1, h2, KM.trans h3, h4, h5, b28⟩
      have z30 : ∀ {x : Nat}, x ≤ 1000 → x ≤ sizeLine := fun h => by rw [sizeLine_eq]; omega
      have cl1 := cutV_len (xs := xs) (lo := none) (hi := some at')
      have cl2 := cutV_len (xs := xs) (lo := some at') (hi := none)
      have cl3 := cutV_len (xs := xs) (lo := some (at' + 1)) (hi := none)
      refine ⟨_, rfl, rfl, _, rfl, ite2 (fun _ => ?_) (fun _ => nx _ _ ⟨a, xs, o3, wy, at', o6, rfl, a0, ea, DM, KM, AM, by omega, b28⟩)⟩
      have cl4 := cutV_len (xs := cutV xs none (some at')) (lo := some (-1)) (hi := none)
      have cl5 := cut_last (cutV xs none (some at'))
      refine ⟨_, rfl, _, rfl, _, rfl, a, xs, rfl, ea, fun r1 M1 s1 u1 => ⟨_, rfl, _, rfl, _, rfl, a, xs, rfl, s1 _ _ ea, fun r2 M2 s2 u2 => ⟨_, rfl, _, rfl, r2, _, rfl, u2, fun r3 M3 s3 u3 => ?_⟩⟩⟩
      refine ⟨r1, r3, _, _, rfl, rfl, s3 _ _ (s2 _ _ u1), u3, z30 (by omega), fun r4 M4 s4 u4 => ⟨_, rfl, _, rfl, _, rfl, a, xs, rfl, (((s1.trans s2).trans s3).trans s4) _ _ ea, fun r5 M5 s5 u5 => ?_⟩⟩
      have S5 := (((s1.trans s2).trans s3).trans s4).trans s5
      refine ⟨r4, r5, _, _, rfl, rfl, s5 _ _ u4, u5, by rw [List.length_append]; exact z30 (by omega), fun r6 M6 s6 u6 => ?_⟩
      have K6 : Kp p c M M6 := (kp_same S5).trans (kp_same s6)
      exact fin r6 M6 _ _ u6 ((DM.same S5).same s6) K6 (((AM.mono K6).cut.app (AM.mono K6).cut.cut).app (AM.mono K6).cut) (by rw [List.length_append, List.length_append]; have := cut_two xs a0; omega)
    case i6 =>
      rintro b D0 σ M ⟨a, xs, o3, wy, at', o6, rfl, a0, ea, DM, KM, AM, lb, b28⟩ nx
      have fin : ∀ (r : Addr) (M' : Hp) (ys : List V) (o6 : Option V), M' r = some (.tup ys) → Deck M' p c → Kp p c M M' → AV p c M' ys → ys.length ≤ b + 7 → D0.nx [some (.ref p), some (.ref r), some (.int (m : Int)), o3, some (.int wy), some (.int at'), o6] M' := fun r M' ys o6 h1 h2 h3 h4 h5 => nx _ _ ⟨r, ys, o3, wy, at', o6, rfl, a0, h1, h2, KM.trans h3, h4, h5, b28⟩
      have z30 : ∀ {x : Nat}, x ≤ 1000 → x ≤ sizeLine := fun h => by rw [sizeLine_eq]; omega
      have cl1 := cutV_len (xs := xs) (lo := none) (hi := some at')
      have cl2 := cutV_len (xs := xs) (lo := some at') (hi := none)
      have cl3 := cutV_len (xs := xs) (lo := some (at' + 1)) (hi := none)
      refine ⟨_, rfl, rfl, _, rfl, ite2 (fun _ => ?_) (fun _ => nx _ _ ⟨a, xs, o3, wy, at', o6, rfl, a0, ea, DM, KM, AM, by omega, b28⟩)⟩
      refine ⟨_, rfl, _, rfl, _, rfl, a, xs, rfl, ea, fun r1 M1 s1 u1 => ?_⟩
      have D1 := DM.same s1
      refine ⟨_, rfl, _, rfl, _, _, rfl, rfl, p, c, _, rfl, D1, by omega, by omega, fun d M2 d0 d1 D2 K2 => ⟨by show 1 ≤ sizeLine; exact z30 (by decide), fun r2 hr2 => ?_⟩⟩
      have K02 : Kp p c M (upd M2 r2 (.tup [.int d])) := ((kp_same s1).trans K2).trans (kp_new hr2)
      have D3 := D2.new (o := .tup [.int d]) hr2
      refine ⟨r1, r2, _, [.int d], rfl, rfl, (K2.trans (kp_new hr2)).tup D1 _ _ u1, upd_same, by show _ + 1 ≤ sizeLine; exact z30 (by omega), fun r3 M3 s3 u3 => ?_⟩
      refine ⟨_, rfl, _, rfl, _, _, rfl, rfl, _, rfl, a, xs, rfl, (K02.trans (kp_same s3)).tup DM _ _ ea, fun r4 M4 s4 u4 => ?_⟩
      refine ⟨r3, r4, _, _, rfl, rfl, s4 _ _ u3, u4, by rw [List.length_append]; show _ + 1 + _ ≤ sizeLine; exact z30 (by omega), fun r5 M5 s5 u5 => ?_⟩
      have K5 := ((K02.trans (kp_same s3)).trans (kp_same s4)).trans (kp_same s5)
      exact fin r5 M5 _ _ u5 (((D3.same s3).same s4).same s5) K5 (((AM.mono K5).cut.app (AV.int d)).app (AM.mono K5).cut) (by rw [List.length_append, List.length_append]; show _ + 1 + _ ≤ _; have := cut_two xs a0; omega)
    refine ⟨_, rfl, p, c, _, rfl, D, by decide, by decide, fun r H1 r0 r1 D1 K1 => ⟨_, _, rfl, rfl, _, rfl, by omega, by omega, ?_⟩⟩
    refine for_range (lo := 0) (n := (1 + r).toNat) (fun i σ M => ∃ (a : Addr) (xs : List V) (o3 o4 o5 o6 : Option V), σ = [some (.ref p), some (.ref a), some (.int (m : Int)), o3, o4, o5, o6] ∧ M a = some (.tup xs) ∧ Deck M p c ∧ Kp p c H M ∧ AV p c M xs ∧ xs.length ≤ 40 + 7 * i)
      ⟨a, xs, none, none, none, none, rfl, K1.tup D _ _ ha, D1, K1, av.mono K1, hl⟩ ?_ ?_
    · rintro i σ M hi ⟨a, xs, o3, o4, o5, o6, rfl, ea, DM, KM, AM, lb⟩
      refine ⟨_, rfl, p, c, _, rfl, DM, by decide, by decide, fun wy M1 w0 w1 D2 K2 => ⟨_, rfl, _, rfl, a, _, rfl, .inr (SqT.of (K2.tup DM _ _ ea)), _, _, rfl, rfl, p, c, _, rfl, D2, by omega, by omega, fun at' M2 a0 a1 D3 K3 => ⟨_, _, rfl, ?_⟩⟩⟩
      have K23 := K2.trans K3
      refine ⟨40 + 7 * i, ⟨a, xs, _, wy, at', o6, rfl, a0, K23.tup DM _ _ ea, D3, KM.trans K23, AM.mono K23, by omega, by omega⟩, fun σ M h => ⟨_, h, fun σ M h => ⟨_, h, fun σ M h => ⟨_, h, fun σ M h => ⟨_, h, fun σ M h => ⟨_, h, fun σ M h => ⟨_, h, fun σ M h => ?_⟩⟩⟩⟩⟩⟩⟩
      obtain ⟨a, xs, o3, wy, at', o6, e, _, h1, h2, h3, h4, h5, h6⟩ := h
      exact ⟨a, xs, o3, _, _, o6, e, h1, h2, h3, h4, by omega⟩
    · rintro σ M ⟨a, xs, o3, o4, o5, o6, rfl, ea, DM, KM, AM, lb⟩
      have l28 : xs.length ≤ 54 := by
        have : (1 + r).toNat ≤ 2 := by omega
        omega
      refine ⟨_, rfl, p, c, _, rfl, DM, by decide, by decide, fun d M1 d0 d1 D2 K2 => ⟨rfl, _, rfl, ite2 (fun _ => ?_) (fun _ => ?_)⟩⟩
      rotate_left
      · exact ⟨_, rfl, k _ _ (Thd.tup D2 (K2.tup DM _ _ ea) (AM.mono K2) (by omega)) D2 (KM.trans K2)⟩
      have e1 := K2.tup DM _ _ ea
      refine ⟨_, rfl, _, rfl, a, xs, rfl, .inr (SqT.of e1), fun l hl => ⟨_, rfl, by show 1 ≤ sizeLine; rw [sizeLine_eq]; decide, fun t1 ht1 => ⟨_, rfl, by show 1 ≤ sizeLine; rw [sizeLine_eq]; decide, fun t2 ht2 => ?_⟩⟩⟩
      have s1 : Same M1 (upd M1 l (.lst xs)) := same_new hl
      have s2 := s1.trans (same_new (o := .tup [.ref a]) ht1)
      have s3 := s2.trans (same_new (o := .tup [.int 0]) ht2)
      refine ⟨a, t2, xs, [.int 0], rfl, rfl, s3 _ _ e1, upd_same, by show _ + 1 ≤ sizeLine; rw [sizeLine_eq]; omega, fun t3 M4 s4 u3 => ⟨by show 3 ≤ sizeLine; decide, fun lm hlm => ?_⟩⟩
      have s5 := (s3.trans s4).trans (same_new (o := .lst [.ref l, .ref t1, .ref t3]) hlm)
      have D5 := D2.same s5
      obtain ⟨lmp, lmc⟩ := D2.inp ((s3.trans s4).free hlm)
      obtain ⟨lp, lc⟩ := D2.inp hl
      refine ⟨p, c, lm, _, rfl, D5, upd_same, lmp, lmc, by show 1 ≤ 3; decide, by show 3 < 1000; decide, fun j v M6 hj D6 K6 => ?_⟩
      have K26 := (kp_same (p := p) (c := c) s5).trans K6
      have tm : ∀ {a x}, (upd M4 lm (.lst [.ref l, .ref t1, .ref t3])) a = some (HO.tup x) → M6 a = some (.tup x) := fun e => K6.tup D5 _ _ e
      have hv := List.mem_of_getElem? hj
      simp only [List.mem_cons, List.not_mem_nil, or_false] at hv
      refine k v M6 ?_ D6 ((KM.trans K2).trans K26)
      rcases hv with rfl | rfl | rfl
      · have el : M6 l = some (.lst xs) := K6 _ _ lp lc (by
          rw [upd_ne (ne_of_none (s4 _ _ (same_new ht2 _ _ (same_new ht1 _ _ upd_same))) hlm)]
          exact s4 _ _ (same_new ht2 _ _ (same_new ht1 _ _ upd_same)))
        exact ⟨none, fun M' k' => .oth (.lst (k' _ _ lp lc el)) (by decide)⟩
      · have et : M6 t1 = some (.tup [.ref a]) := tm (same_new hlm _ _ (s4 _ _ (same_new ht2 _ _ upd_same)))
        exact Thd.tup D6 et (AV.one fun M' k' => ⟨_, .tup (.inl (k'.tup D6 _ _ (K26.tup D2 _ _ e1)))⟩) (by show 1 ≤ 60; decide)
      · exact Thd.tup D6 (tm (same_new hlm _ _ u3)) ((AM.mono (K2.trans K26)).app (AV.int 0)) (by rw [List.length_append]; show _ + 1 ≤ 60; omega)
end
end K0

set_option Elab.async false
set_option linter.all false
set_option maxRecDepth 100000
set_option maxHeartbeats 4000000
/-! Rule: sorted(list of tuples of ints), their lengths as they like, none empty. -/
namespace KR
open PySem PySem.Spec L2
open PyProof.Rows hiding St
def shI : Nat → Bool := fun _ => false
theorem items_ints : ∀ {vs : List Value} {ns : List Int} (i : Nat), IntsAre vs ns → tupItems shI i vs = some (ns.map Sum.inl)
  | _, _, _, .nil => rfl
  | _, _, i, .cons n t r => by
    show (if shI i = true then none else (tupItems shI (i + 1) _).map (Sum.inl n :: ·)) = _
    rw [show shI i = false from rfl, if_neg Bool.false_ne_true, items_ints (i + 1) r] <;> rfl
theorem lex_ints : ∀ ns ms : List Int, PyProof.Rows.lexLt itemOrd (ns.map Sum.inl) (ms.map Sum.inl) = HT.lexLt ns ms
  | [], [] => rfl
  | [], _ :: _ => rfl
  | _ :: _, [] => rfl
  | x :: xs, y :: ys => by
    rw [List.map_cons, List.map_cons, PyProof.Rows.lex_cons, HT.lexLt_cons, lex_ints xs ys]
    show (decide (x < y) || (!decide (y < x) && HT.lexLt xs ys)) = _
    by_cases e : x = y
    · rw [if_pos e, decide_eq_false (by omega), decide_eq_false (by omega)] <;> rfl
    · rw [if_neg e]
      by_cases z : x < y
      · rw [decide_eq_true z, Bool.true_or]
      · rw [decide_eq_false z, decide_eq_true (by omega)] <;> rfl
section
variable {prog : Program} {w : World} {A : Around} {s : Shared}
theorem key_of {h : Heap} {v : Value} {ns : List Int} (x : TS.TupInts h v ns) : (tupKind h shI).keyOf v = some (ns.map Sum.inl) := by
  obtain ⟨a, xs, rfl, ⟨o, ho, hc, n, hd⟩, i⟩ := x
  show tupKey h shI (.ref a) = _
  unfold tupKey
  simp only [ho, hd]
  exact items_ints 0 i
theorem tl_cmp {vs : List Value} {k : Value → List Int} (hp : ∀ v ∈ vs, TS.TupInts s.heap v (k v)) : SrtO.Cmp prog w A s (tuples' true) (fun p => p.1 ∈ vs) (SrtO.lt2 fun v u => HT.lexLt (k v) (k u)) := by
  intro p q hm hm'
  refine tup_ltAt true A _ p.1 q.1 _ _ (key_of (hp _ hm)) (key_of (hp _ hm')) ⟨rfl, ?_⟩
  exact lex_ints _ _
theorem tl_firsts {h : Heap} : ∀ {vs : List Value} {k : Value → List Int}, (∀ v ∈ vs, TS.TupInts h v (k v) ∧ k v ≠ []) → ∃ fs, TupsOf h shI vs fs ∧ fs.length = vs.length
  | [], _, _ => ⟨[], .nil, rfl⟩
  | v :: vs, k, hp => by
    obtain ⟨fs, h1, h2⟩ := tl_firsts (fun u hu => hp u (List.mem_cons_of_mem _ hu))
    obtain ⟨⟨a, xs, e, ⟨o, ho, hc, n, hd⟩, i⟩, ne⟩ := hp v (List.mem_cons_self ..)
    generalize k v = ns at i ne
    generalize e1 : xs.toList = us at i
    cases i with
    | nil => exact absurd rfl ne
    | cons x t r =>
      refine ⟨.int x t :: fs, .cons ⟨a, o, xs, n, e, ho, hc, hd, ?_, fun _ => ⟨x, t, rfl⟩, fun z => absurd z (by decide)⟩ h1, by rw [List.length_cons, List.length_cons, h2]⟩
      rw [← Array.getElem?_toList, e1] <;> rfl
theorem tl_sortable {a : Addr} {vs : List Value} {k : Value → List Int} (h0 : 0 < vs.length) (hp : ∀ v ∈ vs, TS.TupInts s.heap v (k v) ∧ k v ≠ []) (ha : ∀ o, s.heap.get? a = some o → o.cls ≠ .type "tuple") :
    SrtO.SortableO prog w A s a vs fun v u => HT.lexLt (k v) (k u) := by
  intro h' keep
  have hp' : ∀ v ∈ vs, TS.TupInts h' v (k v) ∧ k v ≠ [] := fun v hm => ⟨(hp v hm).1.keeps fun b o e c => keep b o (fun z => by subst z; exact ha o e c) e, (hp v hm).2⟩
  obtain ⟨fs, h1, h2⟩ := tl_firsts hp'
  refine ⟨tuples' true, fun Q E hq => ?_, tl_cmp (s := { s with heap := h' }) fun v hm => (hp' v hm).1⟩
  exact tup_kind (s := { s with heap := h' }) (by omega) h1 hq
end
/-- sorted(xs), xs a list of tuples of ints, none empty -/
def rSortTL (K : PySem.W.Frag) : List V → Hp → VK → Prop := fun vs H Q => ∃ (a : Addr) (xs : List V) (k : V → List Int), vs = [V.ref a] ∧ SqL K H a xs ∧ (∀ x ∈ xs, TupI K H x (k x) ∧ k x ≠ []) ∧
  ∀ (ys : List V) (p : Addr), ys.Perm xs → ys.Pairwise (fun x y => HT.lexLt (k y) (k x) = false) → H p = none → Q (.ref p) (upd H p (.lst ys))
section
variable {X : Cx}
theorem cr_sortTL : CallR X (.builtin "sorted") (rSortTL X.K) := by
  intro pins s σ H vs us Q I r h
  obtain ⟨a, xs, k, rfl, hs, hx, q⟩ := h
  obtain ⟨its, rv, hl, hz⟩ := I.list hs
  rw [Vals.ref1 r]
  have bk := bkV_refs rv fun x m => by
    obtain ⟨⟨t, e, _⟩, _⟩ := hx x m
    exact ⟨t, e⟩
  have raw : ∀ v ∈ its, TS.TupInts s.heap v (k (bkV v)) ∧ k (bkV v) ≠ [] := fun v hv => by
    obtain ⟨t, rfl⟩ := bk.2 v hv
    have hm : V.ref t ∈ xs := by
      rw [bk.1]
      exact List.mem_map.mpr ⟨_, hv, rfl⟩
    obtain ⟨⟨t', e, ht⟩, ne⟩ := hx _ hm
    cases e
    exact ⟨tupI_raw I ht, ne⟩
  refine SrtO.sorted_ord (NtL.swo_lexL fun u => k (bkV u)) hl.isList (by rw [← rv.length]; exact hz) (fun h2 h₁ a' ha kk => ?_) fun out h1 h2 => ?_
  · refine tl_sortable (s := { s with heap := h₁ }) (by omega) (fun v hm => ⟨(raw v hm).1.keeps fun b o e _ => (kk b o e).2, (raw v hm).2⟩) fun o e => ?_
    have e' : some o = some (seqObj "list" its.toArray 0) := e.symm.trans ha
    cases e'
    intro c
    exact absurd (Value.type.inj c) (by decide)
  · have refs : ∀ u ∈ out, ∃ t, u = Value.ref t := fun u hu => bk.2 u (h2.perm.mem_iff.mp hu)
    have pm : (out.map bkV).Perm xs := by rw [bk.1]; exact h2.perm.map bkV
    obtain ⟨n, hn⟩ := sortedAll_at s.heap its out.toArray
    refine ⟨.ref (s.heap.objs.size + 1), upd H (s.heap.objs.size + 1) (.lst (out.map bkV)), I.laid (t' := s.toks) (fun b o e => sortedAll_old e) (Nat.le_succ _) ⟨by rw [pm.length_eq]; exact hz, out, n, bkV_vals refs, hn⟩, rfl, q _ _ pm ?_ (I.hok.fresh (Nat.le_succ _))⟩
    exact List.pairwise_map.mpr (h1.imp fun {x y} z => z)
end
end KR

set_option Elab.async false
set_option linter.all false
set_option maxRecDepth 100000
set_option maxHeartbeats 8000000
/-! Values near lots. -/
namespace K0
open PySem PySem.Spec L2
open PyProof.Rows hiding St
open KR (TupX tobj)
/-! ### tuples known whole, put together -/
theorem cut_whole {xs : List V} {lo hi : Option Int} (h : HT.sIx xs.length 0 lo = 0 ∧ HT.sIx xs.length xs.length hi = xs.length) : cutV xs lo hi = xs := by
  unfold cutV
  rw [h.1, h.2, List.drop_zero, Nat.sub_zero, List.take_length]
section
variable {X : Cx}
def rSlU : V → Option Int → Option Int → Hp → VK → Prop := fun x lo hi H Q => ∃ a xs, x = .ref a ∧ TupX H a xs ∧ ∀ r H', Same H H' → TupX H' r (cutV xs lo hi) → Q (.ref r) H'
theorem sl_tupU : SlR X rSlU := fun pins s σ H x v vl vu lo hi sl Q I rx hs pl pu ⟨a, xs, e, t, q⟩ =>
  KR.sl_tupF pins s σ H x v vl vu lo hi sl Q I rx hs pl pu ⟨a, xs, e, t.sq, fun hw => q a H (Same.refl H) ((cut_whole hw).symm ▸ t), fun _ p us hp => q p _ (same_new hp) .of⟩
def rCatU : R2 := fun x y H Q => ∃ a b xs ys, x = .ref a ∧ y = .ref b ∧ TupX H a xs ∧ TupX H b ys ∧ xs.length + ys.length ≤ sizeLine ∧ ∀ r H', Same H H' → TupX H' r (xs ++ ys) → Q (.ref r) H'
theorem op_catU : OpR X (binaryOp .Add) rCatU := fun pins s σ H x y v u Q I rx ry ⟨a, b, xs, ys, e1, e2, t, t', z, q⟩ =>
  KR.op_catF pins s σ H x y v u Q I rx ry ⟨a, b, xs, ys, e1, e2, t.sq, t'.sq, z, fun h => q b H (Same.refl H) (by rw [h]; exact t'), fun _ h => q a H (Same.refl H) (by rw [h, List.append_nil]; exact t), fun _ _ p us hp => q p _ (same_new hp) .of⟩
end
theorem kpT {p c a : Addr} {H H' : Hp} {xs : List V} (t : TupX H a xs) (D : Deck H p c) (k : Kp p c H H') : TupX H' a xs := by
  obtain ⟨us, e⟩ := t
  obtain ⟨ys, m, n, h1, h2, _⟩ := D.ex
  exact ⟨us, k a _ (ne_of e h1 (by intro z; cases z)) (ne_of e h2 (by intro z; cases z)) e⟩
/-! ### items -/
/-- each item is some small datum -/
def Al (H : Hp) (xs : List V) : Prop := ∀ x ∈ xs, ∃ d, DV H Any x d ∧ Tame 0 d
theorem Al.same {H H' : Hp} {xs : List V} (a : Al H xs) (s : Same H H') : Al H' xs := fun x hx => let ⟨d, h1, h2⟩ := a x hx; ⟨d, h1.same s, h2⟩
theorem Al.app {H : Hp} {xs ys : List V} (a : Al H xs) (b : Al H ys) : Al H (xs ++ ys) := fun x hx => (List.mem_append.mp hx).elim (a x) (b x)
theorem Al.sub {H : Hp} {xs ys : List V} (a : Al H xs) (h : ∀ x ∈ ys, x ∈ xs) : Al H ys := fun x hx => a x (h x hx)
theorem Al.cut {H : Hp} {xs : List V} {lo hi : Option Int} (a : Al H xs) : Al H (cutV xs lo hi) := a.sub fun x hx => List.mem_of_mem_drop (List.mem_of_mem_take hx)
theorem Al.data {H : Hp} : ∀ {xs : List V}, Al H xs → ∃ ds : List PyData, xs.length = ds.length ∧ (∀ (i : Nat) (v : V) (d : PyData), xs[i]? = some v → ds[i]? = some d → DV H Any v d) ∧ ∀ d ∈ ds, Tame 0 d
  | [], _ => ⟨[], rfl, (fun i v d z => by simp at z), fun _ z => nomatch z⟩
  | x :: xs, a => by
    obtain ⟨d, h1, h2⟩ := a x (List.mem_cons_self ..)
    obtain ⟨ds, g1, g2, g3⟩ := Al.data (xs := xs) fun y hy => a y (List.mem_cons_of_mem _ hy)
    refine ⟨d :: ds, by rw [List.length_cons, List.length_cons, g1], fun i v e z1 z2 => ?_, fun e he => ?_⟩
    · cases i with
      | zero => cases z1; cases z2; exact h1
      | succ i => exact g2 i v e (by simpa using z1) (by simpa using z2)
    · rcases List.mem_cons.mp he with rfl | he
      · exact h2
      · exact g3 e he
theorem tame_big {ds : List PyData} (h : ∀ d ∈ ds, Tame 0 d) (l : ds.length ≤ 40) : Tame 3 (.tuple ds) ∧ Tame 3 (.list ds) := by
  obtain ⟨h1, h2, h3, h4⟩ := all_of h
  have b0 : bb 0 = 20 := rfl
  have b3 : bb 3 = 1280 := rfl
  have q : ds.length * (bb 0 + 1) ≤ 40 * 21 := by rw [b0]; exact Nat.mul_le_mul_right _ l
  exact ⟨⟨by simp only [PyData.showable, h1], by simp only [PyData.leavesShort, h2], by simp only [PyData.depth]; omega, by simp only [PyData.bulk]; omega, by simp only [slimD, slim_of h, Bool.and_true]; exact decide_eq_true (by omega)⟩, ⟨by simp only [PyData.showable, h1], by simp only [PyData.leavesShort, h2], by simp only [PyData.depth]; omega, by simp only [PyData.bulk]; omega, by simp only [slimD]⟩⟩
theorem int12 : ∀ i : Fin 64, PyData.showable (.int (i.val : Int)) = true ∧ PyData.leavesShort 200 (.int (i.val : Int)) = true := by decide +kernel
theorem small12 {i : Int} (h : 0 ≤ i ∧ i < 64) : PyData.showable (.int i) = true ∧ PyData.leavesShort 200 (.int i) = true := by
  have := int12 ⟨i.toNat, by omega⟩
  have e : ((i.toNat : Nat) : Int) = i := by omega
  rwa [show (((⟨i.toNat, by omega⟩ : Fin 64).val : Nat) : Int) = i from e] at this
theorem tame_small {i : Int} (h : 0 ≤ i ∧ i < 64) (k : Nat) : Tame k (.int i) := ⟨(small12 h).1, (small12 h).2, by simp only [PyData.depth]; omega, by simp only [PyData.bulk]; omega, by simp only [slimD]⟩
/-- a row of small ints, as data -/
theorem ints_nice {ns : List Int} (h : ∀ i ∈ ns, 0 ≤ i ∧ i < 64) : PyData.showableAll (ns.map PyData.int) = true ∧ PyData.leavesShortAll 200 (ns.map PyData.int) = true ∧ PyData.depthAll (ns.map PyData.int) = 0 ∧ PyData.bulkAll (ns.map PyData.int) ≤ ns.length := by
  induction ns with
  | nil => exact ⟨by simp only [List.map_nil, PyData.showableAll], by simp only [List.map_nil, PyData.leavesShortAll], by simp only [List.map_nil, PyData.depthAll], by simp only [List.map_nil, PyData.bulkAll]; exact Nat.zero_le _⟩
  | cons i ns ih =>
    obtain ⟨g1, g2, g3, g4⟩ := ih fun j hj => h j (List.mem_cons_of_mem _ hj)
    obtain ⟨s1, s2⟩ := small12 (h i (List.mem_cons_self ..))
    exact ⟨by simp only [List.map_cons, PyData.showableAll, s1, g1, Bool.and_self], by simp only [List.map_cons, PyData.leavesShortAll, s2, g2, Bool.and_self], by simp only [List.map_cons, PyData.depthAll, PyData.depth, g3]; omega,
      by simp only [List.map_cons, PyData.bulkAll, PyData.bulk, List.length_cons]; omega⟩
theorem tame_lot {n : Nat} {ns : List Int} (h : IsLot n ns) (hn : n ≤ 12) : Tame 0 (.tuple (ns.map PyData.int)) := by
  obtain ⟨g1, g2, g3, g4⟩ := ints_nice (ns := ns) fun i hi => by have := h.bel i hi; omega
  have := lot_len h
  have b0 : bb 0 = 20 := rfl
  exact ⟨by simp only [PyData.showable, g1], by simp only [PyData.leavesShort, g2], by simp only [PyData.depth, g3]; omega, by simp only [PyData.bulk]; omega, by simp only [slimD, slim_ints, Bool.and_true]; exact decide_eq_true (by rw [List.length_map]; omega)⟩
theorem dv_ints {H : Hp} (ns : List Int) : ∀ (i : Nat) (v : V) (d : PyData), (ns.map V.int)[i]? = some v → (ns.map PyData.int)[i]? = some d → DV H Any v d := fun i v d z1 z2 => by
  rw [List.getElem?_map] at z1 z2
  cases e : ns[i]? with
  | none => rw [e] at z1; cases z1
  | some k => rw [e] at z1 z2; cases z1; cases z2; exact .int k
theorem dv_lot {H : Hp} {a : Addr} {ns : List Int} (t : TT H a (ns.map V.int)) : DV H Any (.ref a) (.tuple (ns.map PyData.int)) := .tup trivial t (by rw [List.length_map, List.length_map]) (dv_ints ns)
theorem al_lot {H : Hp} {n : Nat} {ns : List Int} (h : IsLot n ns) (hn : n ≤ 12) : Al H (ns.map V.int) := fun x hx => by
  obtain ⟨i, hi, rfl⟩ := List.mem_map.mp hx
  have := h.bel i hi
  exact ⟨.int i, .int i, tame_small (by omega) 0⟩
/-- what a bent lot is -/
def Bnt (H : Hp) (v : V) : Prop := ∃ (e : PyData) (o : Option (List V)), DV H Any v e ∧ Tame 3 e ∧ Th H v o ∧ NT H v
theorem bnt_tup {H : Hp} {r : Addr} {xs : List V} (t : TupX H r xs) (a : Al H xs) (l : xs.length ≤ 40) : Bnt H (.ref r) := by
  obtain ⟨ds, g1, g2, g3⟩ := a.data
  refine ⟨.tuple ds, some xs, .tup trivial (.inr t) g1 g2, (tame_big g3 (by omega)).1, .tup (.inr t) (fun x hx => let ⟨d, h, _⟩ := a x hx; h.vt) (by omega), ?_⟩
  obtain ⟨us, e⟩ := t
  exact nt_frz e (by omega)
theorem cutV_le {xs : List V} {lo hi : Option Int} : (cutV xs lo hi).length ≤ xs.length := by
  unfold cutV
  rw [List.length_take, List.length_drop]
  omega
def spBent : Sp := fun vs H Q _ => ∃ (p c a : Addr) (n : Nat) (ns : List Int), vs = [.ref p, .int n, .ref a] ∧ 1 ≤ n ∧ n ≤ 12 ∧ Deck H p c ∧ TupX H a (ns.map V.int) ∧ IsLot n ns ∧ ∀ (v : V) (H' : Hp), Bnt H' v → Deck H' p c → Kp p c H H' → Q v H'
section
variable {P : Program} {w0 : World} {K : PySem.W.Frag} {mg : Str → Option Value} {base : Heap}
abbrev nBent : List Str := ["_law_deck_here", "_law_n", "_law_lot", "_law_way", "_law_at", "_law_odd"]
end
end K0

set_option Elab.async false
set_option linter.all false
set_option maxRecDepth 100000
set_option maxHeartbeats 8000000
/-! The program: masks of lots, odd parts, parts, webs within lots. -/
namespace K0
open PySem PySem.Spec L2
open PyProof.Rows hiding St
/-- tuples of places -/
inductive TupsAt (H : Hp) : List V → List (List Nat) → Prop
  | nil : TupsAt H [] []
  | cons {t : Addr} {r : List Nat} {vs : List V} {ys : List (List Nat)} (h : TT H t (r.map natV)) (q : TupsAt H vs ys) : TupsAt H (.ref t :: vs) (r :: ys)
theorem TupsAt.mono {H H' : Hp} {vs : List V} {ys : List (List Nat)} (p : TupsAt H vs ys) (s : ∀ a x, TT H a x → TT H' a x) : TupsAt H' vs ys := by
  induction p with
  | nil => exact .nil
  | cons h _ ih => exact .cons (s _ _ h) ih
theorem TupsAt.same {H H' : Hp} {vs : List V} {ys : List (List Nat)} (p : TupsAt H vs ys) (s : Same H H') : TupsAt H' vs ys := p.mono fun _ _ t => t.keep fun o q => s _ _ q
theorem TupsAt.app {H : Hp} {vs ws : List V} {ys zs : List (List Nat)} (p : TupsAt H vs ys) (q : TupsAt H ws zs) : TupsAt H (vs ++ ws) (ys ++ zs) := by
  induction p with
  | nil => exact q
  | cons h _ ih => exact .cons h ih
theorem TupsAt.len {H : Hp} {vs : List V} {ys : List (List Nat)} (p : TupsAt H vs ys) : vs.length = ys.length := by
  induction p with
  | nil => rfl
  | cons _ _ ih => rw [List.length_cons, List.length_cons, ih]
theorem TupsAt.get {H : Hp} {vs : List V} {ys : List (List Nat)} (p : TupsAt H vs ys) : ∀ {i : Nat} {v : V}, vs[i]? = some v → ∃ t r, v = .ref t ∧ ys[i]? = some r ∧ TT H t (r.map natV) := by
  induction p with
  | nil => intro i v z; cases z
  | @cons t r vs ys h _ ih =>
    intro i v z
    cases i with
    | zero => cases z; exact ⟨t, r, rfl, rfl, h⟩
    | succ i => exact ih (by simpa using z)
theorem LotsAt.tups {H : Hp} {vs : List V} {ps : List (Nat × Nat)} (p : LotsAt H vs ps) : TupsAt H vs (ps.map fun q => lotN q.2) := by
  induction p with
  | nil => exact .nil
  | cons h _ ih => exact .cons (.inl h) ih
/-- all parts of the places m, in order -/
structure IsParts (L : List (Int × Int)) (m : Nat) (ys : List (List Nat)) : Prop where
  cls : Cls L m ys
  asc : ys.Pairwise fun a b => hd a < hd b
theorem IsParts.uniq {L : List (Int × Int)} {m : Nat} {ys zs : List (List Nat)} (a : IsParts L m ys) (b : IsParts L m zs) : ys = zs := a.cls.eq b.cls a.asc b.asc
theorem Parts.is {L : List (Int × Int)} {m : Nat} {ps : List (Nat × Nat)} (P : Parts L m ps) (hm : m < 2 ^ 12) : IsParts L m (ps.map fun q => lotN q.2) := ⟨(P.cls hm).1, (P.cls hm).2⟩
/-- ks as a lot -/
theorem nat_lot {n : Nat} {ks : List Nat} (h : ∀ i ∈ ks, i < n) (p : ks.Pairwise (· < ·)) : IsLot n (ks.map fun i => ((i : Nat) : Int)) := by
  refine ⟨fun i hi => ?_, ?_⟩
  · obtain ⟨j, hj, rfl⟩ := List.mem_map.mp hi
    have := h j hj
    omega
  · rw [List.pairwise_map]
    exact p.imp fun {a b} z => by omega
theorem lot_nat {n : Nat} {ns : List Int} (h : IsLot n ns) : ∃ ks : List Nat, ns = ks.map (fun i => ((i : Nat) : Int)) ∧ (∀ i ∈ ks, i < n) ∧ ks.Pairwise (· < ·) := by
  have e : ns = (ns.map Int.toNat).map (fun i => ((i : Nat) : Int)) := by
    rw [List.map_map]
    have : ∀ i ∈ ns, ((fun i => ((i : Nat) : Int)) ∘ Int.toNat) i = id i := fun i hi => by
      have := h.bel i hi
      show ((i.toNat : Nat) : Int) = i
      omega
    rw [List.map_congr_left this, List.map_id]
  refine ⟨ns.map Int.toNat, e, fun i hi => ?_, ?_⟩
  · obtain ⟨j, hj, rfl⟩ := List.mem_map.mp hi
    have := h.bel j hj
    omega
  · rw [List.pairwise_map]
    refine List.Pairwise.imp_of_mem (fun {a b} ha hb z => ?_) h.inc
    have := h.bel a ha
    have := h.bel b hb
    omega
def spMaskOf : Sp := fun vs H Q _ => ∃ (a : Addr) (ks : List Nat), vs = [.ref a] ∧ TT H a (ks.map natV) ∧ (∀ i ∈ ks, i < 12) ∧ ks.length ≤ 60 ∧ ∀ H', Same H H' → Q (.int ((maskN ks : Nat) : Int)) H'
def spOddParts : Sp := fun vs H Q _ => ∃ (l : Addr) (m n : Nat) (ms : List Nat) (L : List (Int × Int)), vs = [.ref l, .int (m : Int)] ∧ H l = some (.lst (ms.map natV)) ∧ Near L n ms ∧ n ≤ 12 ∧ Bel n L ∧ m < 2 ^ n ∧
  ∀ (ys : List (List Nat)) (H' : Hp), Same H H' → IsParts L m ys → Q (.int (((ys.map fun c => c.length % 2).sum : Nat) : Int)) H'
def spPartsOf : Sp := fun vs H Q _ => ∃ (w : Addr) (n : Nat) (L : List (Int × Int)), vs = [.ref w] ∧ GW H w n L ∧ ∀ (t : Addr) (us : List V) (ys : List (List Nat)) (H' : Hp), Same H H' → H t = none → H' t = some (.tup us) → TupsAt H' us ys → IsParts L (2 ^ n - 1) ys → Q (.ref t) H'
def spIsJoined : Sp := fun vs H Q _ => ∃ (w : Addr) (n : Nat) (L : List (Int × Int)), vs = [.ref w] ∧ GW H w n L ∧ ∀ (ys : List (List Nat)) (H' : Hp), Same H H' → IsParts L (2 ^ n - 1) ys → Q (.bl (decide (ys.length = 1))) H'
/-- the places that a lot leaves -/
def restM (n : Nat) (ks : List Nat) : Nat := (2 ^ n - 1) ^^^ maskN ks
theorem restM_bit {n : Nat} {ks : List Nat} (h : ∀ i ∈ ks, i < n) (nd : ks.Nodup) (i : Nat) : (restM n ks).testBit i = true ↔ i < n ∧ i ∉ ks := by
  unfold restM
  rw [Nat.testBit_xor, full_bit]
  have e := mask_bit nd i
  by_cases hk : i ∈ ks
  · rw [e.mpr hk, decide_eq_true (h i hk)]
    simp [hk]
  · have : (maskN ks).testBit i = false := by
      cases q : (maskN ks).testBit i with
      | false => rfl
      | true => exact absurd (e.mp q) hk
    rw [this, Bool.xor_false, decide_eq_true_eq]
    exact ⟨fun z => ⟨z, hk⟩, fun z => z.1⟩
def spOddRests : Sp := fun vs H Q _ => ∃ (w a : Addr) (n : Nat) (L : List (Int × Int)) (ks : List Nat), vs = [.ref w, .ref a] ∧ GW H w n L ∧ TT H a (ks.map natV) ∧ (∀ i ∈ ks, i < n) ∧ ks.Pairwise (· < ·) ∧
  ∀ (ys : List (List Nat)) (H' : Hp), Same H H' → IsParts L (restM n ks) ys → Q (.int (((ys.map fun c => c.length % 2).sum : Nat) : Int)) H'
def spWithin0 : Sp := fun vs H Q _ => ∃ (w a : Addr) (n : Nat) (L : List (Int × Int)) (ns : List Int), vs = [.ref w, .ref a] ∧ GW H w n L ∧ TT H a (ns.map V.int) ∧ IsLot n ns ∧ ns ≠ [] ∧ gIn H L ns Q
def spWithout0 : Sp := fun vs H Q _ => ∃ (w a : Addr) (n : Nat) (L : List (Int × Int)) (ns : List Int), vs = [.ref w, .ref a] ∧ GW H w n L ∧ TT H a (ns.map V.int) ∧ IsLot n ns ∧ restN n ns ≠ [] ∧ gIn H L (restN n ns) Q
section
variable {P : Program} {w0 : World} {K : PySem.W.Frag} {mg : Str → Option Value} {base : Heap}
abbrev nMaskOf : List Str := ["lot", "place"]
abbrev nOddParts : List Str := ["near", "mask", "part"]
theorem lot_nodup {ks : List Nat} (p : ks.Pairwise (· < ·)) : ks.Nodup := inc_nodup p
theorem nats_ints (ks : List Nat) : (ks.map fun i => ((i : Nat) : Int)).map V.int = ks.map natV := (natV_ints ks).symm
end
end K0

set_option Elab.async false
set_option linter.all false
set_option maxRecDepth 100000
set_option maxHeartbeats 8000000
/-! The law's own parts. -/
namespace K0
open PySem PySem.Spec L2
open PyProof.Rows hiding St
abbrev lParts : Stmt := top 38
/-- tuples of places, each known -/
inductive TupsK (H : Hp) : List V → List (List Nat) → Prop
  | nil : TupsK H [] []
  | cons {t : Addr} {r : List Nat} {vs : List V} {ys : List (List Nat)} (h : H t = some (.tup (r.map natV))) (q : TupsK H vs ys) : TupsK H (.ref t :: vs) (r :: ys)
theorem TupsK.mono {H H' : Hp} {vs : List V} {ys : List (List Nat)} (p : TupsK H vs ys) (s : ∀ a x, H a = some (.tup x) → H' a = some (.tup x)) : TupsK H' vs ys := by
  induction p with
  | nil => exact .nil
  | cons h _ ih => exact .cons (s _ _ h) ih
theorem TupsK.same {H H' : Hp} {vs : List V} {ys : List (List Nat)} (p : TupsK H vs ys) (s : Same H H') : TupsK H' vs ys := p.mono fun _ _ t => s _ _ t
theorem TupsK.app {H : Hp} {vs ws : List V} {ys zs : List (List Nat)} (p : TupsK H vs ys) (q : TupsK H ws zs) : TupsK H (vs ++ ws) (ys ++ zs) := by
  induction p with
  | nil => exact q
  | cons h _ ih => exact .cons h ih
theorem TupsK.len {H : Hp} {vs : List V} {ys : List (List Nat)} (p : TupsK H vs ys) : vs.length = ys.length := by
  induction p with
  | nil => rfl
  | cons _ _ ih => rw [List.length_cons, List.length_cons, ih]
theorem TupsK.get {H : Hp} {vs : List V} {ys : List (List Nat)} (p : TupsK H vs ys) : ∀ {i : Nat} {v : V}, vs[i]? = some v → ∃ t r, v = .ref t ∧ ys[i]? = some r ∧ H t = some (.tup (r.map natV)) := by
  induction p with
  | nil => intro i v z; cases z
  | @cons t r vs ys h _ ih =>
    intro i v z
    cases i with
    | zero => cases z; exact ⟨t, r, rfl, rfl, h⟩
    | succ i => exact ih (by simpa using z)
theorem TupsK.at {H : Hp} {vs : List V} {ys : List (List Nat)} (p : TupsK H vs ys) : TupsAt H vs ys := by
  induction p with
  | nil => exact .nil
  | cons h _ ih => exact .cons (.inl h) ih
theorem TupsK.perm {H : Hp} {vs : List V} {ys : List (List Nat)} (p : TupsK H vs ys) {ws : List V} (q : ws.Perm vs) : ∃ zs, zs.Perm ys ∧ TupsK H ws zs := by
  induction q generalizing ys with
  | nil => exact ⟨ys, .refl _, p⟩
  | trans q1 q2 ih1 ih2 =>
    obtain ⟨z1, h1, h2⟩ := ih2 p
    obtain ⟨z2, h3, h4⟩ := ih1 h2
    exact ⟨z2, h3.trans h1, h4⟩
  | swap x y l =>
    cases p with
    | cons h p =>
      cases p with
      | cons g p => exact ⟨_, .swap .., .cons g (.cons h p)⟩
  | cons x _ ih =>
    cases p with
    | cons h p =>
      obtain ⟨zs, h1, h2⟩ := ih p
      exact ⟨_, h1.cons _, .cons h h2⟩
/-- as data -/
abbrev rowD (r : List Nat) : PyData := .tuple ((r.map fun i => ((i : Nat) : Int)).map PyData.int)
theorem dp_ints {K : PySem.W.Frag} {H : Hp} : ∀ ns : List Int, DpAll K H (ns.map V.int) (ns.map PyData.int)
  | [] => .nil
  | i :: ns => .cons (.int i) (dp_ints ns)
theorem dp_row {K : PySem.W.Frag} {H : Hp} {t : Addr} {r : List Nat} (h : TT H t (r.map natV)) : Dp K H (.ref t) (rowD r) := .tup (xs := (r.map fun i => ((i : Nat) : Int)).map V.int) (by rw [← natV_ints]; exact h.sq) (dp_ints _)
theorem TupsAt.dp {K : PySem.W.Frag} {H : Hp} {vs : List V} {ys : List (List Nat)} (p : TupsAt H vs ys) : DpAll K H vs (ys.map rowD) := by
  induction p with
  | nil => exact .nil
  | cons h _ ih => exact .cons (dp_row h) ih
theorem ints_lay (ns : List Int) : PyData.canLayAll0 (ns.map PyData.int) = true ∧ PyData.depthAll (ns.map PyData.int) = 0 := by
  induction ns with
  | nil => exact ⟨by simp [PyData.canLayAll0], by simp [PyData.depthAll]⟩
  | cons y ys ih => exact ⟨by simp [PyData.canLayAll0, PyData.canLay0, ih.1], by simp [PyData.depthAll, PyData.depth, ih.2]⟩
theorem row_lay (r : List Nat) : PyData.canLay0 (rowD r) = true ∧ PyData.depth (rowD r) = 1 := by
  have h := ints_lay (r.map fun i => ((i : Nat) : Int))
  exact ⟨by simp only [PyData.canLay0]; exact h.1, by simp only [PyData.depth, h.2]⟩
theorem rows_lay (ys : List (List Nat)) : PyData.canLayAll0 (ys.map rowD) = true ∧ PyData.depthAll (ys.map rowD) ≤ 1 := by
  induction ys with
  | nil => exact ⟨by simp [PyData.canLayAll0], by simp [PyData.depthAll]⟩
  | cons y ys ih =>
    obtain ⟨h1, h2⟩ := row_lay y
    exact ⟨by simp only [List.map_cons, PyData.canLayAll0, h1, ih.1, Bool.and_self], by simp only [List.map_cons, PyData.depthAll, h2]; have := ih.2; omega⟩
theorem row_sh (r : List Nat) : SeqAt.shaped (rowD r) = true := by
  show (PyData.canLay0 _ && decide (PyData.depth _ ≤ 64)) = true
  rw [(row_lay r).1, (row_lay r).2] <;> rfl
theorem rows_sh (ys : List (List Nat)) : SeqAt.shaped (.list (ys.map rowD)) = true := by
  show (PyData.canLay0 _ && decide (PyData.depth _ ≤ 64)) = true
  have h := rows_lay ys
  rw [Bool.and_eq_true]
  exact ⟨by simp only [PyData.canLay0]; exact h.1, decide_eq_true (by simp only [PyData.depth]; have := h.2; omega)⟩
theorem cast_inj : ∀ {a b : List Nat}, a.map (fun i => ((i : Nat) : Int)) = b.map (fun i => ((i : Nat) : Int)) → a = b
  | [], [], _ => rfl
  | [], _ :: _, h => nomatch h
  | _ :: _, [], h => nomatch h
  | x :: a, y :: b, h => by
    obtain ⟨h1, h2⟩ := List.cons.inj h
    have h1 : ((x : Nat) : Int) = ((y : Nat) : Int) := h1
    rw [cast_inj h2, show x = y by omega]
theorem row_eqv (a b : List Nat) : PyData.eqv (rowD a) (rowD b) = decide (a = b) := by
  simp only [rowD, PyData.eqv]
  rw [eqvAll_ints]
  refine decide_eq_decide.mpr ⟨fun h => ?_, fun h => by rw [h]⟩
  exact cast_inj h
theorem rows_any (ys : List (List Nat)) (r : List Nat) : ((ys.map rowD).any fun z => PyData.eqv z (rowD r)) = decide (r ∈ ys) := by
  rw [List.any_map]
  induction ys with
  | nil => simp
  | cons y ys ih =>
    rw [List.any_cons, ih]
    show (PyData.eqv (rowD y) (rowD r) || _) = _
    rw [row_eqv]
    by_cases e : y = r
    · subst e; simp
    · rw [decide_eq_false e, Bool.false_or]
      refine decide_eq_decide.mpr ?_
      rw [List.mem_cons]
      exact ⟨.inr, fun z => z.resolve_left fun y => e y.symm⟩
/-- the classes that hold one of the ends -/
def nearC (a b : Nat) (xs : List (List Nat)) : List (List Nat) := xs.filter fun c => decide (a ∈ c) || decide (b ∈ c)
theorem inV_nat (k : Nat) (ns : List Nat) : inV (natV k) (ns.map natV) = decide (k ∈ ns) := by
  rw [natV_ints]
  show inV (.int (k : Int)) _ = _
  rw [inV_ints]
  refine decide_eq_decide.mpr ?_
  rw [List.mem_map]
  exact ⟨fun ⟨j, hj, e⟩ => by rw [show k = j by omega]; exact hj, fun h => ⟨k, h, rfl⟩⟩
theorem flat_natV (ns : List Nat) : (ns.map natV).all flatV = true := by rw [natV_ints]; exact flat_ints _
theorem dis_mem {xs : List (List Nat)} (d : xs.Pairwise fun a b => ∀ i, i ∈ a → i ∉ b) {c e : List Nat} (hc : c ∈ xs) (he : e ∈ xs) {i : Nat} (h1 : i ∈ c) (h2 : i ∈ e) : c = e := by
  induction xs with
  | nil => cases hc
  | cons x xs ih =>
    obtain ⟨d1, d2⟩ := List.pairwise_cons.mp d
    rcases List.mem_cons.mp hc with rfl | hc1
    · rcases List.mem_cons.mp he with rfl | he1
      · rfl
      · exact absurd h2 (d1 e he1 i h1)
    · rcases List.mem_cons.mp he with rfl | he1
      · exact absurd h1 (d1 c hc1 i h2)
      · exact ih d2 hc1 he1
/-- there are one or two of them -/
theorem Cls.near {L : List (Int × Int)} {m : Nat} {xs : List (List Nat)} (C : Cls L m xs) {a b : Nat} (ha : m.testBit a = true) (hb : m.testBit b = true) :
    (∃ c, nearC a b xs = [c] ∧ a ∈ c ∧ b ∈ c ∧ c ∈ xs) ∨ ∃ c e, nearC a b xs = [c, e] ∧ c ∈ xs ∧ e ∈ xs ∧ c ≠ e ∧ ((a ∈ c ∧ b ∈ e) ∨ (b ∈ c ∧ a ∈ e)) ∧ xs.Perm (c :: e :: xs.filter fun x => !decide (x ∈ nearC a b xs)) := by
  obtain ⟨c, hc, ac⟩ := C.all a ha
  obtain ⟨e, he, be⟩ := C.all b hb
  have nd : xs.Nodup := by
    refine List.Pairwise.imp_of_mem (fun {x y} hx hy h z => ?_) C.dis
    subst z
    cases q : x with
    | nil => exact C.ne hx q
    | cons i t => exact h i (by rw [q]; exact List.mem_cons_self ..) (by rw [q]; exact List.mem_cons_self ..)
  have mem : ∀ x, x ∈ nearC a b xs ↔ x = c ∨ x = e := fun x => by
    unfold nearC
    rw [List.mem_filter, Bool.or_eq_true, decide_eq_true_eq, decide_eq_true_eq]
    constructor
    · rintro ⟨hx, z | z⟩
      · exact .inl (dis_mem C.dis hx hc z ac)
      · exact .inr (dis_mem C.dis hx he z be)
    · rintro (rfl | rfl)
      · exact ⟨hc, .inl ac⟩
      · exact ⟨he, .inr be⟩
  have nn : (nearC a b xs).Nodup := nd.filter _
  by_cases ce : c = e
  · subst ce
    refine .inl ⟨c, ?_, ac, be, hc⟩
    generalize nearC a b xs = ys at mem nn
    match ys, mem, nn with
    | [], mem, _ => exact absurd ((mem c).mpr (.inl rfl)) (by simp)
    | [x], mem, _ => rw [((mem x).mp (List.mem_singleton.mpr rfl)).elim id id]
    | x :: y :: zs, mem, nn =>
      have h1 := ((mem x).mp (List.mem_cons_self ..)).elim id id
      have h2 := ((mem y).mp (List.mem_cons_of_mem _ (List.mem_cons_self ..))).elim id id
      exact absurd (by rw [h1, h2]; exact List.mem_cons_self ..) (List.nodup_cons.mp nn).1
  · refine .inr ?_
    have pm : xs.Perm (nearC a b xs ++ xs.filter fun x => !decide (x ∈ nearC a b xs)) := by
      have e1 : xs.filter (fun x => decide (x ∈ nearC a b xs)) = nearC a b xs := by
        show _ = xs.filter _
        refine List.filter_congr fun x hx => ?_
        have := mem x
        unfold nearC at this ⊢
        rw [List.mem_filter] at this
        simp only [List.mem_filter, hx, true_and, Bool.decide_eq_true]
      have := List.filter_append_perm (fun x => decide (x ∈ nearC a b xs)) xs
      rw [e1] at this
      exact this.symm
    have two : ∃ x y, nearC a b xs = [x, y] := by
      generalize nearC a b xs = ys at mem nn
      match ys, mem, nn with
      | [], mem, _ => exact absurd ((mem c).mpr (.inl rfl)) (by simp)
      | [x], mem, _ =>
        have h1 := List.mem_singleton.mp ((mem c).mpr (.inl rfl))
        have h2 := List.mem_singleton.mp ((mem e).mpr (.inr rfl))
        exact absurd (h1.trans h2.symm) ce
      | [x, y], _, _ => exact ⟨x, y, rfl⟩
      | x :: y :: z :: zs, mem, nn =>
        have n1 := List.nodup_cons.mp nn
        have n2 := List.nodup_cons.mp n1.2
        have hx := (mem x).mp (by simp)
        have hy := (mem y).mp (by simp)
        have hz := (mem z).mp (by simp)
        have xy : x ≠ y := fun q => n1.1 (by rw [q]; simp)
        have xz : x ≠ z := fun q => n1.1 (by rw [q]; simp)
        have yz : y ≠ z := fun q => n2.1 (by rw [q]; simp)
        rcases hx with rfl | rfl <;> rcases hy with rfl | rfl <;> rcases hz with rfl | rfl <;> simp_all
    obtain ⟨x, y, exy⟩ := two
    rw [exy] at pm nn mem
    have hx := (mem x).mp (by simp)
    have hy := (mem y).mp (by simp)
    have xy : x ≠ y := fun q => (List.nodup_cons.mp nn).1 (by rw [q]; simp)
    refine ⟨x, y, exy, ?_, ?_, xy, ?_, ?_⟩
    · rcases hx with rfl | rfl
      · exact hc
      · exact he
    · rcases hy with rfl | rfl
      · exact hc
      · exact he
    · rcases hx with rfl | rfl
      · rcases hy with rfl | rfl
        · exact absurd rfl xy
        · exact .inl ⟨ac, be⟩
      · rcases hy with rfl | rfl
        · exact .inr ⟨be, ac⟩
        · exact absurd rfl xy
    · rw [exy]
      exact pm

theorem Cls.few {L : List (Int × Int)} {n : Nat} {xs : List (List Nat)} (C : Cls L (2 ^ n - 1) xs) : xs.length ≤ n := by
  have h := C.len (ks := List.range n) List.nodup_range fun i => by rw [full_bit, decide_eq_true_eq, List.mem_range]
  rw [List.length_range] at h
  have g : ∀ ys : List (List Nat), (∀ c ∈ ys, c ≠ []) → ys.length ≤ (ys.map List.length).sum := fun ys hy => by
    induction ys with
    | nil => exact Nat.zero_le _
    | cons c ys ih =>
      have := ih fun d hd => hy d (List.mem_cons_of_mem _ hd)
      have : 0 < c.length := List.length_pos_iff.mpr (hy c (List.mem_cons_self ..))
      rw [List.map_cons, List.sum_cons, List.length_cons]
      omega
  have := g xs fun c hc => C.ne hc
  omega
theorem Cls.short {L : List (Int × Int)} {n : Nat} {xs : List (List Nat)} (C : Cls L (2 ^ n - 1) xs) {c : List Nat} (h : c ∈ xs) : c.length ≤ n ∧ ∀ i ∈ c, i < n := by
  have b : ∀ i ∈ c, i < n := fun i hi => by
    obtain ⟨r, _, e⟩ := C.cls c h
    have := ((e i).mp hi).bit
    rwa [full_bit, decide_eq_true_eq] at this
  have := len_le (inc_nodup (C.inc c h)) (m := List.range n) fun i hi => List.mem_range.mpr (b i hi)
  rw [List.length_range] at this
  exact ⟨this, b⟩
theorem merge {c e : List Nat} (hc : c.Pairwise (· < ·)) (he : e.Pairwise (· < ·)) (d : ∀ i, i ∈ c → i ∉ e) {ms : List Int} (pm : ms.Perm ((c ++ e).map fun i => ((i : Nat) : Int))) (pw : ms.Pairwise (· ≤ ·)) :
    ∃ g : List Nat, ms = g.map (fun i => ((i : Nat) : Int)) ∧ g.Pairwise (· < ·) ∧ (∀ i, i ∈ g ↔ i ∈ c ∨ i ∈ e) ∧ g.length = c.length + e.length := by
  have back : ∀ l : List Nat, (l.map fun i => ((i : Nat) : Int)).map Int.toNat = l := fun l => by
    rw [List.map_map]
    exact (List.map_congr_left fun i _ => Int.toNat_natCast i).trans (List.map_id l)
  have e1 : ms = (ms.map Int.toNat).map (fun i => ((i : Nat) : Int)) := by
    rw [List.map_map]
    have : ∀ i ∈ ms, ((fun i => ((i : Nat) : Int)) ∘ Int.toNat) i = id i := fun i hi => by
      obtain ⟨j, _, rfl⟩ := List.mem_map.mp (pm.mem_iff.mp hi)
      rfl
    rw [List.map_congr_left this, List.map_id]
  have p2 : (ms.map Int.toNat).Perm (c ++ e) := by
    have := pm.map Int.toNat
    rwa [back] at this
  have nd : (ms.map Int.toNat).Nodup := p2.nodup_iff.mpr (List.nodup_append.mpr ⟨inc_nodup hc, inc_nodup he, fun x hx y hy z => by subst z; exact d x hx hy⟩)
  refine ⟨_, e1, ?_, fun i => by rw [p2.mem_iff, List.mem_append], by rw [p2.length_eq, List.length_append]⟩
  have le : (ms.map Int.toNat).Pairwise (· ≤ ·) := by
    rw [List.pairwise_map]
    exact pw.imp fun {a b} z => by omega
  exact (le.and nd).imp fun {a b} z => by have h1 := z.1; have h2 := z.2; omega
/-- the ints of a tuple that is known -/
def kOf (M : Hp) : V → List Int
  | .ref t => match M t with
    | some (.tup xs) => xs.map intV
    | _ => []
  | _ => []
theorem kOf_row {M : Hp} {t : Addr} {r : List Nat} (h : M t = some (.tup (r.map natV))) : kOf M (.ref t) = r.map fun i => ((i : Nat) : Int) := by
  simp only [kOf, h]
  rw [List.map_map]
  exact List.map_congr_left fun _ _ => rfl
theorem lex_hd {a b : List Nat} (ha : a ≠ []) (hb : b ≠ []) (d : ∀ i, i ∈ a → i ∉ b) (h : HT.lexLt (b.map fun i => ((i : Nat) : Int)) (a.map fun i => ((i : Nat) : Int)) = false) : hd a < hd b := by
  cases a with
  | nil => exact absurd rfl ha
  | cons x s =>
    cases b with
    | nil => exact absurd rfl hb
    | cons y t =>
      have ne : x ≠ y := fun z => d x (List.mem_cons_self ..) (by rw [z]; exact List.mem_cons_self ..)
      rw [List.map_cons, List.map_cons, HT.lexLt_cons, if_neg (by omega), decide_eq_false_iff_not] at h
      show x < y
      omega
theorem TupsK.srt {M : Hp} {vs : List V} {ys : List (List Nat)} (p : TupsK M vs ys) (d : ys.Pairwise fun a b => ∀ i, i ∈ a → i ∉ b) (ne : ∀ c ∈ ys, c ≠ []) (h : vs.Pairwise fun x y => HT.lexLt (kOf M y) (kOf M x) = false) : ys.Pairwise fun a b => hd a < hd b := by
  induction p with
  | nil => exact .nil
  | @cons t r vs ys ht q ih =>
    obtain ⟨h1, h2⟩ := List.pairwise_cons.mp h
    obtain ⟨d1, d2⟩ := List.pairwise_cons.mp d
    refine List.pairwise_cons.mpr ⟨fun c hc => ?_, ih d2 (fun c hc => ne c (List.mem_cons_of_mem _ hc)) h2⟩
    obtain ⟨i, hi⟩ := List.getElem?_of_mem hc
    have li : i < vs.length := by rw [q.len]; exact (List.getElem?_eq_some_iff.mp hi).1
    obtain ⟨t', r', e1, e2, e3⟩ := q.get (List.getElem?_eq_getElem li)
    rw [hi] at e2
    cases e2
    have := h1 _ (List.getElem_mem li)
    rw [e1, kOf_row e3, kOf_row ht] at this
    exact lex_hd (ne _ (List.mem_cons_self ..)) (ne c (List.mem_cons_of_mem _ hc)) (d1 c hc) this
theorem TupsK.tupI {K : PySem.W.Frag} {M : Hp} {vs : List V} {ys : List (List Nat)} (p : TupsK M vs ys) (ne : ∀ c ∈ ys, c ≠ []) : ∀ x ∈ vs, TupI K M x (kOf M x) ∧ kOf M x ≠ [] := fun x hx => by
  obtain ⟨i, hi⟩ := List.getElem?_of_mem hx
  obtain ⟨t, r, rfl, e2, e3⟩ := p.get hi
  rw [kOf_row e3]
  refine ⟨⟨t, rfl, ?_⟩, fun z => ne r (List.mem_of_getElem? e2) (List.map_eq_nil_iff.mp z)⟩
  rw [← natV_ints]
  exact SqT.of e3
theorem TupsK.two {H : Hp} {vs : List V} {c e : List Nat} (p : TupsK H vs [c, e]) : ∃ t u, vs = [.ref t, .ref u] ∧ H t = some (.tup (c.map natV)) ∧ H u = some (.tup (e.map natV)) := by
  cases p with
  | cons h p =>
    cases p with
    | cons g p =>
      cases p
      exact ⟨_, _, rfl, h, g⟩
def spLParts : Sp := fun vs H Q _ => ∃ (w : Addr) (n : Nat) (L : List (Int × Int)), vs = [.ref w] ∧ Web H w n L ∧ n ≤ 12 ∧ Bel n L ∧ L.length ≤ 40 ∧ ∀ (t : Addr) (us : List V) (ys : List (List Nat)) (H' : Hp), Same H H' → H t = none → H' t = some (.tup us) → TupsK H' us ys → IsParts L (2 ^ n - 1) ys → Q (.ref t) H'
section
variable {P : Program} {w0 : World} {K : PySem.W.Frag} {mg : Str → Option Value} {base : Heap}
abbrev nLParts : List Str := ["_law_web_here", "_law_found", "_law_one", "_law_other", "_law_near_here", "_law_place", "_law_part"]
theorem scLParts : FnScope nLParts ["_law_web_here"] (defScope lParts) := ⟨rfl, rfl, rfl, by decide +kernel, rfl, by decide +kernel, by decide +kernel⟩
theorem ok_lParts {f : Addr} {fd : FuncData} (F : Fun K "_law_parts" "_law_parts" lParts f fd) (T : Bk mg) : FnOk P w0 K mg base CX0 1 f fd ["_law_web_here"] spLParts := by
  refine F.ok scLParts (fun vs H Q E h => ?_) (fun cdv A outer s H vs Q E hr h => ?_)
  · obtain ⟨w, n, L, rfl, _⟩ := h
    rfl
  · obtain ⟨w, n, L, rfl, W, hn, hB, few, k⟩ := h
    have hu6 : A.units + 3 + 65 < cLine := by have := hr.un; have e : (A.deeper (envOfC "_law_parts" (defScope lParts) s.heap.objs.size f cdv)).units = A.units + 3 := rfl; omega
    refine ⟨_, pss_cons (ps_setLc (i := 1) (own := [("_law_place", 5)]) (g := gName 5) (tt := tYes) rfl scLParts.nd rfl rfl (sw_true rfl rfl rfl (by decide +kernel))
          (pi_range1 (by rfl) T.range (pa_cons (pe_ix ix_tup (pv 0) pe_int (fun _ _ => rfl)) pa_nil)) (blkOk_by (N := nLParts) (sc := defScope lParts) (by decide +kernel)) (fun _ _ _ _ _ => pg_name (i := 5) scLParts.nd rfl (Or.inl rfl)) (fun _ _ _ _ _ => pts_nil)
          (fun _ _ _ _ _ => pe_tup (pa_cons (pv 5) pa_nil)))
      <| pss_cons (ps_for PassesOwn.never rfl (pi_tup (pe_ix ix_tup (pv 0) pe_int (fun _ _ => rfl))) (pg_tup rfl (pgs_cons (pg_name (i := 2) scLParts.nd rfl (.inr rfl)) (pgs_cons (pg_name (i := 3) scLParts.nd rfl (.inr rfl)) pgs_nil)))
          (pss_cons (ps_set (i := 4) scLParts.nd rfl (.inr rfl) (pe_lc (own := [("_law_part", 6)]) (g := gName 6) rfl scLParts.nd (pi_list (pv 1)) (blkOk_by (N := nLParts) (sc := defScope lParts) (by decide +kernel))
              (fun _ _ _ _ _ => pg_name (i := 6) scLParts.nd rfl (Or.inl rfl))
              (fun _ _ _ _ _ => pts_one (PW.pt (pw_or (pt_cmpR (show OpR _ (compareOp .In) (rIn K false) from op_in_seq) (pv 2) (pv 6) (by rfl)) (pw_or1 (pt_cmpR (show OpR _ (compareOp .In) (rIn K false) from op_in_seq) (pv 3) (pv 6) (by rfl)))))) (fun _ _ _ _ _ => pv 6)))
          <| pss_one (ps_if (pt_cmpR op_eq (pe_callB call_len_seq (by rfl) T.len PySem.boot_len (pa_cons (pv 4) pa_nil)) pe_int (nomark _))
              (pss_one (ps_set (i := 1) scLParts.nd rfl (.inl rfl) (pe_op op_cat (pe_lc (own := [("_law_part", 6)]) (g := gName 6) rfl scLParts.nd (pi_list (pv 1)) (blkOk_by (N := nLParts) (sc := defScope lParts) (by decide +kernel))
                (fun _ _ _ _ _ => pg_name (i := 6) scLParts.nd rfl (Or.inl rfl))
                (fun _ _ _ _ _ => pts_one (pt_cmpR (show OpR _ (compareOp .NotIn) (rNotInD K) from op_notInD hu6) (pv 6) (pv 4) (by rfl))) (fun _ _ _ _ _ => pv 6))
                (pe_lst (pa_cons (pe_callTy call_tuple_of (by rfl) T.tuple (by decide +kernel) (pa_cons (pe_callB (KR.cr_sortTI) (by rfl) T.sorted (by decide +kernel)
                  (pa_cons (pe_op op_catT (pe_ix (show IxR _ (rIxL K) from ix_list) (pv 4) pe_int (fun _ _ => rfl)) (pe_ix (show IxR _ (rIxL K) from ix_list) (pv 4) pe_int (fun _ _ => rfl))) pa_nil)) pa_nil)) pa_nil))))) pss_nil)))
      <| pss_one (ps_ret (pe_callTy call_tuple_of (by rfl) T.tuple (by decide +kernel) (pa_cons (pe_callB (show CallR _ (.builtin "sorted") (KR.rSortTL K) from KR.cr_sortTL) (by rfl) T.sorted (by decide +kernel) (pa_cons (pv 1) pa_nil)) pa_nil))), ?_⟩
    obtain ⟨ta, vs, e1, e2, e3⟩ := W.ex
    refine ⟨_, rfl, w, _, _, _, rfl, rfl, SqT.of e1, atI_nat (j := 0) rfl, _, rfl, by omega, by omega, fun Da hD => ?_⟩
    have s0 : Same H (upd H Da (.lst [])) := same_new hD
    refine lc_range (lo := 0) (n := ((n : Nat) : Int).toNat) (fun i M => ∃ us, M Da = some (.lst us) ∧ TupsK M us ((List.range i).map fun i => [i]) ∧ Same H M) ⟨[], upd_same, .nil, s0⟩ ?_ ?_
    · rintro i M hi ⟨us, g1, g2, g3⟩
      refine ⟨rfl, ?_⟩
      unfold tYes
      have l := g2.len
      rw [List.length_map, List.length_range] at l
      refine iteT ⟨_, rfl, by show 1 ≤ sizeLine; decide, fun t ht => ?_⟩
      have g1' : (upd M t (.tup [V.int (0 + (i : Int))])) Da = some (.lst us) := by rw [upd_ne (ne_of_none g1 ht)]; exact g1
      refine ⟨us, g1', by rw [l, sizeLine_eq]; omega, us ++ [.ref t], upd_same, ?_, set_same hD (g3.trans (same_new ht))⟩
      rw [List.range_succ, List.map_append]
      exact ((g2.mono (new_tup ht)).app (.cons (r := [i]) (by rw [upd_same, Int.zero_add] <;> rfl) .nil)).mono (upd_tup g1')
    · rintro M0 ⟨us0, g1, g2, g3⟩
      rw [Int.toNat_natCast] at g2
      refine ⟨_, rfl, w, _, _, _, rfl, rfl, SqT.of (g3 _ _ e1), atI_nat (j := 1) rfl, ta, rfl, ⟨_, SqT.of (g3 _ _ e2)⟩, ?_⟩
      refine for_tup (K := K) (a := ta) (xs := vs) (fun i σ M => ∃ (lf : Addr) (us : List V) (xs : List (List Nat)) (o2 o3 o4 : Option V), σ = [some (.ref w), some (.ref lf), o2, o3, o4, none, none] ∧ M lf = some (.lst us) ∧ TupsK M us xs ∧ Cls (L.take i) (2 ^ n - 1) xs ∧ Same H M)
        ⟨Da, us0, _, none, none, none, rfl, g1, g2, by rw [List.take_zero]; exact Cls.start n, g3⟩ (fun i σ M _ ⟨_, _, _, _, _, _, _, _, _, _, s⟩ => SqT.of (s _ _ e2)) ?_ ?_
      · rintro i x σ M hx ⟨lf, us, xs, o2, o3, o4, rfl, f1, f2, C, f3⟩
        obtain ⟨b, q, rfl, hq, hb⟩ := e3.get hx
        have bq := hB q (List.mem_of_getElem? hq)
        obtain ⟨q1, q2⟩ := q
        obtain ⟨a1, rfl⟩ : ∃ a1 : Nat, q1 = a1 := ⟨q1.toNat, by have := bq.1; dsimp only at this; omega⟩
        obtain ⟨a2, rfl⟩ : ∃ a2 : Nat, q2 = a2 := ⟨q2.toNat, by have := bq.1; have := bq.2.1; dsimp only at *; omega⟩
        dsimp only at bq
        have lt : a1 < a2 := by omega
        have l2 : a2 < n := by omega
        have ts := take_snoc hq
        have fw := C.few
        have lus := f2.len
        refine ⟨b, _, rfl, SqT.of (f3 _ _ hb), rfl, _, _, rfl, _, _, rfl, rfl, ?_⟩
        refine ⟨_, rfl, lf, rfl, ⟨_, SqL.of f1⟩, fun Dn hDn => ?_⟩
        have sn : Same M (upd M Dn (.lst [])) := same_new hDn
        refine lc_list (K := K) (a := lf) (xs := us) (fun j N => ∃ ws, N Dn = some (.lst ws) ∧ TupsK N ws (nearC a1 a2 (xs.take j)) ∧ Same M N) ⟨[], upd_same, .nil, sn⟩ (fun j N _ ⟨_, _, _, s⟩ => SqL.of (s _ _ f1)) ?_ ?_
        · rintro j y N hy ⟨ws, g1, g2, g3⟩
          obtain ⟨t, r, rfl, hr', ht⟩ := f2.get hy
          have ht' := g3 _ _ ht
          have lw := g2.len
          have lw2 : (nearC a1 a2 (xs.take j)).length ≤ n := Nat.le_trans (List.length_filter_le _ _) (by rw [List.length_take]; omega)
          have nt : nearC a1 a2 (xs.take (j + 1)) = nearC a1 a2 (xs.take j) ++ [r].filter fun c => decide (a1 ∈ c) || decide (a2 ∈ c) := by rw [take_snoc hr']; unfold nearC; rw [List.filter_append]
          have eb : ∀ k : Nat, (if false = true then !inV (V.int (k : Int)) (r.map natV) else inV (V.int (k : Int)) (r.map natV)) = decide (k ∈ r) := fun k => by rw [if_neg Bool.false_ne_true]; exact inV_nat k r
          have yes : (decide (a1 ∈ r) || decide (a2 ∈ r)) = true → ∃ ws', (upd N Dn (.lst (ws ++ [.ref t]))) Dn = some (.lst ws') ∧ TupsK (upd N Dn (.lst (ws ++ [.ref t]))) ws' (nearC a1 a2 (xs.take (j + 1))) ∧ Same M (upd N Dn (.lst (ws ++ [.ref t]))) := fun h => by
            refine ⟨_, upd_same, ?_, set_same hDn g3⟩
            rw [nt, List.filter_cons_of_pos (p := fun c => decide (a1 ∈ c) || decide (a2 ∈ c)) h, List.filter_nil]
            exact (g2.app (.cons ht' .nil)).mono (upd_tup g1)
          refine ⟨rfl, _, rfl, _, rfl, t, _, rfl, .inr (SqT.of ht'), rfl, flat_natV _, _, rfl, ?_⟩
          rw [eb]
          cases h1 : decide (a1 ∈ r) with
          | true => exact iteT (iteT ⟨_, rfl, ws, g1, by rw [sizeLine_eq]; omega, yes (by rw [h1, Bool.true_or])⟩)
          | false =>
            refine iteF ⟨_, rfl, _, rfl, t, _, rfl, .inr (SqT.of ht'), rfl, flat_natV _, _, rfl, ?_⟩
            rw [eb]
            cases h2 : decide (a2 ∈ r) with
            | true => exact iteT ⟨_, rfl, ws, g1, by rw [sizeLine_eq]; omega, yes (by rw [h1, h2] <;> rfl)⟩
            | false => exact iteF ⟨ws, g1, by rw [nt, List.filter_cons_of_neg (by rw [h1, h2]; decide), List.filter_nil, List.append_nil]; exact g2, g3⟩
        · rintro N ⟨ws, g1, g2, g3⟩
          rw [lus, List.take_length] at g2
          have lw := g2.len
          have ba : (2 ^ n - 1).testBit a1 = true := by rw [full_bit]; exact decide_eq_true (by omega)
          have bb : (2 ^ n - 1).testBit a2 = true := by rw [full_bit]; exact decide_eq_true l2
          refine ⟨_, rfl, Dn, ws, rfl, .inl (SqL.of g1), rfl, _, rfl, ?_⟩
          have dl : ∀ j : Nat, decide (V.int ((j : Nat) : Int) = V.int 2) = decide (j = 2) := fun j => by
            refine decide_eq_decide.mpr ⟨fun z => ?_, fun z => by rw [z] <;> rfl⟩
            injection z with z
            omega
          rw [dl, lw]
          rcases C.near ba bb with ⟨c, en, ac, bc, hc⟩ | ⟨c, e, en, hc, he, ce, ends, pm⟩
          · rw [en]
            refine iteF ⟨lf, us, xs, _, _, _, rfl, g3 _ _ f1, f2.same g3, ?_, f3.trans g3⟩
            rw [ts]
            exact C.stay ba bb ((C.one hc ac a2).mp bc)
          · rw [en]
            refine iteT ?_
            rw [en] at g2
            obtain ⟨tc, te, rfl, htc, hte⟩ := g2.two
            refine ⟨_, rfl, lf, rfl, ⟨_, SqL.of (g3 _ _ f1)⟩, fun Dq hDq => ?_⟩
            have sq : Same N (upd N Dq (.lst [])) := same_new hDq
            refine lc_list (K := K) (a := lf) (xs := us) (fun j N2 => ∃ vs2, N2 Dq = some (.lst vs2) ∧ TupsK N2 vs2 ((xs.take j).filter fun x => !decide (x ∈ nearC a1 a2 xs)) ∧ Same N N2) ⟨[], upd_same, .nil, sq⟩ (fun j N2 _ ⟨_, _, _, s⟩ => SqL.of (s _ _ (g3 _ _ f1))) ?_ ?_
            · rintro j y N2 hy ⟨vs2, h1, h2, h3⟩
              obtain ⟨t, r, rfl, hr', ht⟩ := f2.get hy
              have ht' := h3 _ _ (g3 _ _ ht)
              have lv := h2.len
              have lv2 : ((xs.take j).filter fun x => !decide (x ∈ nearC a1 a2 xs)).length ≤ n := Nat.le_trans (List.length_filter_le _ _) (by rw [List.length_take]; omega)
              have nt : (xs.take (j + 1)).filter (fun x => !decide (x ∈ nearC a1 a2 xs)) = (xs.take j).filter (fun x => !decide (x ∈ nearC a1 a2 xs)) ++ [r].filter fun x => !decide (x ∈ nearC a1 a2 xs) := by rw [take_snoc hr', List.filter_append]
              refine ⟨rfl, _, rfl, _, rfl, rowD r, [c, e].map rowD, dp_row (.inl ht'), .lst (SqL.of (h3 _ _ g1)) ((g2.same h3).at.dp), row_sh r, rows_sh _, _, rfl, ?_⟩
              rw [rows_any, ← en]
              cases hm : decide (r ∈ nearC a1 a2 xs) with
              | true => exact iteF ⟨vs2, h1, by rw [nt, List.filter_cons_of_neg (by rw [hm]; decide), List.filter_nil, List.append_nil]; exact h2, h3⟩
              | false =>
                refine iteT ⟨_, rfl, vs2, h1, by rw [sizeLine_eq]; omega, _, upd_same, ?_, set_same hDq h3⟩
                rw [nt, List.filter_cons_of_pos (p := fun x => !decide (x ∈ nearC a1 a2 xs)) (by rw [hm] <;> rfl), List.filter_nil]
                exact (h2.app (.cons ht' .nil)).mono (upd_tup h1)
            · rintro N2 ⟨vs2, h1, h2, h3⟩
              rw [lus, List.take_length] at h2
              have lc' := (C.short hc).1
              have le' := (C.short he).1
              have ec : ∀ l : List Nat, l.map natV = (l.map fun i => ((i : Nat) : Int)).map V.int := natV_ints
              refine ⟨_, rfl, Dn, _, _, _, rfl, rfl, SqL.of (h3 _ _ g1), atI_nat (j := 0) rfl, _, rfl, Dn, _, _, _, rfl, rfl, SqL.of (h3 _ _ g1), atI_nat (j := 1) rfl, ?_⟩
              refine ⟨tc, te, _, _, rfl, rfl, SqT.of (h3 _ _ htc), SqT.of (h3 _ _ hte), fun z => C.ne hc (List.map_eq_nil_iff.mp z), by rw [List.length_map, List.length_map, sizeLine_eq]; omega, fun z => absurd (List.map_eq_nil_iff.mp z) (C.ne he), fun _ p hp => ?_⟩
              refine ⟨p, (c ++ e).map fun i => ((i : Nat) : Int), rfl, SqT.of (by rw [upd_same, ← List.map_append, ec]), fun ms p2 pmm pw hp2 => ?_⟩
              obtain ⟨g, rfl, gi, gm, gl⟩ := merge (C.inc c hc) (C.inc e he) (fun i h1 h2 => ce (dis_mem C.dis hc he h1 h2)) pmm pw
              have s4 : Same N2 (upd (upd N2 p (.tup (c.map natV ++ e.map natV))) p2 (.lst ((g.map fun i => ((i : Nat) : Int)).map V.int))) := (same_new hp).trans (same_new hp2)
              refine ⟨p2, _, rfl, .inl ⟨SqL.of upd_same, fun t ht => ⟨by show 1 ≤ sizeLine; decide, fun l hl => ?_⟩⟩⟩
              have s5 := (s4.trans (same_new (o := .tup ((g.map fun i => ((i : Nat) : Int)).map V.int)) ht)).trans (same_new (o := .lst [.ref t]) hl)
              have lv := h2.len
              have lv2 : (xs.filter fun x => !decide (x ∈ nearC a1 a2 xs)).length ≤ n := Nat.le_trans (List.length_filter_le _ _) fw
              refine ⟨Dq, l, vs2, [.ref t], rfl, rfl, s5 _ _ h1, upd_same, by rw [List.length_singleton, sizeLine_eq]; omega, fun z hz => ?_⟩
              have s6 := s5.trans (same_new (o := .lst (vs2 ++ [.ref t])) hz)
              have et : (upd (upd (upd (upd (upd N2 p (.tup (c.map natV ++ e.map natV))) p2 (.lst ((g.map fun i => ((i : Nat) : Int)).map V.int))) t (.tup ((g.map fun i => ((i : Nat) : Int)).map V.int))) l (.lst [.ref t])) z (.lst (vs2 ++ [.ref t]))) t = some (.tup (g.map natV)) := by
                rw [upd_ne (ne_of_none (by rw [upd_ne (ne_of_none upd_same hl)]; exact upd_same) hz), upd_ne (ne_of_none upd_same hl), upd_same, ← ec]
              refine ⟨z, _, (xs.filter fun x => !decide (x ∈ nearC a1 a2 xs)) ++ [g], _, _, _, rfl, upd_same, (h2.same s6).app (.cons et .nil), ?_, ((f3.trans g3).trans h3).trans s6⟩
              rw [ts]
              have C1 := C.perm pm.symm
              rcases ends with ⟨x1, x2⟩ | ⟨x1, x2⟩
              · exact C1.join x1 x2 gi gm
              · exact (C1.perm (.swap ..)).join x2 x1 gi fun i => (gm i).trans or_comm
      · rintro σ M ⟨lf, us, xs, o2, o3, o4, rfl, f1, f2, C, f3⟩
        rw [e3.len, List.take_length] at C
        refine ⟨_, rfl, lf, us, kOf M, rfl, SqL.of f1, f2.tupI fun c hc => C.ne hc, fun ys p pm pw hp => ?_⟩
        obtain ⟨zs, z1, z2⟩ := f2.perm pm
        have C2 := C.perm z1
        have asc := z2.srt C2.dis (fun c hc => C2.ne hc) pw
        refine ⟨p, ys, rfl, .inl ⟨SqL.of upd_same, fun t ht => ?_⟩⟩
        have s9 := (f3.trans (same_new (o := .lst ys) hp)).trans (same_new (o := .tup ys) ht)
        exact k t ys zs _ s9 ((f3.trans (same_new (o := .lst ys) hp)).free ht) upd_same ((z2.mono (new_tup hp)).mono (new_tup ht)) ⟨C2, asc⟩
end
end K0

set_option Elab.async false
set_option linter.all false
set_option maxRecDepth 100000
set_option maxHeartbeats 8000000
/-! Calls where nothing is being shown; calls by name; the law called. -/
namespace K0
open PySem PySem.Spec L2
open PyProof.Rows hiding St
open PySem.W (Frag)
open LamX (ExtN Tabs TabB TabS)
/-! ### defs called where nothing is being shown -/
/-- a def's promise, where nothing is being shown -/
structure FnG (P : Program) (w : World) (K : PySem.W.Frag) (mg : Str → Option Value) (base : Heap) (CX : CXT) (k : Nat) (f : Addr) (fd : FuncData) (ps : List Str) (sp : Sp) : Prop where
  len : ∀ vs H Q E, sp vs H Q E → vs.length = ps.length
  run : ∀ (A : Around) (outer : List Env) (s : Shared) (H : Hp) (args : Args) (us : List Value) (vs : List V) (Q : VK) (E : XK), A.guards = some [] → Room k A → Env0 P w K mg base A outer s H → BindsTo s fd args (ps.zip us) → Vals vs us → sp vs H Q E →
    codeAny (model P w) A (.call (.ref f) args) (CR CX outer P w H s Q E) s
/-- as Fun, its code object told -/
structure FunC (K : PySem.W.Frag) (x qual : Str) (st : Stmt) (f : Addr) (fd : FuncData) (c : Addr) : Prop where
  ex : ∃ (oc : Value) (od : Option Addr) (kV doc pm : Value) (an : Option Addr) (ct : Value) (osl : Array (Option Value)),
    fd = PySem.W.fnOf x qual (defArgs st) (defBody st) (defScope st) .none kV doc pm an (.ref c) ct ∧ K.lookup f = some ⟨oc, od, .func fd, osl⟩ ∧ PySem.W.codeIn K (.ref c) qual = true
  kp : PySem.W.keepIn K (.ref f) = true
section
variable {P : Program} {w : World} {K : PySem.W.Frag} {mg : Str → Option Value} {base : Heap}
theorem FunC.fun {x qual : Str} {st : Stmt} {f c : Addr} {fd : FuncData} (F : FunC K x qual st f fd c) : Fun K x qual st f fd :=
  let ⟨oc, od, kV, doc, pm, an, ct, osl, h⟩ := F.ex; ⟨⟨oc, od, kV, doc, pm, an, .ref c, ct, osl, h⟩, F.kp⟩
/-- at one place: the body as a term of rules -/
theorem FunC.run1 {x qual : Str} {st : Stmt} {f c : Addr} {fd : FuncData} {N ps : List Str} {k : Nat} (F : FunC K x qual st f fd c) (S : FnScope N ps (defScope st))
    {A : Around} {outer : List Env} {s : Shared} {H : Hp} {args : Args} {us : List Value} {vs : List V} {Q : VK} {E : XK} (hr : Room (k + 1) A) (e0 : Env0 P w K mg base A outer s H) (hb : BindsTo s fd args (ps.zip us)) (r : Vals vs us) (hl : vs.length = ps.length)
    (hbody : Room k (A.deeper (envOfC qual (defScope st) s.heap.objs.size f (.ref c))) → ∃ t, PSs (cxOf CX0 P w K mg base N qual (defScope st) f (.ref c) A outer s H E).nox (defBody st) t ∧ t { nx := fun _ H' => Q .non H', rt := Q } (start N vs) H) :
    codeAny (model P w) A (.call (.ref f) args) (CR CX0 outer P w H s Q E) s := by
  obtain ⟨oc, od, kV, doc, pm, an, ct, osl, rfl, lk, hcd⟩ := F.ex
  exact LamX.run_ofS lk hcd S hr e0 hb r hl fun h => let ⟨t, h1, h2⟩ := hbody h; ⟨t, h1.nox, h2⟩
theorem FunC.okG {x qual : Str} {st : Stmt} {f c : Addr} {fd : FuncData} {N ps : List Str} {k : Nat} {sp : Sp} (F : FunC K x qual st f fd c) (S : FnScope N ps (defScope st)) (len : ∀ vs H Q E, sp vs H Q E → vs.length = ps.length)
    (hbody : ∀ (A : Around) (outer : List Env) (s : Shared) (H : Hp) (vs : List V) (Q : VK) (E : XK), A.guards = some [] → Room k (A.deeper (envOfC qual (defScope st) s.heap.objs.size f (.ref c))) → sp vs H Q E →
      ∃ t, PSs (cxOf CX0 P w K mg base N qual (defScope st) f (.ref c) A outer s H E).nox (defBody st) t ∧ t { nx := fun _ H' => Q .non H', rt := Q } (start N vs) H) : FnG P w K mg base CX0 (k + 1) f fd ps sp :=
  ⟨len, fun A outer s H args us vs Q E hg hr e0 hb r hsp => F.run1 S hr e0 hb r (len _ _ _ _ hsp) fun h => hbody A outer s H vs Q E hg h hsp⟩
end
section
variable {X : Cx} {CX : CXT} {k : Nat} {f : Addr} {fd : FuncData} {ps : List Str} {sp : Sp} {E : XK} {x : Str} {p pos : Pos} {e : Expr} {es : List Expr} {t : TA}
theorem pe_callG (F : FnG X.prog X.w X.K X.mg X.base CX k f fd ps sp) (gu : X.A.guards = some []) (hr : Room k X.A) (hg : Gl X x) (hm : X.mg x = some (.ref f)) (hk : PySem.W.keepIn X.K (.ref f) = true) (hb : Binds X.K fd ps []) (hx : Passes CX X E)
    (ha : PA X (e :: es) t) (hdb : (x == ("__debug__" : Str)) = false := by decide) (he : starEach (e :: es) X.env = (false, eval e X.env) :: starEach es X.env := by rfl) (hpl : (backTo pos (starEach es X.env)).any (·.1) = false := by rfl) :
    PE X (.Call (.Name x p) (e :: es) [] pos) (tCall sp [] E t) := by
  refine ⟨fun pins s σ H Q I h => wpAny_Call_Name_kw (ld_glob I hg hm ?_ hdb)⟩
  refine PySem.W.callWith_K (h₀ := X.base) I.ok.mod.kin hk (thn (ha.run pos pins s σ H _ I h) fun us s1 ⟨vs, H1, I1, r, q⟩ => ⟨I1.kIn, ?_⟩) he hpl
  have q : sp (vs ++ []) H1 Q E := q
  rw [List.append_nil] at q
  have hl : us.length = ps.length := by rw [← r.length]; exact F.len _ _ _ _ q
  have b := hb s1 us I1.kIn (by rw [List.append_nil]; exact hl)
  rw [List.append_nil] at b
  refine wpAny_call (codeAny_mono (F.run X.A X.stack s1 H1 ⟨us, []⟩ us vs Q E gu hr I1.env0 b r q) fun r s' hq => ?_)
  match r, hq with
  | .error e, hq => exact hx pins σ H1 s1 e s' I1 hq
  | .ok (.ret u), hq => exact I1.after hq
  | .ok .next, hq => exact False.elim hq
  | .ok .brk, hq => exact False.elim hq
  | .ok .cont, hq => exact False.elim hq
/-- all by name -/
theorem pe_callN {ks : List Str} {g : List Value → List Value} {gV : List V → List V} {kws : List Keyword} {tk : TA} (F : FnOk X.prog X.w X.K X.mg X.base CX k f fd ps sp) (hr : Room k X.A) (hg : Gl X x) (hm : X.mg x = some (.ref f)) (hk : PySem.W.keepIn X.K (.ref f) = true)
    (hb : ∀ (s : Shared) (ws : List Value), ws.length = ps.length → BindsTo s fd ⟨[], ks.zip ws⟩ (ps.zip (g ws))) (hgr : ∀ {zs : List V} {ws : List Value}, Vals zs ws → Vals (gV zs) (g ws)) (hgl : ∀ zs : List V, (gV zs).length = ps.length → zs.length = ps.length) (hx : Passes CX X E)
    (hkw : PK X kws tk) (hall : (backToKw pos (keywordEach kws X.env)).all (·.1.isSome) = true := by rfl) (hks : (backToKw pos (keywordEach kws X.env)).filterMap (·.1) = ks := by rfl) (hdb : (x == ("__debug__" : Str)) = false := by decide)
    (hpl : ((backTo pos (starEach [] X.env)).any (·.1) || (backToKw pos (keywordEach kws X.env)).any (·.1.isNone)) = false := by rfl) :
    PE X (.Call (.Name x p) [] kws pos) (fun σ H Q => tk σ H fun zs H2 => sp (gV zs) H2 Q E) := by
  refine ⟨fun pins s σ H Q I h => wpAny_Call_Name_kw (ld_glob I hg hm ?_ hdb)⟩
  refine PySem.W.callWith_KW0 (h₀ := X.base) I.ok.mod.kin hk hall (thn (hkw.run pos pins s σ H _ I h) fun ws s2 ⟨zs, H2, I2, rz, q2⟩ => ⟨I2.kIn, ?_⟩) hpl
  rw [hks]
  have q2 : sp (gV zs) H2 Q E := q2
  have hl := F.len _ _ _ _ q2
  have lz := hgl zs hl
  refine wpAny_call (codeAny_mono (F.run X.A X.stack s2 H2 ⟨[], ks.zip ws⟩ (g ws) (gV zs) Q E hr I2.env0 (hb s2 ws (by rw [← rz.length]; exact lz)) (hgr rz) q2) fun r s' hq => ?_)
  match r, hq with
  | .error e, hq => exact hx pins σ H2 s2 e s' I2 hq
  | .ok (.ret u), hq => exact I2.after hq
  | .ok .next, hq => exact False.elim hq
  | .ok .brk, hq => exact False.elim hq
  | .ok .cont, hq => exact False.elim hq
end
/-! ### calls by name -/
def Kw1 (fd : FuncData) (k : Str) : Prop := ∀ (s : Shared) (a : Value), BindsTo s fd ⟨[], [(k, a)]⟩ [(k, a)]
/-- two parameters, by name: in their order, and in the other one -/
def Kw2 (fd : FuncData) (k1 k2 : Str) : Prop := ∀ (s : Shared) (a b : Value), BindsTo s fd ⟨[], [(k1, a), (k2, b)]⟩ [(k1, a), (k2, b)] ∧ BindsTo s fd ⟨[], [(k2, b), (k1, a)]⟩ [(k1, a), (k2, b)]
def rev2 {α : Type} : List α → List α
  | [a, b] => [b, a]
  | _ => []
section
variable {X : Cx} {CX : CXT} {k : Nat} {f : Addr} {fd : FuncData} {sp : Sp} {E : XK} {x k1 k2 : Str} {p pos q1 q2 : Pos} {e1 e2 : Expr} {t1 t2 : TE}
theorem pe_kw1 (F : FnOk X.prog X.w X.K X.mg X.base CX k f fd [k1] sp) (hr : Room k X.A) (hg : Gl X x) (hm : X.mg x = some (.ref f)) (hk : PySem.W.keepIn X.K (.ref f) = true) (hb : Kw1 fd k1) (hx : Passes CX X E) (h1 : PE X e1 t1)
    (hdb : (x == ("__debug__" : Str)) = false := by decide) : PE X (.Call (.Name x p) [] [⟨some k1, e1, q1⟩] pos) (fun σ H Q => t1 σ H fun v H1 => sp [v] H1 Q E) := by
  have h := pe_callN (p := p) (pos := pos) (ks := [k1]) (g := id) (gV := id) F hr hg hm hk (fun s ws hl => match ws, hl with | [a], _ => hb s a) (fun h => h) (fun zs h => h) hx (pk_cons (kpos := q1) (nm := some k1) h1 pk_nil) (by rfl) (by rfl) hdb (by rfl)
  exact ⟨fun pins s σ H Q I z => h.run pins s σ H Q I z⟩
theorem pe_kw2 (F : FnOk X.prog X.w X.K X.mg X.base CX k f fd [k1, k2] sp) (hr : Room k X.A) (hg : Gl X x) (hm : X.mg x = some (.ref f)) (hk : PySem.W.keepIn X.K (.ref f) = true) (hb : Kw2 fd k1 k2) (hx : Passes CX X E) (h1 : PE X e1 t1) (h2 : PE X e2 t2)
    (hdb : (x == ("__debug__" : Str)) = false := by decide) : PE X (.Call (.Name x p) [] [⟨some k1, e1, q1⟩, ⟨some k2, e2, q2⟩] pos) (fun σ H Q => t1 σ H fun u H1 => t2 σ H1 fun v H2 => sp [u, v] H2 Q E) := by
  have h := pe_callN (p := p) (pos := pos) (ks := [k1, k2]) (g := id) (gV := id) F hr hg hm hk (fun s ws hl => match ws, hl with | [a, b], _ => (hb s a b).1) (fun h => h) (fun zs h => h) hx (pk_cons (kpos := q1) (nm := some k1) h1 (pk_cons (kpos := q2) (nm := some k2) h2 pk_nil)) (by rfl) (by rfl) hdb (by rfl)
  exact ⟨fun pins s σ H Q I z => h.run pins s σ H Q I z⟩
theorem pe_kw2r (F : FnOk X.prog X.w X.K X.mg X.base CX k f fd [k1, k2] sp) (hr : Room k X.A) (hg : Gl X x) (hm : X.mg x = some (.ref f)) (hk : PySem.W.keepIn X.K (.ref f) = true) (hb : Kw2 fd k1 k2) (hx : Passes CX X E) (h2 : PE X e2 t2) (h1 : PE X e1 t1)
    (hdb : (x == ("__debug__" : Str)) = false := by decide) : PE X (.Call (.Name x p) [] [⟨some k2, e2, q2⟩, ⟨some k1, e1, q1⟩] pos) (fun σ H Q => t2 σ H fun v H1 => t1 σ H1 fun u H2 => sp [u, v] H2 Q E) := by
  have h := pe_callN (p := p) (pos := pos) (ks := [k2, k1]) (g := rev2) (gV := rev2) F hr hg hm hk (fun s ws hl => match ws, hl with | [b, a], _ => (hb s a b).2)
    (fun {zs ws} h => match zs, ws, h with | _, _, .nil => .nil | _, _, .cons _ .nil => .nil | _, _, .cons r (.cons r2 .nil) => .cons r2 (.cons r .nil) | _, _, .cons _ (.cons _ (.cons _ _)) => .nil)
    (fun zs h => match zs, h with | [_, _], _ => rfl) hx (pk_cons (kpos := q2) (nm := some k2) h2 (pk_cons (kpos := q1) (nm := some k1) h1 pk_nil)) (by rfl) (by rfl) hdb (by rfl)
  exact ⟨fun pins s σ H Q I z => h.run pins s σ H Q I z⟩
end
/-! ### the law at the place from which it is called -/
section
variable {P : Program} {w : World} {K : Frag} {mg mb : Str → Option Value} {k : Nat} {fa a c0 : Addr} {fd : FuncData} {x name qual : Str} {st : Stmt} {N : List Str} {s₁ : Shared} {vs : List Value} {ns : List Int} {cs : List (Addr × Addr)}
/-- a code object and its empty table -/
def Tbl (K : Frag) (h : Heap) (p : Addr × Addr) : Prop := K.lookup p.2 = none ∧ PySem.W.CodeHd h p.1 p.2 ∧ h.get? p.2 = some (PySem.W.tabObj #[])
def HasMain (mg : Str → Option Value) (h : Heap) : Prop := ∃ (bm : Addr) (ob : Obj), mg "__builtins__" = some (.ref bm) ∧ bm ≠ builtinsNs ∧ h.get? bm = some ob ∧ ob.cls = .type "module" ∧ ob.dict = some builtinsNs ∧ ob.data = .plain
theorem law_outT (F : FunC K name qual st fa fd c0) (S : FnScope N [x] (defScope st)) (KX : K.In s₁.heap) (hns : s₁.heap.Ns mainGlobals mg) (hb : s₁.heap.Ns builtinsNs mb) (hbb : ∀ x : Str, x ≠ "__name__" → mb x = bootBuiltins x) (hlim : s₁.heap.NoLimit) (hg : s₁.gens = #[]) (hm : HasMain mg s₁.heap)
    (tabs : ∀ p ∈ cs, Tbl K s₁.heap p) (ha : s₁.heap.get? a = some { cls := .type "list", data := .seq vs.toArray }) (hi : IntsAre vs ns) (hl : ns.length ≤ sizeLine) (hr : Room (k + 1) callerA) (hbind : ∀ (s : Shared) (u : Value), BindsTo s fd ⟨[u], []⟩ [(x, u)])
    (body : ∀ (base : Heap) (H : Hp) (s : Shared), K.In base → base.Ns mainGlobals mg → (∀ p ∈ cs, TabB base mg p.1 p.2) → (∀ p ∈ cs, H p.2 = some (.tbl #[])) → SqL K H a (ns.map V.int) → Room k (callerA.deeper (envOfC qual (defScope st) s.heap.objs.size fa (.ref c0))) →
      ∃ t, PSs (cxOf CX0 P w K mg base N qual (defScope st) fa (.ref c0) callerA [] s H (fun _ _ _ => False)).nox (defBody st) t ∧ t { nx := fun _ H' => (V.non = .bl true : Prop), rt := fun v _ => v = .bl true } (start N [.ref a]) H) :
    codeAny (model P w) callerA (.call (.ref fa) ⟨[.ref a], []⟩) (fun r s' => r = .ok (.ret (.bool true)) ∧ OldK s₁.heap s'.heap ∧ s'.os = s₁.os ∧ AllBare s'.gens) s₁ := by
  -- over any abstract heap that tracks the script at most, and the tables
  have go : ∀ H : Hp, SqL K H a (ns.map V.int) → (∀ p ∈ cs, H p.2 = some (.tbl #[])) → HOk P w H s₁.heap → (∀ b u, H b = some u → (b = a ∧ K.lookup a = none ∧ ∃ o ys, u = .frz o (.lst ys)) ∨ ∃ p ∈ cs, b = p.2 ∧ u = .tbl #[]) →
      codeAny (model P w) callerA (.call (.ref fa) ⟨[.ref a], []⟩) (fun r s' => r = .ok (.ret (.bool true)) ∧ OldK s₁.heap s'.heap ∧ s'.os = s₁.os ∧ AllBare s'.gens) s₁ := by
    intro H hS hT hok only
    have free : ∀ {b : Addr} {o : Obj}, s₁.heap.get? b = some o → (∀ ys n, o.data ≠ .seq ys n) → o.data ≠ .fields #[] → H b = none := fun {b o} e n1 n2 => by
      cases q : H b with
      | none => rfl
      | some u =>
        rcases only b u q with ⟨z, _⟩ | ⟨p, hp, z, _⟩
        · rw [z, ha] at e
          cases e
          exact (n1 _ _ rfl).elim
        · rw [z, (tabs p hp).2.2] at e
          cases e
          exact (n2 rfl).elim
    have low : ∀ {b : Addr} {m : Str → Option Value}, s₁.heap.Ns b m → (hidT s₁.heap H).Ns b m := fun {b m} ⟨o, es, ep, e, d, r⟩ => ⟨o, es, ep, hidT_get e (free e (fun _ _ z => by rw [d] at z; cases z) fun z => by rw [d] at z; cases z), d, r⟩
    have KB : K.In (hidT s₁.heap H) := fun b o e => hidT_get (KX b o e) (by
      cases q : H b with
      | none => rfl
      | some u =>
        rcases only b u q with ⟨z, n, _⟩ | ⟨p, hp, z, _⟩
        · rw [z, n] at e
          cases e
        · rw [z, (tabs p hp).1] at e
          cases e)
    have TB : ∀ p ∈ cs, TabB (hidT s₁.heap H) mg p.1 p.2 := fun p hp => by
      obtain ⟨_, hC, hP⟩ := tabs p hp
      refine ⟨?_, ?_, fun z => ?_⟩
      · obtain ⟨o, us, i1, i2, i3, i4, i5, i6, i7, g1, g2, g3, g4, gs⟩ := hC
        refine ⟨o, us, i1, i2, i3, i4, i5, i6, i7, hidT_get g1 (free g1 (fun _ _ z => by rw [g3] at z; cases z) fun z => ?_), g2, g3, g4, gs⟩
        rw [g3] at z
        cases z
        simp at g4
      · obtain ⟨bm, ob, y1, y2, y3, y4, y5, y6⟩ := hm
        refine ⟨bm, ob, y1, y2, fun z => ?_, fun z => ?_, hidT_get y3 (free y3 (fun _ _ z => by rw [y6] at z; cases z) fun z => by rw [y6] at z; cases z), y4, y5, y6⟩
        · obtain ⟨o, es, ep, e, hd, _⟩ := hns
          rw [z, e] at y3
          cases y3
          rw [hd] at y6
          cases y6
        · rw [z, hP] at y3
          cases y3
          cases y6
      · obtain ⟨o, es, ep, e, hd, _⟩ := hns
        rw [z, hP] at e
        cases e
        cases hd
    have e0 : Env0 P w K mg (hidT s₁.heap H) callerA [] s₁ H := ⟨rfl, ⟨KB, low hns, ⟨mb, low hb, hbb⟩, hlim.imp fun mc z => ⟨low z.1, z.2⟩⟩, fun b o e => of_hidT e, Nat.le_of_eq (hidT_size _ _), trivial, fun b z => absurd z List.not_mem_nil, hok, .of_eq hg⟩
    refine codeAny_mono (F.run1 (Q := fun v _ => v = .bl true) (E := fun _ _ _ => False) (us := [.ref a]) (vs := [.ref a]) S hr e0 (hbind s₁ (.ref a)) (.cons rfl .nil) rfl fun hr' => body _ H s₁ KB (low hns) TB hT hS hr') fun r s' z => ?_
    match r, z with
    | .ok (.ret u), z =>
      obtain ⟨v, H', os, bare, un, ok', r', q⟩ := z
      have q' : v = .bl true := q
      subst q'
      obtain rfl : u = Value.bool true := r'
      have stays : ∀ b o, s₁.heap.get? b = some o → s'.heap.get? b = some o ∨ ∃ p ∈ cs, b = p.2 := fun b o e => by
        cases q : H b with
        | none => exact .inl (un.keep b o e q (fun y => absurd y List.not_mem_nil) (fun y => absurd y List.not_mem_nil))
        | some u =>
          rcases only b u q with ⟨_, _, ob, ys, rfl⟩ | ⟨p, hp, z, _⟩
          · have y1 := (hok b _ q).1
            rw [e] at y1
            cases y1
            exact .inl (ok' b _ (un.frzs b o _ q)).1
          · exact .inr ⟨p, hp, z⟩
      have grown : ∀ p ∈ cs, ∃ more : Array Value, s'.heap.get? p.2 = some (PySem.W.tabObj more) := fun p hp => (un.tbls p.2 #[] (hT p hp)).elim fun _ z => ⟨_, ok' p.2 _ z⟩
      refine ⟨rfl, ⟨fun b o e => ?_, fun b o e => ?_⟩, os, bare⟩
      · rcases stays b o e with z | ⟨p, hp, rfl⟩
        · exact .inl z
        · obtain ⟨_, hC, hP⟩ := tabs p hp
          rw [hP] at e
          cases e
          obtain ⟨more, hmore⟩ := grown p hp
          exact .inr (.inl ⟨(hC.tab hP).isCodeTable, rfl, #[], more, rfl, hmore.trans (by rw [Array.empty_append])⟩)
      · rcases stays b o e with z | ⟨p, hp, rfl⟩
        · exact ⟨o, z⟩
        · exact (grown p hp).imp' _ fun _ z => z
    | .ok .next, z => exact z.elim
    | .ok .brk, z => exact z.elim
    | .ok .cont, z => exact z.elim
    | .error _, z => exact False.elim z
  have rv := vals_ints hi
  have isT : ∀ p ∈ cs, ¬ a = p.2 := fun p hp z => by
    have e := (tabs p hp).2.2
    rw [← z, ha] at e
    cases e
  let isTab : Addr → Bool := fun b => cs.any fun p => p.2 == b
  have tabY : ∀ p ∈ cs, isTab p.2 = true := fun p hp => List.any_eq_true.mpr ⟨p, hp, beq_self_eq_true _⟩
  have tabN : ∀ b, isTab b = true → ∃ p ∈ cs, b = p.2 := fun b z => by
    obtain ⟨p, hp, e⟩ := List.any_eq_true.mp z
    exact ⟨p, hp, (beq_iff_eq.mp e).symm⟩
  cases hk : K.lookup a with
  | some o =>
    have e := KX a o hk
    rw [ha] at e
    cases e
    have look : ∀ {b : Addr} {u : HO}, (if isTab b = true then some (HO.tbl #[]) else none) = some u → ∃ p ∈ cs, b = p.2 ∧ u = .tbl #[] := fun {b u} z => by
      by_cases h : isTab b = true
      · rw [if_pos h] at z
        obtain ⟨p, hp, q⟩ := tabN b h
        exact ⟨p, hp, q, (Option.some.inj z).symm⟩
      · rw [if_neg h] at z
        cases z
    refine go (fun b => if isTab b = true then some (.tbl #[]) else none) (.inr ⟨_, vs.toArray, _, hk, rfl, rfl, rfl, by rw [List.size_toArray, hi.length]; exact hl, by simpa using rv⟩) (fun p hp => if_pos (tabY p hp)) (fun b u z => ?_) fun b u z => .inr (look z)
    obtain ⟨p, hp, rfl, rfl⟩ := look z
    exact (tabs p hp).2.2
  | none =>
    have look : ∀ {b : Addr} {u : HO}, (if b = a then some (HO.frz { cls := .type "list", data := .seq vs.toArray } (.lst (ns.map V.int))) else if isTab b = true then some (HO.tbl #[]) else none) = some u → (b = a ∧ u = .frz { cls := .type "list", data := .seq vs.toArray } (.lst (ns.map V.int))) ∨ ∃ p ∈ cs, b = p.2 ∧ u = .tbl #[] := fun {b u} z => by
      by_cases h : b = a
      · rw [if_pos h] at z
        exact .inl ⟨h, (Option.some.inj z).symm⟩
      · rw [if_neg h] at z
        by_cases h2 : isTab b = true
        · rw [if_pos h2] at z
          obtain ⟨p, hp, q⟩ := tabN b h2
          exact .inr ⟨p, hp, q, (Option.some.inj z).symm⟩
        · rw [if_neg h2] at z
          cases z
    refine go (fun b => if b = a then some (.frz { cls := .type "list", data := .seq vs.toArray } (.lst (ns.map V.int))) else if isTab b = true then some (.tbl #[]) else none) (.inl (.inr ⟨_, if_pos rfl⟩)) (fun p hp => (if_neg fun z => isT p hp z.symm).trans (if_pos (tabY p hp))) (fun b u z => ?_) fun b u z => (look z).imp (fun y => ⟨y.1, hk, _, _, y.2⟩) id
    rcases look z with ⟨rfl, rfl⟩ | ⟨p, hp, rfl, rfl⟩
    · exact ⟨ha, by rw [List.length_map]; exact hl, vs, _, rv, ha⟩
    · exact (tabs p hp).2.2
end
end K0

set_option Elab.async false
set_option linter.all false
set_option maxRecDepth 100000
set_option maxHeartbeats 8000000
/-! What is told of a lot. -/
namespace K0
open PySem PySem.Spec L2
open PyProof.Rows hiding St
abbrev cas (ks : List Nat) : List Int := ks.map fun i => ((i : Nat) : Int)
/-! ### the web within a lot -/
theorem cas_mem {ks : List Nat} {k : Nat} : ((k : Nat) : Int) ∈ cas ks ↔ k ∈ ks := by
  unfold cas
  rw [List.mem_map]
  exact ⟨fun ⟨j, hj, e⟩ => by rw [show k = j by omega]; exact hj, fun h => ⟨k, h, rfl⟩⟩
theorem cas_idx : ∀ (ks : List Nat) (k : Nat), (cas ks).idxOf ((k : Nat) : Int) = ks.idxOf k
  | [], _ => rfl
  | j :: ks, k => by
    unfold cas
    rw [List.map_cons, List.idxOf_cons, List.idxOf_cons]
    have e : (((j : Nat) : Int) == ((k : Nat) : Int)) = (j == k) := by
      by_cases h : j = k
      · subst h; simp
      · have : ((j : Nat) : Int) ≠ ((k : Nat) : Int) := by omega
        rw [beq_false_of_ne h, beq_false_of_ne this]
    rw [e, show (List.map (fun i => ((i : Nat) : Int)) ks).idxOf ((k : Nat) : Int) = ks.idxOf k from cas_idx ks k]
theorem within_mem {L : List (Int × Int)} {n : Nat} (hB : Bel n L) {ks : List Nat} {q : Int × Int} : q ∈ withinL L (cas ks) ↔ ∃ a b : Nat, ((a : Int), (b : Int)) ∈ L ∧ a ∈ ks ∧ b ∈ ks ∧ q = (((ks.idxOf a : Nat) : Int), ((ks.idxOf b : Nat) : Int)) := by
  unfold withinL
  rw [List.mem_map]
  constructor
  · rintro ⟨⟨x, y⟩, h, rfl⟩
    obtain ⟨h1, h2⟩ := List.mem_filter.mp h
    have bq := hB _ h1
    obtain ⟨a, rfl⟩ : ∃ a : Nat, x = a := ⟨x.toNat, by have := bq.1; dsimp only at this; omega⟩
    obtain ⟨b, rfl⟩ : ∃ b : Nat, y = b := ⟨y.toNat, by have := bq.1; have := bq.2.1; dsimp only at *; omega⟩
    unfold both at h2
    rw [Bool.and_eq_true, decide_eq_true_eq, decide_eq_true_eq] at h2
    refine ⟨a, b, h1, cas_mem.mp h2.1, cas_mem.mp h2.2, ?_⟩
    unfold idx
    rw [cas_idx, cas_idx]
  · rintro ⟨a, b, h1, ha, hb, rfl⟩
    refine ⟨((a : Int), (b : Int)), List.mem_filter.mpr ⟨h1, ?_⟩, ?_⟩
    · unfold both
      rw [decide_eq_true (cas_mem.mpr ha), decide_eq_true (cas_mem.mpr hb)] <;> rfl
    · unfold idx
      rw [cas_idx, cas_idx]
theorem within_ren {L : List (Int × Int)} {n : Nat} (hB : Bel n L) {ks : List Nat} (p : ks.Pairwise (· < ·)) : Ren L (withinL L (cas ks)) ks := fun x y => by
  have go : ∀ x y : Nat, ((x : Int), (y : Int)) ∈ withinL L (cas ks) ↔ ∃ a b, ks[x]? = some a ∧ ks[y]? = some b ∧ ((a : Int), (b : Int)) ∈ L := fun x y => by
    rw [within_mem hB]
    constructor
    · rintro ⟨a, b, h1, ha, hb, e⟩
      have e1 := (Prod.mk.inj e).1
      have e2 := (Prod.mk.inj e).2
      rw [show x = ks.idxOf a by omega, show y = ks.idxOf b by omega]
      exact ⟨a, b, at_idx ha, at_idx hb, h1⟩
    · rintro ⟨a, b, ha, hb, h1⟩
      exact ⟨a, b, h1, List.mem_of_getElem? ha, List.mem_of_getElem? hb, by rw [idx_at p ha, idx_at p hb]⟩
  unfold Adj
  rw [go, go]
  constructor
  · rintro (⟨a, b, h1, h2, h3⟩ | ⟨a, b, h1, h2, h3⟩)
    · exact ⟨a, b, h1, h2, .inl h3⟩
    · exact ⟨b, a, h2, h1, .inr h3⟩
  · rintro ⟨a, b, h1, h2, h3 | h3⟩
    · exact .inl ⟨a, b, h1, h2, h3⟩
    · exact .inr ⟨b, a, h2, h1, h3⟩
theorem within_bel {L : List (Int × Int)} {n : Nat} (hB : Bel n L) {ks : List Nat} (p : ks.Pairwise (· < ·)) : Bel ks.length (withinL L (cas ks)) := fun q hq => by
  obtain ⟨a, b, h1, ha, hb, rfl⟩ := (within_mem hB).mp hq
  have bq := hB _ h1
  dsimp only at bq
  have := idx_mono p ha hb (by omega)
  have := idx_lt hb
  dsimp only
  omega
theorem within_srt {L : List (Int × Int)} {n : Nat} (hB : Bel n L) (hn : n ≤ 12) (hs : Srt L) {ks : List Nat} (p : ks.Pairwise (· < ·)) (lk : ks.length ≤ 12) : Srt (withinL L (cas ks)) := by
  unfold Srt withinL
  rw [List.pairwise_map]
  refine List.Pairwise.imp_of_mem (fun {q r} hq hr h => ?_) (List.Pairwise.filter _ hs)
  obtain ⟨q1, q2⟩ := List.mem_filter.mp hq
  obtain ⟨r1, r2⟩ := List.mem_filter.mp hr
  have bq := hB _ q1
  have br := hB _ r1
  obtain ⟨x, y⟩ := q
  obtain ⟨u, v⟩ := r
  dsimp only at bq br
  obtain ⟨a, rfl⟩ : ∃ a : Nat, x = a := ⟨x.toNat, by omega⟩
  obtain ⟨b, rfl⟩ : ∃ b : Nat, y = b := ⟨y.toNat, by omega⟩
  obtain ⟨c, rfl⟩ : ∃ c : Nat, u = c := ⟨u.toNat, by omega⟩
  obtain ⟨d, rfl⟩ : ∃ d : Nat, v = d := ⟨v.toNat, by omega⟩
  unfold both at q2 r2
  rw [Bool.and_eq_true, decide_eq_true_eq, decide_eq_true_eq] at q2 r2
  have ha := cas_mem.mp q2.1
  have hb := cas_mem.mp q2.2
  have hc := cas_mem.mp r2.1
  have hd := cas_mem.mp r2.2
  unfold cd at h ⊢
  dsimp only at h ⊢
  unfold idx
  rw [cas_idx, cas_idx, cas_idx, cas_idx]
  have la := idx_lt ha
  have lb := idx_lt hb
  have lc := idx_lt hc
  have ld := idx_lt hd
  rcases Nat.lt_trichotomy a c with z | z | z
  · have := idx_mono p ha hc z
    omega
  · subst z
    rcases Nat.lt_trichotomy b d with y | y | y
    · have := idx_mono p hb hd y
      omega
    · subst y
      exact Int.le_refl _
    · omega
  · omega
theorem within_few (L : List (Int × Int)) (ns : List Int) : (withinL L ns).length ≤ L.length := by
  unfold withinL
  rw [List.length_map]
  exact List.length_filter_le _ _
theorem within_gw {H : Hp} {w : Addr} {n : Nat} {L : List (Int × Int)} (hB : Bel n L) (hn : n ≤ 12) (hs : Srt L) (few : L.length ≤ 40) {ks : List Nat} (p : ks.Pairwise (· < ·)) (hk : ∀ i ∈ ks, i < n) (ne : ks ≠ []) (W : Web H w (cas ks).length (withinL L (cas ks))) : GW H w ks.length (withinL L (cas ks)) := by
  have l0 : 0 < ks.length := List.length_pos_iff.mpr ne
  have lk : ks.length ≤ n := by
    have := len_le (inc_nodup p) (m := List.range n) fun i hi => List.mem_range.mpr (hk i hi)
    rwa [List.length_range] at this
  refine ⟨?_, l0, by omega, within_bel hB p, within_srt hB hn hs p (by omega), Nat.le_trans (within_few _ _) few⟩
  have e : (cas ks).length = ks.length := List.length_map ..
  rw [e] at W
  exact W
/-! ### the rest of a lot -/
def restK (n : Nat) (ks : List Nat) : List Nat := (List.range n).filter fun i => !decide (i ∈ ks)
theorem restK_mem {n : Nat} {ks : List Nat} {i : Nat} : i ∈ restK n ks ↔ i < n ∧ i ∉ ks := by
  unfold restK
  rw [List.mem_filter, List.mem_range, Bool.not_eq_true', decide_eq_false_iff_not]
theorem restK_inc (n : Nat) (ks : List Nat) : (restK n ks).Pairwise (· < ·) := List.pairwise_lt_range.filter _
theorem restN_cas (n : Nat) (ks : List Nat) : restN n (cas ks) = cas (restK n ks) := by
  unfold restN restK iota cas
  rw [List.filter_map]
  refine congrArg _ (List.filter_congr fun i _ => ?_)
  show (!decide (((i : Nat) : Int) ∈ cas ks)) = !decide (i ∈ ks)
  rw [decide_eq_decide.mpr cas_mem]
theorem restM_lt {n : Nat} {ks : List Nat} (h : ∀ i ∈ ks, i < n) (p : ks.Pairwise (· < ·)) : restM n ks < 2 ^ n := xor_lt (Nat.sub_lt (Nat.two_pow_pos n) (by decide)) (mask_lt (inc_nodup p) h)
theorem restM_rest {n : Nat} {ks : List Nat} (h : ∀ i ∈ ks, i < n) (p : ks.Pairwise (· < ·)) (i : Nat) : (restM n ks).testBit i = true ↔ i ∈ restK n ks := by rw [restM_bit h (inc_nodup p), restK_mem]
theorem restK_len {n : Nat} {ks : List Nat} (h : ∀ i ∈ ks, i < n) (p : ks.Pairwise (· < ·)) : (restK n ks).length + ks.length = n := by
  have pm := List.filter_append_perm (fun i => decide (i ∈ ks)) (List.range n)
  have e : ((List.range n).filter fun i => decide (i ∈ ks)).length = ks.length := by
    refine Nat.le_antisymm (len_le (List.nodup_range.filter _) fun x hx => of_decide_eq_true (List.mem_filter.mp hx).2) (len_le (inc_nodup p) fun x hx => List.mem_filter.mpr ⟨List.mem_range.mpr (h x hx), decide_eq_true hx⟩)
  have := pm.length_eq
  rw [List.length_append, e, List.length_range] at this
  unfold restK
  omega
/-- parts beside a lot, renamed, are the parts of the web without it -/
theorem IsParts.ren {L : List (Int × Int)} {n m : Nat} (hB : Bel n L) {ks : List Nat} (p : ks.Pairwise (· < ·)) (hm : ∀ i, m.testBit i = true ↔ i ∈ ks) {ys : List (List Nat)} (h : IsParts L m ys) : IsParts (withinL L (cas ks)) (2 ^ ks.length - 1) (ys.map fun c => c.map ks.idxOf) :=
  ⟨h.cls.ren p (within_ren hB p) hm, h.cls.ren_hd p hm h.asc⟩
theorem idx_range : ∀ {ks : List Nat}, ks.Pairwise (· < ·) → ks.map ks.idxOf = List.range ks.length := fun {ks} p => by
  refine List.ext_getElem (by simp) fun i h1 h2 => ?_
  rw [List.getElem_map, List.getElem_range]
  rw [List.length_map] at h1
  exact idx_at p (List.getElem?_eq_getElem h1)
/-- the web within a part is joined -/
theorem IsParts.part {L : List (Int × Int)} {n m : Nat} (hB : Bel n L) {xs : List (List Nat)} (C : Cls L m xs) {c : List Nat} (hc : c ∈ xs) : IsParts (withinL L (cas c)) (2 ^ c.length - 1) [List.range c.length] := by
  have p := C.inc c hc
  have h : IsParts L (maskN c) [c] := ⟨C.alone hc fun i => mask_bit (inc_nodup p) i, List.pairwise_singleton ..⟩
  have := h.ren hB p fun i => mask_bit (inc_nodup p) i
  rw [List.map_singleton, idx_range p] at this
  exact this
/-! ### cuts -/
theorem cut_none {L : List (Int × Int)} {n : Nat} (hB : Bel n L) {ks : List Nat} : cutN L (cas ks) = [] ↔ ∀ x y, Adj L x y → (x ∈ ks ↔ y ∈ ks) := by
  have e : cutN L (cas ks) = [] ↔ ∀ i, i < L.length → crs L (cas ks) i = false := by
    show ((List.range L.length).filter (crs L (cas ks))).map _ = [] ↔ _
    rw [List.map_eq_nil_iff, List.filter_eq_nil_iff]
    exact ⟨fun h i hi => by have := h i (List.mem_range.mpr hi); cases q : crs L (cas ks) i <;> simp_all, fun h i hi q => by rw [h i (List.mem_range.mp hi)] at q; cases q⟩
  rw [e]
  have cr : ∀ (i : Nat) (a b : Nat), L[i]? = some ((a : Int), (b : Int)) → (crs L (cas ks) i = false ↔ (a ∈ ks ↔ b ∈ ks)) := fun i a b h => by
    rw [crs_at h]
    show ((decide (((a : Nat) : Int) ∈ cas ks)) != (decide (((b : Nat) : Int) ∈ cas ks))) = false ↔ _
    rw [show decide (((a : Nat) : Int) ∈ cas ks) = decide (a ∈ ks) from decide_eq_decide.mpr cas_mem, show decide (((b : Nat) : Int) ∈ cas ks) = decide (b ∈ ks) from decide_eq_decide.mpr cas_mem]
    by_cases ha : a ∈ ks <;> by_cases hb : b ∈ ks <;> simp [ha, hb]
  constructor
  · intro h x y a
    rcases a with a | a
    · obtain ⟨i, hi⟩ := List.getElem?_of_mem a
      exact (cr i x y hi).mp (h i (List.getElem?_eq_some_iff.mp hi).1)
    · obtain ⟨i, hi⟩ := List.getElem?_of_mem a
      exact ((cr i y x hi).mp (h i (List.getElem?_eq_some_iff.mp hi).1)).symm
  · intro h i hi
    have g := List.getElem?_eq_getElem hi
    have bq := hB _ (List.getElem_mem hi)
    generalize L[i] = q at g bq
    obtain ⟨x, y⟩ := q
    dsimp only at bq
    obtain ⟨a, rfl⟩ : ∃ a : Nat, x = a := ⟨x.toNat, by omega⟩
    obtain ⟨b, rfl⟩ : ∃ b : Nat, y = b := ⟨y.toNat, by omega⟩
    exact (cr i a b g).mpr (h a b (.inl (List.mem_of_getElem? g)))
theorem adj_bel {L : List (Int × Int)} {n : Nat} (hB : Bel n L) {x y : Nat} (a : Adj L x y) : (2 ^ n - 1).testBit x = true ∧ (2 ^ n - 1).testBit y = true := by
  rw [full_bit, full_bit, decide_eq_true_eq, decide_eq_true_eq]
  rcases a with a | a
  · have := hB _ a; dsimp only at this; omega
  · have := hB _ a; dsimp only at this; omega
/-! ### data -/
theorem empty_text {ds : List PyData} : (PyData.tuple ds).shown = Str.ofString "()" ↔ ds = [] := by
  constructor
  · intro h
    have e : (PyData.tuple ds).shown = tupleText (PyData.shownAll ds) := by simp only [PyData.shown]
    rw [e] at h
    have hl := congrArg Str.length h
    have l2 : (Str.ofString "()").length = 2 := by decide +kernel
    rw [l2] at hl
    match ds with
    | [] => rfl
    | [x] =>
      have : (tupleText [PyData.shown x]).length = (PyData.shown x).length + 3 := by
        rw [tupleText_one]
        simp only [Str.length_append]
        show 1 + _ + 2 = _
        omega
      have e2 : PyData.shownAll [x] = [PyData.shown x] := by simp only [PyData.shownAll]
      rw [e2, this] at hl
      omega
    | x :: y :: r =>
      have := piled_le_tupleText (PyData.shownAll (x :: y :: r))
      simp only [PyData.shownAll, piled, List.map_cons, List.sum_cons] at this hl
      omega
  · rintro rfl
    decide +kernel
end K0

/-! Pairings: all of them in order, and whether there is one. -/
set_option linter.unusedVariables false
namespace K0
/-- r is the lowest place of m -/
structure Low (m r : Nat) : Prop where
  bit : m.testBit r = true
  low : ∀ i, i < r → m.testBit i = false
theorem Low.uniq {m r q : Nat} (a : Low m r) (b : Low m q) : r = q := by
  rcases Nat.lt_trichotomy r q with z | z | z
  · have := b.low r z
    rw [a.bit] at this; cases this
  · exact z
  · have := a.low q z
    rw [b.bit] at this; cases this
theorem low_ex {m : Nat} (h : m ≠ 0) : ∃ r, Low m r := by
  obtain ⟨i, hi⟩ := Nat.exists_testBit_of_ne_zero h
  have : ∀ n, (∃ i, i < n ∧ m.testBit i = true) → ∃ r, Low m r := fun n => by
    induction n with
    | zero => rintro ⟨i, z, _⟩; omega
    | succ n ih =>
      rintro ⟨i, hi, hb⟩
      by_cases h : ∃ j, j < n ∧ m.testBit j = true
      · exact ih h
      · refine ⟨i, hb, fun j hj => ?_⟩
        cases q : m.testBit j with
        | false => rfl
        | true => exact absurd ⟨j, by omega, q⟩ h
  exact this (i + 1) ⟨i, by omega, hi⟩
/-- two places taken away -/
def off (m a b : Nat) : Nat := m ^^^ 2 ^ a ^^^ 2 ^ b
theorem off_bit {m a b : Nat} (ha : m.testBit a = true) (hb : m.testBit b = true) (ne : a ≠ b) (i : Nat) : (off m a b).testBit i = true ↔ m.testBit i = true ∧ i ≠ a ∧ i ≠ b := by
  unfold off
  rw [Nat.testBit_xor, Nat.testBit_xor, Nat.testBit_two_pow, Nat.testBit_two_pow]
  by_cases h1 : a = i
  · subst h1
    have : ¬ b = a := fun z => ne z.symm
    simp [ha, this]
  · by_cases h2 : b = i
    · subst h2
      simp [hb, h1]
    · have h1' : ¬ i = a := fun z => h1 z.symm
      have h2' : ¬ i = b := fun z => h2 z.symm
      simp [h1, h2, h1', h2']
/-- how many places below 12 -/
def cnt (m : Nat) : Nat := ((List.range 12).filter fun i => m.testBit i).length
theorem cnt_zero {m : Nat} (hm : m < 2 ^ 12) : cnt m = 0 ↔ m = 0 := by
  unfold cnt
  rw [List.length_eq_zero_iff, List.filter_eq_nil_iff]
  constructor
  · intro h
    by_cases z : m = 0
    · exact z
    · obtain ⟨i, hi⟩ := Nat.exists_testBit_of_ne_zero z
      have : i < 12 := by
        rcases Nat.lt_or_ge i 12 with y | y
        · exact y
        · rw [Nat.testBit_lt_two_pow (Nat.lt_of_lt_of_le hm (Nat.pow_le_pow_right (by decide) y))] at hi
          cases hi
      exact absurd hi (h i (List.mem_range.mpr this))
  · rintro rfl i _
    simp
theorem filter_two {α : Type} [DecidableEq α] {xs : List α} {p q : α → Bool} {a b : α} (nd : xs.Nodup) (ha : a ∈ xs) (hb : b ∈ xs) (ne : a ≠ b) (pa : p a = true) (pb : p b = true) (h : ∀ i ∈ xs, (q i = true ↔ p i = true ∧ i ≠ a ∧ i ≠ b)) : (xs.filter q).length + 2 = (xs.filter p).length := by
  have e : (xs.filter p).Perm (a :: b :: xs.filter q) := by
    refine (List.perm_ext_iff_of_nodup (nd.filter _) ?_).mpr fun i => ?_
    · refine List.nodup_cons.mpr ⟨fun z => ?_, List.nodup_cons.mpr ⟨fun z => ?_, nd.filter _⟩⟩
      · rcases List.mem_cons.mp z with z | z
        · exact ne z
        · exact ((h a ha).mp (List.mem_filter.mp z).2).2.1 rfl
      · exact ((h b hb).mp (List.mem_filter.mp z).2).2.2 rfl
    · rw [List.mem_filter, List.mem_cons, List.mem_cons, List.mem_filter]
      constructor
      · rintro ⟨h1, h2⟩
        by_cases z1 : i = a
        · exact .inl z1
        · by_cases z2 : i = b
          · exact .inr (.inl z2)
          · exact .inr (.inr ⟨h1, (h i h1).mpr ⟨h2, z1, z2⟩⟩)
      · rintro (rfl | rfl | ⟨h1, h2⟩)
        · exact ⟨ha, pa⟩
        · exact ⟨hb, pb⟩
        · exact ⟨h1, ((h i h1).mp h2).1⟩
  rw [e.length_eq, List.length_cons, List.length_cons]
theorem bit_12 {m i : Nat} (hm : m < 2 ^ 12) (h : m.testBit i = true) : i < 12 := by
  rcases Nat.lt_or_ge i 12 with y | y
  · exact y
  · rw [Nat.testBit_lt_two_pow (Nat.lt_of_lt_of_le hm (Nat.pow_le_pow_right (by decide) y))] at h
    cases h
theorem off_lt {m a b : Nat} (hm : m < 2 ^ 12) (ha : m.testBit a = true) (hb : m.testBit b = true) : off m a b < 2 ^ 12 := by
  unfold off
  exact Nat.xor_lt_two_pow (Nat.xor_lt_two_pow hm (Nat.pow_lt_pow_right (by decide) (bit_12 hm ha))) (Nat.pow_lt_pow_right (by decide) (bit_12 hm hb))
theorem cnt_off {m a b : Nat} (hm : m < 2 ^ 12) (ha : m.testBit a = true) (hb : m.testBit b = true) (ne : a ≠ b) : cnt (off m a b) + 2 = cnt m :=
  filter_two List.nodup_range (List.mem_range.mpr (bit_12 hm ha)) (List.mem_range.mpr (bit_12 hm hb)) ne ha hb fun i _ => off_bit ha hb ne i
/-- the lowest place below 12 -/
def lowN (m : Nat) : Nat := ((List.range 12).find? fun i => m.testBit i).getD 0
theorem lowN_low {m : Nat} (hm : m < 2 ^ 12) (h : m ≠ 0) : Low m (lowN m) := by
  obtain ⟨r, hr⟩ := low_ex h
  have r12 := bit_12 hm hr.bit
  have e : (List.range 12).find? (fun i => m.testBit i) = some r := by
    rw [List.find?_eq_some_iff_append]
    refine ⟨hr.bit, List.range r, (List.range (12 - r - 1)).map (· + (r + 1)), ?_, fun i hi => ?_⟩
    · have e1 : List.range 12 = List.range (r + (12 - r)) := by rw [show r + (12 - r) = 12 by omega]
      rw [e1, List.range_add, show 12 - r = (12 - r - 1) + 1 by omega, List.range_succ_eq_map]
      simp only [List.map_cons, List.map_map, Nat.add_zero]
      congr 2
      refine List.map_congr_left fun i _ => ?_
      show r + (i + 1) = i + (r + 1)
      omega
    · rw [hr.low i (List.mem_range.mp hi)]; rfl
  unfold lowN
  rw [e]
  exact hr
/-- tie k joins the lowest place of m to another of its places -/
def good (L : List (Int × Int)) (m k : Nat) : Bool := decide ((tie L k).1 = (lowN m : Int)) && m.testBit (tie L k).2.toNat
/-- the steps from m: a tie's number and what is left -/
def stepsN (L : List (Int × Int)) (m : Nat) : List (Nat × Nat) := ((List.range L.length).filter (good L m)).map fun k => (k, off m (lowN m) (tie L k).2.toNat)
/-- all pairings of m, t ties each -/
def pmN (L : List (Int × Int)) : Nat → Nat → List (List Nat)
  | 0, _ => [[]]
  | t + 1, m => (stepsN L m).flatMap fun s => (pmN L t s.2).map (s.1 :: ·)
/-- ties go from the lesser place to the greater one, below 12 -/
def BelP (L : List (Int × Int)) : Prop := ∀ k, k < L.length → 0 ≤ (tie L k).1 ∧ (tie L k).1 < (tie L k).2 ∧ (tie L k).2 < 12
theorem step_ok {L : List (Int × Int)} {m k q : Nat} (hB : BelP L) (hm : m < 2 ^ 12) (h0 : m ≠ 0) (h : (k, q) ∈ stepsN L m) :
    k < L.length ∧ ∃ o, q = off m (lowN m) o ∧ m.testBit o = true ∧ lowN m < o ∧ tie L k = ((lowN m : Int), (o : Int)) := by
  obtain ⟨j, hj, e⟩ := List.mem_map.mp h
  cases e
  obtain ⟨h1, h2⟩ := List.mem_filter.mp hj
  have hk := List.mem_range.mp h1
  unfold good at h2
  rw [Bool.and_eq_true, decide_eq_true_eq] at h2
  obtain ⟨b0, b1, b2⟩ := hB k hk
  refine ⟨hk, (tie L k).2.toNat, rfl, h2.2, by omega, ?_⟩
  rw [← h2.1, show (((tie L k).2.toNat : Nat) : Int) = (tie L k).2 by omega]
theorem step_in {L : List (Int × Int)} {m k o : Nat} (hk : k < L.length) (e : tie L k = ((lowN m : Int), (o : Int))) (ho : m.testBit o = true) : (k, off m (lowN m) o) ∈ stepsN L m := by
  refine List.mem_map.mpr ⟨k, List.mem_filter.mpr ⟨List.mem_range.mpr hk, ?_⟩, ?_⟩
  · unfold good
    rw [e, Bool.and_eq_true, decide_eq_true_eq]
    exact ⟨rfl, by simpa using ho⟩
  · rw [e]
    simp
theorem step_cnt {L : List (Int × Int)} {m k q : Nat} (hB : BelP L) (hm : m < 2 ^ 12) (h0 : m ≠ 0) (h : (k, q) ∈ stepsN L m) : q < 2 ^ 12 ∧ cnt q + 2 = cnt m := by
  obtain ⟨_, o, rfl, ho, hl, _⟩ := step_ok hB hm h0 h
  have lo := lowN_low hm h0
  exact ⟨off_lt hm lo.bit ho, cnt_off hm lo.bit ho (by omega)⟩
/-- whether there is a pairing -/
def perfB (L : List (Int × Int)) (m : Nat) : Bool := decide (cnt m % 2 = 0) && !(pmN L (cnt m / 2) m).isEmpty
theorem perf_zero (L : List (Int × Int)) : perfB L 0 = true := by
  have : cnt 0 = 0 := (cnt_zero (by decide)).mpr rfl
  unfold perfB
  rw [this]
  rfl
theorem pm_ne {L : List (Int × Int)} {t m : Nat} : pmN L (t + 1) m ≠ [] ↔ ∃ s ∈ stepsN L m, pmN L t s.2 ≠ [] := by
  show (stepsN L m).flatMap (fun s => (pmN L t s.2).map (s.1 :: ·)) ≠ [] ↔ _
  constructor
  · intro h
    obtain ⟨x, hx⟩ := List.exists_mem_of_ne_nil _ h
    obtain ⟨s, hs, hx⟩ := List.mem_flatMap.mp hx
    obtain ⟨y, hy, _⟩ := List.mem_map.mp hx
    exact ⟨s, hs, List.ne_nil_of_mem hy⟩
  · rintro ⟨s, hs, h⟩
    obtain ⟨y, hy⟩ := List.exists_mem_of_ne_nil _ h
    exact List.ne_nil_of_mem (List.mem_flatMap.mpr ⟨s, hs, List.mem_map.mpr ⟨y, hy, rfl⟩⟩)
theorem perf_iff {L : List (Int × Int)} {m : Nat} : perfB L m = true ↔ cnt m % 2 = 0 ∧ pmN L (cnt m / 2) m ≠ [] := by
  unfold perfB
  rw [Bool.and_eq_true, decide_eq_true_eq]
  constructor
  · rintro ⟨h1, h2⟩
    exact ⟨h1, fun e => by rw [e] at h2; cases h2⟩
  · rintro ⟨h1, h2⟩
    refine ⟨h1, ?_⟩
    cases e : pmN L (cnt m / 2) m with
    | nil => exact absurd e h2
    | cons x xs => rfl
theorem perf_step {L : List (Int × Int)} {m : Nat} (hB : BelP L) (hm : m < 2 ^ 12) (h0 : m ≠ 0) : perfB L m = true ↔ ∃ s ∈ stepsN L m, perfB L s.2 = true := by
  have cz : cnt m ≠ 0 := fun z => h0 ((cnt_zero hm).mp z)
  constructor
  · intro h
    obtain ⟨h1, h2⟩ := perf_iff.mp h
    have e : cnt m / 2 = (cnt m / 2 - 1) + 1 := by omega
    rw [e] at h2
    obtain ⟨⟨k, q⟩, hs, h3⟩ := pm_ne.mp h2
    obtain ⟨_, c⟩ := step_cnt hB hm h0 hs
    refine ⟨(k, q), hs, perf_iff.mpr ⟨by dsimp only; omega, ?_⟩⟩
    dsimp only at h3 ⊢
    rw [show cnt q / 2 = cnt m / 2 - 1 by omega]
    exact h3
  · rintro ⟨⟨k, q⟩, hs, h⟩
    obtain ⟨_, c⟩ := step_cnt hB hm h0 hs
    obtain ⟨h1, h2⟩ := perf_iff.mp h
    dsimp only at h1 h2
    refine perf_iff.mpr ⟨by omega, ?_⟩
    rw [show cnt m / 2 = cnt q / 2 + 1 by omega]
    exact pm_ne.mpr ⟨(k, q), hs, h2⟩
/-- by places: the lowest one and another that a tie joins to it -/
theorem perf_place {L : List (Int × Int)} {m : Nat} (hB : BelP L) (hm : m < 2 ^ 12) (h0 : m ≠ 0) :
    perfB L m = true ↔ ∃ o, m.testBit o = true ∧ (∃ k, k < L.length ∧ tie L k = ((lowN m : Int), (o : Int))) ∧ perfB L (off m (lowN m) o) = true := by
  rw [perf_step hB hm h0]
  constructor
  · rintro ⟨⟨k, q⟩, hs, h⟩
    obtain ⟨hk, o, rfl, ho, hl, e⟩ := step_ok hB hm h0 hs
    exact ⟨o, ho, ⟨k, hk, e⟩, h⟩
  · rintro ⟨o, ho, ⟨k, hk, e⟩, h⟩
    exact ⟨(k, off m (lowN m) o), step_in hk e ho, h⟩
/-! ### layers -/
abbrev Row := List Nat × Nat
def stepL (L : List (Int × Int)) (keep : Nat → Bool) (ly : List Row) : List Row := ly.flatMap fun r => ((stepsN L r.2).filter fun s => keep s.2).map fun s => (r.1 ++ [s.1], s.2)
def comp (L : List (Int × Int)) (t : Nat) (ly : List Row) : List (List Nat) := ly.flatMap fun r => (pmN L t r.2).map (r.1 ++ ·)
theorem comp_zero (L : List (Int × Int)) (ly : List Row) : comp L 0 ly = ly.map (·.1) := by
  unfold comp
  induction ly with
  | nil => rfl
  | cons r ly ih =>
    rw [List.flatMap_cons, ih, List.map_cons]
    show ([[]] : List (List Nat)).map (r.1 ++ ·) ++ _ = _
    simp
theorem flat_cong {α β : Type} {f g : α → List β} : ∀ {xs : List α}, (∀ x ∈ xs, f x = g x) → xs.flatMap f = xs.flatMap g
  | [], _ => rfl
  | x :: xs, h => by rw [List.flatMap_cons, List.flatMap_cons, h x (List.mem_cons_self ..), flat_cong fun y hy => h y (List.mem_cons_of_mem _ hy)]
theorem flat_filter {α β : Type} (xs : List α) (keep : α → Bool) (f : α → List β) (h : ∀ x ∈ xs, keep x = false → f x = []) : (xs.filter keep).flatMap f = xs.flatMap f := by
  induction xs with
  | nil => rfl
  | cons x xs ih =>
    have ih := ih fun y hy => h y (List.mem_cons_of_mem _ hy)
    cases e : keep x with
    | true => rw [List.filter_cons_of_pos e, List.flatMap_cons, List.flatMap_cons, ih]
    | false => rw [List.filter_cons_of_neg (by rw [e]; exact Bool.false_ne_true), List.flatMap_cons, h x (List.mem_cons_self ..) e, List.nil_append, ih]
theorem comp_step {L : List (Int × Int)} {keep : Nat → Bool} {t : Nat} {ly : List Row} (h : ∀ r ∈ ly, ∀ s ∈ stepsN L r.2, keep s.2 = false → pmN L t s.2 = []) : comp L t (stepL L keep ly) = comp L (t + 1) ly := by
  unfold comp stepL
  rw [List.flatMap_assoc]
  refine flat_cong fun r hr => ?_
  rw [List.flatMap_map]
  show ((stepsN L r.2).filter fun s => keep s.2).flatMap (fun s => (pmN L t s.2).map ((r.1 ++ [s.1]) ++ ·)) = ((stepsN L r.2).flatMap fun s => (pmN L t s.2).map (s.1 :: ·)).map (r.1 ++ ·)
  rw [List.map_flatMap, flat_filter (stepsN L r.2) (fun s => keep s.2) (fun s => (pmN L t s.2).map ((r.1 ++ [s.1]) ++ ·)) fun s hs e => by rw [h r hr s hs e]; rfl]
  refine flat_cong fun s _ => ?_
  rw [List.map_map]
  refine List.map_congr_left fun p _ => ?_
  show (r.1 ++ [s.1]) ++ p = r.1 ++ (s.1 :: p)
  rw [List.append_assoc]
  rfl
/-- all that is left has c places -/
def LyC (ly : List Row) (c : Nat) : Prop := ∀ r ∈ ly, r.2 < 2 ^ 12 ∧ cnt r.2 = c
theorem LyC.step {L : List (Int × Int)} {keep : Nat → Bool} {ly : List Row} {c : Nat} (hB : BelP L) (h : LyC ly (c + 2)) : LyC (stepL L keep ly) c := fun x hx => by
  obtain ⟨r, hr, hx⟩ := List.mem_flatMap.mp hx
  obtain ⟨s, hs, rfl⟩ := List.mem_map.mp hx
  obtain ⟨h1, h2⟩ := h r hr
  have h0 : r.2 ≠ 0 := fun z => by rw [z, (cnt_zero (by decide)).mpr rfl] at h2; omega
  obtain ⟨k, q⟩ := s
  obtain ⟨g1, g2⟩ := step_cnt hB h1 h0 (List.mem_filter.mp hs).1
  exact ⟨g1, by dsimp only; omega⟩
/-- one place alone takes no step -/
theorem steps_one {L : List (Int × Int)} {m : Nat} (hB : BelP L) (hm : m < 2 ^ 12) (h : cnt m = 1) : stepsN L m = [] := by
  cases e : stepsN L m with
  | nil => rfl
  | cons s r =>
    have h0 : m ≠ 0 := fun z => by rw [z, (cnt_zero (by decide)).mpr rfl] at h; omega
    obtain ⟨k, q⟩ := s
    have := (step_cnt hB hm h0 (by rw [e]; exact List.mem_cons_self ..)).2
    omega
/-! ### how many -/
/-- tie k lies within m -/
def inM (L : List (Int × Int)) (m k : Nat) : Bool := m.testBit (tie L k).1.toNat && m.testBit (tie L k).2.toNat
def wid (L : List (Int × Int)) (m : Nat) : Nat := ((List.range L.length).filter (inM L m)).length
def pot (L : List (Int × Int)) (ly : List Row) : Nat := (ly.map fun r => 2 ^ wid L r.2).sum
theorem pot_len (L : List (Int × Int)) (ly : List Row) : ly.length ≤ pot L ly := by
  induction ly with
  | nil => exact Nat.le_refl _
  | cons r ly ih =>
    have : 1 ≤ 2 ^ wid L r.2 := Nat.one_le_two_pow
    unfold pot at ih ⊢
    simp only [List.map_cons, List.sum_cons, List.length_cons]
    omega
theorem wid_le (L : List (Int × Int)) (m : Nat) : wid L m ≤ L.length := by
  have := List.length_filter_le (inM L m) (List.range L.length)
  rwa [List.length_range] at this
theorem filter_split {α : Type} (p q r : α → Bool) : ∀ xs : List α, (∀ x ∈ xs, (p x = true → r x = true) ∧ (q x = true → r x = true) ∧ ¬ (p x = true ∧ q x = true)) → (xs.filter p).length + (xs.filter q).length ≤ (xs.filter r).length
  | [], _ => Nat.le_refl _
  | x :: xs, h => by
    have ih := filter_split p q r xs fun y hy => h y (List.mem_cons_of_mem _ hy)
    obtain ⟨h1, h2, h3⟩ := h x (List.mem_cons_self ..)
    simp only [List.filter_cons]
    cases ep : p x with
    | true =>
      cases eq : q x with
      | true => exact absurd ⟨ep, eq⟩ h3
      | false => rw [h1 ep]; simp only [if_true, Bool.false_eq_true, if_false, List.length_cons]; omega
    | false =>
      cases eq : q x with
      | true => rw [h2 eq]; simp only [if_true, Bool.false_eq_true, if_false, List.length_cons]; omega
      | false =>
        cases er : r x with
        | true => simp only [if_true, Bool.false_eq_true, if_false, List.length_cons]; omega
        | false => simp only [Bool.false_eq_true, if_false]; exact ih
theorem wid_step {L : List (Int × Int)} {m k q : Nat} (hB : BelP L) (hm : m < 2 ^ 12) (h0 : m ≠ 0) (h : (k, q) ∈ stepsN L m) : wid L q + (stepsN L m).length ≤ wid L m := by
  obtain ⟨_, o, rfl, ho, hl, _⟩ := step_ok hB hm h0 h
  have lo := lowN_low hm h0
  unfold wid stepsN
  rw [List.length_map]
  refine filter_split _ _ _ _ fun x hx => ?_
  have ob := off_bit lo.bit ho (by omega : lowN m ≠ o)
  have hx' := List.mem_range.mp hx
  obtain ⟨b0, b1, b2⟩ := hB x hx'
  refine ⟨fun e => ?_, fun e => ?_, ?_⟩
  · unfold inM at e ⊢
    rw [Bool.and_eq_true] at e ⊢
    exact ⟨((ob _).mp e.1).1, ((ob _).mp e.2).1⟩
  · unfold good at e
    unfold inM
    rw [Bool.and_eq_true, decide_eq_true_eq] at e
    rw [Bool.and_eq_true]
    refine ⟨?_, e.2⟩
    rw [e.1]
    simpa using lo.bit
  · rintro ⟨e1, e2⟩
    unfold inM at e1
    unfold good at e2
    rw [Bool.and_eq_true] at e1
    rw [Bool.and_eq_true, decide_eq_true_eq] at e2
    have := ((ob _).mp e1.1).2.1
    rw [e2.1] at this
    simp at this
theorem pow_sum {d w : Nat} : ∀ {l : List Nat}, l.length = d → (∀ x ∈ l, x + d ≤ w) → (l.map fun x => 2 ^ x).sum ≤ 2 ^ w := fun {l} hl h => by
  have key : ∀ l : List Nat, (∀ x ∈ l, x + d ≤ w) → (l.map fun x => 2 ^ x).sum * 2 ^ d ≤ l.length * 2 ^ w := fun l => by
    induction l with
    | nil => intro _; simp
    | cons x l ih =>
      intro h
      have i := ih fun y hy => h y (List.mem_cons_of_mem _ hy)
      have j : 2 ^ x * 2 ^ d ≤ 2 ^ w := by
        rw [← Nat.pow_add]
        exact Nat.pow_le_pow_right (by decide) (h x (List.mem_cons_self ..))
      simp only [List.map_cons, List.sum_cons, List.length_cons, Nat.add_mul, Nat.one_mul]
      omega
  have k := key l h
  rw [hl] at k
  have d2 : d < 2 ^ d := Nat.lt_two_pow_self
  have : d * 2 ^ w ≤ 2 ^ w * 2 ^ d := by
    rw [Nat.mul_comm]
    exact Nat.mul_le_mul_left _ (Nat.le_of_lt d2)
  exact Nat.le_of_mul_le_mul_right (Nat.le_trans k this) (Nat.two_pow_pos d)
theorem sum_filter_le {α : Type} (f : α → Nat) (p : α → Bool) : ∀ xs : List α, ((xs.filter p).map f).sum ≤ (xs.map f).sum
  | [] => Nat.le_refl _
  | x :: xs => by
    have ih := sum_filter_le f p xs
    simp only [List.filter_cons]
    split <;> simp only [List.map_cons, List.sum_cons] <;> omega
theorem pot_step {L : List (Int × Int)} {keep : Nat → Bool} (hB : BelP L) : ∀ {ly : List Row}, (∀ r ∈ ly, r.2 < 2 ^ 12 ∧ r.2 ≠ 0) → pot L (stepL L keep ly) ≤ pot L ly
  | [], _ => Nat.le_refl _
  | r :: ly, h => by
    have ih := pot_step (keep := keep) hB (ly := ly) fun x hx => h x (List.mem_cons_of_mem _ hx)
    obtain ⟨hm, h0⟩ := h r (List.mem_cons_self ..)
    unfold pot stepL at ih ⊢
    rw [List.flatMap_cons, List.map_append, List.sum_append, List.map_cons, List.sum_cons, List.map_map]
    have one : (((stepsN L r.2).filter fun s => keep s.2).map ((fun r => 2 ^ wid L r.2) ∘ fun s => (r.1 ++ [s.1], s.2))).sum ≤ 2 ^ wid L r.2 := by
      refine Nat.le_trans (sum_filter_le _ _ _) ?_
      have e : (stepsN L r.2).map ((fun r => 2 ^ wid L r.2) ∘ fun s => (r.1 ++ [s.1], s.2)) = ((stepsN L r.2).map fun s => wid L s.2).map fun x => 2 ^ x := by
        rw [List.map_map]
        rfl
      rw [e]
      refine pow_sum (d := (stepsN L r.2).length) (by rw [List.length_map]) fun x hx => ?_
      obtain ⟨⟨k, q⟩, hs, rfl⟩ := List.mem_map.mp hx
      exact wid_step hB hm h0 hs
    exact Nat.add_le_add one ih
end K0

/-! Pairings: their order; the places that they meet. -/
set_option linter.unusedVariables false
namespace K0
/-- ties stand in the order of their lesser places -/
def SrtP (L : List (Int × Int)) : Prop := ∀ i j, i < L.length → j < L.length → (tie L i).1 < (tie L j).1 → i < j
def lexN : List Nat → List Nat → Bool
  | _, [] => false
  | [], _ :: _ => true
  | a :: x, b :: y => decide (a < b) || (decide (a = b) && lexN x y)
theorem lowN_less {m o : Nat} (hm : m < 2 ^ 12) (h0 : m ≠ 0) (ho : m.testBit o = true) (hl : lowN m < o) (hq : off m (lowN m) o ≠ 0) : lowN m < lowN (off m (lowN m) o) := by
  have lo := lowN_low hm h0
  have ql := lowN_low (off_lt hm lo.bit ho) hq
  obtain ⟨b1, b2, _⟩ := (off_bit lo.bit ho (by omega : lowN m ≠ o) _).mp ql.bit
  rcases Nat.lt_or_ge (lowN (off m (lowN m) o)) (lowN m) with z | z
  · rw [lo.low _ z] at b1; cases b1
  · omega
theorem pm_len {L : List (Int × Int)} : ∀ {t m : Nat} {p : List Nat}, p ∈ pmN L t m → p.length = t
  | 0, m, p, h => by rw [List.mem_singleton.mp h]; rfl
  | t + 1, m, p, h => by
    obtain ⟨s, _, h⟩ := List.mem_flatMap.mp h
    obtain ⟨q, hq, rfl⟩ := List.mem_map.mp h
    rw [List.length_cons, pm_len hq]
theorem pm_asc {L : List (Int × Int)} (hB : BelP L) (hS : SrtP L) : ∀ {t m : Nat} {p : List Nat}, m < 2 ^ 12 → cnt m = 2 * t → p ∈ pmN L t m → p.Pairwise (· < ·) ∧ ∀ k ∈ p, k < L.length ∧ (lowN m : Int) ≤ (tie L k).1
  | 0, m, p, _, _, h => by rw [List.mem_singleton.mp h]; exact ⟨List.Pairwise.nil, fun _ z => nomatch z⟩
  | t + 1, m, p, hm, hc, h => by
    have h0 : m ≠ 0 := fun z => by rw [z, (cnt_zero (by decide)).mpr rfl] at hc; omega
    obtain ⟨⟨k, q⟩, hs, h⟩ := List.mem_flatMap.mp h
    obtain ⟨p', hp, rfl⟩ := List.mem_map.mp h
    obtain ⟨q1, q2⟩ := step_cnt hB hm h0 hs
    obtain ⟨hk, o, rfl, ho, hl, e⟩ := step_ok hB hm h0 hs
    obtain ⟨a1, a2⟩ := pm_asc hB hS q1 (by omega) hp
    have nz : ∀ j ∈ p', off m (lowN m) o ≠ 0 := fun j hj z => by
      have lp := pm_len hp
      rw [z, (cnt_zero (by decide)).mpr rfl] at q2
      have t0 : t = 0 := by omega
      subst t0
      rw [List.length_eq_zero_iff.mp lp] at hj
      cases hj
    have up : ∀ j ∈ p', (lowN m : Int) < (tie L j).1 := fun j hj => by
      have := lowN_less hm h0 ho hl (nz j hj)
      have := (a2 j hj).2
      omega
    refine ⟨List.pairwise_cons.mpr ⟨fun j hj => hS k j hk (a2 j hj).1 (by rw [e]; exact up j hj), a1⟩, fun j hj => ?_⟩
    rcases List.mem_cons.mp hj with rfl | hj
    · exact ⟨hk, by rw [e]; exact Int.le_refl _⟩
    · exact ⟨(a2 j hj).1, Int.le_of_lt (up j hj)⟩
theorem steps_srt (L : List (Int × Int)) (m : Nat) : (stepsN L m).Pairwise fun a b => a.1 < b.1 := by
  unfold stepsN
  rw [List.pairwise_map]
  exact (List.pairwise_lt_range (n := L.length)).filter _
theorem pm_srt {L : List (Int × Int)} : ∀ {t m : Nat}, (pmN L t m).Pairwise fun x y => lexN x y = true
  | 0, m => List.pairwise_singleton ..
  | t + 1, m => by
    show ((stepsN L m).flatMap fun s => (pmN L t s.2).map (s.1 :: ·)).Pairwise _
    rw [List.pairwise_flatMap]
    refine ⟨fun s _ => ?_, (steps_srt L m).imp fun {a b} h x hx y hy => ?_⟩
    · rw [List.pairwise_map]
      refine (pm_srt (L := L) (t := t) (m := s.2)).imp fun {x y} h => ?_
      show (decide (s.1 < s.1) || (decide (s.1 = s.1) && lexN x y)) = true
      rw [h]
      simp
    · obtain ⟨x', _, rfl⟩ := List.mem_map.mp hx
      obtain ⟨y', _, rfl⟩ := List.mem_map.mp hy
      show (decide (a.1 < b.1) || _) = true
      rw [decide_eq_true h]
      rfl
/-! ### the places met -/
def plcN (m : Nat) : List Nat := (List.range 12).filter fun i => m.testBit i
def endsN (L : List (Int × Int)) (p : List Nat) : List Int := p.flatMap fun k => [(tie L k).1, (tie L k).2]
theorem bits_off {m a b : Nat} (hm : m < 2 ^ 12) (ha : m.testBit a = true) (hb : m.testBit b = true) (ne : a ≠ b) : (plcN m).Perm (a :: b :: plcN (off m a b)) := by
  have nd : (List.range 12).Nodup := List.nodup_range
  unfold plcN
  refine (List.perm_ext_iff_of_nodup (nd.filter _) ?_).mpr fun i => ?_
  · refine List.nodup_cons.mpr ⟨fun z => ?_, List.nodup_cons.mpr ⟨fun z => ?_, nd.filter _⟩⟩
    · rcases List.mem_cons.mp z with z | z
      · exact ne z
      · exact ((off_bit ha hb ne a).mp (List.mem_filter.mp z).2).2.1 rfl
    · exact ((off_bit ha hb ne b).mp (List.mem_filter.mp z).2).2.2 rfl
  · rw [List.mem_filter, List.mem_cons, List.mem_cons, List.mem_filter]
    constructor
    · rintro ⟨h1, h2⟩
      by_cases z1 : i = a
      · exact .inl z1
      · by_cases z2 : i = b
        · exact .inr (.inl z2)
        · exact .inr (.inr ⟨h1, (off_bit ha hb ne i).mpr ⟨h2, z1, z2⟩⟩)
    · rintro (rfl | rfl | ⟨h1, h2⟩)
      · exact ⟨List.mem_range.mpr (bit_12 hm ha), ha⟩
      · exact ⟨List.mem_range.mpr (bit_12 hm hb), hb⟩
      · exact ⟨h1, ((off_bit ha hb ne i).mp h2).1⟩
theorem pm_ends {L : List (Int × Int)} (hB : BelP L) : ∀ {t m : Nat} {p : List Nat}, m < 2 ^ 12 → cnt m = 2 * t → p ∈ pmN L t m → (endsN L p).Perm ((plcN m).map fun (i : Nat) => (i : Int))
  | 0, m, p, hm, hc, h => by
    rw [List.mem_singleton.mp h]
    have : m = 0 := (cnt_zero hm).mp hc
    subst this
    have e : plcN 0 = [] := by decide
    rw [e]
    exact List.Perm.nil
  | t + 1, m, p, hm, hc, h => by
    have h0 : m ≠ 0 := fun z => by rw [z, (cnt_zero (by decide)).mpr rfl] at hc; omega
    obtain ⟨⟨k, q⟩, hs, h⟩ := List.mem_flatMap.mp h
    obtain ⟨p', hp, rfl⟩ := List.mem_map.mp h
    obtain ⟨q1, q2⟩ := step_cnt hB hm h0 hs
    obtain ⟨hk, o, rfl, ho, hl, e⟩ := step_ok hB hm h0 hs
    have ih := pm_ends hB q1 (by omega) hp
    have pb := (bits_off hm (lowN_low hm h0).bit ho (by omega : lowN m ≠ o)).map fun (i : Nat) => (i : Int)
    refine List.Perm.trans ?_ pb.symm
    show ([(tie L k).1, (tie L k).2] ++ endsN L p').Perm _
    rw [e]
    exact (ih.cons (o : Int)).cons (lowN m : Int)
theorem bits_full {n : Nat} (h : n ≤ 12) : plcN (2 ^ n - 1) = List.range n := by
  have : n = 0 ∨ n = 1 ∨ n = 2 ∨ n = 3 ∨ n = 4 ∨ n = 5 ∨ n = 6 ∨ n = 7 ∨ n = 8 ∨ n = 9 ∨ n = 10 ∨ n = 11 ∨ n = 12 := by omega
  rcases this with rfl | rfl | rfl | rfl | rfl | rfl | rfl | rfl | rfl | rfl | rfl | rfl | rfl <;> decide +kernel
theorem cnt_full {n : Nat} (h : n ≤ 12) : cnt (2 ^ n - 1) = n := by
  show (plcN (2 ^ n - 1)).length = n
  rw [bits_full h, List.length_range]
theorem full_lt {n : Nat} (h : n ≤ 12) : 2 ^ n - 1 < 2 ^ 12 := by
  have := Nat.pow_le_pow_right (n := 2) (by decide) h
  have := Nat.two_pow_pos n
  omega
/-- all pairings of a web of n places -/
def dueN (L : List (Int × Int)) (n : Nat) : List (List Nat) := if n % 2 = 0 then pmN L (n / 2) (2 ^ n - 1) else []
theorem due_asc {L : List (Int × Int)} {n : Nat} (hB : BelP L) (hS : SrtP L) (h : n ≤ 12) {p : List Nat} (hp : p ∈ dueN L n) : p.Pairwise (· < ·) ∧ (∀ k ∈ p, k < L.length) ∧ (endsN L p).Perm ((List.range n).map fun (i : Nat) => (i : Int)) ∧ p.length = n / 2 := by
  unfold dueN at hp
  split at hp
  · rename_i e
    obtain ⟨a1, a2⟩ := pm_asc hB hS (full_lt h) (by rw [cnt_full h]; omega) hp
    have a3 := pm_ends hB (full_lt h) (by rw [cnt_full h]; omega) hp
    rw [bits_full h] at a3
    exact ⟨a1, fun k hk => (a2 k hk).1, a3, pm_len hp⟩
  · cases hp
theorem due_srt (L : List (Int × Int)) (n : Nat) : (dueN L n).Pairwise fun x y => lexN x y = true := by
  unfold dueN
  split
  · exact pm_srt
  · exact List.Pairwise.nil
end K0

set_option Elab.async false
set_option linter.all false
set_option maxRecDepth 100000
set_option maxHeartbeats 8000000
/-! A matcher made. -/
namespace K0
open PySem PySem.Spec L2
open PyProof.Rows hiding St
open KR (TupX tobj)
abbrev pMatcher : Stmt := top 5
abbrev mInit : Stmt := inClass pMatcher 0
abbrev mMissed : Stmt := inClass pMatcher 1
abbrev mAnew : Stmt := inClass pMatcher 2
abbrev mSteps : Stmt := inClass pMatcher 3
abbrev mPairings : Stmt := inClass pMatcher 5
theorem yes_al {σ : L2.St} {H : Hp} {Q : Bool → Hp → Prop} (h : Q true H) : tYes σ H Q := h
/-! ### the ties of a web, as the mathematics has them -/
theorem bel_tie {n : Nat} {L : List (Int × Int)} (hB : Bel n L) {k : Nat} (h : k < L.length) : 0 ≤ (tie L k).1 ∧ (tie L k).1 < (tie L k).2 ∧ (tie L k).2 < n := by
  have e : tie L k = L[k] := by unfold tie; rw [List.getD_eq_getElem?_getD, List.getElem?_eq_getElem h]; rfl
  rw [e]
  exact hB _ (List.getElem_mem h)
theorem GW.belP {H : Hp} {w : Addr} {n : Nat} {L : List (Int × Int)} (g : GW H w n L) : BelP L := fun k h => by
  have := bel_tie g.bel h
  have := g.n2
  omega
theorem GW.srtP {H : Hp} {w : Addr} {n : Nat} {L : List (Int × Int)} (g : GW H w n L) : SrtP L := fun i j hi hj h => by
  have bi := bel_tie g.bel hi
  have bj := bel_tie g.bel hj
  have n2 := g.n2
  rcases Nat.lt_trichotomy i j with z | z | z
  · exact z
  · subst z; omega
  · have := List.pairwise_iff_getElem.mp g.srt j i hj hi z
    have ei : tie L i = L[i] := by unfold tie; rw [List.getD_eq_getElem?_getD, List.getElem?_eq_getElem hi]; rfl
    have ej : tie L j = L[j] := by unfold tie; rw [List.getD_eq_getElem?_getD, List.getElem?_eq_getElem hj]; rfl
    rw [ei] at bi h
    rw [ej] at bj h
    unfold cd at this
    omega
/-! ### the object -/
theorem fn1 : ¬ (("full" : Str) = "near") := by decide +kernel
theorem fn2 : ¬ (("full" : Str) = "ties") := by decide +kernel
theorem fn3 : ¬ (("full" : Str) = "known") := by decide +kernel
theorem fn4 : ¬ (("near" : Str) = "ties") := by decide +kernel
theorem fn5 : ¬ (("near" : Str) = "known") := by decide +kernel
theorem fn6 : ¬ (("ties" : Str) = "known") := by decide +kernel
def mf (f : Int) (nl tl kn : Addr) : List (Str × V) := putF "known" (.ref kn) (putF "ties" (.ref tl) (putF "near" (.ref nl) (putF "full" (.int f) [])))
theorem mf_known {f : Int} {nl tl kn : Addr} : (mf f nl tl kn).lookup ("known" : Str) = some (.ref kn) := by unfold mf; rw [lookup_putF, if_pos rfl]
theorem mf_ties {f : Int} {nl tl kn : Addr} : (mf f nl tl kn).lookup ("ties" : Str) = some (.ref tl) := by unfold mf; rw [lookup_putF, if_neg fn6, lookup_putF, if_pos rfl]
theorem mf_near {f : Int} {nl tl kn : Addr} : (mf f nl tl kn).lookup ("near" : Str) = some (.ref nl) := by unfold mf; rw [lookup_putF, if_neg fn5, lookup_putF, if_neg fn4, lookup_putF, if_pos rfl]
theorem mf_full {f : Int} {nl tl kn : Addr} : (mf f nl tl kn).lookup ("full" : Str) = some (.int f) := by unfold mf; rw [lookup_putF, if_neg fn3, lookup_putF, if_neg fn2, lookup_putF, if_neg fn1, lookup_putF, if_pos rfl]
theorem mf_no {f : Int} {nl tl kn : Addr} {m : Str} (h1 : ¬ m = "full") (h2 : ¬ m = "near") (h3 : ¬ m = "ties") (h4 : ¬ m = "known") : (mf f nl tl kn).lookup m = none := by
  unfold mf
  rw [lookup_putF, if_neg h4, lookup_putF, if_neg h3, lookup_putF, if_neg h2, lookup_putF, if_neg h1]
  rfl
/-- the row of ties: number and two bits -/
def TriAt (H : Hp) (L : List (Int × Int)) (k : Nat) (v : V) : Prop := ∃ b, v = .ref b ∧ H b = some (.tup [.int k, .int ((2 ^ (tie L k).1.toNat : Nat) : Int), .int ((2 ^ (tie L k).2.toNat : Nat) : Int)])
def Tri (H : Hp) (L : List (Int × Int)) (tvs : List V) : Prop := tvs.length = L.length ∧ ∀ (k : Nat) (v : V), tvs[k]? = some v → TriAt H L k v
/-- what is known of masks -/
structure KnOk (L : List (Int × Int)) (kvs : List (Key × V)) : Prop where
  nd : (kvs.map (·.1)).Nodup
  ok : ∀ p ∈ kvs, ∃ m x : Nat, p = (Sum.inl (m : Int), V.int (x : Int)) ∧ m < 2 ^ 12 ∧ (x = 0 ↔ perfB L m = true)
  zero : valV kvs (Sum.inl 0 : Key) = some (.int 0)
theorem KnOk.len {L : List (Int × Int)} {kvs : List (Key × V)} (h : KnOk L kvs) : kvs.length ≤ 4096 := by
  have sub := len_le (m := (List.range 4096).map fun (i : Nat) => (Sum.inl (i : Int) : Key)) h.nd fun k hk => by
    obtain ⟨p, hp, rfl⟩ := List.mem_map.mp hk
    obtain ⟨m, x, rfl, hm, _⟩ := h.ok p hp
    exact List.mem_map.mpr ⟨m, List.mem_range.mpr (by simpa using hm), rfl⟩
  rw [List.length_map, List.length_map, List.length_range] at sub
  exact sub
theorem valV_some {k : Key} {v : V} : ∀ {kvs : List (Key × V)}, valV kvs k = some v → (k, v) ∈ kvs
  | [], h => by cases h
  | p :: kvs, h => by
    by_cases e : p.1 = k
    · rw [valV_pos e] at h
      cases h
      subst e
      exact List.mem_cons_self ..
    · rw [valV_neg e] at h
      exact List.mem_cons_of_mem _ (valV_some h)
theorem valV_none_mem {k : Key} : ∀ {kvs : List (Key × V)}, valV kvs k = none → k ∉ kvs.map (·.1)
  | [], _ => by simp
  | p :: kvs, h => by
    by_cases e : p.1 = k
    · rw [valV_pos e] at h; cases h
    · rw [valV_neg e] at h
      rw [List.map_cons, List.mem_cons]
      rintro (z | z)
      · exact e z.symm
      · exact valV_none_mem h z
theorem valV_snoc {k k' : Key} {v v' : V} {kvs : List (Key × V)} (h : valV kvs k = some v) : valV (kvs ++ [(k', v')]) k = some v := by
  induction kvs with
  | nil => cases h
  | cons p kvs ih =>
    rw [List.cons_append]
    by_cases e : p.1 = k
    · rw [valV_pos e] at h ⊢
      exact h
    · rw [valV_neg e] at h ⊢
      exact ih h
theorem valV_last {k : Key} {v : V} {kvs : List (Key × V)} (h : valV kvs k = none) : valV (kvs ++ [(k, v)]) k = some v := by
  induction kvs with
  | nil => exact valV_pos rfl
  | cons p kvs ih =>
    rw [List.cons_append]
    by_cases e : p.1 = k
    · rw [valV_pos e] at h; cases h
    · rw [valV_neg e] at h ⊢
      exact ih h
theorem KnOk.put {L : List (Int × Int)} {kvs : List (Key × V)} {m x : Nat} (h : KnOk L kvs) (hm : m < 2 ^ 12) (e : x = 0 ↔ perfB L m = true) : KnOk L (putK kvs (Sum.inl (m : Int)) (V.int (x : Int))) := by
  cases hn : valV kvs (Sum.inl (m : Int) : Key) with
  | none =>
    rw [putK_new _ hn]
    refine ⟨?_, fun p hp => ?_, valV_snoc h.zero⟩
    · rw [List.map_append]
      refine List.nodup_append.mpr ⟨h.nd, by simp, fun a ha b hb z => ?_⟩
      rw [List.mem_singleton.mp hb] at z
      subst z
      exact valV_none_mem hn ha
    · rcases List.mem_append.mp hp with hp | hp
      · exact h.ok p hp
      · rw [List.mem_singleton.mp hp]
        exact ⟨m, x, rfl, hm, e⟩
  | some v =>
    have ea : (kvs.any fun kv => decide (kv.1 = (Sum.inl (m : Int) : Key))) = true := by rw [valV_any, hn]; rfl
    have ez : valV (putK kvs (Sum.inl (m : Int)) (V.int (x : Int))) (Sum.inl 0 : Key) = some (.int 0) := by
      rw [valV_put]
      split
      · rename_i z
        have z' : (0 : Int) = m := by injection z
        have m0 : m = 0 := by omega
        subst m0
        rw [e.mpr (perf_zero L)]
        rfl
      · exact h.zero
    refine ⟨?_, ?_, ez⟩
    · unfold putK
      rw [if_pos ea, List.map_map]
      have : (kvs.map ((fun kv : Key × V => kv.1) ∘ fun kv => if kv.1 = (Sum.inl (m : Int) : Key) then (kv.1, V.int (x : Int)) else kv)) = kvs.map (·.1) := List.map_congr_left fun q _ => by
        show (if q.1 = (Sum.inl (m : Int) : Key) then (q.1, V.int (x : Int)) else q).1 = q.1
        split <;> rfl
      rw [this]
      exact h.nd
    · unfold putK
      rw [if_pos ea]
      intro p hp
      obtain ⟨q, hq, rfl⟩ := List.mem_map.mp hp
      split
      · rename_i z
        rw [z]
        exact ⟨m, x, rfl, hm, e⟩
      · exact h.ok q hq
/-- a matcher stands at p -/
structure Mat (C : Addr) (n : Nat) (L : List (Int × Int)) (p dx nl tl kn : Addr) (ms : List Nat) (tvs : List V) (H : Hp) : Prop where
  obj : H p = some (.ins C dx (mf ((2 ^ n - 1 : Nat) : Int) nl tl kn))
  near : H nl = some (.lst (ms.map natV))
  tab : H tl = some (.lst tvs)
  tri : Tri H L tvs
  known : ∃ kvs, H kn = some (.dK kvs) ∧ KnOk L kvs
structure MatE (n : Nat) (L : List (Int × Int)) (ms : List Nat) : Prop where
  n2 : n ≤ 12
  bel : Bel n L
  few : L.length ≤ 40
  nr : Near L n ms
/-- all but kn is kept -/
def Kk (kn : Addr) (H H' : Hp) : Prop := ∀ b o, b ≠ kn → H b = some o → H' b = some o
theorem Kk.refl {kn : Addr} {H : Hp} : Kk kn H H := fun _ _ _ e => e
theorem Kk.trans {kn : Addr} {H H1 H2 : Hp} (a : Kk kn H H1) (b : Kk kn H1 H2) : Kk kn H H2 := fun d o h e => b d o h (a d o h e)
theorem Kk.same {kn : Addr} {H H1 : Hp} (s : Same H H1) : Kk kn H H1 := fun b o _ e => s b o e
theorem Mat.kk {C : Addr} {n : Nat} {L : List (Int × Int)} {p dx nl tl kn : Addr} {ms : List Nat} {tvs : List V} {H H' : Hp} (h : Mat C n L p dx nl tl kn ms tvs H) (k : Kk kn H H') (kd : ∃ kvs, H' kn = some (.dK kvs) ∧ KnOk L kvs) : Mat C n L p dx nl tl kn ms tvs H' := by
  obtain ⟨kvs, hk, _⟩ := h.known
  refine ⟨k _ _ (ne_of h.obj hk (by intro z; cases z)) h.obj, k _ _ (ne_of h.near hk (by intro z; cases z)) h.near, k _ _ (ne_of h.tab hk (by intro z; cases z)) h.tab, ⟨h.tri.1, fun i v e => ?_⟩, kd⟩
  obtain ⟨b, rfl, hb⟩ := h.tri.2 i v e
  exact ⟨b, rfl, k _ _ (ne_of hb hk (by intro z; cases z)) hb⟩
theorem Mat.same {C : Addr} {n : Nat} {L : List (Int × Int)} {p dx nl tl kn : Addr} {ms : List Nat} {tvs : List V} {H H' : Hp} (h : Mat C n L p dx nl tl kn ms tvs H) (s : Same H H') : Mat C n L p dx nl tl kn ms tvs H' :=
  h.kk (.same s) (let ⟨kvs, a, b⟩ := h.known; ⟨kvs, s _ _ a, b⟩)
/-- the class -/
structure MC (K : PySem.W.Frag) (mg : Str → Option Value) (C : Addr) : Prop where
  cl : L2.Cls K C
  nF : NoAttr K C "full"
  nN : NoAttr K C "near"
  nT : NoAttr K C "ties"
  nK : NoAttr K C "known"
  mgC : mg "Matcher" = some (.ref C)
def spInit (C : Addr) : Sp := fun vs H Q _ => ∃ (p dx w : Addr) (n : Nat) (L : List (Int × Int)), vs = [.ref p, .ref w] ∧ H p = some (.ins C dx []) ∧ GW H w n L ∧
  ∀ (nl tl kn : Addr) (ms : List Nat) (tvs : List V) (H' : Hp), Mat C n L p dx nl tl kn ms tvs H' → Near L n ms → H kn = none → (∀ b o, b ≠ p → H b = some o → H' b = some o) → Q .non H'
section
variable {P : Program} {w0 : World} {K : PySem.W.Frag} {mg : Str → Option Value} {base : Heap}
abbrev nInit : List Str := ["self", "web", "number", "a", "b"]
theorem scInit : FnScope nInit ["self", "web"] (defScope mInit) := ⟨rfl, rfl, rfl, by decide +kernel, rfl, by decide +kernel, by decide +kernel⟩
theorem ok_init {f C fF fN : Addr} {fd fdF fdN : FuncData} (F : Fun K "__init__" "Matcher.__init__" mInit f fd) (T : Bj mg) (MC_ : MC K mg C) (GF : Dn P w0 K mg base "full_mask" 1 ["web"] spFull fF fdF) (GN : Dn P w0 K mg base "near_masks" 1 ["web"] spNear fN fdN) :
    FnOk P w0 K mg base CX0 2 f fd ["self", "web"] (spInit C) := by
  refine F.ok scInit (fun vs H Q E h => ?_) (fun cdv A outer s H vs Q E hr h => ?_)
  · obtain ⟨p, dx, w, n, L, rfl, _⟩ := h
    rfl
  · obtain ⟨p, dx, w, n, L, rfl, hp, G, k⟩ := h
    have hu := hu_of hr
    refine ⟨_, pss_cons (ps_fld (pv 0) (pe_call GF.ok hr rfl GF.g GF.kp GF.b .nil pass0 (pa_cons (pv 1) pa_nil)) rfl)
      <| pss_cons (ps_fld (pv 0) (pe_call GN.ok hr rfl GN.g GN.kp GN.b .nil pass0 (pa_cons (pv 1) pa_nil)) rfl)
      <| pss_cons (ps_fld (pv 0) (pe_lc (own := [("number", 2), ("a", 3), ("b", 4)]) (g := gTup K 2 (gCons (gName 2) (gCons (gTup K 2 (gCons (gName 3) (gCons (gName 4) gNil))) gNil))) (tt := tYes) rfl scInit.nd (KR.pi_enumT (by rfl) T.enu (pa_cons (pe_ix ix_tup (pv 1) pe_int (fun _ _ => rfl)) pa_nil))
          (blkOk_by (N := nInit) (sc := defScope mInit) (by decide +kernel)) (fun _ _ _ _ _ => pg_tup rfl (pgs_cons (pg_name (i := 2) scInit.nd rfl (.inl rfl) (.inr rfl)) (pgs_cons (pg_tup rfl (pgs_cons (pg_name (i := 3) scInit.nd rfl (.inl rfl) (.inr rfl)) (pgs_cons (pg_name (i := 4) scInit.nd rfl (.inl rfl) (.inr rfl)) pgs_nil))) pgs_nil)))
          (fun _ _ _ _ _ => pts_nil) (fun _ _ _ _ _ => pe_tup (pa_cons (pv 2) (pa_cons (pe_op op_oneN pe_int (pv 3)) (pa_cons (pe_op op_oneN pe_int (pv 4)) pa_nil))))) rfl)
      <| pss_one (ps_fld (pv 0) (pe_disp (pps_cons pe_int pe_int pps_nil) rfl rfl (fun z => nomatch z) (by decide)) rfl), ?_⟩
    have n2 := G.n2
    have keepG : ∀ {H1 H2 : Hp} {o o' : HO}, GW H1 w n L → H1 p = some o → (∀ x, o ≠ .tup x) → H2 = upd H1 p o' → GW H2 w n L := fun {H1 H2 o o'} g e no e2 => ⟨g.web.mono fun b x eb => by rw [e2, upd_ne (fun z => by rw [z, e] at eb; cases eb; exact no _ rfl)]; exact eb, g.n1, g.n2, g.bel, g.srt, g.few⟩
    refine ⟨_, rfl, w, n, L, rfl, G, _, rfl, p, C, dx, [], rfl, hp, MC_.cl, MC_.nF, by decide, ?_⟩
    generalize hH1 : upd H p (.ins C dx (putF "full" (.int ((2 ^ n - 1 : Nat) : Int)) [])) = H1
    have G1 : GW H1 w n L := keepG G hp (fun _ z => nomatch z) hH1.symm
    have p1 : H1 p = some (.ins C dx (putF "full" (.int ((2 ^ n - 1 : Nat) : Int)) [])) := by rw [← hH1]; exact upd_same
    have k1 : ∀ b o, b ≠ p → H b = some o → H1 b = some o := fun b o h e => by rw [← hH1, upd_ne h]; exact e
    refine ⟨_, rfl, w, n, L, rfl, G1, fun nl ms H2 s2 hnl e2 nr => ?_⟩
    have p2 := s2 _ _ p1
    refine ⟨_, rfl, p, C, dx, _, rfl, p2, MC_.cl, MC_.nN, by show 1 < 1000; decide, ?_⟩
    generalize hH3 : upd H2 p (.ins C dx (putF "near" (.ref nl) (putF "full" (.int ((2 ^ n - 1 : Nat) : Int)) []))) = H3
    have G3 : GW H3 w n L := keepG (G1.same s2) p2 (fun _ z => nomatch z) hH3.symm
    have p3 : H3 p = some (.ins C dx (putF "near" (.ref nl) (putF "full" (.int ((2 ^ n - 1 : Nat) : Int)) []))) := by rw [← hH3]; exact upd_same
    have k3 : ∀ b o, b ≠ p → H b = some o → H3 b = some o := fun b o h e => by rw [← hH3, upd_ne h]; exact s2 _ _ (k1 b o h e)
    have pnl : nl ≠ p := (ne_of_none p1 hnl).symm
    have nl3 : H3 nl = some (.lst (ms.map natV)) := by rw [← hH3, upd_ne pnl]; exact e2
    clear keepG G1 p1 k1 p2 s2 hnl e2 hH1 hH3
    obtain ⟨ta, vs, e1, e2, e3⟩ := G3.web.ex
    have len := e3.len
    have few := G.few
    refine ⟨_, rfl, w, _, _, _, rfl, rfl, SqT.of e1, atI_nat (j := 1) rfl, ta, _, rfl, SqT.of e2, fun Da hD => ?_⟩
    refine lc_it (KR.walk_enumT (xs := vs)) (fun i N => (∃ us, N Da = some (.lst us) ∧ us.length = i ∧ ∀ (k : Nat) (v : V), us[k]? = some v → TriAt N L k v) ∧ Same H3 N) ⟨⟨[], upd_same, rfl, fun k v z => by simp at z⟩, same_new hD⟩ (fun i N _ g => SqT.of (g.2 _ _ e2)) ?_ ?_
    · rintro i x N N' hi ⟨⟨us, g1, g2, g3⟩, g4⟩ ⟨Tt, u, y, rfl, hT, rfl, e7, e8⟩
      cases e7
      have e8 : vs[i]? = some y := e8
      obtain ⟨b, q, rfl, hq, hb⟩ := e3.get e8
      have sT := same_new (H := N) (o := .tup [.int (i : Nat), .ref b]) hT
      have qt : tie L i = q := by unfold tie; rw [List.getD_eq_getElem?_getD, hq]; rfl
      have bq := G.bel q (List.mem_of_getElem? hq)
      refine ⟨Tt, _, rfl, SqT.of upd_same, rfl, _, _, rfl, _, _, rfl, b, _, rfl, SqT.of (sT _ _ (g4 _ _ hb)), rfl, _, _, rfl, _, _, rfl, rfl, rfl, rfl, yes_al (iteT ?_)⟩
      refine ⟨_, rfl, _, rfl, q.1.toNat, rfl, by rw [show ((q.1.toNat : Nat) : Int) = q.1 by omega], by omega, _, rfl, q.2.toNat, rfl, by rw [show ((q.2.toNat : Nat) : Int) = q.2 by omega], by omega, by show 3 ≤ sizeLine; rw [sizeLine_eq]; decide, fun t ht => ?_⟩
      generalize upd N Tt (.tup [.int (i : Nat), .ref b]) = N1 at sT ht ⊢
      have g1' := sT _ _ g1
      have nt : t ≠ Da := (ne_of_none g1' ht).symm
      have keep : ∀ a x, N1 a = some (.tup x) → (upd (upd N1 t (.tup [.int (i : Nat), .int ((2 ^ q.1.toNat : Nat) : Int), .int ((2 ^ q.2.toNat : Nat) : Int)])) Da (.lst (us ++ [.ref t]))) a = some (.tup x) := fun a x e => by
        rw [upd_ne (fun z => by rw [z, g1'] at e; cases e), upd_ne (ne_of_none e ht)]
        exact e
      refine ⟨us, by rw [upd_ne nt.symm]; exact g1', by rw [g2, sizeLine_eq]; omega, ⟨us ++ [.ref t], upd_same, by rw [List.length_append, g2]; rfl, fun k v z => ?_⟩, fun a o e => ?_⟩
      · rcases Nat.lt_or_ge k us.length with h | h
        · rw [List.getElem?_append_left h] at z
          obtain ⟨c, rfl, hc⟩ := g3 k v z
          exact ⟨c, rfl, keep _ _ (sT _ _ hc)⟩
        · rw [List.getElem?_append_right h] at z
          have : k - us.length = 0 := by
            have := (List.getElem?_eq_some_iff.mp z).1
            simpa using this
          have ek : k = i := by omega
          subst ek
          rw [this] at z
          cases z
          refine ⟨t, rfl, ?_⟩
          rw [upd_ne nt, upd_same, qt]
      · rw [upd_ne (ne_of_none e hD), upd_ne (ne_of_none (sT _ _ (g4 _ _ e)) ht)]
        exact sT _ _ (g4 _ _ e)
    rintro N ⟨⟨us, g1, g2, g3⟩, g4⟩
    have p4 := g4 _ _ p3
    refine ⟨_, rfl, p, C, dx, _, rfl, p4, MC_.cl, MC_.nT, by show 2 < 1000; decide, ?_⟩
    have pDa : Da ≠ p := (ne_of_none p3 hD).symm
    generalize hN1 : upd N p (.ins C dx (putF "ties" (.ref Da) (putF "near" (.ref nl) (putF "full" (.int ((2 ^ n - 1 : Nat) : Int)) [])))) = N1
    have p5 : N1 p = some (.ins C dx (putF "ties" (.ref Da) (putF "near" (.ref nl) (putF "full" (.int ((2 ^ n - 1 : Nat) : Int)) [])))) := by rw [← hN1]; exact upd_same
    have k5 : ∀ b o, b ≠ p → N b = some o → N1 b = some o := fun b o h e => by rw [← hN1, upd_ne h]; exact e
    clear hN1
    intro kn hkn
    refine ⟨upd_same, [(Sum.inl 0, V.int 0)], rfl, by decide, ?_⟩
    rw [upd_upd]
    have nkp : p ≠ kn := ne_of_none p5 hkn
    have s6 := same_new (o := .dK (mergeK [] [((Sum.inl 0 : Key), V.int 0)])) hkn
    refine ⟨_, rfl, p, C, dx, _, rfl, s6 _ _ p5, MC_.cl, MC_.nK, by show 3 < 1000; decide, ?_⟩
    have up : ∀ b o, b ≠ p → N1 b = some o → (upd (upd N1 kn (.dK (mergeK [] [((Sum.inl 0 : Key), V.int 0)]))) p (.ins C dx (mf ((2 ^ n - 1 : Nat) : Int) nl Da kn))) b = some o := fun b o h e => by
      rw [upd_ne h]
      exact s6 _ _ e
    have hknH : H kn = none := by
      cases e : H kn with
      | none => rfl
      | some o =>
        have := k5 kn o nkp.symm (g4 _ _ (k3 kn o nkp.symm e))
        rw [hkn] at this
        cases this
    refine k nl Da kn ms us _ ⟨upd_same, up _ _ pnl (k5 _ _ pnl (g4 _ _ nl3)), up _ _ pDa (k5 _ _ pDa g1), ⟨by rw [g2, len], fun i v e => ?_⟩, [((Sum.inl 0 : Key), V.int 0)], ?_, ?_⟩ nr hknH fun b o h e => up b o h (k5 b o h (g4 _ _ (k3 b o h e)))
    · obtain ⟨c, rfl, hc⟩ := g3 i v e
      have cp : c ≠ p := fun z => by rw [z, p4] at hc; cases hc
      exact ⟨c, rfl, up _ _ cp (k5 _ _ cp hc)⟩
    · rw [upd_ne nkp.symm, upd_same]
      rfl
    · refine ⟨by simp, fun q hq => ?_, valV_pos rfl⟩
      rw [List.mem_singleton.mp hq]
      exact ⟨0, 0, rfl, by decide, by rw [perf_zero]; simp⟩
end
end K0

set_option Elab.async false
set_option linter.all false
set_option maxRecDepth 100000
set_option maxHeartbeats 8000000
/-! How many places a matcher misses. -/
namespace K0
open PySem PySem.Spec L2
open PyProof.Rows hiding St
open KR (TupX tobj)
theorem MatE.belP {n : Nat} {L : List (Int × Int)} {ms : List Nat} (h : MatE n L ms) : BelP L := fun k hk => by
  have := bel_tie h.bel hk
  have := h.n2
  omega
theorem tie_mem {L : List (Int × Int)} {q : Int × Int} : q ∈ L ↔ ∃ k, k < L.length ∧ tie L k = q := by
  constructor
  · intro h
    obtain ⟨k, hk, e⟩ := List.getElem_of_mem h
    exact ⟨k, hk, by unfold tie; rw [List.getD_eq_getElem?_getD, List.getElem?_eq_getElem hk]; exact e⟩
  · rintro ⟨k, hk, rfl⟩
    unfold tie
    rw [List.getD_eq_getElem?_getD, List.getElem?_eq_getElem hk]
    exact List.getElem_mem hk
/-- a place beside the lowest one is above it -/
theorem MatE.adj {n : Nat} {L : List (Int × Int)} {ms : List Nat} {m r o : Nat} (h : MatE n L ms) (hb : m.testBit r = true) (ho : m.testBit o = true) (a : Adj L r o) (e : r = lowN m) (ne : o ≠ r) (lw : ∀ i, m.testBit i = true → r ≤ i) : ∃ k, k < L.length ∧ tie L k = ((lowN m : Int), (o : Int)) := by
  subst e
  rcases a with a | a
  · exact tie_mem.mp a
  · have := h.bel _ a
    have := lw o ho
    dsimp only at *
    omega
theorem MatE.adj' {n : Nat} {L : List (Int × Int)} {ms : List Nat} {r o : Nat} (h : MatE n L ms) (a : ∃ k, k < L.length ∧ tie L k = ((r : Int), (o : Int))) : Adj L r o ∧ o ≠ r := by
  have a := tie_mem.mpr a
  have := h.bel _ a
  dsimp only at this
  exact ⟨.inl a, by omega⟩
theorem iteF' {b : Bool} {p q : Prop} (e : b = false) (h : q) : if b = true then p else q := by
  rw [e]
  exact h
/-- a method of the class -/
structure Mdn (P : Program) (w : World) (K : PySem.W.Frag) (mg : Str → Option Value) (base : Heap) (C : Addr) (name : Str) (k : Nat) (ps : List Str) (sp : Sp) (f : Addr) (fd : FuncData) : Prop where
  mt : Meth K C name f
  b : Binds K fd ps []
  ok : FnOk P w K mg base CX0 k f fd ps sp
theorem low_N {m r : Nat} (hm : m < 2 ^ 12) (h0 : m ≠ 0) (hb : m.testBit r = true) (hl : ∀ i, m.testBit i = true → r ≤ i) : r = lowN m :=
  Low.uniq ⟨hb, fun i hi => by
    cases q : m.testBit i with
    | false => rfl
    | true => have := hl i q; omega⟩ (lowN_low hm h0)
theorem bits_tbl : (List.range 12).all (fun r => Builtin.Int.intBits ((2 ^ r : Nat) : Int) == r + 1) = true := by decide +kernel
theorem bits_pow {r : Nat} (h : r < 12) : ((Builtin.Int.intBits ((2 ^ r : Nat) : Int) : Nat) : Int) - 1 = (r : Int) := by
  have := List.all_eq_true.mp bits_tbl r (List.mem_range.mpr h)
  have e : Builtin.Int.intBits ((2 ^ r : Nat) : Int) = r + 1 := by simpa using this
  rw [e]
  omega
theorem xor_bit {m r i : Nat} (hb : m.testBit r = true) : (m ^^^ 2 ^ r).testBit i = true ↔ m.testBit i = true ∧ i ≠ r := by
  rw [Nat.testBit_xor, Nat.testBit_two_pow]
  by_cases h : r = i
  · subst h
    simp [hb]
  · have : ¬ i = r := fun z => h z.symm
    simp [h, this]
theorem cnt_one {m r : Nat} (hm : m < 2 ^ 12) (hb : m.testBit r = true) : cnt (m ^^^ 2 ^ r) < cnt m := by
  have e : (List.range 12).filter (fun i => (m ^^^ 2 ^ r).testBit i) = ((List.range 12).filter fun i => m.testBit i).filter fun i => decide (i ≠ r) := by
    rw [List.filter_filter]
    refine List.filter_congr fun i _ => ?_
    rw [Bool.eq_iff_iff, xor_bit hb]
    simp [and_comm]
  unfold cnt
  rw [e]
  exact List.length_filter_lt_length_iff_exists.mpr ⟨r, List.mem_filter.mpr ⟨List.mem_range.mpr (bit_12 hm hb), hb⟩, by simp⟩
theorem kk_put {kn ml : Addr} {H M : Hp} {o : HO} (h : H ml = none) (s : Kk kn H M) : Kk kn H (upd M ml o) := fun b u n e => by rw [upd_ne (ne_of_none e h)]; exact s _ _ n e
section
variable {P : Program} {w0 : World} {K : PySem.W.Frag} {mg : Str → Option Value} {base : Heap}
def spAnew (C : Addr) (c : Nat) : Sp := fun vs H Q _ => ∃ (p dx nl tl kn : Addr) (n : Nat) (L : List (Int × Int)) (ms : List Nat) (tvs : List V) (m : Nat), vs = [.ref p, .int (m : Int)] ∧ Mat C n L p dx nl tl kn ms tvs H ∧ MatE n L ms ∧ m < 2 ^ n ∧ m ≠ 0 ∧ cnt m ≤ c ∧
  ∀ (x : Nat) (H' : Hp), Kk kn H H' → Mat C n L p dx nl tl kn ms tvs H' → (x = 0 ↔ perfB L m = true) → Q (.int (x : Int)) H'
def spMissed (C : Addr) (c : Nat) : Sp := fun vs H Q _ => ∃ (p dx nl tl kn : Addr) (n : Nat) (L : List (Int × Int)) (ms : List Nat) (tvs : List V) (m : Nat), vs = [.ref p, .int (m : Int)] ∧ Mat C n L p dx nl tl kn ms tvs H ∧ MatE n L ms ∧ m < 2 ^ n ∧ cnt m ≤ c ∧
  ∀ (x : Nat) (H' : Hp), Kk kn H H' → Mat C n L p dx nl tl kn ms tvs H' → (x = 0 ↔ perfB L m = true) → Q (.int (x : Int)) H'
theorem mo1 : (mf f nl tl kn).lookup ("missed" : Str) = none := mf_no (by decide +kernel) (by decide +kernel) (by decide +kernel) (by decide +kernel)
theorem mo2 : (mf f nl tl kn).lookup ("missed_anew" : Str) = none := mf_no (by decide +kernel) (by decide +kernel) (by decide +kernel) (by decide +kernel)
abbrev nMissed : List Str := ["self", "mask"]
theorem scMissed : FnScope nMissed ["self", "mask"] (defScope mMissed) := ⟨rfl, rfl, rfl, by decide +kernel, rfl, by decide +kernel, by decide +kernel⟩
theorem ok_missed {f fA C : Addr} {fd fdA : FuncData} {c : Nat} (F : Fun K "missed" "Matcher.missed" mMissed f fd) (M_ : MC K mg C) (GA : Mdn P w0 K mg base C "missed_anew" (2 * c + 2) ["self", "mask"] (spAnew C c) fA fdA) :
    FnOk P w0 K mg base CX0 (2 * c + 3) f fd ["self", "mask"] (spMissed C c) := by
  refine F.ok scMissed (fun vs H Q E h => ?_) (fun cdv A outer s H vs Q E hr h => ?_)
  · obtain ⟨p, dx, nl, tl, kn, n, L, ms, tvs, m, rfl, _⟩ := h
    rfl
  · obtain ⟨p, dx, nl, tl, kn, n, L, ms, tvs, m, rfl, h, hE, hm, hc, k⟩ := h
    have hu := hu_of hr
    refine ⟨_, pss_cons (ps_if (pt_cmp (pc_dnotin hu (pv 1) (pe_fld (pv 0) rfl))) (pss_one (ps_dput hu (pe_fld (pv 0) rfl) (pv 1) (pe_meth (pv 0) M_.cl GA.mt GA.ok hr GA.b .nil pass0 (pa_cons (pv 1) pa_nil)) rfl)) pss_nil)
      <| pss_one (ps_ret (pe_dget hu (pe_fld (pv 0) rfl) (pv 1) (fun _ _ => rfl))), ?_⟩
    obtain ⟨kvs, hk, ko⟩ := h.known
    have m12 : m < 2 ^ 12 := Nat.lt_of_lt_of_le hm (Nat.pow_le_pow_right (by decide) hE.n2)
    refine ⟨_, rfl, _, rfl, p, C, dx, _, _, rfl, h.obj, M_.cl, M_.nK, mf_known, kn, valV kvs (Sum.inl (m : Int)), rfl, DGet.k (k := Sum.inl (m : Int)) hk, _, rfl, ?_⟩
    cases hv : valV kvs (Sum.inl (m : Int) : Key) with
    | some v =>
      obtain ⟨m', x, ep, _, ex⟩ := ko.ok _ (valV_some hv)
      cases ep
      refine iteF ⟨_, rfl, p, C, dx, _, _, rfl, h.obj, M_.cl, M_.nK, mf_known, _, rfl, kn, .int (x : Int), rfl, by rw [← hv]; exact DGet.k (k := Sum.inl (m : Int)) hk, k x H Kk.refl h ex⟩
    | none =>
      have m0 : m ≠ 0 := fun z => by
        subst z
        have := ko.zero
        rw [show ((0 : Nat) : Int) = 0 from rfl] at hv
        rw [hv] at this
        cases this
      refine iteT ⟨_, rfl, p, dx, _, rfl, h.obj, mo2, _, rfl, p, dx, nl, tl, kn, n, L, ms, tvs, m, rfl, h, hE, hm, m0, hc, fun x H' kk h' ex => ?_⟩
      obtain ⟨kvs', hk', ko'⟩ := h'.known
      refine ⟨_, rfl, p, C, dx, _, _, rfl, h'.obj, M_.cl, M_.nK, mf_known, _, rfl, kn, _, rfl, DPut.k (k := Sum.inl (m : Int)) hk' (by have := ko'.len; rw [sizeLine_eq]; omega), ?_⟩
      have kk2 : Kk kn H' (upd H' kn (.dK (putK kvs' (Sum.inl (m : Int)) (V.int (x : Int))))) := fun b o hb e => by rw [upd_ne hb]; exact e
      have h2 := h'.kk kk2 ⟨_, upd_same, ko'.put m12 ex⟩
      refine ⟨_, rfl, p, C, dx, _, _, rfl, h2.obj, M_.cl, M_.nK, mf_known, _, rfl, kn, .int (x : Int), rfl, ?_, k x _ (kk.trans kk2) h2 ex⟩
      rw [show some (V.int (x : Int)) = valV (putK kvs' (Sum.inl (m : Int)) (V.int (x : Int))) (Sum.inl (m : Int)) by rw [valV_put, if_pos rfl]]
      exact DGet.k (k := Sum.inl (m : Int)) upd_same
abbrev nAnew : List Str := ["self", "mask", "low", "rest", "found", "other"]
theorem scAnew : FnScope nAnew ["self", "mask"] (defScope mAnew) := ⟨rfl, rfl, rfl, by decide +kernel, rfl, by decide +kernel, by decide +kernel⟩
theorem ok_anew {f fM fL C : Addr} {fd fdM fdL : FuncData} {c : Nat} (F : Fun K "missed_anew" "Matcher.missed_anew" mAnew f fd) (T : Bj mg) (M_ : MC K mg C) (GL : Dn P w0 K mg base "lot_of" 1 ["mask"] spLotOf fL fdL)
    (GM : Mdn P w0 K mg base C "missed" (2 * c + 3) ["self", "mask"] (spMissed C c) fM fdM) : FnOk P w0 K mg base CX0 (2 * c + 4) f fd ["self", "mask"] (spAnew C (c + 1)) := by
  refine F.ok scAnew (fun vs H Q E h => ?_) (fun cdv A outer s H vs Q E hr h => ?_)
  · obtain ⟨p, dx, nl, tl, kn, n, L, ms, tvs, m, rfl, _⟩ := h
    rfl
  · obtain ⟨p, dx, nl, tl, kn, n, L, ms, tvs, m, rfl, h, hE, hm, m0, hc, k⟩ := h
    have hu := hu_of hr
    have hr1 : Room 1 _ := hr.mono (by omega)
    refine ⟨_, pss_cons (ps_set (i := 2) scAnew.nd rfl (.inl rfl) (pe_op op_low (pv 1) (pe_un un_neg (pv 1))))
      <| pss_cons (ps_set (i := 3) scAnew.nd rfl (.inl rfl) (pe_op op_xorN (pv 1) (pv 2)))
      <| pss_cons (ps_set (i := 4) scAnew.nd rfl (.inl rfl) (pe_lst pa_nil))
      <| pss_cons (ps_for PassesOwn.never rfl (pi_tup (pe_call GL.ok hr1 rfl GL.g GL.kp GL.b .nil pass0 (pa_cons (pe_op op_andN (pe_ix ix_list (pe_fld (pv 0) rfl) (pe_op op_sub (pe_bits (pv 2)) pe_int) (fun _ _ => rfl)) (pv 3)) pa_nil))) (pg_name (i := 5) scAnew.nd rfl (.inl rfl))
          (pss_cons (ps_expr (pe_bm PySem.F.plainAttrs_list PySem.F.slot_list_append PySem.F.type_list_append mt_append (pv 4) (pa_cons (pe_meth (pv 0) M_.cl GM.mt GM.ok hr GM.b .nil pass0 (pa_cons (pe_op op_xorN (pv 3) (pe_op op_oneN pe_int (pv 5))) pa_nil)) pa_nil)))
          <| pss_one (ps_if (pt_cmpR op_eq (pe_ix ix_list (pv 4) (pe_un un_neg pe_int) (fun _ _ => rfl)) pe_int (nomark _)) (pss_one (ps_ret pe_int)) pss_nil)))
      <| pss_cons (ps_expr (pe_bm PySem.F.plainAttrs_list PySem.F.slot_list_append PySem.F.type_list_append mt_append (pv 4) (pa_cons (pe_op op_add pe_int (pe_meth (pv 0) M_.cl GM.mt GM.ok hr GM.b .nil pass0 (pa_cons (pv 3) pa_nil))) pa_nil)))
      <| pss_one (ps_ret (pe_callB (cr_min rfl) (by rfl) T.min (by decide +kernel) (pa_cons (pv 4) pa_nil))), ?_⟩
    have m12 : m < 2 ^ 12 := Nat.lt_of_lt_of_le hm (Nat.pow_le_pow_right (by decide) hE.n2)
    refine ⟨_, rfl, _, rfl, _, rfl, m, rfl, rfl, by omega, m0, fun r hb hl hr12 _ => ?_⟩
    have er := low_N m12 m0 hb hl
    have rn : r < n := by
      rcases Nat.lt_or_ge r n with z | z
      · exact z
      · have : m.testBit r = false := Nat.testBit_lt_two_pow (Nat.lt_of_lt_of_le hm (Nat.pow_le_pow_right (by decide) z))
        rw [hb] at this
        cases this
    have restn : m ^^^ 2 ^ r < 2 ^ n := Nat.xor_lt_two_pow hm (Nat.pow_lt_pow_right (by decide) rn)
    have c1 := cnt_one m12 hb
    refine ⟨_, rfl, _, rfl, m, 2 ^ r, rfl, rfl, by show 0 ≤ sizeLine; exact Nat.zero_le _, fun ml hml => ?_⟩
    have s0 : Same H (upd H ml (.lst [])) := same_new hml
    have h0 := h.same s0
    have hml0 : (upd H ml (.lst [])) ml = some (.lst []) := upd_same
    have len := hE.nr.len
    generalize upd H ml (.lst []) = H0 at s0 h0 hml0
    refine ⟨_, rfl, p, C, dx, _, _, rfl, h0.obj, M_.cl, M_.nN, mf_near, _, rfl, _, rfl, _, _, rfl, rfl, nl, ms.map natV, _, natV (ms.getD r 0), rfl, rfl, SqL.of h0.near, (by rw [bits_pow hr12]; exact atI_nat (nat_get (by omega))), ?_⟩
    have q12 : ms.getD r 0 &&& (m ^^^ 2 ^ r) < 4096 := Nat.and_lt_two_pow (n := 12) _ (Nat.lt_of_lt_of_le restn (Nat.pow_le_pow_right (by decide) hE.n2))
    refine ⟨_, rfl, ms.getD r 0, m ^^^ 2 ^ r, rfl, rfl, _, rfl, q12, fun t H1 s1 ht e1 => ⟨t, rfl, ⟨_, SqT.of e1⟩, ?_⟩⟩
    have hq : ∀ o, o ∈ lotN (ms.getD r 0 &&& (m ^^^ 2 ^ r)) ↔ Adj L r o ∧ m.testBit o = true ∧ o ≠ r := fun o => by
      rw [lotN_mem q12, Nat.testBit_and, Bool.and_eq_true, xor_bit hb, hE.nr.bit r o rn, decide_eq_true_eq]
    have h1 := h0.same s1
    obtain ⟨kv0, hk0, _⟩ := h.known
    have nml : ml ≠ kn := (ne_of_none hk0 hml).symm
    have nlen : (lotN (ms.getD r 0 &&& (m ^^^ 2 ^ r))).length ≤ 12 := by
      have := List.length_filter_le (fun i => (ms.getD r 0 &&& (m ^^^ 2 ^ r)).testBit i) (List.range 12)
      rw [List.length_range] at this
      exact this
    generalize lotN (ms.getD r 0 &&& (m ^^^ 2 ^ r)) = os at e1 hq nlen
    have tk : t ≠ kn := by
      obtain ⟨kvs, hk, _⟩ := h1.known
      intro z
      rw [z, hk] at e1
      cases e1
    have tml : t ≠ ml := by
      intro z
      have := s1 _ _ hml0
      rw [← z, e1] at this
      cases this
    have put : ∀ {M : Hp} {o : HO}, Kk kn H M → Mat C n L p dx nl tl kn ms tvs M → Kk kn H (upd M ml o) ∧ Mat C n L p dx nl tl kn ms tvs (upd M ml o) := fun {M o} k2 hM => by
      have k3 := kk_put (o := o) hml k2
      obtain ⟨kvs, hk, ko⟩ := hM.known
      exact ⟨k3, h.kk k3 ⟨kvs, by rw [upd_ne nml.symm]; exact hk, ko⟩⟩
    refine for_tup (K := K) (a := t) (xs := os.map natV) (fun i σ M => ∃ (us : List Nat) (o5 : Option V), σ = [some (.ref p), some (.int (m : Int)), some (.int ((2 ^ r : Nat) : Int)), some (.int ((m ^^^ 2 ^ r : Nat) : Int)), some (.ref ml), o5] ∧ M ml = some (.lst (us.map natV)) ∧ us.length = i ∧ (∀ u ∈ us, u ≠ 0) ∧ (∀ o ∈ os.take i, ¬ perfB L (off m r o) = true) ∧ M t = some (.tup (os.map natV)) ∧ Kk kn H M ∧ Mat C n L p dx nl tl kn ms tvs M)
      ⟨[], none, rfl, s1 _ _ hml0, rfl, by simp, by simp, e1, Kk.same (s0.trans s1), h1⟩ ?_ ?_ ?_
    · rintro i σ M _ ⟨us, o5, _, _, _, _, _, k1, _, _⟩
      exact SqT.of k1
    · rintro i x σ M hx ⟨us, o5, rfl, f1, f2, f3, f4, k1, k2, hM⟩
      rw [List.getElem?_map] at hx
      obtain ⟨o, ho, rfl⟩ := Option.map_eq_some_iff.mp hx
      have il : i < os.length := (List.getElem?_eq_some_iff.mp ho).1
      obtain ⟨a1, a2, a3⟩ := (hq o).mp (List.mem_of_getElem? ho)
      have offn : off m r o < 2 ^ n := Nat.xor_lt_two_pow restn (Nat.pow_lt_pow_right (by decide) (by
        rcases Nat.lt_or_ge o n with z | z
        · exact z
        · have : m.testBit o = false := Nat.testBit_lt_two_pow (Nat.lt_of_lt_of_le hm (Nat.pow_le_pow_right (by decide) z))
          rw [a2] at this
          cases this))
      have c2 := cnt_off m12 hb a2 (fun z => a3 z.symm)
      refine ⟨_, rfl, .inl ⟨rfl, _, SqL.of f1⟩, _, rfl, p, dx, _, rfl, hM.obj, mo1, _, rfl, _, rfl, o, rfl, rfl, by have := bit_12 m12 a2; omega, m ^^^ 2 ^ r, 2 ^ o, rfl, rfl, p, dx, nl, tl, kn, n, L, ms, tvs, off m r o, rfl, hM, hE, offn, by omega, fun x M2 k3 hM2 ex => ?_⟩
      have f1' := k3 _ _ nml f1
      refine ⟨ml, _, _, rfl, rfl, f1', by rw [List.length_map, sizeLine_eq]; omega, ?_⟩
      have g1 : (upd M2 ml (.lst (us.map natV ++ [.int (x : Int)]))) ml = some (.lst (us.map natV ++ [natV x])) := upd_same
      obtain ⟨k5, hM3⟩ := put (o := .lst (us.map natV ++ [.int (x : Int)])) (k2.trans k3) hM2
      have t3 : (upd M2 ml (.lst (us.map natV ++ [.int (x : Int)]))) t = some (.tup (os.map natV)) := by rw [upd_ne tml]; exact k3 _ _ tk k1
      refine ⟨_, rfl, _, rfl, ml, _, -1, natV x, rfl, rfl, SqL.of g1, atI_last _ _, rfl, _, rfl, ?_⟩
      by_cases hx0 : x = 0
      · have pm : perfB L m = true := (perf_place hE.belP m12 m0).mpr ⟨o, a2, hE.adj hb a2 a1 er a3 hl, by rw [← er]; exact ex.mp hx0⟩
        subst hx0
        exact iteT (k 0 _ k5 hM3 ⟨fun _ => pm, fun _ => rfl⟩)
      · refine iteF' (decide_eq_false fun z => hx0 (by injection z; omega)) ⟨us ++ [x], _, rfl, by rw [g1, List.map_append]; rfl, by rw [List.length_append, f2]; rfl, fun u hu' => ?_, fun o' ho' => ?_, t3, k5, hM3⟩
        · rcases List.mem_append.mp hu' with z | z
          · exact f3 u z
          · rw [List.mem_singleton.mp z]; exact hx0
        · rw [List.take_succ, ho] at ho'
          rcases List.mem_append.mp ho' with z | z
          · exact f4 o' z
          · have eo : o' = o := by simpa using z
            rw [eo]
            exact fun z => hx0 (ex.mpr z)
    · rintro σ M ⟨us, o5, rfl, f1, f2, f3, f4, k1, k2, hM⟩
      rw [List.length_map] at f2 f4
      rw [List.take_length] at f4
      refine ⟨_, rfl, .inl ⟨rfl, _, SqL.of f1⟩, _, rfl, p, dx, _, rfl, hM.obj, mo1, _, rfl, p, dx, nl, tl, kn, n, L, ms, tvs, m ^^^ 2 ^ r, rfl, hM, hE, restn, by omega, fun x M2 k3 hM2 _ => ⟨1, (x : Int), rfl, rfl, ?_⟩⟩
      have f1' := k3 _ _ nml f1
      refine ⟨ml, _, _, rfl, rfl, f1', by rw [List.length_map, sizeLine_eq]; omega, ?_⟩
      obtain ⟨k5, hM3⟩ := put (o := .lst (us.map natV ++ [.int (1 + (x : Int))])) (k2.trans k3) hM2
      have g1 : (upd M2 ml (.lst (us.map natV ++ [.int (1 + (x : Int))]))) ml = some (.lst ((us.map (fun (u : Nat) => (u : Int)) ++ [1 + (x : Int)]).map V.int)) := by
        rw [upd_same, List.map_append, List.map_map]
        rfl
      refine ⟨_, rfl, ml, _, rfl, SqL.of g1, by rw [List.length_append]; exact Nat.succ_pos _, fun z hz hle => ?_⟩
      have z1 : 1 ≤ z := by
        rcases List.mem_append.mp hz with q | q
        · obtain ⟨u, hu', rfl⟩ := List.mem_map.mp q
          have := f3 u hu'
          omega
        · rw [List.mem_singleton.mp q]
          omega
      obtain ⟨zn, rfl⟩ : ∃ zn : Nat, z = zn := ⟨z.toNat, by omega⟩
      refine k zn _ k5 hM3 ⟨fun q => by omega, fun q => ?_⟩
      obtain ⟨o, a2, a1, a3⟩ := (perf_place hE.belP m12 m0).mp q
      rw [← er] at a3 a1
      obtain ⟨b1, b2⟩ := hE.adj' a1
      exact absurd a3 (f4 o ((hq o).mpr ⟨b1, a2, b2⟩))
/-- at every level -/
theorem ok_both {f fA fL C : Addr} {fd fdA fdL : FuncData} (F : Fun K "missed" "Matcher.missed" mMissed f fd) (FA : Fun K "missed_anew" "Matcher.missed_anew" mAnew fA fdA) (T : Bj mg) (M_ : MC K mg C) (GL : Dn P w0 K mg base "lot_of" 1 ["mask"] spLotOf fL fdL)
    (mt : Meth K C "missed" f) (b : Binds K fd ["self", "mask"] []) (mtA : Meth K C "missed_anew" fA) (bA : Binds K fdA ["self", "mask"] []) :
    ∀ c, Mdn P w0 K mg base C "missed" (2 * c + 3) ["self", "mask"] (spMissed C c) f fd := fun c => by
  have go : ∀ c, FnOk P w0 K mg base CX0 (2 * c + 2) fA fdA ["self", "mask"] (spAnew C c) := fun c => by
    induction c with
    | zero =>
      have no : ∀ vs H Q E, ¬ spAnew C 0 vs H Q E := fun vs H Q E h => by
        obtain ⟨p, dx, nl, tl, kn, n, L, ms, tvs, m, _, _, hE, hm, m0, hc, _⟩ := h
        have m12 : m < 2 ^ 12 := Nat.lt_of_lt_of_le hm (Nat.pow_le_pow_right (by decide) hE.n2)
        exact m0 ((cnt_zero m12).mp (by omega))
      exact ⟨fun vs H Q E h => absurd h (no _ _ _ _), fun A outer s H args us vs Q E _ _ _ _ h => absurd h (no _ _ _ _)⟩
    | succ c ih => exact ok_anew FA T M_ GL ⟨mt, b, ok_missed F M_ ⟨mtA, bA, ih⟩⟩
  exact ⟨mt, b, ok_missed F M_ ⟨mtA, bA, go c⟩⟩
end
end K0

set_option Elab.async false
set_option linter.all false
set_option maxRecDepth 100000
set_option maxHeartbeats 8000000
/-! The steps of a matcher. -/
namespace K0
open PySem PySem.Spec L2
open PyProof.Rows hiding St
open KR (TupX tobj)
/-- values beside what they stand for -/
inductive AtL {α : Type} (R : V → α → Prop) : List V → List α → Prop
  | nil : AtL R [] []
  | cons {v : V} {x : α} {vs : List V} {xs : List α} (h : R v x) (t : AtL R vs xs) : AtL R (v :: vs) (x :: xs)
namespace AtL
variable {α : Type} {R R' : V → α → Prop} {vs ws : List V} {xs ys : List α}
theorem mono (h : AtL R vs xs) (m : ∀ v x, R v x → R' v x) : AtL R' vs xs := by
  induction h with
  | nil => exact .nil
  | cons h t ih => exact .cons (m _ _ h) ih
theorem app (h : AtL R vs xs) (g : AtL R ws ys) : AtL R (vs ++ ws) (xs ++ ys) := by
  induction h with
  | nil => exact g
  | cons h t ih => exact .cons h ih
theorem snoc (h : AtL R vs xs) {v : V} {x : α} (e : R v x) : AtL R (vs ++ [v]) (xs ++ [x]) := h.app (.cons e .nil)
theorem len (h : AtL R vs xs) : vs.length = xs.length := by
  induction h with
  | nil => rfl
  | cons h t ih => rw [List.length_cons, List.length_cons, ih]
theorem get (h : AtL R vs xs) : ∀ {i : Nat} {v : V}, vs[i]? = some v → ∃ x, xs[i]? = some x ∧ R v x := by
  induction h with
  | nil => intro i v h; simp at h
  | @cons v x vs xs h t ih =>
    intro i u hu
    cases i with
    | zero =>
      simp only [List.getElem?_cons_zero, Option.some.injEq] at hu
      subst hu
      exact ⟨x, rfl, h⟩
    | succ i =>
      simp only [List.getElem?_cons_succ] at hu ⊢
      exact ih hu
end AtL
/-- a number and what is left -/
def PrV (H : Hp) (v : V) (q : Nat × Nat) : Prop := ∃ b, v = .ref b ∧ H b = some (.tup [.int (q.1 : Nat), .int (q.2 : Nat)])
/-- tuples stay -/
def KpT (H H' : Hp) : Prop := ∀ b x, H b = some (.tup x) → H' b = some (.tup x)
theorem KpT.refl (H : Hp) : KpT H H := fun _ _ e => e
theorem KpT.trans {H H1 H2 : Hp} (a : KpT H H1) (b : KpT H1 H2) : KpT H H2 := fun c x e => b c x (a c x e)
theorem KpT.same {H H' : Hp} (s : Same H H') : KpT H H' := fun b x e => s _ _ e
theorem KpT.upd {H : Hp} {a : Addr} {o o' : HO} (e : H a = some o) (h : ∀ x, o ≠ .tup x) : KpT H (upd H a o') := fun b x eb => by
  rw [upd_ne (fun z => by rw [z, e] at eb; cases eb; exact h x rfl)]
  exact eb
theorem KpT.kk {H H' : Hp} {kn : Addr} {kvs : List (Key × V)} (k : Kk kn H H') (e : H kn = some (.dK kvs)) : KpT H H' := fun b x eb => k _ _ (fun z => by rw [z, e] at eb; cases eb) eb
theorem PrV.kp {H H' : Hp} {v : V} {q : Nat × Nat} (h : PrV H v q) (k : KpT H H') : PrV H' v q := let ⟨b, e, eb⟩ := h; ⟨b, e, k _ _ eb⟩
theorem pow_inj {a b : Nat} (h : 2 ^ a = 2 ^ b) : a = b := Nat.pow_right_inj (by decide) |>.mp h
theorem and_pow {m x : Nat} : (((m &&& 2 ^ x : Nat) : Int) != 0) = m.testBit x := by
  have : (m &&& 2 ^ x) = if m.testBit x = true then 2 ^ x else 0 := by
    apply Nat.eq_of_testBit_eq
    intro i
    rw [Nat.testBit_and, Nat.testBit_two_pow]
    by_cases h : x = i
    · subst h
      cases e : m.testBit x <;> simp [Nat.testBit_two_pow_self]
    · cases e : m.testBit x <;> simp [h, Nat.testBit_two_pow_of_ne]
  rw [this]
  cases e : m.testBit x with
  | true =>
    rw [if_pos rfl]
    have := Nat.one_le_two_pow (n := x)
    have : ((2 ^ x : Nat) : Int) ≠ 0 := by omega
    simpa using this
  | false => rfl
theorem cnt_le (m : Nat) : cnt m ≤ 12 := by
  unfold cnt
  have := List.length_filter_le (fun i => m.testBit i) (List.range 12)
  rwa [List.length_range] at this
theorem step_lt {n : Nat} {L : List (Int × Int)} {ms : List Nat} (hE : MatE n L ms) {m : Nat} (hm : m < 2 ^ n) (h0 : m ≠ 0) {s : Nat × Nat} (h : s ∈ stepsN L m) : s.2 < 2 ^ n := by
  have m12 : m < 2 ^ 12 := Nat.lt_of_lt_of_le hm (Nat.pow_le_pow_right (by decide) hE.n2)
  obtain ⟨k, q⟩ := s
  obtain ⟨_, o, rfl, ho, hl, _⟩ := step_ok hE.belP m12 h0 h
  have lo := lowN_low m12 h0
  have pn : ∀ {i : Nat}, m.testBit i = true → i < n := fun {i} hi => by
    rcases Nat.lt_or_ge i n with z | z
    · exact z
    · have : m.testBit i = false := Nat.testBit_lt_two_pow (Nat.lt_of_lt_of_le hm (Nat.pow_le_pow_right (by decide) z))
      rw [hi] at this
      cases this
  exact Nat.xor_lt_two_pow (Nat.xor_lt_two_pow hm (Nat.pow_lt_pow_right (by decide) (pn lo.bit))) (Nat.pow_lt_pow_right (by decide) (pn ho))
/-- the steps over the first ties -/
def stepsI (L : List (Int × Int)) (m i : Nat) : List (Nat × Nat) := ((List.range i).filter (good L m)).map fun k => (k, off m (lowN m) (tie L k).2.toNat)
theorem stepsI_len (L : List (Int × Int)) (m i : Nat) : (stepsI L m i).length ≤ i := by
  unfold stepsI
  rw [List.length_map]
  have := List.length_filter_le (good L m) (List.range i)
  rwa [List.length_range] at this
theorem stepsI_succ (L : List (Int × Int)) (m i : Nat) : stepsI L m (i + 1) = if good L m i = true then stepsI L m i ++ [(i, off m (lowN m) (tie L i).2.toNat)] else stepsI L m i := by
  unfold stepsI
  rw [List.range_succ, List.filter_append]
  cases h : good L m i with
  | true => rw [if_pos rfl, List.filter_cons_of_pos h, List.filter_nil, List.map_append] <;> rfl
  | false => rw [if_neg Bool.false_ne_true, List.filter_cons_of_neg (by rw [h]; decide), List.filter_nil, List.append_nil]
section
variable {P : Program} {w0 : World} {K : PySem.W.Frag} {mg : Str → Option Value} {base : Heap}
def spSteps (C : Addr) : Sp := fun vs H Q _ => ∃ (p dx nl tl kn : Addr) (n : Nat) (L : List (Int × Int)) (ms : List Nat) (tvs : List V) (m : Nat), vs = [.ref p, .int (m : Int)] ∧ Mat C n L p dx nl tl kn ms tvs H ∧ MatE n L ms ∧ m < 2 ^ n ∧ m ≠ 0 ∧
  ∀ (t : Addr) (us : List V) (H' : Hp), Kk kn H H' → Mat C n L p dx nl tl kn ms tvs H' → H t = none → H' t = some (.lst us) → AtL (PrV H') us ((stepsN L m).filter fun s => perfB L s.2) → Q (.ref t) H'
abbrev nSteps : List Str := ["self", "mask", "low", "found", "number", "a", "b", "rest"]
theorem scSteps : FnScope nSteps ["self", "mask"] (defScope mSteps) := ⟨rfl, rfl, rfl, by decide +kernel, rfl, by decide +kernel, by decide +kernel⟩
theorem ok_steps {f fM C : Addr} {fd fdM : FuncData} (F : Fun K "steps" "Matcher.steps" mSteps f fd) (M_ : MC K mg C) (GM : Mdn P w0 K mg base C "missed" 27 ["self", "mask"] (spMissed C 12) fM fdM) :
    FnOk P w0 K mg base CX0 28 f fd ["self", "mask"] (spSteps C) := by
  refine F.ok scSteps (fun vs H Q E h => ?_) (fun cdv A outer s H vs Q E hr h => ?_)
  · obtain ⟨p, dx, nl, tl, kn, n, L, ms, tvs, m, rfl, _⟩ := h
    rfl
  · obtain ⟨p, dx, nl, tl, kn, n, L, ms, tvs, m, rfl, h, hE, hm, m0, k⟩ := h
    refine ⟨_, pss_cons (ps_set (i := 2) scSteps.nd rfl (.inr rfl) (pe_op op_low (pv 1) (pe_un un_neg (pv 1))))
      <| pss_cons (ps_setLc (i := 3) (own := [("number", 4), ("a", 5), ("b", 6)]) (g := gTup K 3 (gCons (gName 4) (gCons (gName 5) (gCons (gName 6) gNil)))) rfl scSteps.nd rfl rfl (by rfl) (pi_list (pe_fld (pv 0) rfl))
          (blkOk_by (N := nSteps) (sc := defScope mSteps) (by decide +kernel)) (fun _ _ _ _ _ => pg_tup rfl (pgs_cons (pg_name (i := 4) scSteps.nd rfl (.inl rfl) (.inr rfl)) (pgs_cons (pg_name (i := 5) scSteps.nd rfl (.inl rfl) (.inr rfl)) (pgs_cons (pg_name (i := 6) scSteps.nd rfl (.inl rfl) (.inr rfl)) pgs_nil))))
          (fun _ _ _ _ _ => pts_one (PW.pt (pw_and (pt_cmpR op_eq (pv 5) (pv 2) (nomark _)) (pw_and1 (pt_truthK (K0 := K) rfl (pe_op op_andN (pv 1) (pv 6)) (by intro _; rfl))))))
          (fun _ _ _ _ _ => pe_tup (pa_cons (pv 4) (pa_cons (pe_op op_xorN (pe_op op_xorN (pv 1) (pv 5)) (pv 6)) pa_nil))))
      <| pss_one (ps_ret (pe_lc (own := [("number", 4), ("rest", 7)]) (g := gTup K 2 (gCons (gName 4) (gCons (gName 7) gNil))) rfl scSteps.nd (pi_list (pv 3))
          (blkOk_by (N := nSteps) (sc := defScope mSteps) (by decide +kernel)) (fun _ _ _ _ _ => pg_tup rfl (pgs_cons (pg_name (i := 4) scSteps.nd rfl (.inl rfl) (.inr rfl)) (pgs_cons (pg_name (i := 7) scSteps.nd rfl (.inl rfl) (.inr rfl)) pgs_nil)))
          (fun _ _ _ _ _ => pts_one (pt_cmpR op_eq (pe_meth (pv 0) M_.cl GM.mt GM.ok hr GM.b .nil pass0 (pa_cons (pv 7) pa_nil)) pe_int (nomark _)))
          (fun _ _ _ _ _ => pe_tup (pa_cons (pv 4) (pa_cons (pv 7) pa_nil))))), ?_⟩
    have m12 : m < 2 ^ 12 := Nat.lt_of_lt_of_le hm (Nat.pow_le_pow_right (by decide) hE.n2)
    refine ⟨_, rfl, _, rfl, _, rfl, m, rfl, rfl, by omega, m0, fun r hb hl hr12 _ => ?_⟩
    have er := low_N m12 m0 hb hl
    refine ⟨_, rfl, p, C, dx, _, _, rfl, h.obj, M_.cl, M_.nT, mf_ties, tl, rfl, ⟨_, SqL.of h.tab⟩, fun Da hD => ?_⟩
    have few := hE.few
    have tlen := h.tri.1
    refine lc_list (K := K) (a := tl) (xs := tvs) (fun i N => ∃ us, N Da = some (.lst us) ∧ Same H N ∧ AtL (PrV N) us (stepsI L m i)) ⟨[], upd_same, same_new hD, .nil⟩ (fun i N _ ⟨_, _, s, _⟩ => SqL.of (s _ _ h.tab)) ?_ ?_
    · rintro i x N hx ⟨us, g1, g2, g3⟩
      obtain ⟨b, rfl, hb'⟩ := h.tri.2 i x hx
      have il : i < L.length := by rw [← tlen]; exact (List.getElem?_eq_some_iff.mp hx).1
      have bt := bel_tie hE.bel il
      have ss := stepsI_succ L m i
      have sl := stepsI_len L m i
      refine ⟨b, _, rfl, SqT.of (g2 _ _ hb'), rfl, _, _, rfl, _, _, rfl, _, _, rfl, rfl, rfl, _, rfl, _, rfl, rfl, _, rfl, ?_⟩
      have eg : good L m i = (decide ((tie L i).1.toNat = r) && m.testBit (tie L i).2.toNat) := by
        unfold good
        rw [← er]
        congr 1
        exact decide_eq_decide.mpr (by omega)
      have lst : ∀ {Z : Hp}, (∃ us, Z Da = some (.lst us) ∧ Same H Z ∧ AtL (PrV Z) us (stepsI L m i)) → good L m i = false → ∃ us, Z Da = some (.lst us) ∧ Same H Z ∧ AtL (PrV Z) us (stepsI L m (i + 1)) := fun {Z} z e => by
        rw [ss, e, if_neg Bool.false_ne_true]
        exact z
      by_cases ha : (tie L i).1.toNat = r
      · rw [show decide (V.int ((2 ^ (tie L i).1.toNat : Nat) : Int) = V.int ((2 ^ r : Nat) : Int)) = true from decide_eq_true (by rw [ha])]
        refine iteT ⟨_, rfl, _, rfl, m, 2 ^ (tie L i).2.toNat, rfl, rfl, _, rfl, ?_⟩
        rw [and_pow]
        rw [decide_eq_true ha, Bool.true_and] at eg
        cases e2 : m.testBit (tie L i).2.toNat with
        | false =>
          rw [e2] at eg
          exact iteF (lst ⟨us, g1, g2, g3⟩ eg)
        | true =>
          rw [e2] at eg
          refine iteT ⟨_, rfl, _, rfl, _, rfl, m, _, rfl, rfl, _, rfl, _, _, rfl, rfl, by show 2 ≤ sizeLine; rw [sizeLine_eq]; decide, fun t ht => ?_⟩
          have sT := same_new (H := N) (o := .tup [.int (i : Nat), .int ((m ^^^ 2 ^ (tie L i).1.toNat ^^^ 2 ^ (tie L i).2.toNat : Nat) : Int)]) ht
          refine ⟨us, sT _ _ g1, by rw [g3.len, sizeLine_eq]; omega, us ++ [.ref t], upd_same, set_same hD (g2.trans sT), ?_⟩
          rw [ss, if_pos eg]
          have eo : off m (lowN m) (tie L i).2.toNat = m ^^^ 2 ^ (tie L i).1.toNat ^^^ 2 ^ (tie L i).2.toNat := by rw [← er, ha]; rfl
          have kp := (KpT.same sT).trans (KpT.upd (o' := .lst (us ++ [.ref t])) (sT _ _ g1) (fun _ z => nomatch z))
          refine (g3.mono fun v q h => h.kp kp).snoc ⟨t, rfl, ?_⟩
          rw [eo, upd_ne (ne_of_none (sT _ _ g1 |> fun _ => g1) ht).symm, upd_same]
      · rw [show decide (V.int ((2 ^ (tie L i).1.toNat : Nat) : Int) = V.int ((2 ^ r : Nat) : Int)) = false from decide_eq_false (fun z => ha (pow_inj (by injection z; omega)))]
        rw [decide_eq_false ha, Bool.false_and] at eg
        exact iteF (iteF (lst ⟨us, g1, g2, g3⟩ eg))
    · rintro N ⟨us, g1, g2, g3⟩
      rw [tlen] at g3
      have g3 : AtL (PrV N) us (stepsN L m) := g3
      have hN := h.same g2
      have slen : (stepsN L m).length ≤ 40 := Nat.le_trans (stepsI_len L m L.length) few
      have in12 : ∀ s ∈ stepsN L m, s.2 < 2 ^ n ∧ cnt s.2 ≤ 12 := fun s hs => by
        obtain ⟨k', q⟩ := s
        have := step_cnt hE.belP m12 m0 hs
        have := step_lt hE hm m0 hs
        have := cnt_le m
        exact ⟨by assumption, by dsimp only at *; omega⟩
      generalize stepsN L m = ss at g3 slen in12 k
      refine ⟨_, rfl, Da, rfl, ⟨_, SqL.of g1⟩, fun Db hb2 => ?_⟩
      obtain ⟨kvs, hkN, _⟩ := hN.known
      have nDb : Db ≠ kn := (ne_of_none hkN hb2).symm
      have nDa : Da ≠ kn := by
        intro z
        rw [z, hkN] at g1
        cases g1
      have nab : Da ≠ Db := ne_of_none g1 hb2
      have sb := same_new (o := .lst []) hb2
      refine lc_list (K := K) (a := Da) (xs := us) (fun i M => ∃ ws, M Db = some (.lst ws) ∧ M Da = some (.lst us) ∧ Kk kn H M ∧ KpT N M ∧ Mat C n L p dx nl tl kn ms tvs M ∧ AtL (PrV M) ws ((ss.take i).filter fun s => perfB L s.2))
        ⟨[], upd_same, sb _ _ g1, (Kk.same g2).trans (.same sb), .same sb, hN.same sb, .nil⟩ (fun i M _ ⟨_, _, e, _⟩ => SqL.of e) ?_ ?_
      · rintro i x M hx ⟨ws, w1, w2, w3, w4, w5, w6⟩
        obtain ⟨⟨sk, sq⟩, hs, b, rfl, eb⟩ := g3.get hx
        obtain ⟨qn, qc⟩ := in12 _ (List.mem_of_getElem? hs)
        dsimp only at qn qc eb
        have il : i < ss.length := (List.getElem?_eq_some_iff.mp hs).1
        have ts : ss.take (i + 1) = ss.take i ++ [(sk, sq)] := by rw [List.take_succ, hs]; rfl
        have wl : ws.length ≤ 40 := by
          rw [w6.len]
          have := List.length_filter_le (fun s : Nat × Nat => perfB L s.2) (ss.take i)
          rw [List.length_take] at this
          omega
        refine ⟨b, _, rfl, SqT.of (w4 _ _ eb), rfl, _, _, rfl, _, _, rfl, rfl, rfl, _, rfl, p, dx, _, rfl, w5.obj, mo1, _, rfl, p, dx, nl, tl, kn, n, L, ms, tvs, sq, rfl, w5, hE, qn, qc, fun y M2 k2 m2 ey => ⟨rfl, _, rfl, ?_⟩⟩
        obtain ⟨kv2, hk2, _⟩ := w5.known
        have kp2 := KpT.kk k2 hk2
        have w1' := k2 _ _ nDb w1
        have w2' := k2 _ _ nDa w2
        by_cases hy : y = 0
        · have pf := ey.mp hy
          subst hy
          refine iteT ⟨_, rfl, _, rfl, by show 2 ≤ sizeLine; rw [sizeLine_eq]; decide, fun t ht => ?_⟩
          have sT := same_new (H := M2) (o := .tup [.int (sk : Nat), .int (sq : Nat)]) ht
          have nt : Db ≠ t := ne_of_none w1' ht
          have mT := m2.same sT
          obtain ⟨kv3, hk3, ko3⟩ := mT.known
          have kk3 : Kk kn H (upd (upd M2 t (.tup [.int (sk : Nat), .int (sq : Nat)])) Db (.lst (ws ++ [.ref t]))) := kk_put (g2.free hb2) ((w3.trans k2).trans (.same sT))
          have kp3 := (kp2.trans (KpT.same sT)).trans (KpT.upd (o' := .lst (ws ++ [.ref t])) (sT _ _ w1') (fun _ z => nomatch z))
          refine ⟨ws, sT _ _ w1', by rw [sizeLine_eq]; omega, ws ++ [.ref t], upd_same, by rw [upd_ne nab]; exact sT _ _ w2', kk3, w4.trans kp3, h.kk kk3 ⟨kv3, by rw [upd_ne nDb.symm]; exact hk3, ko3⟩, ?_⟩
          rw [ts, List.filter_append, List.filter_cons_of_pos (p := fun s : Nat × Nat => perfB L s.2) pf, List.filter_nil]
          refine (w6.mono fun v q z => z.kp kp3).snoc ⟨t, rfl, ?_⟩
          rw [upd_ne nt.symm, upd_same]
        · refine iteF' (decide_eq_false fun z => hy (by injection z; omega)) ⟨ws, w1', w2', w3.trans k2, w4.trans kp2, m2, ?_⟩
          rw [ts, List.filter_append, List.filter_cons_of_neg (p := fun s : Nat × Nat => perfB L s.2) (fun z => hy (ey.mpr z)), List.filter_nil, List.append_nil]
          exact w6.mono fun v q z => z.kp kp2
      · rintro M ⟨ws, w1, w2, w3, w4, w5, w6⟩
        rw [g3.len, List.take_length] at w6
        exact k Db ws M w3 w5 (g2.free hb2) w1 w6
end
end K0

set_option Elab.async false
set_option linter.all false
set_option maxRecDepth 100000
set_option maxHeartbeats 8000000
/-! All pairings, by a matcher. -/
namespace K0
open PySem PySem.Spec L2
open PyProof.Rows hiding St
open KR (TupX tobj)
theorem walk_v {J : It} {n : Nat} {G : Hp → Prop} {Y : Nat → Hp → V → Hp → Prop} (w : Walk J n G Y) {body : V → Hp → (Hp → Prop) → Prop} {H0 : Hp} {Qd : Hp → Prop} (Pv : Nat → Hp → Prop) (h0 : Pv 0 H0) (hG : ∀ i H, i ≤ n → Pv i H → G H)
    (hs : ∀ i x H H', i < n → Pv i H → Y i H x H' → body x H' (Pv (i + 1))) (hd : ∀ H, Pv n H → Qd H) :
    ∃ W : Nat → Nat → Hp → Prop, (∃ m, W 0 m H0) ∧ ∀ i m H, W i m H →
      (J.stop i H ∧ Qd H) ∨ (J.go i H ∧ ∃ Nx : Hp → Prop, (∀ H', Nx H' → ∃ m', m' < m ∧ W (i + 1) m' H') ∧ ∀ x H', J.yld i H x H' → body x H' Nx) := by
  refine ⟨fun i m H => m = n - i ∧ i ≤ n ∧ Pv i H, ⟨n, by simp, Nat.zero_le _, h0⟩, ?_⟩
  rintro i m H ⟨rfl, hi, p⟩
  have q := hG i H hi p
  by_cases hlt : i < n
  · exact .inr ⟨w.goes i H hlt q, Pv (i + 1), fun H' p' => ⟨n - (i + 1), by omega, rfl, hlt, p'⟩, fun x H' y => hs i x H H' hlt p (w.yields i H x H' hlt q y)⟩
  · have e : i = n := by omega
    subst e
    exact .inl ⟨w.stops H q, hd H p⟩
/-- a tuple of numbers -/
def NsV (H : Hp) (v : V) (ns : List Nat) : Prop := ∃ b, v = .ref b ∧ H b = some (.tup (ns.map natV))
theorem NsV.kp {H H' : Hp} {v : V} {q : List Nat} (h : NsV H v q) (k : KpT H H') : NsV H' v q := let ⟨b, e, eb⟩ := h; ⟨b, e, k _ _ eb⟩
/-- a row: numbers, and what is left -/
def RwV (H : Hp) (v : V) (r : Row) : Prop := ∃ b c, v = .ref b ∧ H b = some (.tup [.ref c, .int (r.2 : Nat)]) ∧ H c = some (.tup (r.1.map natV))
theorem RwV.kp {H H' : Hp} {v : V} {r : Row} (h : RwV H v r) (k : KpT H H') : RwV H' v r := let ⟨b, c, e, eb, ec⟩ := h; ⟨b, c, e, k _ _ eb, k _ _ ec⟩
theorem stepL_snoc (L : List (Int × Int)) (keep : Nat → Bool) (ly : List Row) (r : Row) : stepL L keep (ly ++ [r]) = stepL L keep ly ++ ((stepsN L r.2).filter fun s => keep s.2).map fun s => (r.1 ++ [s.1], s.2) := by
  unfold stepL
  rw [List.flatMap_append]
  simp
theorem stepL_take_len {L : List (Int × Int)} {keep : Nat → Bool} {ly : List Row} (i : Nat) : (stepL L keep (ly.take i)).length ≤ (stepL L keep ly).length := by
  have e : stepL L keep ly = stepL L keep (ly.take i) ++ stepL L keep (ly.drop i) := by
    unfold stepL
    rw [← List.flatMap_append, List.take_append_drop]
  rw [e, List.length_append]
  exact Nat.le_add_right _ _
theorem kk_free {kn t : Addr} {H H1 : Hp} {o : HO} (k : Kk kn H H1) (e : H1 kn = some o) (h : H1 t = none) : H t = none := by
  cases z : H t with
  | none => rfl
  | some u =>
    by_cases ek : t = kn
    · rw [ek, e] at h
      cases h
    · rw [k _ _ ek z] at h
      cases h
/-- the rows between two turns -/
structure PmS (C : Addr) (n : Nat) (L : List (Int × Int)) (p dx nl tl kn : Addr) (ms : List Nat) (tvs : List V) (m : Nat) (H : Hp) (t : Nat) (M : Hp) (r : Addr) (us : List V) (ly : List Row) : Prop where
  el : M r = some (.lst us)
  al : AtL (RwV M) us ly
  ne : ly ≠ []
  lc : LyC ly (2 * t)
  pf : ∀ q ∈ ly, perfB L q.2 = true ∧ q.2 < 2 ^ n ∧ q.1.length + t ≤ 6
  cm : comp L t ly = pmN L (cnt m / 2) m
  pt : pot L ly ≤ 2 ^ 20
  kk : Kk kn H M
  mt : Mat C n L p dx nl tl kn ms tvs M
  nr : H r = none
theorem yes_tt {σ : L2.St} {H : Hp} {Q : Bool → Hp → Prop} (h : Q true H) : tYes σ H Q := h
section
variable {P : Program} {w0 : World} {K : PySem.W.Frag} {mg : Str → Option Value} {base : Heap}
def spPmOf (C : Addr) : Sp := fun vs H Q _ => ∃ (p dx nl tl kn : Addr) (n : Nat) (L : List (Int × Int)) (ms : List Nat) (tvs : List V) (m : Nat), vs = [.ref p, .int (m : Int)] ∧ Mat C n L p dx nl tl kn ms tvs H ∧ MatE n L ms ∧ L.length ≤ 20 ∧ m < 2 ^ n ∧
  ∀ (t : Addr) (us : List V) (H' : Hp), Kk kn H H' → Mat C n L p dx nl tl kn ms tvs H' → H t = none → H' t = some (.lst us) → AtL (NsV H') us (if perfB L m = true then pmN L (cnt m / 2) m else []) → Q (.ref t) H'
theorem mo3 : (mf f nl tl kn).lookup ("steps" : Str) = none := mf_no (by decide +kernel) (by decide +kernel) (by decide +kernel) (by decide +kernel)
abbrev nPms : List Str := ["self", "mask", "rows", "numbers", "left", "number", "rest", "_"]
theorem scPms : FnScope nPms ["self", "mask"] (defScope mPairings) := ⟨rfl, rfl, rfl, by decide +kernel, rfl, by decide +kernel, by decide +kernel⟩
theorem ok_pms {f fM fS C : Addr} {fd fdM fdS : FuncData} (F : Fun K "pairings_of" "Matcher.pairings_of" mPairings f fd) (M_ : MC K mg C) (GM : Mdn P w0 K mg base C "missed" 27 ["self", "mask"] (spMissed C 12) fM fdM)
    (GS : Mdn P w0 K mg base C "steps" 28 ["self", "mask"] (spSteps C) fS fdS) : FnOk P w0 K mg base CX0 29 f fd ["self", "mask"] (spPmOf C) := by
  refine F.ok scPms (fun vs H Q E h => ?_) (fun cdv A outer s H vs Q E hr h => ?_)
  · obtain ⟨p, dx, nl, tl, kn, n, L, ms, tvs, m, rfl, _⟩ := h
    rfl
  · obtain ⟨p, dx, nl, tl, kn, n, L, ms, tvs, m, rfl, h, hE, l20, hm, k⟩ := h
    have hr1 : Room 27 _ := hr.mono (by decide)
    refine ⟨_, pss_cons (ps_if (pt_truthK (K0 := K) rfl (pe_meth (pv 0) M_.cl GM.mt GM.ok hr1 GM.b .nil pass0 (pa_cons (pv 1) pa_nil)) (by intro _; rfl)) (pss_one (ps_ret (pe_lst pa_nil))) pss_nil)
      <| pss_cons (ps_set (i := 2) scPms.nd rfl (.inl rfl) (pe_lst (pa_cons (pe_tup (pa_cons (pe_tup pa_nil) (pa_cons (pv 1) pa_nil))) pa_nil)))
      <| pss_cons (ps_while PassesOwn.never (pt_truthK (K0 := K) rfl (pe_ix ix_tup (pe_ix ix_list (pv 2) pe_int (fun _ _ => rfl)) pe_int (fun _ _ => rfl)) (by intro _; rfl))
          (pss_one (ps_setLc2 (i := 2) (own := [("numbers", 3), ("left", 4), ("number", 5), ("rest", 6)]) (vs1 := [5, 6]) (g := gTup K 2 (gCons (gName 3) (gCons (gName 4) gNil))) (g1 := gTup K 2 (gCons (gName 5) (gCons (gName 6) gNil))) (tt := tYes) (tt1 := tYes) (wi1 := iList K (tMeth C "steps" (spSteps C) [] E0 (tVar 0) (tCons (tVar 4) tNil)))
              rfl scPms.nd rfl rfl (by rfl) (pi_list (pv 2)) (blkOk_by (N := nPms) (sc := defScope mPairings) (by decide +kernel)) (by decide)
              (fun _ _ _ _ _ => pg_tup rfl (pgs_cons (pg_name (i := 3) scPms.nd rfl (.inl rfl) (.inr rfl)) (pgs_cons (pg_name (i := 4) scPms.nd rfl (.inl rfl) (.inr rfl)) pgs_nil))) (fun _ _ _ _ _ => pts_nil)
              (fun _ _ _ _ _ => show PI _ _ _ (iList K _) from pi_list (pe_meth (pv 0) M_.cl GS.mt GS.ok hr GS.b .nil pass0 (pa_cons (pv 4) pa_nil)))
              (fun _ _ _ _ _ => pg_tup rfl (pgs_cons (pg_name (i := 5) scPms.nd rfl (.inl rfl) (.inr rfl)) (pgs_cons (pg_name (i := 6) scPms.nd rfl (.inl rfl) (.inr rfl)) pgs_nil))) (fun _ _ _ _ _ => pts_nil)
              (fun _ _ _ _ _ => pe_tup (pa_cons (pe_op op_catX (pv 3) (pe_tup (pa_cons (pv 5) pa_nil))) (pa_cons (pv 6) pa_nil))))))
      <| pss_one (ps_ret (pe_lc (own := [("numbers", 3), ("_", 7)]) (g := gTup K 2 (gCons (gName 3) (gCons (gName 7) gNil))) (tt := tYes) rfl scPms.nd (pi_list (pv 2))
          (blkOk_by (N := nPms) (sc := defScope mPairings) (by decide +kernel)) (fun _ _ _ _ _ => pg_tup rfl (pgs_cons (pg_name (i := 3) scPms.nd rfl (.inl rfl) (.inr rfl)) (pgs_cons (pg_name (i := 7) scPms.nd rfl (.inl rfl) (.inr rfl)) pgs_nil)))
          (fun _ _ _ _ _ => pts_nil) (fun _ _ _ _ _ => pv 3))), ?_⟩
    have m12 : m < 2 ^ 12 := Nat.lt_of_lt_of_le hm (Nat.pow_le_pow_right (by decide) hE.n2)
    refine ⟨_, rfl, p, dx, _, rfl, h.obj, mo1, _, rfl, p, dx, nl, tl, kn, n, L, ms, tvs, m, rfl, h, hE, hm, cnt_le m, fun x H1 k1 m1 ex => ⟨_, rfl, ?_⟩⟩
    obtain ⟨kv1, hk1, _⟩ := m1.known
    by_cases hx : x = 0
    case neg =>
      rw [show ((x : Int) != 0) = true by simpa using hx]
      refine iteT ⟨by show 0 ≤ sizeLine; exact Nat.zero_le _, fun t ht => k t [] _ (k1.trans (.same (same_new ht))) (m1.same (same_new ht)) (kk_free k1 hk1 ht) upd_same ?_⟩
      rw [if_neg (fun z => hx (ex.mpr z))]
      exact .nil
    have pm : perfB L m = true := ex.mp hx
    rw [if_pos pm] at k
    subst hx
    have pe := perf_iff.mp pm
    have c12 := cnt_le m
    refine iteF ⟨by show 0 ≤ sizeLine; exact Nat.zero_le _, fun e0 he0 => ⟨_, rfl, by show 2 ≤ sizeLine; rw [sizeLine_eq]; decide, fun e1 he1 => ⟨by show 1 ≤ sizeLine; rw [sizeLine_eq]; decide, fun r0 hr0 => ?_⟩⟩⟩
    have s0 := same_new (o := .tup []) he0
    have s1 := same_new (o := .tup [.ref e0, .int (m : Nat)]) he1
    have s2 := same_new (o := .lst [.ref e1]) hr0
    have s012 := (s0.trans s1).trans s2
    refine ⟨fun t σ M => ∃ r us ly, σ = [some (.ref p), some (.int (m : Int)), some (.ref r), none, none, none, none, none] ∧ PmS C n L p dx nl tl kn ms tvs m H t M r us ly, ⟨cnt m / 2, r0, [.ref e1], [([], m)], rfl, ?_⟩, ?_⟩
    · refine ⟨upd_same, .cons ⟨e1, e0, rfl, s2 _ _ upd_same, (s1.trans s2) _ _ upd_same⟩ .nil, by simp, fun q hq => ?_, fun q hq => ?_, ?_, ?_, k1.trans (.same s012), m1.same s012, kk_free k1 hk1 (s0.free (s1.free hr0))⟩
      · rw [List.mem_singleton.mp hq]
        exact ⟨m12, by dsimp only; omega⟩
      · rw [List.mem_singleton.mp hq]
        exact ⟨pm, hm, by show 0 + cnt m / 2 ≤ 6; omega⟩
      · unfold comp
        simp
      · unfold pot
        have := wid_le L m
        have := Nat.pow_le_pow_right (n := 2) (by decide) (Nat.le_trans this l20)
        simpa using this
    rintro t σ M ⟨r, us, ly, rfl, S⟩
    obtain ⟨v0, q0, us', ly', eus, ely, rq0⟩ : ∃ v0 q0 us' ly', us = v0 :: us' ∧ ly = q0 :: ly' ∧ RwV M v0 q0 := by
      have := S.al
      cases this with
      | nil => exact absurd rfl S.ne
      | cons h t => exact ⟨_, _, _, _, rfl, rfl, h⟩
    obtain ⟨b0, c0, ev0, hb0, hc0⟩ := rq0
    have q0m : q0 ∈ ly := by rw [ely]; exact List.mem_cons_self ..
    obtain ⟨q0a, q0c⟩ := S.lc q0 q0m
    refine ⟨_, rfl, r, us, 0, v0, rfl, rfl, SqL.of S.el, atI_nat (j := 0) (by rw [eus]; rfl), b0, _, 1, .int (q0.2 : Nat), ev0, rfl, SqT.of hb0, atI_nat (j := 1) rfl, _, rfl, ?_⟩
    cases t with
    | zero =>
      rw [show ((q0.2 : Int) != 0) = false by rw [(cnt_zero q0a).mp (by omega)]; rfl]
      refine iteF ⟨_, rfl, r, rfl, ⟨_, SqL.of S.el⟩, fun Da hD => ?_⟩
      have cm := S.cm
      rw [comp_zero] at cm
      refine lc_list (K := K) (a := r) (xs := us) (fun i N => ∃ ws, N Da = some (.lst ws) ∧ Same M N ∧ AtL (NsV N) ws ((ly.take i).map (·.1))) ⟨[], upd_same, same_new hD, .nil⟩ (fun i N _ ⟨_, _, s, _⟩ => SqL.of (s _ _ S.el)) ?_ ?_
      · rintro i x N hx ⟨ws, g1, g2, g3⟩
        obtain ⟨q, hq, b, c, rfl, hb, hc⟩ := S.al.get hx
        have ts : ly.take (i + 1) = ly.take i ++ [q] := by rw [List.take_succ, hq]; rfl
        have wl := g3.len
        rw [List.length_map, List.length_take] at wl
        have pl := pot_len L ly
        have pt := S.pt
        refine ⟨b, _, rfl, SqT.of (g2 _ _ hb), rfl, _, _, rfl, _, _, rfl, rfl, rfl, yes_tt (iteT ⟨_, rfl, ws, g1, by rw [sizeLine_eq]; omega, ws ++ [.ref c], upd_same, set_same hD g2, ?_⟩)⟩
        have kp : KpT N (upd N Da (.lst (ws ++ [.ref c]))) := KpT.upd g1 (fun _ z => nomatch z)
        rw [ts, List.map_append]
        exact (g3.mono fun v q z => z.kp kp).snoc ⟨c, rfl, kp _ _ (g2 _ _ hc)⟩
      · rintro N ⟨ws, g1, g2, g3⟩
        rw [S.al.len, List.take_length, cm] at g3
        obtain ⟨kv, hk, _⟩ := S.mt.known
        exact k Da ws N (S.kk.trans (.same g2)) (S.mt.same g2) (kk_free S.kk hk hD) g1 g3
    | succ t =>
      have q00 : q0.2 ≠ 0 := fun z => by
        have := (cnt_zero q0a).mpr z
        omega
      have hB := hE.belP
      rw [show ((q0.2 : Int) != 0) = true by have : ((q0.2 : Nat) : Int) ≠ 0 := by omega
                                             simpa using this]
      obtain ⟨kvM, hkM, _⟩ := S.mt.known
      refine iteT ⟨fun σ' M' => ∃ r us ly, σ' = [some (.ref p), some (.int (m : Int)), some (.ref r), none, none, none, none, none] ∧ PmS C n L p dx nl tl kn ms tvs m H t M' r us ly, fun _ _ z => ⟨t, Nat.lt_succ_self t, z⟩, ?_⟩
      have lc2 : ∀ q ∈ ly, q.2 < 2 ^ 12 ∧ q.2 ≠ 0 := fun q hq => by
        obtain ⟨a1, a2⟩ := S.lc q hq
        exact ⟨a1, fun z => by have := (cnt_zero a1).mpr z; omega⟩
      have pot2 := pot_step (keep := perfB L) hB lc2
      have ptl := pot_len L (stepL L (perfB L) ly)
      have pt := S.pt
      have cm2 : comp L t (stepL L (perfB L) ly) = pmN L (cnt m / 2) m := by
        rw [comp_step fun q hq s hs e => ?_, S.cm]
        obtain ⟨a1, a2⟩ := S.lc q hq
        obtain ⟨b1, b2⟩ := step_cnt hB a1 (lc2 q hq).2 hs
        cases z : pmN L t s.2 with
        | nil => rfl
        | cons y ys =>
          have : perfB L s.2 = true := perf_iff.mpr ⟨by omega, by rw [show cnt s.2 / 2 = t by omega, z]; exact List.cons_ne_nil _ _⟩
          rw [e] at this
          cases this
      have ne2 : stepL L (perfB L) ly ≠ [] := fun z => by
        rw [z] at cm2
        exact pe.2 (by rw [← cm2]; rfl)
      refine ⟨_, rfl, r, rfl, ⟨_, SqL.of S.el⟩, fun Da hD => ?_⟩
      have sD := same_new (o := .lst []) hD
      have nDk : Da ≠ kn := (ne_of_none hkM hD).symm
      have nDr : r ≠ Da := ne_of_none S.el hD
      have nrk : r ≠ kn := fun z => by
        have := S.el
        rw [z, hkM] at this
        cases this
      have DH := kk_free S.kk hkM hD
      have putD : ∀ {N : Hp} {o : HO}, Kk kn H N → Mat C n L p dx nl tl kn ms tvs N → Kk kn H (upd N Da o) ∧ Mat C n L p dx nl tl kn ms tvs (upd N Da o) := fun {N o} k2 hM => by
        have k3 := kk_put (o := o) DH k2
        obtain ⟨kvs, hk, ko⟩ := hM.known
        exact ⟨k3, h.kk k3 ⟨kvs, by rw [upd_ne nDk.symm]; exact hk, ko⟩⟩
      refine walk_v (walk_list (xs := us)) (fun i N => ∃ ws, N Da = some (.lst ws) ∧ N r = some (.lst us) ∧ Kk kn H N ∧ KpT M N ∧ Mat C n L p dx nl tl kn ms tvs N ∧ AtL (RwV N) ws (stepL L (perfB L) (ly.take i)))
        ⟨[], upd_same, sD _ _ S.el, S.kk.trans (.same sD), .same sD, S.mt.same sD, .nil⟩ (fun i N _ ⟨_, _, e, _⟩ => SqL.of e) ?_ ?_
      · rintro i x N N' hi ⟨ws, g1, g2, g3, g4, g5, g6⟩ ⟨rfl, hx⟩
        obtain ⟨q, hq, b, c, rfl, hb, hc⟩ := S.al.get hx
        have ts : ly.take (i + 1) = ly.take i ++ [q] := by rw [List.take_succ, hq]; rfl
        have qm := List.mem_of_getElem? hq
        obtain ⟨qp, qn, ql⟩ := S.pf q qm
        obtain ⟨q12, q0'⟩ := lc2 q qm
        have lens : (stepL L (perfB L) (ly.take (i + 1))).length ≤ 2 ^ 20 := by
          have := stepL_take_len (L := L) (keep := perfB L) (ly := ly) (i + 1)
          omega
        rw [ts, stepL_snoc, List.length_append, List.length_map] at lens
        refine ⟨b, _, rfl, SqT.of (g4 _ _ hb), rfl, _, _, rfl, _, _, rfl, rfl, rfl, yes_tt (iteT ?_)⟩
        refine ⟨_, rfl, p, dx, _, rfl, g5.obj, mo3, _, rfl, p, dx, nl, tl, kn, n, L, ms, tvs, q.2, rfl, g5, hE, qn, q0', fun t2 vs2 M2 kk2 mt2 ht2 e2 at2 => ⟨t2, rfl, ⟨_, SqL.of e2⟩, ?_⟩⟩
        obtain ⟨kvN, hkN, _⟩ := g5.known
        have kp2 := KpT.kk kk2 hkN
        obtain ⟨kv2, hk2, _⟩ := mt2.known
        generalize hss : (stepsN L q.2).filter (fun s => perfB L s.2) = ss at at2 lens
        have ntD : t2 ≠ Da := fun z => by rw [z, g1] at ht2; cases ht2
        refine walk_v (walk_list (xs := vs2)) (fun j N2 => ∃ ws, N2 Da = some (.lst ws) ∧ N2 r = some (.lst us) ∧ N2 t2 = some (.lst vs2) ∧ Kk kn H N2 ∧ KpT M N2 ∧ KpT M2 N2 ∧ Mat C n L p dx nl tl kn ms tvs N2 ∧ AtL (RwV N2) ws (stepL L (perfB L) (ly.take i) ++ (ss.take j).map fun s => (q.1 ++ [s.1], s.2)))
          ⟨ws, kk2 _ _ nDk g1, kk2 _ _ nrk g2, e2, g3.trans kk2, g4.trans kp2, KpT.refl _, mt2, by rw [List.take_zero, List.map_nil, List.append_nil]; exact g6.mono fun v q z => z.kp kp2⟩ (fun j N2 _ ⟨_, _, _, e, _⟩ => SqL.of e) ?_ ?_
        · rintro j y N2 N3 hj ⟨ws, w1, w2, w3, w4, w5, w6, w7, w8⟩ ⟨rfl, hy⟩
          obtain ⟨⟨sk, sq⟩, hs, bs, rfl, hbs⟩ := at2.get hy
          have jl : j < ss.length := (List.getElem?_eq_some_iff.mp hs).1
          have tj : ss.take (j + 1) = ss.take j ++ [(sk, sq)] := by rw [List.take_succ, hs]; rfl
          have wl := w8.len
          rw [List.length_append, List.length_map, List.length_take] at wl
          refine ⟨bs, _, rfl, SqT.of (w6 _ _ hbs), rfl, _, _, rfl, _, _, rfl, rfl, rfl, yes_tt (iteT ?_)⟩
          refine ⟨_, rfl, _, rfl, by show 1 ≤ sizeLine; rw [sizeLine_eq]; decide, fun u hu => ⟨c, u, q.1.map natV, [.int (sk : Nat)], rfl, rfl, (same_new hu) _ _ (w5 _ _ hc), upd_same, by rw [List.length_map, sizeLine_eq]; show q.1.length + 1 ≤ _; omega, fun c2 N4 sN e4 => ⟨_, rfl, by show 2 ≤ sizeLine; rw [sizeLine_eq]; decide, fun b3 hb3 => ?_⟩⟩⟩
          have s4 := (same_new (o := .tup [.int (sk : Nat)]) hu).trans sN
          have s5 := s4.trans (same_new (o := .tup [.ref c2, .int (sq : Nat)]) hb3)
          have w1' := s5 _ _ w1
          obtain ⟨k6, m6⟩ := putD (o := .lst (ws ++ [.ref b3])) (w4.trans (.same s5)) (w7.same s5)
          have kp6 := (KpT.same s5).trans (KpT.upd (o' := .lst (ws ++ [.ref b3])) w1' (fun _ z => nomatch z))
          have nb3 : b3 ≠ Da := (ne_of_none (s4 _ _ w1) hb3).symm
          have nc2 : c2 ≠ Da := fun z => by
            have := s4 _ _ w1
            rw [← z, e4] at this
            cases this
          have nc3 : c2 ≠ b3 := ne_of_none e4 hb3
          refine ⟨ws, w1', by rw [sizeLine_eq]; omega, ws ++ [.ref b3], upd_same, by rw [upd_ne nDr]; exact s5 _ _ w2, by rw [upd_ne ntD]; exact s5 _ _ w3, k6, w5.trans kp6, w6.trans kp6, m6, ?_⟩
          rw [tj, List.map_append, ← List.append_assoc]
          refine (w8.mono fun v q z => z.kp kp6).snoc ⟨b3, c2, rfl, ?_, ?_⟩
          · rw [upd_ne nb3, upd_same]
          · rw [upd_ne nc2, upd_ne nc3, e4, List.map_append]
            rfl
        · rintro N2 ⟨ws, w1, w2, w3, w4, w5, w6, w7, w8⟩
          rw [at2.len, List.take_length] at w8
          refine ⟨ws, w1, w2, w4, w5, w7, ?_⟩
          rw [ts, stepL_snoc, hss]
          exact w8
      · rintro N ⟨ws, g1, g2, g3, g4, g5, g6⟩
        rw [S.al.len, List.take_length] at g6
        refine ⟨Da, ws, stepL L (perfB L) ly, rfl, ⟨g1, g6, ne2, LyC.step hB (by have := S.lc; rwa [show 2 * (t + 1) = 2 * t + 2 by omega] at this), fun q' hq' => ?_, cm2, by omega, g3, g5, DH⟩⟩
        unfold stepL at hq'
        obtain ⟨q, hq, hz⟩ := List.mem_flatMap.mp hq'
        obtain ⟨s, hs, rfl⟩ := List.mem_map.mp hz
        obtain ⟨hs1, hs2⟩ := List.mem_filter.mp hs
        obtain ⟨_, qn, ql⟩ := S.pf q hq
        exact ⟨hs2, step_lt hE qn (lc2 q hq).2 hs1, by show (q.1 ++ [s.1]).length + t ≤ 6; rw [List.length_append]; show q.1.length + 1 + t ≤ 6; omega⟩
end
end K0

set_option Elab.async false
set_option linter.all false
set_option maxRecDepth 100000
set_option maxHeartbeats 8000000
/-! The pairings of a web, and how many. -/
namespace K0
open PySem PySem.Spec L2
open PyProof.Rows hiding St
open KR (TupX tobj)
abbrev pIsBeside : Stmt := top 20
abbrev pIsPairingOf : Stmt := top 21
abbrev pIsPairing : Stmt := top 22
abbrev pPairings : Stmt := top 23
abbrev pHowMany : Stmt := top 24
theorem due_full {L : List (Int × Int)} {n : Nat} (h : n ≤ 12) : (if perfB L (2 ^ n - 1) = true then pmN L (cnt (2 ^ n - 1) / 2) (2 ^ n - 1) else []) = dueN L n := by
  unfold dueN
  rw [cnt_full h]
  by_cases e : n % 2 = 0
  · rw [if_pos e]
    split
    · rfl
    · rename_i z
      cases q : pmN L (n / 2) (2 ^ n - 1) with
      | nil => rfl
      | cons y ys => exact absurd (perf_iff.mpr ⟨by rw [cnt_full h]; exact e, by rw [cnt_full h, q]; exact List.cons_ne_nil _ _⟩) z
  · rw [if_neg e, if_neg]
    intro z
    have := (perf_iff.mp z).1
    rw [cnt_full h] at this
    exact e this
section
variable {P : Program} {w0 : World} {K : PySem.W.Frag} {mg : Str → Option Value} {base : Heap}
def spPms : Sp := fun vs H Q _ => ∃ (w : Addr) (n : Nat) (L : List (Int × Int)), vs = [.ref w] ∧ GW H w n L ∧ L.length ≤ 20 ∧
  ∀ (t : Addr) (us : List V) (H' : Hp), Same H H' → H t = none → H' t = some (.tup us) → AtL (NsV H') us (dueN L n) → Q (.ref t) H'
def spHow : Sp := fun vs H Q _ => ∃ (w : Addr) (n : Nat) (L : List (Int × Int)), vs = [.ref w] ∧ GW H w n L ∧ L.length ≤ 20 ∧
  ∀ (H' : Hp), Same H H' → Q (.int ((dueN L n).length : Nat)) H'
theorem mo4 : (mf f nl tl kn).lookup ("pairings_of" : Str) = none := mf_no (by decide +kernel) (by decide +kernel) (by decide +kernel) (by decide +kernel)
theorem scPrs : FnScope ["web", "matcher"] ["web"] (defScope pPairings) := ⟨rfl, rfl, rfl, by decide +kernel, rfl, by decide +kernel, by decide +kernel⟩
theorem ok_pairings {f fW fI fP C : Addr} {fd fdW fdI fdP : FuncData} (F : Fun K "pairings" "pairings" pPairings f fd) (T : Bj mg) (M_ : MC K mg C) (M : Mk K C fI) (bI : Binds K fdI ["self", "web"] []) (GI : FnOk P w0 K mg base CX0 2 fI fdI ["self", "web"] (spInit C))
    (GW' : Dn P w0 K mg base "check_web" 5 ["thing"] spCheckWeb fW fdW) (GP : Mdn P w0 K mg base C "pairings_of" 29 ["self", "mask"] (spPmOf C) fP fdP) : FnOk P w0 K mg base CX0 30 f fd ["web"] spPms := by
  refine F.ok scPrs (fun vs H Q E h => ?_) (fun cdv A outer s H vs Q E hr h => ?_)
  · obtain ⟨w, n, L, rfl, _⟩ := h
    rfl
  · obtain ⟨w, n, L, rfl, G, l20, k⟩ := h
    have hr3 : Room 3 _ := hr.mono (by decide)
    have hr5 : Room 5 _ := hr.mono (by decide)
    refine ⟨_, pss_cons (ps_expr (pe_call GW'.ok hr5 rfl GW'.g GW'.kp GW'.b .nil pass0 (pa_cons (pv 0) pa_nil)))
      <| pss_cons (ps_set (i := 1) scPrs.nd rfl (.inl rfl) (pe_make M GI hr3 rfl M_.mgC bI .nil pass0 (pa_cons (pv 0) pa_nil)))
      <| pss_one (ps_ret (pe_callTy call_tuple_of (by rfl) T.tuple (by decide +kernel) (pa_cons (pe_meth (pv 1) M_.cl GP.mt GP.ok hr GP.b .nil pass0 (pa_cons (pe_fld (pv 1) rfl) pa_nil)) pa_nil))), ?_⟩
    refine ⟨_, rfl, w, n, L, rfl, G, fun H1 s1 => ⟨_, rfl, fun x dx hx hdx ne => ?_⟩⟩
    have G1 := G.same s1
    have sx : Same H1 (upd (upd H1 dx (.own x)) x (.ins C dx [])) := fun b o e => by rw [upd_ne (ne_of_none e hx), upd_ne (ne_of_none e hdx)]; exact e
    refine ⟨x, dx, w, n, L, rfl, upd_same, G1.same sx, fun nl tl kn ms tvs H2 m2 nr hkn k2 => ⟨rfl, ?_⟩⟩
    have s2 : Same H1 H2 := fun b o e => k2 b o (ne_of_none e hx) (sx _ _ e)
    have hkn1 : H1 kn = none := sx.free hkn
    have lt := Nat.sub_lt (Nat.two_pow_pos n) Nat.one_pos
    refine ⟨_, rfl, x, dx, _, rfl, m2.obj, mo4, _, rfl, x, C, dx, _, _, rfl, m2.obj, M_.cl, M_.nF, mf_full, ?_⟩
    refine ⟨x, dx, nl, tl, kn, n, L, ms, tvs, 2 ^ n - 1, rfl, m2, ⟨G.n2, G.bel, G.few, nr⟩, l20, lt, fun t us H3 k3 m3 ht e3 a3 => ?_⟩
    have s3 : Same H1 H3 := fun b o e => k3 b o (ne_of_none e hkn1) (s2 _ _ e)
    rw [due_full G.n2] at a3
    have s13 := s1.trans s3
    refine ⟨t, _, rfl, .inl ⟨SqL.of e3, fun r hr0 => k r us _ (s13.trans (same_new hr0)) (s13.free hr0) upd_same (a3.mono fun v q z => z.kp (KpT.same (same_new hr0)))⟩⟩
theorem scHow : FnScope ["web"] ["web"] (defScope pHowMany) := ⟨rfl, rfl, rfl, by decide +kernel, rfl, by decide +kernel, by decide +kernel⟩
theorem ok_howMany {f fP : Addr} {fd fdP : FuncData} (F : Fun K "how_many" "how_many" pHowMany f fd) (T : Bj mg) (GP : Dn P w0 K mg base "pairings" 30 ["web"] spPms fP fdP) : FnOk P w0 K mg base CX0 31 f fd ["web"] spHow := by
  refine F.ok scHow (fun vs H Q E h => ?_) (fun cdv A outer s H vs Q E hr h => ?_)
  · obtain ⟨w, n, L, rfl, _⟩ := h
    rfl
  · obtain ⟨w, n, L, rfl, G, l20, k⟩ := h
    refine ⟨_, pss_one (ps_ret (pe_callB call_len_seq (by rfl) T.len PySem.boot_len (pa_cons (pe_call GP.ok hr rfl GP.g GP.kp GP.b .nil pass0 (pa_cons (pv 0) pa_nil)) pa_nil))), ?_⟩
    refine ⟨_, rfl, w, n, L, rfl, G, l20, fun t us H1 s1 _ e1 a1 => ⟨t, _, rfl, .inr (SqT.of e1), ?_⟩⟩
    rw [a1.len]
    exact k H1 s1
end
end K0

set_option Elab.async false
set_option linter.all false
set_option maxRecDepth 100000
set_option maxHeartbeats 8000000
/-! Whether a value is a pairing. -/
namespace K0
open PySem PySem.Spec L2
open PyProof.Rows hiding St
open KR (TupX tobj)
/-- two promises of one def -/
theorem fn_or {P : Program} {w0 : World} {K : PySem.W.Frag} {mg : Str → Option Value} {base : Heap} {k : Nat} {f : Addr} {fd : FuncData} {ps : List Str} {sp sp' : Sp} (a : FnOk P w0 K mg base CX0 k f fd ps sp) (b : FnOk P w0 K mg base CX0 k f fd ps sp') :
    FnOk P w0 K mg base CX0 k f fd ps (fun vs H Q E => sp vs H Q E ∨ sp' vs H Q E) :=
  ⟨fun vs H Q E h => h.elim (a.len vs H Q E) (b.len vs H Q E), fun A st s H args us vs Q E h1 h2 h3 h4 h => h.elim (a.run A st s H args us vs Q E h1 h2 h3 h4) (b.run A st s H args us vs Q E h1 h2 h3 h4)⟩
theorem fn_sub {P : Program} {w0 : World} {K : PySem.W.Frag} {mg : Str → Option Value} {base : Heap} {k : Nat} {f : Addr} {fd : FuncData} {ps : List Str} {sp sp' : Sp} (a : FnOk P w0 K mg base CX0 k f fd ps sp) (s : ∀ vs H Q E, sp' vs H Q E → sp vs H Q E) :
    FnOk P w0 K mg base CX0 k f fd ps sp' :=
  ⟨fun vs H Q E h => a.len vs H Q E (s _ _ _ _ h), fun A st s' H args us vs Q E h1 h2 h3 h4 h => a.run A st s' H args us vs Q E h1 h2 h3 h4 (s _ _ _ _ h)⟩
/-- whether numbers of ties are a pairing -/
def prB (L : List (Int × Int)) (n : Nat) (ns : List Nat) : Bool := decide (ns.Pairwise (· ≤ ·)) && decide ((endsN L ns).Perm (iota n))
def prO (L : List (Int × Int)) (n : Nat) : Option (List V) → Bool
  | none => false
  | some xs => xs.all (belowV · L.length) && prB L n (natsOf xs)
theorem le_uniq : ∀ {a b : List Int}, a.Pairwise (· ≤ ·) → b.Pairwise (· ≤ ·) → a.Perm b → a = b
  | [], b, _, _, p => p.nil_eq
  | x :: a, [], _, _, p => absurd p.symm.nil_eq (by simp)
  | x :: a, y :: b, ha, hb, p => by
    obtain ⟨a1, a2⟩ := List.pairwise_cons.mp ha
    obtain ⟨b1, b2⟩ := List.pairwise_cons.mp hb
    have e : x = y := by
      have h1 : x ≤ y := by
        rcases List.mem_cons.mp (p.mem_iff.mpr (List.mem_cons_self ..) : y ∈ x :: a) with z | z
        · omega
        · exact a1 y z
      have h2 : y ≤ x := by
        rcases List.mem_cons.mp (p.mem_iff.mp (List.mem_cons_self ..) : x ∈ y :: b) with z | z
        · omega
        · exact b1 x z
      omega
    subst e
    rw [le_uniq a2 b2 (List.Perm.cons_inv p)]
theorem iota_le (n : Nat) : (iota n).Pairwise (· ≤ ·) := by
  unfold iota
  exact List.pairwise_map.mpr (List.pairwise_le_range.imp fun h => by omega)
theorem nats_le {ns : List Nat} : (ns.map fun (i : Nat) => (i : Int)).Pairwise (· ≤ ·) ↔ ns.Pairwise (· ≤ ·) := by
  rw [List.pairwise_map]
  exact ⟨fun z => z.imp fun h => by omega, fun z => z.imp fun h => by omega⟩
theorem ends_snoc (L : List (Int × Int)) (ns : List Nat) (k : Nat) : endsN L (ns ++ [k]) = endsN L ns ++ [(tie L k).1, (tie L k).2] := by
  unfold endsN
  rw [List.flatMap_append]
  simp
theorem ends_len (L : List (Int × Int)) (ns : List Nat) : (endsN L ns).length = 2 * ns.length := by
  induction ns with
  | nil => rfl
  | cons k ns ih =>
    show ([(tie L k).1, (tie L k).2] ++ endsN L ns).length = _
    rw [List.length_append, ih]
    simp
    omega
theorem take_ints (q : Int × Int) (j : Nat) {y : V} (h : ([V.int q.1, V.int q.2] : List V)[j]? = some y) : ∃ z : Int, y = .int z ∧ ([q.1, q.2] : List Int)[j]? = some z := by
  match j with
  | 0 => cases h; exact ⟨_, rfl, rfl⟩
  | 1 => cases h; exact ⟨_, rfl, rfl⟩
  | j + 2 => simp at h
def spBesT : Sp := fun vs H Q _ => ∃ (w b : Addr) (n : Nat) (L : List (Int × Int)) (v : V) (o : Option (List V)), vs = [.ref w, .ref b, v] ∧ GW H w n L ∧ TT H b [] ∧ Th H v o ∧ ∀ H', Same H H' → Q (.bl (prO L n o)) H'
/-- a long row of tuples -/
def LgT (H : Hp) (v : V) : Prop := ∃ a xs, v = .ref a ∧ TT H a xs ∧ (∀ x ∈ xs, VT H x "tuple") ∧ xs ≠ [] ∧ xs.length ≤ 2000000
def spBesL : Sp := fun vs H Q _ => ∃ (w b : Addr) (n : Nat) (L : List (Int × Int)) (v : V), vs = [.ref w, .ref b, v] ∧ GW H w n L ∧ LgT H v ∧ ∀ H', Same H H' → Q (.bl false) H'
section
variable {P : Program} {w0 : World} {K : PySem.W.Frag} {mg : Str → Option Value} {base : Heap}
abbrev nBes : List Str := ["web", "lot", "thing", "met", "number", "place"]
theorem scBes : FnScope nBes ["web", "lot", "thing"] (defScope pIsBeside) := ⟨rfl, rfl, rfl, by decide +kernel, rfl, by decide +kernel, by decide +kernel⟩
theorem ok_besT {f fB fO : Addr} {fd fdB fdO : FuncData} (F : Fun K "is_beside" "is_beside" pIsBeside f fd) (T : Bk mg) (GB : Dn P w0 K mg base "is_tie_number" 3 ["web", "thing"] spIsTieNo fB fdB) (GO : Dn P w0 K mg base "places_but" 1 ["web", "lot"] spPlacesBut fO fdO) :
    FnOk P w0 K mg base CX0 4 f fd ["web", "lot", "thing"] spBesT := by
  refine F.ok scBes (fun vs H Q E h => ?_) (fun cdv A outer s H vs Q E hr h => ?_)
  · obtain ⟨w, b, n, L, v, o, rfl, _⟩ := h
    rfl
  · obtain ⟨w, b, n, L, v, o, rfl, G, hb0, th, k⟩ := h
    have hr1 : Room 1 _ := hr.mono (by decide)
    have hu6 : A.units + 3 + 64 < cLine := by have := hr.un; have e : (A.deeper (envOfC "is_beside" (defScope pIsBeside) s.heap.objs.size f cdv)).units = A.units + 3 := rfl; omega
    refine ⟨_, pss_cons (ps_if (PW.pt (pw_or (pt_not (pt_val (pe_callB call_isi (by rfl) T.isi (by decide +kernel) (pa_cons (pv 2) (pa_cons (pe_bltn (v := .ty "tuple") (u := .type "tuple") (by rfl) T.tuple (by decide +kernel) rfl) pa_nil)))))
          (pw_or1 (pt_not (pt_val (pe_callB (cr_all rfl) (by rfl) T.all (by decide +kernel) (pa_cons (pe_lc (own := [("number", 4)]) (g := gName 4) (tt := tYes) rfl scBes.nd (pi_tup (pv 2)) (blkOk_by (N := nBes) (sc := defScope pIsBeside) (by decide +kernel))
            (fun _ _ _ _ _ => pg_name (i := 4) scBes.nd rfl (Or.inl rfl) (.inr rfl)) (fun _ _ _ _ _ => pts_nil) (fun _ _ _ _ _ => pe_call GB.ok hr rfl GB.g GB.kp GB.b .nil pass0 (pa_cons (pv 0) (pa_cons (pv 4) pa_nil)))) pa_nil)))))))
          (pss_one (ps_ret pe_bl)) pss_nil)
      <| pss_cons (ps_setLc2 (i := 3) (own := [("number", 4), ("place", 5)]) (vs1 := [5]) (g := gName 4) (g1 := gName 5) (tt := tYes) (tt1 := tYes) (wi1 := iTup K (tOp (rIxT K) (tOp (rIxT K) (tVar 0) (tC (.int 1))) (tVar 4)))
              rfl scBes.nd rfl rfl (by rfl) (pi_tup (pv 2)) (blkOk_by (N := nBes) (sc := defScope pIsBeside) (by decide +kernel)) (by decide)
              (fun _ _ _ _ _ => pg_name (i := 4) scBes.nd rfl (.inl rfl) (.inr rfl)) (fun _ _ _ _ _ => pts_nil)
              (fun _ _ _ _ _ => show PI _ _ _ (iTup K _) from pi_tup (pe_ix ix_tup (pe_ix ix_tup (pv 0) pe_int (fun _ _ => rfl)) (pv 4) (fun _ _ => rfl)))
              (fun _ _ _ _ _ => pg_name (i := 5) scBes.nd rfl (.inl rfl)) (fun _ _ _ _ _ => pts_nil) (fun _ _ _ _ _ => pv 5))
      <| pss_one (ps_ret (pe_and (pe_cmpR (op_eqD hu6) (pe_callTy call_list_of (by rfl) T.list (by decide +kernel) (pa_cons (pv 2) pa_nil)) (pe_callB KR.cr_sortTI (by rfl) T.sorted (by decide +kernel) (pa_cons (pv 2) pa_nil)) (nomark _))
          (pe_one (pe_cmpR (op_eqD hu6) (pe_callB cr_sortedI (by rfl) T.sorted (by decide +kernel) (pa_cons (pv 3) pa_nil)) (pe_callTy call_list_of (by rfl) T.list (by decide +kernel) (pa_cons (pe_call GO.ok hr1 rfl GO.g GO.kp GO.b .nil pass0 (pa_cons (pv 0) (pa_cons (pv 1) pa_nil))) pa_nil)) (nomark _))))), ?_⟩
    obtain ⟨t, vs, e1, e2, e3⟩ := G.web.ex
    have len := e3.len
    cases th with
    | @oth v t h ne =>
      exact ⟨_, rfl, v, .ty "tuple", .type t, .type "tuple", _, rfl, .ty "tuple", h.ty, h.kit.2.2, _, rfl, by
        rw [decide_eq_false ne]
        exact k H (Same.refl H)⟩
    | @tup a xs e h l =>
      have hv : VT H (.ref a) "tuple" := .tup e
      refine ⟨_, rfl, .ref a, .ty "tuple", .type "tuple", .type "tuple", _, rfl, .ty "tuple", hv.ty, hv.kit.2.2, _, rfl, iteNS (c := "tuple" = "tuple") rfl ?_⟩
      refine ⟨_, rfl, a, rfl, ⟨_, e.sq⟩, fun Da hD => ?_⟩
      refine lc_it (walk_tup (xs := xs)) (fun i M => M Da = some (.lst (((xs.take i).map (belowV · L.length)).map V.bl)) ∧ Same H M) ⟨upd_same, same_new hD⟩ (fun i M _ g => (e.keep fun o q => g.2 _ _ q).sq) ?_ ?_
      · rintro i x M M' hi ⟨g1, g2⟩ ⟨rfl, hx⟩
        obtain ⟨t, ht⟩ := h x (List.mem_of_getElem? hx)
        refine ⟨rfl, ?_⟩
        unfold tYes
        refine iteT ?_
        exact ⟨_, rfl, _, rfl, w, n, L, x, t, rfl, G.same g2, ht.mono g2, _, g1, by rw [List.length_map, List.length_map, List.length_take, sizeLine_eq]; omega, by rw [upd_same, List.take_add_one, hx] <;> simp, fun b o e => by rw [upd_ne (ne_of_none e hD)]; exact g2 _ _ e⟩
      · rintro M ⟨g1, g2⟩
        rw [List.take_length] at g1
        have ea : (xs.map (belowV · L.length)).all id = xs.all (belowV · L.length) := by rw [List.all_map] <;> rfl
        refine ⟨Da, _, rfl, SqL.of g1, _, rfl, ?_⟩
        rw [ea]
        cases hb : xs.all (belowV · L.length) with
        | false =>
          show Q (.bl false) M
          have : prO L n (some xs) = false := by
            show (xs.all (belowV · L.length) && _) = false
            rw [hb, Bool.false_and]
          rw [← this]
          exact k M g2
        | true =>
        obtain ⟨x1, x2⟩ := nats_of hb
        have ans : prO L n (some xs) = prB L n (natsOf xs) := by
          show (xs.all (belowV · L.length) && _) = _
          rw [hb, Bool.true_and]
        rw [ans] at k
        generalize natsOf xs = ns at x1 x2 k
        subst x1
        rw [List.length_map] at l
        have eM : ∀ {M' : Hp}, Same H M' → TT M' a (ns.map natV) := fun s => e.keep fun o q => s _ _ q
        refine ⟨_, rfl, a, rfl, ⟨_, (eM g2).sq⟩, fun Db hDb => ?_⟩
        have hDbH := g2.free hDb
        refine walk_v (walk_tup (xs := ns.map natV)) (fun i N => N Db = some (.lst ((endsN L (ns.take i)).map V.int)) ∧ Same H N) ⟨upd_same, g2.trans (same_new hDb)⟩ (fun i N _ g => (eM g.2).sq) ?_ ?_
        · rintro i x N N' hi ⟨f1, f2⟩ ⟨rfl, hx⟩
          rw [List.getElem?_map] at hx
          obtain ⟨kk, hkk, rfl⟩ := Option.map_eq_some_iff.mp hx
          have il : i < ns.length := (List.getElem?_eq_some_iff.mp hkk).1
          have kl := x2 kk (List.mem_of_getElem? hkk)
          have ts : ns.take (i + 1) = ns.take i ++ [kk] := by rw [List.take_succ, hkk]; rfl
          obtain ⟨bb, q, eb, hq, hbb⟩ := e3.get (List.getElem?_eq_getElem (show kk < vs.length by omega))
          have tq : tie L kk = q := tie_at hq
          have el := ends_len L (ns.take i)
          rw [List.length_take] at el
          refine ⟨rfl, yes_tt (iteT ?_)⟩
          refine ⟨_, rfl, w, _, _, _, rfl, rfl, SqT.of (f2 _ _ e1), atI_nat (j := 1) rfl, _, rfl, t, vs, _, _, rfl, rfl, SqT.of (f2 _ _ e2), atI_nat (List.getElem?_eq_getElem (show kk < vs.length by omega)), bb, eb, ⟨_, SqT.of (f2 _ _ hbb)⟩, ?_⟩
          refine walk_v (walk_tup (xs := [V.int q.1, V.int q.2])) (fun j N => N Db = some (.lst ((endsN L (ns.take i) ++ ([q.1, q.2] : List Int).take j).map V.int)) ∧ Same H N) ⟨by rw [List.take_zero, List.append_nil]; exact f1, f2⟩ (fun j N _ g => SqT.of (g.2 _ _ hbb)) ?_ ?_
          · rintro j y N2 N3 hj ⟨h1, h2⟩ ⟨rfl, hy⟩
            obtain ⟨z, rfl, hz⟩ := take_ints q j hy
            have t2 : ([q.1, q.2] : List Int).take (j + 1) = ([q.1, q.2] : List Int).take j ++ [z] := by rw [List.take_succ, hz]; rfl
            refine ⟨rfl, yes_tt (iteT ⟨_, rfl, _, h1, by rw [List.length_map, List.length_append, List.length_take, sizeLine_eq]; have : ([q.1, q.2] : List Int).length = 2 := rfl; omega, ?_, set_same hDbH h2⟩)⟩
            rw [upd_same, t2]
            simp [List.map_append, List.append_assoc]
          · rintro N2 ⟨h1, h2⟩
            refine ⟨?_, h2⟩
            rw [ts, ends_snoc, tq]
            exact h1
        · rintro N ⟨f1, f2⟩
          rw [List.length_map, List.take_length] at f1
          have eI : ∀ {M' : Hp}, Same H M' → TT M' a ((ns.map fun (i : Nat) => (i : Int)).map V.int) := fun s => by rw [← natV_ints]; exact eM s
          refine ⟨_, rfl, a, _, rfl, .inr (eI f2).sq, fun l1 hl1 => ⟨_, rfl, a, _, rfl, (eI (f2.trans (same_new hl1))).sq, fun ms p m1 m2 hp => ?_⟩⟩
          have s1 := same_new (o := .lst ((ns.map fun (i : Nat) => (i : Int)).map V.int)) hl1
          have s2 := s1.trans (same_new (o := .lst (ms.map V.int)) hp)
          refine ⟨.list ((ns.map fun (i : Nat) => (i : Int)).map PyData.int), .list (ms.map PyData.int), .lst (SqL.of (by rw [upd_ne (ne_of_none upd_same hp)]; exact upd_same)) (ints_dp _), .lst (SqL.of upd_same) (ints_dp ms), ints_shaped _, ints_shaped ms, _, rfl, ?_⟩
          rw [eqv_ints]
          have f4 := f2.trans s2
          by_cases ha : ns.Pairwise (· ≤ ·)
          rotate_left
          · rw [decide_eq_false (fun (z : (ns.map fun (i : Nat) => (i : Int)) = ms) => ha (nats_le.mp (by rw [z]; exact m2)))]
            have : prB L n ns = false := by unfold prB; rw [decide_eq_false ha, Bool.false_and]
            rw [this] at k
            exact iteF (k _ f4)
          rw [decide_eq_true (le_uniq (nats_le.mpr ha) m2 m1.symm)]
          refine iteT ⟨_, rfl, Db, endsN L ns, rfl, SqL.of (s2 _ _ f1), fun ms2 p2 q1 q2 hp2 => ?_⟩
          have f5 := f4.trans (same_new (o := .lst (ms2.map V.int)) hp2)
          refine ⟨_, rfl, _, rfl, w, b, n, L, [], rfl, G.same f5, hb0.keep (fun o q => f5 _ _ q), fun t2 H6 s6 ht2 e6 => ⟨t2, _, rfl, .inr (SqT.of e6), fun l2 hl2 => ?_⟩⟩
          have s7 := s6.trans (same_new (o := .lst ((restN n []).map V.int)) hl2)
          have rn : restN n [] = iota n := by
            unfold restN
            rw [List.filter_eq_self]
            intro x _
            simp
          refine ⟨.list (ms2.map PyData.int), .list ((restN n []).map PyData.int), .lst (SqL.of (s7 _ _ upd_same)) (ints_dp _), .lst (SqL.of upd_same) (ints_dp _), ints_shaped _, ints_shaped _, ?_⟩
          rw [eqv_ints]
          rw [rn] at s7 ⊢
          have ans2 : decide (ms2 = iota n) = prB L n ns := by
            unfold prB
            rw [decide_eq_true ha, Bool.true_and]
            exact decide_eq_decide.mpr ⟨fun z => z ▸ q1.symm, fun z => le_uniq q2 (iota_le n) (q1.trans z)⟩
          rw [ans2]
          exact k _ (f5.trans s7)
theorem ok_besL {f fB fO : Addr} {fd fdB fdO : FuncData} (F : Fun K "is_beside" "is_beside" pIsBeside f fd) (T : Bk mg) (GB : Dn P w0 K mg base "is_tie_number" 3 ["web", "thing"] spIsTieNo fB fdB) (GO : Dn P w0 K mg base "places_but" 1 ["web", "lot"] spPlacesBut fO fdO) :
    FnOk P w0 K mg base CX0 4 f fd ["web", "lot", "thing"] spBesL := by
  refine F.ok scBes (fun vs H Q E h => ?_) (fun cdv A outer s H vs Q E hr h => ?_)
  · obtain ⟨w, b, n, L, v, rfl, _⟩ := h
    rfl
  · obtain ⟨w, b, n, L, v, rfl, G, ⟨a, xs, rfl, e, hx, ne, hl⟩, k⟩ := h
    have hr1 : Room 1 _ := hr.mono (by decide)
    have hu6 : A.units + 3 + 64 < cLine := by have := hr.un; have e : (A.deeper (envOfC "is_beside" (defScope pIsBeside) s.heap.objs.size f cdv)).units = A.units + 3 := rfl; omega
    refine ⟨_, pss_cons (ps_if (PW.pt (pw_or (pt_not (pt_val (pe_callB call_isi (by rfl) T.isi (by decide +kernel) (pa_cons (pv 2) (pa_cons (pe_bltn (v := .ty "tuple") (u := .type "tuple") (by rfl) T.tuple (by decide +kernel) rfl) pa_nil)))))
          (pw_or1 (pt_not (pt_val (pe_callB (cr_all rfl) (by rfl) T.all (by decide +kernel) (pa_cons (pe_lc (own := [("number", 4)]) (g := gName 4) (tt := tYes) rfl scBes.nd (pi_tup (pv 2)) (blkOk_by (N := nBes) (sc := defScope pIsBeside) (by decide +kernel))
            (fun _ _ _ _ _ => pg_name (i := 4) scBes.nd rfl (Or.inl rfl) (.inr rfl)) (fun _ _ _ _ _ => pts_nil) (fun _ _ _ _ _ => pe_call GB.ok hr rfl GB.g GB.kp GB.b .nil pass0 (pa_cons (pv 0) (pa_cons (pv 4) pa_nil)))) pa_nil)))))))
          (pss_one (ps_ret pe_bl)) pss_nil)
      <| pss_cons (ps_setLc2 (i := 3) (own := [("number", 4), ("place", 5)]) (vs1 := [5]) (g := gName 4) (g1 := gName 5) (tt := tYes) (tt1 := tYes) (wi1 := iTup K (tOp (rIxT K) (tOp (rIxT K) (tVar 0) (tC (.int 1))) (tVar 4)))
              rfl scBes.nd rfl rfl (by rfl) (pi_tup (pv 2)) (blkOk_by (N := nBes) (sc := defScope pIsBeside) (by decide +kernel)) (by decide)
              (fun _ _ _ _ _ => pg_name (i := 4) scBes.nd rfl (.inl rfl) (.inr rfl)) (fun _ _ _ _ _ => pts_nil)
              (fun _ _ _ _ _ => show PI _ _ _ (iTup K _) from pi_tup (pe_ix ix_tup (pe_ix ix_tup (pv 0) pe_int (fun _ _ => rfl)) (pv 4) (fun _ _ => rfl)))
              (fun _ _ _ _ _ => pg_name (i := 5) scBes.nd rfl (.inl rfl)) (fun _ _ _ _ _ => pts_nil) (fun _ _ _ _ _ => pv 5))
      <| pss_one (ps_ret (pe_and (pe_cmpR (op_eqD hu6) (pe_callTy call_list_of (by rfl) T.list (by decide +kernel) (pa_cons (pv 2) pa_nil)) (pe_callB KR.cr_sortTI (by rfl) T.sorted (by decide +kernel) (pa_cons (pv 2) pa_nil)) (nomark _))
          (pe_one (pe_cmpR (op_eqD hu6) (pe_callB cr_sortedI (by rfl) T.sorted (by decide +kernel) (pa_cons (pv 3) pa_nil)) (pe_callTy call_list_of (by rfl) T.list (by decide +kernel) (pa_cons (pe_call GO.ok hr1 rfl GO.g GO.kp GO.b .nil pass0 (pa_cons (pv 0) (pa_cons (pv 1) pa_nil))) pa_nil)) (nomark _))))), ?_⟩
    have hv : VT H (.ref a) "tuple" := .tup e
    refine ⟨_, rfl, .ref a, .ty "tuple", .type "tuple", .type "tuple", _, rfl, .ty "tuple", hv.ty, hv.kit.2.2, _, rfl, iteNS (c := "tuple" = "tuple") rfl ?_⟩
    refine ⟨_, rfl, a, rfl, ⟨_, e.sq⟩, fun Da hD => ?_⟩
    refine lc_it (walk_tup (xs := xs)) (fun i M => M Da = some (.lst (((xs.take i).map (belowV · L.length)).map V.bl)) ∧ Same H M) ⟨upd_same, same_new hD⟩ (fun i M _ g => (e.keep fun o q => g.2 _ _ q).sq) ?_ ?_
    · rintro i x M M' hi ⟨g1, g2⟩ ⟨rfl, hx'⟩
      have ht := hx x (List.mem_of_getElem? hx')
      refine ⟨rfl, ?_⟩
      unfold tYes
      refine iteT ?_
      exact ⟨_, rfl, _, rfl, w, n, L, x, _, rfl, G.same g2, ht.mono g2, _, g1, by rw [List.length_map, List.length_map, List.length_take, sizeLine_eq]; omega, by rw [upd_same, List.take_add_one, hx'] <;> simp, fun b o e => by rw [upd_ne (ne_of_none e hD)]; exact g2 _ _ e⟩
    · rintro M ⟨g1, g2⟩
      rw [List.take_length] at g1
      have ea : (xs.map (belowV · L.length)).all id = xs.all (belowV · L.length) := by rw [List.all_map] <;> rfl
      refine ⟨Da, _, rfl, SqL.of g1, _, rfl, ?_⟩
      rw [ea]
      have hb : xs.all (belowV · L.length) = false := by
        cases xs with
        | nil => exact absurd rfl ne
        | cons x xs =>
          have hx0 := hx x (List.mem_cons_self ..)
          have : belowV x L.length = false := by
            generalize ht : "tuple" = t at hx0
            cases hx0 with
            | tup e => rfl
            | _ => exact absurd ht (by decide)
          rw [List.all_cons, this, Bool.false_and]
      rw [hb]
      exact k M g2
def spIpo : Sp := fun vs H Q _ => ∃ (w : Addr) (n : Nat) (L : List (Int × Int)) (v : V) (r : Bool), vs = [.ref w, v] ∧ GW H w n L ∧ ((∃ o, Th H v o ∧ r = prO L n o) ∨ (LgT H v ∧ r = false)) ∧ ∀ H', Same H H' → Q (.bl r) H'
theorem LgT.same {H H' : Hp} {v : V} (h : LgT H v) (s : Same H H') : LgT H' v := let ⟨a, xs, e1, e2, e3, e4⟩ := h; ⟨a, xs, e1, e2.keep (fun o q => s _ _ q), fun x hx => (e3 x hx).mono s, e4⟩
theorem scIpo : FnScope ["web", "thing"] ["web", "thing"] (defScope pIsPairingOf) := ⟨rfl, rfl, rfl, by decide +kernel, rfl, by decide +kernel, by decide +kernel⟩
theorem ok_ipo {f fB : Addr} {fd fdB : FuncData} (F : Fun K "is_pairing_of" "is_pairing_of" pIsPairingOf f fd) (GB : Dn P w0 K mg base "is_beside" 4 ["web", "lot", "thing"] (fun vs H Q E => spBesT vs H Q E ∨ spBesL vs H Q E) fB fdB) :
    FnOk P w0 K mg base CX0 5 f fd ["web", "thing"] spIpo := by
  refine F.ok scIpo (fun vs H Q E h => ?_) (fun cdv A outer s H vs Q E hr h => ?_)
  · obtain ⟨w, n, L, v, r, rfl, _⟩ := h
    rfl
  · obtain ⟨w, n, L, v, r, rfl, G, hv, k⟩ := h
    refine ⟨_, pss_one (ps_ret (pe_call GB.ok hr rfl GB.g GB.kp GB.b .nil pass0 (pa_cons (pv 0) (pa_cons (pe_tup pa_nil) (pa_cons (pv 1) pa_nil))))), ?_⟩
    refine ⟨_, rfl, by show 0 ≤ sizeLine; exact Nat.zero_le _, fun b hb => ⟨_, rfl, ?_⟩⟩
    have s1 := same_new (o := .tup []) hb
    rcases hv with ⟨o, th, rfl⟩ | ⟨lg, rfl⟩
    · exact .inl ⟨w, b, n, L, v, o, rfl, G.same s1, .inl upd_same, th.same s1, fun H' s' => k H' (s1.trans s')⟩
    · exact .inr ⟨w, b, n, L, v, rfl, G.same s1, lg.same s1, fun H' s' => k H' (s1.trans s')⟩
theorem scIsP : FnScope ["web", "thing"] ["web", "thing"] (defScope pIsPairing) := ⟨rfl, rfl, rfl, by decide +kernel, rfl, by decide +kernel, by decide +kernel⟩
theorem ok_isPairing {f fW fI : Addr} {fd fdW fdI : FuncData} (F : Fun K "is_pairing" "is_pairing" pIsPairing f fd) (GW' : Dn P w0 K mg base "check_web" 5 ["thing"] spCheckWeb fW fdW) (GI : Dn P w0 K mg base "is_pairing_of" 5 ["web", "thing"] spIpo fI fdI) :
    FnOk P w0 K mg base CX0 6 f fd ["web", "thing"] spIpo := by
  refine F.ok scIsP (fun vs H Q E h => ?_) (fun cdv A outer s H vs Q E hr h => ?_)
  · obtain ⟨w, n, L, v, r, rfl, _⟩ := h
    rfl
  · obtain ⟨w, n, L, v, r, rfl, G, hv, k⟩ := h
    refine ⟨_, pss_cons (ps_expr (pe_call GW'.ok hr rfl GW'.g GW'.kp GW'.b .nil pass0 (pa_cons (pv 0) pa_nil))) <| pss_one (ps_ret (pe_call GI.ok hr rfl GI.g GI.kp GI.b .nil pass0 (pa_cons (pv 0) (pa_cons (pv 1) pa_nil)))), ?_⟩
    refine ⟨_, rfl, w, n, L, rfl, G, fun H1 s1 => ⟨_, rfl, _, rfl, w, n, L, v, r, rfl, G.same s1, ?_, fun H' s' => k H' (s1.trans s')⟩⟩
    rcases hv with ⟨o, th, rfl⟩ | ⟨lg, rfl⟩
    · exact .inl ⟨o, th.same s1, rfl⟩
    · exact .inr ⟨lg.same s1, rfl⟩
end
end K0

set_option Elab.async false
set_option linter.all false
set_option maxRecDepth 100000
set_option maxHeartbeats 8000000
/-! The law's own: near places; whether all can be paired. -/
namespace K0
open PySem PySem.Spec L2
open PyProof.Rows hiding St
open KR (TupX tobj)
abbrev lNear : Stmt := top 34
abbrev lCan : Stmt := top 35
theorem op_orN {X : Cx} : OpR X (binaryOp .BitOr) (rNN (· ||| ·)) := fun pins s σ H x y v u Q I rx ry h => by
  obtain ⟨a, b, rfl, rfl, q⟩ := h
  exact op_or pins s σ H _ _ v u Q I rx ry ⟨_, _, rfl, rfl, by show Q (.int (Builtin.bitOr (a : Int) (b : Int))) H; rw [or_nat]; exact q⟩
/-- keys that are masks -/
structure KyOk (n : Nat) (kvs : List (Key × V)) : Prop where
  nd : (kvs.map (·.1)).Nodup
  ok : ∀ p ∈ kvs, ∃ m : Nat, p.1 = Sum.inl (m : Int) ∧ m < 2 ^ n
theorem KyOk.len {n : Nat} {kvs : List (Key × V)} (h : KyOk n kvs) (hn : n ≤ 12) : kvs.length ≤ 4096 := by
  have sub := len_le (m := (List.range 4096).map fun (i : Nat) => (Sum.inl (i : Int) : Key)) h.nd fun k hk => by
    obtain ⟨p, hp, rfl⟩ := List.mem_map.mp hk
    obtain ⟨m, e, hm⟩ := h.ok p hp
    exact List.mem_map.mpr ⟨m, List.mem_range.mpr (Nat.lt_of_lt_of_le hm (Nat.pow_le_pow_right (by decide) hn)), e.symm⟩
  rw [List.length_map, List.length_map, List.length_range] at sub
  exact sub
theorem KyOk.put {n m : Nat} {kvs : List (Key × V)} {v : V} (h : KyOk n kvs) (hm : m < 2 ^ n) : KyOk n (putK kvs (Sum.inl (m : Int)) v) := by
  cases hn : valV kvs (Sum.inl (m : Int) : Key) with
  | none =>
    rw [putK_new _ hn]
    refine ⟨?_, fun p hp => ?_⟩
    · rw [List.map_append]
      refine List.nodup_append.mpr ⟨h.nd, by simp, fun a ha b hb z => ?_⟩
      rw [List.mem_singleton.mp hb] at z
      subst z
      exact valV_none_mem hn ha
    · rcases List.mem_append.mp hp with hp | hp
      · exact h.ok p hp
      · rw [List.mem_singleton.mp hp]
        exact ⟨m, rfl, hm⟩
  | some u =>
    have ea : (kvs.any fun kv => decide (kv.1 = (Sum.inl (m : Int) : Key))) = true := by rw [valV_any, hn]; rfl
    refine ⟨?_, ?_⟩
    · unfold putK
      rw [if_pos ea, List.map_map]
      have : (kvs.map ((fun kv : Key × V => kv.1) ∘ fun kv => if kv.1 = (Sum.inl (m : Int) : Key) then (kv.1, v) else kv)) = kvs.map (·.1) := List.map_congr_left fun q _ => by
        show (if q.1 = (Sum.inl (m : Int) : Key) then (q.1, v) else q).1 = q.1
        split <;> rfl
      rw [this]
      exact h.nd
    · unfold putK
      rw [if_pos ea]
      intro p hp
      obtain ⟨q, hq, rfl⟩ := List.mem_map.mp hp
      split
      · rename_i z
        rw [z]
        exact ⟨m, rfl, hm⟩
      · exact h.ok q hq
section
variable {P : Program} {w0 : World} {K : PySem.W.Frag} {mg : Str → Option Value} {base : Heap}
def spLNear : Sp := fun vs H Q _ => ∃ (w : Addr) (n : Nat) (L : List (Int × Int)), vs = [.ref w] ∧ Web H w n L ∧ n ≤ 12 ∧ Bel n L ∧ ∀ (l : Addr) (ms : List Nat) (H' : Hp), Same H H' → H l = none → H' l = some (.lst (ms.map natV)) → Near L n ms → Q (.ref l) H'
abbrev nLNear : List Str := ["_law_web_here", "_law_near_here", "_law_one", "_law_other"]
theorem scLNear : FnScope nLNear ["_law_web_here"] (defScope lNear) := ⟨rfl, rfl, rfl, by decide +kernel, rfl, by decide +kernel, by decide +kernel⟩
theorem ok_lNear {f : Addr} {fd : FuncData} (F : Fun K "_law_near" "_law_near" lNear f fd) : FnOk P w0 K mg base CX0 1 f fd ["_law_web_here"] spLNear := by
  refine F.ok scLNear (fun vs H Q E h => ?_) (fun cdv A outer s H vs Q E hr h => ?_)
  · obtain ⟨w, n, L, rfl, _⟩ := h
    rfl
  · obtain ⟨w, n, L, rfl, G, n2, hB, k⟩ := h
    refine ⟨_, pss_cons (ps_set (i := 1) scLNear.nd rfl (.inl rfl) (pe_op op_rep (pe_lst (pa_cons pe_int pa_nil)) (pe_ix ix_tup (pv 0) pe_int (fun _ _ => rfl))))
      <| pss_cons (ps_for PassesOwn.never rfl (pi_tup (pe_ix ix_tup (pv 0) pe_int (fun _ _ => rfl))) (pg_tup rfl (pgs_cons (pg_name (i := 2) scLNear.nd rfl (.inl rfl)) (pgs_cons (pg_name (i := 3) scLNear.nd rfl (.inl rfl)) pgs_nil)))
          (pss_cons (ps_asg (pe_op op_orN (pe_ix ix_list (pv 1) (pv 2) (fun _ _ => rfl)) (pe_op op_oneN pe_int (pv 3))) (pg_sub (pv 1) (pv 2) set_list)) <| pss_one (ps_asg (pe_op op_orN (pe_ix ix_list (pv 1) (pv 3) (fun _ _ => rfl)) (pe_op op_oneN pe_int (pv 2))) (pg_sub (pv 1) (pv 3) set_list))))
      <| pss_one (ps_ret (pv 1)), ?_⟩
    obtain ⟨ta, vs, e1, e2, e3⟩ := G.ex
    refine ⟨by show 1 ≤ sizeLine; decide, fun l0 hl0 => ?_⟩
    have s0 : Same H (upd H l0 (.lst [.int 0])) := same_new hl0
    refine ⟨_, rfl, w, _, _, _, rfl, rfl, SqT.of (s0 _ _ e1), atI_nat (j := 0) rfl, l0, (n : Int), [.int 0], rfl, rfl, upd_same, by omega, by omega, by simp [sizeLine_eq]; omega, fun p hp => ?_⟩
    have hpH : H p = none := s0.free hp
    have s1 : Same H (upd (upd H l0 (.lst [.int 0])) p (.lst (List.replicate (n : Int).toNat [V.int 0]).flatten)) := s0.trans (same_new hp)
    refine ⟨_, rfl, w, _, _, _, rfl, rfl, SqT.of (s1 _ _ e1), atI_nat (j := 1) rfl, ta, rfl, ⟨_, SqT.of (s1 _ _ e2)⟩, ?_⟩
    refine for_tup (K := K) (a := ta) (xs := vs) (fun i σ M => ∃ (ms : List Nat) (o2 o3 : Option V), σ = [some (.ref w), some (.ref p), o2, o3] ∧ M p = some (.lst (ms.map natV)) ∧ Near (L.take i) n ms ∧ Same H M)
      ⟨List.replicate n 0, none, none, rfl, by rw [upd_same, Int.toNat_natCast, flat_zeros], near_nil n, s1⟩ (fun i σ M _ ⟨_, _, _, _, _, _, s⟩ => SqT.of (s _ _ e2)) ?_ ?_
    · rintro i x σ M hx ⟨ms, o2, o3, rfl, f1, f2, f3⟩
      obtain ⟨b, q, rfl, hq, hb⟩ := e3.get hx
      have bq := hB q (List.mem_of_getElem? hq)
      obtain ⟨q1, q2⟩ := q
      obtain ⟨a1, rfl⟩ : ∃ a1 : Nat, q1 = a1 := ⟨q1.toNat, by have := bq.1; dsimp only at this; omega⟩
      obtain ⟨a2, rfl⟩ : ∃ a2 : Nat, q2 = a2 := ⟨q2.toNat, by have := bq.1; have := bq.2.1; dsimp only at *; omega⟩
      dsimp only at bq
      have lt : a1 < a2 := by omega
      have l2 : a2 < n := by omega
      have len := f2.len
      have ts := take_snoc hq
      have g1 : ∀ x : Nat, (upd M p (.lst ((ms.map natV).set a1 (.int (x : Int))))) p = some (.lst ((ms.set a1 x).map natV)) := fun x => by rw [upd_same, nat_set']
      refine ⟨b, _, rfl, SqT.of (f3 _ _ hb), rfl, _, _, rfl, _, _, rfl, rfl, ?_⟩
      refine ⟨_, rfl, _, rfl, p, _, _, _, rfl, rfl, SqL.of f1, atI_nat (nat_get (by omega)), _, rfl, a2, rfl, rfl, by omega, _, _, rfl, rfl, ?_⟩
      refine ⟨_, rfl, _, rfl, p, _, _, a1, rfl, rfl, f1, ixN_n (by rw [List.length_map]; omega), ?_⟩
      refine ⟨_, rfl, _, rfl, p, (ms.set a1 (ms.getD a1 0 ||| 2 ^ a2)).map natV, _, _, rfl, rfl, SqL.of (g1 _), atI_nat (nat_get (by rw [List.length_set]; omega)), _, rfl, a1, rfl, rfl, by omega, _, _, rfl, rfl, ?_⟩
      refine ⟨_, rfl, _, rfl, p, (ms.set a1 (ms.getD a1 0 ||| 2 ^ a2)).map natV, _, a2, rfl, rfl, g1 _, ixN_n (by rw [List.length_map, List.length_set]; omega), ?_⟩
      refine ⟨_, _, _, rfl, by rw [upd_same]; exact congrArg (fun z => some (HO.lst z)) (nat_set ..), by rw [ts]; exact near_snoc f2 lt l2, set_same hpH (set_same hpH f3)⟩
    · rintro σ M ⟨ms, o2, o3, rfl, f1, f2, f3⟩
      rw [e3.len, List.take_length] at f2
      exact ⟨_, rfl, k p ms M f3 hpH f1 f2⟩
def spLCan : Sp := fun vs H Q _ => ∃ (l : Addr) (m n : Nat) (ms : List Nat), vs = [.ref l, .int (m : Int)] ∧ H l = some (.lst (ms.map natV)) ∧ ms.length = n ∧ n ≤ 12 ∧ m < 2 ^ n ∧ ∀ (b : Bool) (H' : Hp), Same H H' → Q (.bl b) H'
abbrev nLCan : List Str := ["_law_near_here", "_law_left", "_law_layer", "_law_turn", "_law_found", "_law_mask", "_law_low", "_law_rest", "_law_at"]
theorem scLCan : FnScope nLCan ["_law_near_here", "_law_left"] (defScope lCan) := ⟨rfl, rfl, rfl, by decide +kernel, rfl, by decide +kernel, by decide +kernel⟩
theorem ok_lCan {f : Addr} {fd : FuncData} (F : Fun K "_law_can" "_law_can" lCan f fd) (T : Bj mg) : FnOk P w0 K mg base CX0 1 f fd ["_law_near_here", "_law_left"] spLCan := by
  refine F.ok scLCan (fun vs H Q E h => ?_) (fun cdv A outer s H vs Q E hr h => ?_)
  · obtain ⟨l, m, n, ms, rfl, _⟩ := h
    rfl
  · obtain ⟨l, m, n, ms, rfl, hl, len, n2, hm, k⟩ := h
    have hu := hu_of hr
    refine ⟨_, pss_cons (ps_set (i := 2) scLCan.nd rfl (.inl rfl) (pe_disp (pps_cons (pv 1) pe_bl pps_nil) rfl rfl (fun z => nomatch z) (by decide)))
      <| pss_cons (ps_for PassesOwn.never rfl (pi_range1 (by rfl) T.range (pa_cons pe_int pa_nil)) (pg_name (i := 3) scLCan.nd rfl (.inl rfl))
          (pss_cons (ps_set (i := 4) scLCan.nd rfl (.inl rfl) pe_dnewK)
          <| pss_cons (ps_lock (ps_for PassesOwn.never rfl (pi_keys (pv 2)) (pg_name (i := 5) scLCan.nd rfl (.inl rfl))
              (pss_cons (ps_set (i := 6) scLCan.nd rfl (.inl rfl) (pe_op op_and (pv 5) (pe_un un_neg (pv 5))))
              <| pss_cons (ps_set (i := 7) scLCan.nd rfl (.inl rfl) (pe_ifExp (pt_cmpR op_gt (pv 5) pe_int (nomark _)) (pe_op op_andN (pe_ix ix_list (pv 0) (pe_op op_sub (pe_bits (pv 6)) pe_int) (fun _ _ => rfl)) (pe_op op_xorN (pv 5) (pv 6))) pe_int))
              <| pss_cons (ps_if (pt_cmpR op_eq (pv 5) pe_int (nomark _)) (pss_one (ps_ret pe_bl)) pss_nil)
              <| pss_one (ps_for PassesOwn.never rfl (pi_range1 (by rfl) T.range (pa_cons pe_int pa_nil)) (pg_name (i := 8) scLCan.nd rfl (.inl rfl))
                  (pss_one (ps_if (pt_cmpR op_eq (pe_op op_odd (pe_op op_shrN (pv 7) (pv 8)) pe_int) pe_int (nomark _))
                    (pss_one (ps_dput hu (pv 4) (pe_op op_xorN (pe_op op_xorN (pv 5) (pv 6)) (pe_op op_oneN pe_int (pv 8))) pe_bl rfl)) pss_nil))))))
          <| pss_one (ps_set (i := 2) scLCan.nd rfl (.inl rfl) (pv 4))))
      <| pss_one (ps_ret (pe_cmp (pc_din hu pe_int (pv 2)))), ?_⟩
    intro d0 hd0
    refine ⟨_, rfl, upd_same, [(Sum.inl (m : Int), V.bl true)], rfl, by show 1 ≤ 15; decide, ?_⟩
    rw [upd_upd]
    refine ⟨6, rfl, by decide, by decide, ?_⟩
    refine for_range (lo := 0) (n := (6 : Int).toNat) (fun i σ M => ∃ (d : Addr) (kvs : List (Key × V)) (o3 o4 o5 o6 o7 o8 : Option V), σ = [some (.ref l), some (.int (m : Int)), some (.ref d), o3, o4, o5, o6, o7, o8] ∧ M d = some (.dK kvs) ∧ KyOk n kvs ∧ Same H M ∧ H d = none)
      ⟨d0, _, none, none, none, none, none, none, rfl, upd_same, ⟨by simp [mergeK, putK], fun p hp => ?_⟩, same_new hd0, hd0⟩ ?_ ?_
    · have e : p = (Sum.inl (m : Int), V.bl true) := by simpa [mergeK, putK] using hp
      rw [e]
      exact ⟨m, rfl, hm⟩
    · rintro i σ M hi ⟨d, kvs, o3, o4, o5, o6, o7, o8, rfl, g1, g2, g3, g4⟩
      intro f hf
      have sf := same_new (o := .dK []) hf
      have hfH := g3.free hf
      have nfd : d ≠ f := ne_of_none g1 hf
      refine ⟨d, _, sf _ _ g1, trivial, fun od => ?_⟩
      refine ⟨_, rfl, d, od, rfl, .inl ⟨kvs, upd_same, ?_⟩⟩
      refine for_it walk_keys (fun j σ M2 => ∃ (fvs : List (Key × V)) (o3 o5 o6 o7 o8 : Option V), σ = [some (.ref l), some (.int (m : Int)), some (.ref d), o3, some (.ref f), o5, o6, o7, o8] ∧ M2 d = some (.frz od (.dK kvs)) ∧ M2 f = some (.dK fvs) ∧ KyOk n fvs ∧ Same H M2)
        ⟨[], _, _, _, _, _, rfl, upd_same, by rw [upd_ne nfd.symm]; exact upd_same, ⟨by simp, by simp⟩, set_same g4 (g3.trans sf)⟩ (fun j σ M2 _ ⟨_, _, _, _, _, _, _, e, _⟩ => e) ?_ ?_
      · rintro j x σ M2 M3 hj ⟨fvs, o3, o5, o6, o7, o8, rfl, f1, f2, f3, f4⟩ ⟨rfl, key, v, hk, rfl⟩
        obtain ⟨mm, ek, hmm⟩ := g2.ok _ (List.mem_of_getElem? hk)
        dsimp only at ek
        subst ek
        have m12 : mm < 2 ^ 12 := Nat.lt_of_lt_of_le hmm (Nat.pow_le_pow_right (by decide) n2)
        refine ⟨_, rfl, _, rfl, _, rfl, _, _, rfl, rfl, ?_⟩
        by_cases z : mm = 0
        · subst z
          refine ⟨_, rfl, _, _, rfl, rfl, _, rfl, ?_⟩
          rw [show decide (((0 : Nat) : Int) > 0) = false by decide]
          refine iteF ⟨_, rfl, rfl, _, rfl, iteT ⟨f1, k true _ (set_same g4 f4)⟩⟩
        obtain ⟨r, r1, r2, r3, r4, _⟩ := low_at m12 z
        have rn : ∀ {b : Nat}, mm.testBit b = true → b < n := fun {b} hb => by
          rcases Nat.lt_or_ge b n with q | q
          · exact q
          · have : mm.testBit b = false := Nat.testBit_lt_two_pow (Nat.lt_of_lt_of_le hmm (Nat.pow_le_pow_right (by decide) q))
            rw [hb] at this
            cases this
        show gName 6 (V.int (Builtin.bitAnd (mm : Int) (-(mm : Int)))) _ _ _
        rw [r1]
        refine ⟨_, rfl, _, _, rfl, rfl, _, rfl, ?_⟩
        rw [show decide (((mm : Nat) : Int) > 0) = true from decide_eq_true (by omega)]
        refine iteT ⟨_, rfl, _, rfl, _, rfl, _, _, rfl, rfl, l, ms.map natV, _, natV (ms.getD r 0), rfl, rfl, SqL.of (f4 _ _ hl), (by rw [bits_pow r4]; exact atI_nat (nat_get (by have := rn r2; omega))), ?_⟩
        refine ⟨_, rfl, _, rfl, mm, 2 ^ r, rfl, rfl, ms.getD r 0, mm ^^^ 2 ^ r, rfl, rfl, ?_⟩
        refine ⟨_, rfl, rfl, _, rfl, ?_⟩
        refine iteF' (decide_eq_false fun (q : V.int (mm : Int) = V.int 0) => z (by injection q; omega)) ⟨12, rfl, by decide, by decide, ?_⟩
        refine for_range (lo := 0) (n := (12 : Int).toNat) (fun t σ M2 => ∃ (fvs : List (Key × V)) (o8 : Option V), σ = [some (.ref l), some (.int (m : Int)), some (.ref d), o3, some (.ref f), some (.int (mm : Int)), some (.int ((2 ^ r : Nat) : Int)), some (.int ((ms.getD r 0 &&& (mm ^^^ 2 ^ r) : Nat) : Int)), o8] ∧ M2 d = some (.frz od (.dK kvs)) ∧ M2 f = some (.dK fvs) ∧ KyOk n fvs ∧ Same H M2)
          ⟨fvs, _, rfl, f1, f2, f3, f4⟩ ?_ ?_
        · rintro t σ M3 ht ⟨fvs, o8, rfl, h1, h2, h3, h4⟩
          refine ⟨_, rfl, _, rfl, ((ms.getD r 0 &&& (mm ^^^ 2 ^ r) : Nat) : Int), t, rfl, by rw [Int.zero_add], (ms.getD r 0 &&& (mm ^^^ 2 ^ r)) / 2 ^ t, by rw [Int.natCast_ediv, Int.natCast_pow] <;> rfl, rfl, rfl, _, rfl, ?_⟩
          by_cases hb : (ms.getD r 0 &&& (mm ^^^ 2 ^ r)) / 2 ^ t % 2 = 1
          · rw [show decide (V.int (((ms.getD r 0 &&& (mm ^^^ 2 ^ r)) / 2 ^ t % 2 : Nat) : Int) = V.int 1) = true by rw [hb]; exact decide_eq_true rfl]
            have tb : (ms.getD r 0 &&& (mm ^^^ 2 ^ r)).testBit t = true := by rw [Nat.testBit_eq_decide_div_mod_eq, decide_eq_true_eq]; exact hb
            rw [Nat.testBit_and, Bool.and_eq_true, xor_bit r2] at tb
            have offn : mm ^^^ 2 ^ r ^^^ 2 ^ t < 2 ^ n := Nat.xor_lt_two_pow (Nat.xor_lt_two_pow hmm (Nat.pow_lt_pow_right (by decide) (rn r2))) (Nat.pow_lt_pow_right (by decide) (rn tb.2.1))
            refine iteT ⟨_, rfl, _, rfl, _, rfl, mm, 2 ^ r, rfl, rfl, _, rfl, t, rfl, by rw [Int.zero_add], by have : t < 12 := ht; omega, mm ^^^ 2 ^ r, 2 ^ t, rfl, rfl, f, _, rfl, DPut.k (k := Sum.inl ((mm ^^^ 2 ^ r ^^^ 2 ^ t : Nat) : Int)) h2 (by have := h3.len n2; rw [sizeLine_eq]; omega), ?_⟩
            exact ⟨_, _, rfl, by rw [upd_ne nfd]; exact h1, upd_same, h3.put offn, set_same hfH h4⟩
          · rw [show decide (V.int (((ms.getD r 0 &&& (mm ^^^ 2 ^ r)) / 2 ^ t % 2 : Nat) : Int) = V.int 1) = false from decide_eq_false (fun q => hb (by injection q; omega))]
            exact iteF ⟨_, _, rfl, h1, h2, h3, h4⟩
        · rintro σ M3 ⟨fvs, o8, rfl, h1, h2, h3, h4⟩
          exact ⟨fvs, _, _, _, _, _, rfl, h1, h2, h3, h4⟩
      · rintro σ M2 ⟨fvs, o3, o5, o6, o7, o8, rfl, f1, f2, f3, f4⟩
        exact ⟨f1, _, rfl, f, fvs, _, _, _, _, _, _, rfl, by rw [upd_ne nfd.symm]; exact f2, f3, set_same g4 f4, hfH⟩
    · rintro σ M ⟨d, kvs, o3, o4, o5, o6, o7, o8, rfl, g1, g2, g3, g4⟩
      exact ⟨_, rfl, d, _, rfl, DGet.k (k := Sum.inl 0) g1, k _ _ g3⟩
end
end K0

set_option Elab.async false
set_option linter.all false
set_option maxRecDepth 100000
set_option maxHeartbeats 8000000
/-! The law's own pairings. -/
namespace K0
open PySem PySem.Spec L2
open PyProof.Rows hiding St
open KR (TupX tobj)
abbrev lPairings : Stmt := top 36
def allK : Nat → Bool := fun _ => true
/-- the layers of the law -/
def lyN (L : List (Int × Int)) (n : Nat) : Nat → List Row
  | 0 => [([], 2 ^ n - 1)]
  | i + 1 => stepL L allK (lyN L n i)
theorem lyN_c {L : List (Int × Int)} {n : Nat} (hB : BelP L) (hn : n ≤ 12) : ∀ {i : Nat}, 2 * i ≤ n → LyC (lyN L n i) (n - 2 * i)
  | 0, _ => fun q hq => by
    rw [List.mem_singleton.mp hq]
    exact ⟨full_lt hn, cnt_full hn⟩
  | i + 1, h => by
    have := lyN_c (i := i) hB hn (by omega)
    rw [show n - 2 * i = (n - 2 * (i + 1)) + 2 by omega] at this
    exact this.step hB
theorem lyN_len (L : List (Int × Int)) (n : Nat) : ∀ {i : Nat} {q : Row}, q ∈ lyN L n i → q.1.length = i
  | 0, q, h => by rw [List.mem_singleton.mp h]; rfl
  | i + 1, q, h => by
    obtain ⟨r, hr, hz⟩ := List.mem_flatMap.mp h
    obtain ⟨s, hs, rfl⟩ := List.mem_map.mp hz
    show (r.1 ++ [s.1]).length = _
    rw [List.length_append, lyN_len L n hr]
    rfl
theorem lyN_ne {L : List (Int × Int)} {n i : Nat} (hB : BelP L) (hn : n ≤ 12) (h : 2 * i < n) : ∀ q ∈ lyN L n i, q.2 < 2 ^ 12 ∧ q.2 ≠ 0 := fun q hq => by
  obtain ⟨a, b⟩ := lyN_c hB hn (by omega : 2 * i ≤ n) q hq
  exact ⟨a, fun z => by have := (cnt_zero a).mpr z; omega⟩
theorem lyN_pot {L : List (Int × Int)} {n : Nat} (hB : BelP L) (hn : n ≤ 12) : ∀ {i : Nat}, 2 * i < n + 2 → pot L (lyN L n i) ≤ 2 ^ L.length
  | 0, _ => by
    unfold pot
    have := Nat.pow_le_pow_right (n := 2) (by decide) (wid_le L (2 ^ n - 1))
    simpa [lyN] using this
  | i + 1, h => Nat.le_trans (pot_step hB (lyN_ne hB hn (by omega))) (lyN_pot hB hn (by omega))
theorem lyN_comp {L : List (Int × Int)} {n : Nat} : ∀ {i t : Nat}, comp L t (lyN L n i) = pmN L (t + i) (2 ^ n - 1)
  | 0, t => by unfold comp; simp [lyN]
  | i + 1, t => by
    show comp L t (stepL L allK (lyN L n i)) = _
    rw [comp_step (fun r _ s _ e => by unfold allK at e; cases e), lyN_comp, show t + 1 + i = t + (i + 1) by omega]
theorem lyN_end {L : List (Int × Int)} {n : Nat} (hB : BelP L) (hn : n ≤ 12) : (lyN L n (n / 2 + n % 2)).map (·.1) = dueN L n := by
  unfold dueN
  by_cases e : n % 2 = 0
  · rw [if_pos e, e, Nat.add_zero, ← comp_zero L, lyN_comp, Nat.zero_add]
  · rw [if_neg e, show n / 2 + n % 2 = n / 2 + 1 by omega]
    have c := lyN_c (i := n / 2) hB hn (by omega)
    have : stepL L allK (lyN L n (n / 2)) = [] := by
      unfold stepL
      rw [List.flatMap_eq_nil_iff]
      intro r hr
      obtain ⟨a, b⟩ := c r hr
      rw [steps_one hB a (by omega)]
      rfl
    show (stepL L allK (lyN L n (n / 2))).map _ = _
    rw [this]
    rfl
theorem stepL_snocT (L : List (Int × Int)) (ly : List Row) (r : Row) : stepL L allK (ly ++ [r]) = stepL L allK ly ++ (stepsN L r.2).map fun s => (r.1 ++ [s.1], s.2) := by
  rw [stepL_snoc]
  congr 2
  rw [List.filter_eq_self]
  intro s _
  rfl
theorem or_xor {a b : Nat} (ne : a ≠ b) : 2 ^ a ||| 2 ^ b = 2 ^ a ^^^ 2 ^ b := by
  apply Nat.eq_of_testBit_eq
  intro i
  rw [Nat.testBit_or, Nat.testBit_xor, Nat.testBit_two_pow, Nat.testBit_two_pow]
  by_cases h1 : a = i
  · have h2 : ¬ b = i := fun z => ne (h1.trans z.symm)
    simp [h1, h2]
  · simp [h1]
theorem both_off {m a b : Nat} (ne : a ≠ b) : m ^^^ (2 ^ a ||| 2 ^ b) = off m a b := by
  rw [or_xor ne, ← Nat.xor_assoc]
  rfl
/-- both ends stand in m, one of them is the lowest -/
theorem both_good {m a b r : Nat} (lt : a < b) (hr : m.testBit r = true) (hl : ∀ i, m.testBit i = true → r ≤ i) : ((2 ^ a ||| 2 ^ b) &&& 2 ^ r ≠ 0 ∧ (2 ^ a ||| 2 ^ b) &&& m = 2 ^ a ||| 2 ^ b) ↔ (a = r ∧ m.testBit b = true) := by
  have bt : ∀ i, (2 ^ a ||| 2 ^ b).testBit i = true ↔ a = i ∨ b = i := fun i => by
    rw [Nat.testBit_or, Nat.testBit_two_pow, Nat.testBit_two_pow]
    simp
  constructor
  · rintro ⟨h1, h2⟩
    have inm : ∀ i, a = i ∨ b = i → m.testBit i = true := fun i hi => by
      have := (bt i).mpr hi
      rw [← h2, Nat.testBit_and, Bool.and_eq_true] at this
      exact this.2
    obtain ⟨i, hi⟩ := Nat.exists_testBit_of_ne_zero h1
    rw [Nat.testBit_and, Bool.and_eq_true, bt, Nat.testBit_two_pow, decide_eq_true_eq] at hi
    obtain ⟨h3, rfl⟩ := hi
    have := hl a (inm a (.inl rfl))
    rcases h3 with h3 | h3
    · exact ⟨h3, inm b (.inr rfl)⟩
    · omega
  · rintro ⟨rfl, h2⟩
    refine ⟨fun z => ?_, ?_⟩
    · have : ((2 ^ a ||| 2 ^ b) &&& 2 ^ a).testBit a = true := by
        rw [Nat.testBit_and, Bool.and_eq_true, bt, Nat.testBit_two_pow]
        simp
      rw [z, Nat.zero_testBit] at this
      cases this
    · apply Nat.eq_of_testBit_eq
      intro i
      rw [Nat.testBit_and]
      cases q : (2 ^ a ||| 2 ^ b).testBit i with
      | false => rfl
      | true =>
        rcases (bt i).mp q with rfl | rfl
        · rw [hr]; rfl
        · rw [h2]; rfl
theorem lexN_Lt : ∀ {x y : List Nat}, lexN x y = true → HT.lexLt (x.map fun (i : Nat) => (i : Int)) (y.map fun (i : Nat) => (i : Int)) = true
  | _, [], h => by cases ‹List Nat› <;> cases h
  | [], _ :: _, _ => rfl
  | a :: x, b :: y, h => by
    unfold lexN at h
    rw [Bool.or_eq_true, Bool.and_eq_true, decide_eq_true_eq, decide_eq_true_eq] at h
    show (if (a : Int) = b then HT.lexLt (x.map fun (i : Nat) => (i : Int)) (y.map fun (i : Nat) => (i : Int)) else decide ((a : Int) < b)) = true
    rcases h with h | ⟨rfl, h⟩
    · rw [if_neg (by omega), decide_eq_true (by omega)]
    · rw [if_pos rfl, lexN_Lt h]
/-- what stands in order already is left as it stands -/
theorem srtV_uniq {k : V → List Int} : ∀ {xs ys : List V}, xs.Pairwise (fun x y => HT.lexLt (k x) (k y) = true) → ys.Pairwise (fun x y => HT.lexLt (k y) (k x) = false) → ys.Perm xs → ys = xs
  | [], ys, _, _, p => p.symm.nil_eq.symm
  | x :: xs, [], _, _, p => absurd p.nil_eq (by simp)
  | x :: xs, y :: ys, hx, hy, p => by
    obtain ⟨a1, a2⟩ := List.pairwise_cons.mp hx
    obtain ⟨b1, b2⟩ := List.pairwise_cons.mp hy
    have e : y = x := by
      rcases List.mem_cons.mp (p.mem_iff.mp (List.mem_cons_self ..) : y ∈ x :: xs) with z | z
      · exact z
      rcases List.mem_cons.mp (p.mem_iff.mpr (List.mem_cons_self ..) : x ∈ y :: ys) with w | w
      · exact w.symm
      have q1 := a1 y z
      have q2 := b1 x w
      rw [q1] at q2
      cases q2
    subst e
    rw [srtV_uniq a2 b2 (List.Perm.cons_inv p)]
theorem AtL.pair {α : Type} {R : V → α → Prop} {r : α → α → Prop} {s : V → V → Prop} {vs : List V} {xs : List α} (h : AtL R vs xs) (p : xs.Pairwise r) (m : ∀ v w x y, x ∈ xs → y ∈ xs → R v x → R w y → r x y → s v w) : vs.Pairwise s := by
  induction h with
  | nil => exact .nil
  | @cons v x vs xs h t ih =>
    obtain ⟨p1, p2⟩ := List.pairwise_cons.mp p
    refine List.pairwise_cons.mpr ⟨fun w hw => ?_, ih p2 fun v w x y hx hy => m v w x y (List.mem_cons_of_mem _ hx) (List.mem_cons_of_mem _ hy)⟩
    obtain ⟨i, hi, rfl⟩ := List.getElem_of_mem hw
    obtain ⟨y, hy, ry⟩ := t.get (List.getElem?_eq_getElem hi)
    exact m _ _ x y (List.mem_cons_self ..) (List.mem_cons_of_mem _ (List.mem_of_getElem? hy)) h ry (p1 y (List.mem_of_getElem? hy))
theorem AtL.mem {α : Type} {R : V → α → Prop} {vs : List V} {xs : List α} (h : AtL R vs xs) {v : V} (hv : v ∈ vs) : ∃ x ∈ xs, R v x := by
  obtain ⟨i, hi, rfl⟩ := List.getElem_of_mem hv
  obtain ⟨y, hy, ry⟩ := h.get (List.getElem?_eq_getElem hi)
  exact ⟨y, List.mem_of_getElem? hy, ry⟩
end K0

set_option Elab.async false
set_option linter.all false
set_option maxRecDepth 100000
set_option maxHeartbeats 8000000
/-! The law's own pairings: the def. -/
namespace K0
open PySem PySem.Spec L2
open PyProof.Rows hiding St
open KR (TupX tobj)
theorem iteT' {b : Bool} {p q : Prop} (e : b = true) (h : p) : if b = true then p else q := by
  rw [e]
  exact h
/-- tuple(x) -/
def rTupOf (K : PySem.W.Frag) : List V → Hp → VK → Prop := fun xs H Q => ∃ p ys, xs = [.ref p] ∧ ((SqL K H p ys ∧ ∀ l, H l = none → Q (.ref l) (upd H l (.tup ys))) ∨ (SqT K H p ys ∧ Q (.ref p) H))
section
variable {P : Program} {w0 : World} {K : PySem.W.Frag} {mg : Str → Option Value} {base : Heap}
def spLPrs : Sp := fun vs H Q _ => ∃ (w : Addr) (n : Nat) (L : List (Int × Int)), vs = [.ref w] ∧ GW H w n L ∧ L.length ≤ 20 ∧ ∀ (t : Addr) (us : List V) (H' : Hp), Same H H' → H t = none → H' t = some (.lst us) → AtL (NsV H') us (dueN L n) → Q (.ref t) H'
abbrev nLPrs : List Str := ["_law_web_here", "_law_n", "_law_ties", "_law_layer", "_law_turn", "_law_found", "_law_numbers", "_law_left", "_law_low", "_law_at", "_law_tie", "_law_both"]
theorem scLPrs : FnScope nLPrs ["_law_web_here"] (defScope lPairings) := ⟨rfl, rfl, rfl, by decide +kernel, rfl, by decide +kernel, by decide +kernel⟩
theorem ok_lPrs {f : Addr} {fd : FuncData} (F : Fun K "_law_pairings" "_law_pairings" lPairings f fd) (T : Bk mg) : FnOk P w0 K mg base CX0 1 f fd ["_law_web_here"] spLPrs := by
  refine F.ok scLPrs (fun vs H Q E h => ?_) (fun cdv A outer s H vs Q E hr h => ?_)
  · obtain ⟨w, n, L, rfl, _⟩ := h
    rfl
  · obtain ⟨w, n, L, rfl, G, l20, k⟩ := h
    refine ⟨_, pss_cons (ps_asg (pv 0) (pg_tup rfl (pgs_cons (pg_name (i := 1) scLPrs.nd rfl (.inl rfl)) (pgs_cons (pg_name (i := 2) scLPrs.nd rfl (.inl rfl)) pgs_nil))))
      <| pss_cons (ps_set (i := 3) scLPrs.nd rfl (.inl rfl) (pe_lst (pa_cons (pe_tup (pa_cons (pe_tup pa_nil) (pa_cons (pe_op op_sub (pe_op op_oneShl pe_int (pv 1)) pe_int) pa_nil))) pa_nil)))
      <| pss_cons (ps_for PassesOwn.never rfl (pi_range1 (by rfl) T.range (pa_cons (pe_op op_add (pe_op op_fdivNN (pv 1) pe_int) (pe_op op_mod (pv 1) pe_int)) pa_nil)) (pg_name (i := 4) scLPrs.nd rfl (.inl rfl))
          (pss_cons (ps_set (i := 5) scLPrs.nd rfl (.inl rfl) (pe_lst pa_nil))
          <| pss_cons (ps_for PassesOwn.never rfl (pi_list (pv 3)) (pg_tup rfl (pgs_cons (pg_name (i := 6) scLPrs.nd rfl (.inl rfl)) (pgs_cons (pg_name (i := 7) scLPrs.nd rfl (.inl rfl)) pgs_nil)))
              (pss_cons (ps_set (i := 8) scLPrs.nd rfl (.inl rfl) (pe_op op_low (pv 7) (pe_un un_neg (pv 7))))
              <| pss_one (ps_for PassesOwn.never rfl (KR.pi_enumT (by rfl) T.enu (pa_cons (pv 2) pa_nil)) (pg_tup rfl (pgs_cons (pg_name (i := 9) scLPrs.nd rfl (.inl rfl)) (pgs_cons (pg_name (i := 10) scLPrs.nd rfl (.inl rfl)) pgs_nil)))
                  (pss_cons (ps_set (i := 11) scLPrs.nd rfl (.inl rfl) (pe_op op_orN (pe_op op_oneN pe_int (pe_ix ix_tup (pv 10) pe_int (fun _ _ => rfl))) (pe_op op_oneN pe_int (pe_ix ix_tup (pv 10) pe_int (fun _ _ => rfl)))))
                  <| pss_one (ps_if (PW.pt (pw_and (pt_cmpR op_gt (pe_op op_andN (pv 11) (pv 8)) pe_int (nomark _)) (pw_and1 (pt_cmpR op_eq (pe_op op_andN (pv 11) (pv 7)) (pv 11) (nomark _)))))
                      (pss_one (ps_expr (pe_bm PySem.F.plainAttrs_list PySem.F.slot_list_append PySem.F.type_list_append mt_append (pv 5) (pa_cons (pe_tup (pa_cons (pe_op op_catX (pv 6) (pe_tup (pa_cons (pv 9) pa_nil))) (pa_cons (pe_op op_xorN (pv 7) (pv 11)) pa_nil))) pa_nil)))) pss_nil)))))
          <| pss_one (ps_set (i := 3) scLPrs.nd rfl (.inl rfl) (pv 5))))
      <| pss_one (ps_ret (pe_callB (show CallR _ (.builtin "sorted") (KR.rSortTL K) from KR.cr_sortTL) (by rfl) T.sorted (by decide +kernel) (pa_cons (pe_lc (own := [("_law_numbers", 6), ("_law_left", 7)]) (g := gTup K 2 (gCons (gName 6) (gCons (gName 7) gNil))) (tt := tYes) rfl scLPrs.nd (pi_list (pv 3))
          (blkOk_by (N := nLPrs) (sc := defScope lPairings) (by decide +kernel)) (fun _ _ _ _ _ => pg_tup rfl (pgs_cons (pg_name (i := 6) scLPrs.nd rfl (.inl rfl)) (pgs_cons (pg_name (i := 7) scLPrs.nd rfl (.inl rfl)) pgs_nil)))
          (fun _ _ _ _ _ => pts_nil) (fun _ _ _ _ _ => pe_callTy (show CallR _ (.type "tuple") (rTupOf K) from call_tuple_of) (by rfl) T.tuple (by decide +kernel) (pa_cons (pe_callB (show CallR _ (.builtin "sorted") (KR.rSortTI K) from KR.cr_sortTI) (by rfl) T.sorted (by decide +kernel) (pa_cons (pv 6) pa_nil)) pa_nil))) pa_nil))), ?_⟩
    obtain ⟨ta, vs, e1, e2, e3⟩ := G.web.ex
    have len := e3.len
    have n2 := G.n2
    have n1 := G.n1
    have hB := G.belP
    have hE := G.bel
    have z2 : 2 ≤ sizeLine := by rw [sizeLine_eq]; decide
    refine ⟨_, rfl, w, _, rfl, SqT.of e1, rfl, _, _, rfl, _, _, rfl, rfl, ?_⟩
    refine ⟨Nat.zero_le _, fun a0 ha0 => ⟨_, rfl, n, rfl, rfl, by omega, _, _, rfl, rfl, z2, fun a1 ha1 => ⟨by show 1 ≤ sizeLine; omega, fun l0 hl0 => ?_⟩⟩⟩
    have ee : (2 ^ n - 1 : Int) = ((2 ^ n - 1 : Nat) : Int) := by
      have := Nat.one_le_two_pow (n := n)
      rw [Int.natCast_sub this, Int.natCast_pow] <;> rfl
    have s0 := same_new (o := .tup []) ha0
    have s1 := same_new (o := .tup [.ref a0, .int ((2 : Int) ^ n - 1)]) ha1
    have s2 := same_new (o := .lst [.ref a1]) hl0
    have s012 := (s0.trans s1).trans s2
    refine ⟨_, rfl, n, 2, rfl, rfl, ⟨by decide, by decide⟩, _, rfl, _, _, rfl, rfl, (by decide : (0 : Int) < 2), _, _, rfl, rfl, _, rfl, by omega, by omega, ?_⟩
    have ej : (((n / 2 : Nat) : Int) + (n : Int) % 2).toNat = n / 2 + n % 2 := by omega
    rw [ej]
    have p20 : 2 ^ L.length ≤ 2 ^ 20 := Nat.pow_le_pow_right (by decide) l20
    refine for_range (lo := 0) (n := n / 2 + n % 2) (fun i σ M => ∃ (l : Addr) (us : List V) (o4 o5 o6 o7 o8 o9 o10 o11 : Option V), σ = [some (.ref w), some (.int (n : Int)), some (.ref ta), some (.ref l), o4, o5, o6, o7, o8, o9, o10, o11] ∧ M l = some (.lst us) ∧ AtL (RwV M) us (lyN L n i) ∧ Same H M ∧ H l = none)
      ⟨l0, [.ref a1], none, none, none, none, none, none, none, none, rfl, upd_same, .cons ⟨a1, a0, rfl, ?_, (s1.trans s2) _ _ upd_same⟩ .nil, s012, s0.free (s1.free hl0)⟩ ?_ ?_
    · rw [← ee]
      exact s2 _ _ upd_same
    · rintro i σ M hi ⟨l, us, o4, o5, o6, o7, o8, o9, o10, o11, rfl, g1, g2, g3, g4⟩
      have ne := lyN_ne (L := L) (i := i) hB n2 (by omega)
      have pot2 := lyN_pot (L := L) (i := i + 1) hB n2 (by omega)
      have ptl := pot_len L (lyN L n (i + 1))
      have qlen : ∀ {q : Row}, q ∈ lyN L n i → q.1.length = i := fun h => lyN_len L n h
      have elyn : lyN L n (i + 1) = stepL L allK (lyN L n i) := rfl
      rw [elyn] at ptl pot2
      refine ⟨Nat.zero_le _, fun f hf => ?_⟩
      have sf := same_new (o := .lst []) hf
      have hfH := g3.free hf
      have nfl : l ≠ f := ne_of_none g1 hf
      generalize lyN L n i = ly at g2 ne qlen ptl pot2 elyn
      refine ⟨_, rfl, l, rfl, ⟨_, SqL.of (sf _ _ g1)⟩, ?_⟩
      refine for_list (K := K) (a := l) (xs := us) (fun j σ M2 => ∃ (us2 : List V) (o6 o7 o8 o9 o10 o11 : Option V), σ = [some (.ref w), some (.int (n : Int)), some (.ref ta), some (.ref l), some (.int (0 + (i : Int))), some (.ref f), o6, o7, o8, o9, o10, o11] ∧ M2 f = some (.lst us2) ∧ AtL (RwV M2) us2 (stepL L allK (ly.take j)) ∧ M2 l = some (.lst us) ∧ KpT M M2 ∧ Same H M2)
        ⟨[], _, _, _, _, _, _, rfl, upd_same, .nil, sf _ _ g1, .same sf, g3.trans sf⟩ (fun j σ M2 _ ⟨_, _, _, _, _, _, _, _, _, _, e, _, _⟩ => SqL.of e) ?_ ?_
      · rintro j x σ M2 hx ⟨us2, o6, o7, o8, o9, o10, o11, rfl, f1, f2, f3, f4, f5⟩
        obtain ⟨q, hq, b, c, rfl, hb, hc⟩ := g2.get hx
        have ts : ly.take (j + 1) = ly.take j ++ [q] := by rw [List.take_succ, hq]; rfl
        have qm := List.mem_of_getElem? hq
        obtain ⟨q12, q0⟩ := ne q qm
        have ql := qlen qm
        have lens : (stepL L allK (ly.take (j + 1))).length ≤ 2 ^ 20 := by
          have := stepL_take_len (L := L) (keep := allK) (ly := ly) (j + 1)
          omega
        rw [ts, stepL_snocT, List.length_append, List.length_map] at lens
        refine ⟨b, _, rfl, SqT.of (f4 _ _ hb), rfl, _, _, rfl, _, _, rfl, rfl, _, rfl, _, rfl, _, rfl, q.2, rfl, rfl, q12, q0, fun r r1 r2 r3 _ => ?_⟩
        have er := low_N q12 q0 r1 r2
        refine ⟨_, rfl, ta, vs, rfl, SqT.of (f5 _ _ e2), ?_⟩
        refine for_it (KR.walk_enumT (xs := vs)) (fun t σ M3 => ∃ (us3 : List V) (o9 o10 o11 : Option V), σ = [some (.ref w), some (.int (n : Int)), some (.ref ta), some (.ref l), some (.int (0 + (i : Int))), some (.ref f), some (.ref c), some (.int (q.2 : Int)), some (.int ((2 ^ r : Nat) : Int)), o9, o10, o11] ∧ M3 f = some (.lst us3) ∧ AtL (RwV M3) us3 (stepL L allK (ly.take j) ++ (stepsI L q.2 t).map fun s => (q.1 ++ [s.1], s.2)) ∧ M3 l = some (.lst us) ∧ KpT M M3 ∧ Same H M3)
          ⟨us2, _, _, _, rfl, f1, by show AtL _ _ (stepL L allK (ly.take j) ++ []); rw [List.append_nil]; exact f2, f3, f4, f5⟩ (fun t σ M3 _ ⟨_, _, _, _, _, _, _, _, _, s⟩ => SqT.of (s _ _ e2)) ?_ ?_
        · rintro t x σ M3 N ht ⟨us3, o9, o10, o11, rfl, h1, h2, h3, h4, h5⟩ ⟨Tt, u, y, rfl, hT, rfl, e7, e8⟩
          cases e7
          have e8 : vs[t]? = some y := e8
          obtain ⟨b2, q2, rfl, hq2, hb2⟩ := e3.get e8
          have bq := hE q2 (List.mem_of_getElem? hq2)
          have tq : tie L t = q2 := tie_at hq2
          obtain ⟨qa, qb⟩ := q2
          obtain ⟨a1', rfl⟩ : ∃ a : Nat, qa = a := ⟨qa.toNat, by have := bq.1; dsimp only at this; omega⟩
          obtain ⟨a2', rfl⟩ : ∃ a : Nat, qb = a := ⟨qb.toNat, by have := bq.1; have := bq.2.1; dsimp only at *; omega⟩
          dsimp only at bq
          have lt : a1' < a2' := by omega
          have sT := same_new (H := M3) (o := .tup [.int (t : Nat), .ref b2]) hT
          have h1' := sT _ _ h1
          have h5' := h5.trans sT
          have h2' := h2.mono fun v x h => h.kp (KpT.same sT)
          have h3' := sT _ _ h3
          have h4' := h4.trans (KpT.same sT)
          have eT : (upd M3 Tt (.tup [.int (t : Nat), .ref b2])) Tt = some (.tup [.int (t : Nat), .ref b2]) := upd_same
          generalize upd M3 Tt (.tup [.int (t : Nat), .ref b2]) = M4 at eT h1' h2' h3' h4' h5' ⊢
          have hb4 := h5' _ _ hb2
          have ss := stepsI_succ L q.2 t
          have sl := stepsI_len L q.2 t
          refine ⟨Tt, _, rfl, SqT.of eT, rfl, _, _, rfl, _, _, rfl, rfl, ?_⟩
          refine ⟨_, rfl, b2, _, _, _, rfl, rfl, SqT.of hb4, atI_nat (j := 0) rfl, a1', rfl, rfl, by omega, _, rfl, b2, _, _, _, rfl, rfl, SqT.of hb4, atI_nat (j := 1) rfl, a2', rfl, rfl, by omega, _, _, rfl, rfl, ?_⟩
          refine ⟨_, rfl, _, rfl, 2 ^ a1' ||| 2 ^ a2', 2 ^ r, rfl, rfl, _, _, rfl, rfl, _, rfl, ?_⟩
          have bg := both_good (m := q.2) lt r1 r2
          have eg : good L q.2 t = true ↔ (a1' = r ∧ q.2.testBit a2' = true) := by
            unfold good
            rw [tq, ← er, Bool.and_eq_true, decide_eq_true_eq]
            show ((a1' : Int) = (r : Int) ∧ q.2.testBit ((a2' : Int)).toNat = true) ↔ _
            rw [Int.toNat_natCast]
            exact ⟨fun z => ⟨by omega, z.2⟩, fun z => ⟨by omega, z.2⟩⟩
          have skip : good L q.2 t = false → ∃ (us3 : List V) (o9 o10 o11 : Option V), [some (V.ref w), some (.int (n : Int)), some (.ref ta), some (.ref l), some (.int (0 + (i : Int))), some (.ref f), some (.ref c), some (.int (q.2 : Int)), some (.int ((2 ^ r : Nat) : Int)), some (.int (t : Nat)), some (.ref b2), some (.int ((2 ^ a1' ||| 2 ^ a2' : Nat) : Int))] = [some (.ref w), some (.int (n : Int)), some (.ref ta), some (.ref l), some (.int (0 + (i : Int))), some (.ref f), some (.ref c), some (.int (q.2 : Int)), some (.int ((2 ^ r : Nat) : Int)), o9, o10, o11] ∧ M4 f = some (.lst us3) ∧ AtL (RwV M4) us3 (stepL L allK (ly.take j) ++ (stepsI L q.2 (t + 1)).map fun s => (q.1 ++ [s.1], s.2)) ∧ M4 l = some (.lst us) ∧ KpT M M4 ∧ Same H M4 := fun hz => by
            rw [ss, hz, if_neg Bool.false_ne_true]
            exact ⟨us3, _, _, _, rfl, h1', h2', h3', h4', h5'⟩
          by_cases hp : (2 ^ a1' ||| 2 ^ a2') &&& 2 ^ r = 0
          · rw [show decide ((((2 ^ a1' ||| 2 ^ a2') &&& 2 ^ r : Nat) : Int) > 0) = false from decide_eq_false (by omega)]
            refine iteF (iteF (skip ?_))
            cases z : good L q.2 t with
            | false => rfl
            | true => exact absurd hp (bg.mpr (eg.mp z)).1
          rw [show decide ((((2 ^ a1' ||| 2 ^ a2') &&& 2 ^ r : Nat) : Int) > 0) = true from decide_eq_true (by omega)]
          refine iteT ⟨_, rfl, _, rfl, 2 ^ a1' ||| 2 ^ a2', q.2, rfl, rfl, _, rfl, rfl, _, rfl, ?_⟩
          by_cases he : (2 ^ a1' ||| 2 ^ a2') &&& q.2 = 2 ^ a1' ||| 2 ^ a2'
          rotate_left
          · refine iteF' (decide_eq_false fun (z : V.int (((2 ^ a1' ||| 2 ^ a2') &&& q.2 : Nat) : Int) = V.int ((2 ^ a1' ||| 2 ^ a2' : Nat) : Int)) => he (by injection z; omega)) (skip ?_)
            cases z : good L q.2 t with
            | false => rfl
            | true => exact absurd (bg.mpr (eg.mp z)).2 he
          have gt := eg.mpr (bg.mp ⟨hp, he⟩)
          have ga := (eg.mp gt).1
          have lt3 : stepsI L q.2 (t + 1) = stepsI L q.2 t ++ [(t, off q.2 (lowN q.2) a2')] := by
            rw [ss, if_pos gt, tq]
            show _ ++ [(t, off q.2 (lowN q.2) ((a2' : Int)).toNat)] = _
            rw [Int.toNat_natCast]
          have ul := h2'.len
          rw [List.length_append, List.length_map] at ul
          have tl : t < vs.length := (List.getElem?_eq_some_iff.mp e8).1
          refine iteT' (decide_eq_true (show V.int (((2 ^ a1' ||| 2 ^ a2') &&& q.2 : Nat) : Int) = V.int ((2 ^ a1' ||| 2 ^ a2' : Nat) : Int) by rw [he])) ⟨_, rfl, .inl ⟨rfl, _, SqL.of h1'⟩, _, rfl, _, rfl, by show 1 ≤ sizeLine; omega, fun u hu => ⟨c, u, q.1.map natV, [.int (t : Nat)], rfl, rfl, (same_new hu) _ _ (h4' _ _ hc), upd_same, by rw [List.length_map, sizeLine_eq]; show q.1.length + 1 ≤ _; omega, fun c2 N4 sN e4 => ⟨_, rfl, _, rfl, q.2, 2 ^ a1' ||| 2 ^ a2', rfl, rfl, z2, fun b3 hb3 => ?_⟩⟩⟩
          have s4 := (same_new (o := .tup [.int (t : Nat)]) hu).trans sN
          have s5 := s4.trans (same_new (o := .tup [.ref c2, .int ((q.2 ^^^ (2 ^ a1' ||| 2 ^ a2') : Nat) : Int)]) hb3)
          have w1 := s5 _ _ h1'
          have kp6 := (KpT.same s5).trans (KpT.upd (o' := .lst (us3 ++ [.ref b3])) w1 (fun _ z => nomatch z))
          have nb3 : b3 ≠ f := (ne_of_none (s4 _ _ h1') hb3).symm
          have nc2 : c2 ≠ f := fun z => by
            have := s4 _ _ h1'
            rw [← z, e4] at this
            cases this
          have nc3 : c2 ≠ b3 := ne_of_none e4 hb3
          refine ⟨f, us3, _, rfl, rfl, w1, by rw [sizeLine_eq]; omega, us3 ++ [.ref b3], _, _, _, rfl, upd_same, ?_, by rw [upd_ne nfl]; exact s5 _ _ h3', h4'.trans kp6, set_same hfH (h5'.trans s5)⟩
          rw [lt3, List.map_append, ← List.append_assoc]
          refine (h2'.mono fun v q z => z.kp kp6).snoc ⟨b3, c2, rfl, ?_, ?_⟩
          · rw [upd_ne nb3, upd_same, both_off (by omega), ga, er]
          · rw [upd_ne nc2, upd_ne nc3, e4, List.map_append]
            rfl
        · rintro σ M3 ⟨us3, o9, o10, o11, rfl, h1, h2, h3, h4, h5⟩
          refine ⟨us3, _, _, _, _, _, _, rfl, h1, ?_, h3, h4, h5⟩
          rw [ts, stepL_snocT]
          rw [len] at h2
          exact h2
      · rintro σ M2 ⟨us2, o6, o7, o8, o9, o10, o11, rfl, f1, f2, f3, f4, f5⟩
        rw [g2.len, List.take_length] at f2
        refine ⟨_, rfl, f, us2, _, _, _, _, _, _, _, _, rfl, f1, ?_, f5, hfH⟩
        rw [elyn]
        exact f2
    · rintro σ M ⟨l, us, o4, o5, o6, o7, o8, o9, o10, o11, rfl, g1, g2, g3, g4⟩
      have ed := lyN_end (L := L) (n := n) hB n2
      have ptl := pot_len L (lyN L n (n / 2 + n % 2))
      have pot2 := lyN_pot (L := L) (i := n / 2 + n % 2) hB n2 (by omega)
      have gs := G.srtP
      refine ⟨_, rfl, l, rfl, ⟨_, SqL.of g1⟩, fun Da hD => ?_⟩
      have hDH := g3.free hD
      refine lc_list (K := K) (a := l) (xs := us) (fun i N => ∃ ws, N Da = some (.lst ws) ∧ Same M N ∧ AtL (NsV N) ws ((dueN L n).take i)) ⟨[], upd_same, same_new hD, .nil⟩ (fun i N _ ⟨_, _, s, _⟩ => SqL.of (s _ _ g1)) ?_ ?_
      · rintro i x N hx ⟨ws, w1, w2, w3⟩
        obtain ⟨q, hq, b, c, rfl, hb, hc⟩ := g2.get hx
        have hd : (dueN L n)[i]? = some q.1 := by rw [← ed, List.getElem?_map, hq]; rfl
        have ts : (dueN L n).take (i + 1) = (dueN L n).take i ++ [q.1] := by rw [List.take_succ, hd]; rfl
        have asc := (due_asc hB gs n2 (List.mem_of_getElem? hd)).1
        have il : i < us.length := (List.getElem?_eq_some_iff.mp hx).1
        have wl := w3.len
        rw [List.length_take] at wl
        have ul := g2.len
        refine ⟨b, _, rfl, SqT.of (w2 _ _ hb), rfl, _, _, rfl, _, _, rfl, rfl, rfl, yes_tt (iteT ?_)⟩
        refine ⟨_, rfl, c, q.1.map fun (i : Nat) => (i : Int), rfl, by rw [← natV_ints]; exact SqT.of (w2 _ _ hc), fun ms p m1 m2 hp => ?_⟩
        have em : ms = q.1.map fun (i : Nat) => (i : Int) := le_uniq m2 (nats_le.mpr (asc.imp fun h => Nat.le_of_lt h)) m1
        subst em
        refine ⟨p, _, rfl, .inl ⟨SqL.of upd_same, fun t ht => ?_⟩⟩
        have s4 := (same_new (o := .lst ((q.1.map fun (i : Nat) => (i : Int)).map V.int)) hp).trans (same_new (o := .tup ((q.1.map fun (i : Nat) => (i : Int)).map V.int)) ht)
        have w1' := s4 _ _ w1
        have kp6 := (KpT.same s4).trans (KpT.upd (o' := .lst (ws ++ [.ref t])) w1' (fun _ z => nomatch z))
        refine ⟨ws, w1', by rw [sizeLine_eq]; omega, ws ++ [.ref t], upd_same, set_same hD (w2.trans s4), ?_⟩
        rw [ts]
        refine (w3.mono fun v q z => z.kp kp6).snoc ⟨t, rfl, ?_⟩
        rw [upd_ne (ne_of_none (show (upd N p (.lst ((q.1.map fun (i : Nat) => (i : Int)).map V.int))) Da = some (.lst ws) from (same_new hp) _ _ w1) ht).symm, upd_same, natV_ints]
      · rintro N ⟨ws, w1, w2, w3⟩
        have dl : (dueN L n).length = us.length := by rw [← ed, List.length_map, g2.len]
        rw [← dl, List.take_length] at w3
        have ne : ∀ c ∈ dueN L n, c ≠ [] := fun c hc z => by
          have := (due_asc hB gs n2 hc).2.2.2
          rw [z] at this
          unfold dueN at hc
          split at hc
          · have : n / 2 = 0 := by rw [← this]; rfl
            omega
          · cases hc
        refine ⟨Da, ws, kOf N, rfl, SqL.of w1, fun x hx => ?_, fun ys p y1 y2 hp => ?_⟩
        · obtain ⟨r, hr, t, rfl, ht⟩ := w3.mem hx
          rw [kOf_row ht]
          exact ⟨⟨t, rfl, by rw [← natV_ints]; exact SqT.of ht⟩, fun z => ne r hr (List.map_eq_nil_iff.mp z)⟩
        · have srt : ws.Pairwise fun x y => HT.lexLt (kOf N x) (kOf N y) = true := w3.pair (due_srt L n) fun v w x y _ _ hv hw h => by
            obtain ⟨t1, rfl, q1⟩ := hv
            obtain ⟨t2, rfl, q2⟩ := hw
            rw [kOf_row q1, kOf_row q2]
            exact lexN_Lt h
          have ey := srtV_uniq srt y2 y1
          subst ey
          have sp := same_new (o := .lst ys) hp
          exact k p ys _ (g3.trans (w2.trans sp)) (g3.free (w2.free hp)) upd_same (w3.mono fun v q z => z.kp (KpT.same sp))
end
end K0

set_option Elab.async false
set_option linter.all false
set_option maxRecDepth 100000
set_option maxHeartbeats 8000000
/-! The law's own: a web turned; a pairing told. -/
namespace K0
open PySem PySem.Spec L2
open PyProof.Rows hiding St
open KR (TupX tobj)
abbrev lTurned : Stmt := top 42
abbrev lIsPairing : Stmt := top 47
section
variable {P : Program} {w0 : World} {K : PySem.W.Frag} {mg : Str → Option Value} {base : Heap}
def spTurned : Sp := fun vs H Q _ => ∃ (w l : Addr) (n : Nat) (L : List (Int × Int)) (os : List Int), vs = [.ref w, .ref l] ∧ GW H w n L ∧ H l = some (.lst (os.map V.int)) ∧ IsOrd n os ∧ ∀ (w' : Addr) (L' : List (Int × Int)) (H' : Hp), Same H H' → H w' = none → GW H' w' n L' → L'.length = L.length → Q (.ref w') H'
abbrev nTurned : List Str := ["_law_web_here", "_law_order_here", "_law_one", "_law_other"]
theorem scTurned : FnScope nTurned ["_law_web_here", "_law_order_here"] (defScope lTurned) := ⟨rfl, rfl, rfl, by decide +kernel, rfl, by decide +kernel, by decide +kernel⟩
theorem ok_turned {f fP : Addr} {fd fdP : FuncData} (F : Fun K "_law_turned" "_law_turned" lTurned f fd) (T : Bj mg) (GP : Dn P w0 K mg base "_law_pair" 1 ["_law_one", "_law_other"] spPair fP fdP) : FnOk P w0 K mg base CX0 2 f fd ["_law_web_here", "_law_order_here"] spTurned := by
  refine F.ok scTurned (fun vs H Q E h => ?_) (fun cdv A outer s H vs Q E hr h => ?_)
  · obtain ⟨w, l, n, L, os, rfl, _⟩ := h
    rfl
  · obtain ⟨w, l, n, L, os, rfl, G, hl, ho, k⟩ := h
    refine ⟨_, pss_one (ps_ret (pe_tup (pa_cons (pe_ix ix_tup (pv 0) pe_int (fun _ _ => rfl)) (pa_cons (pe_callTy call_tuple_of (by rfl) T.tuple (by decide +kernel) (pa_cons (pe_callB (cr_sortT (d := 2) (B := 64) (by decide)) (by rfl) T.sorted (by decide +kernel)
        (pa_cons (pe_lc (own := [("_law_one", 2), ("_law_other", 3)]) (g := gTup K 2 (gCons (gName 2) (gCons (gName 3) gNil))) (tt := tYes) rfl scTurned.nd (pi_tup (pe_ix ix_tup (pv 0) pe_int (fun _ _ => rfl))) (blkOk_by (N := nTurned) (sc := defScope lTurned) (by decide +kernel))
              (fun _ _ _ _ _ => pg_tup rfl (pgs_cons (pg_name (i := 2) scTurned.nd rfl (.inl rfl) (.inr rfl)) (pgs_cons (pg_name (i := 3) scTurned.nd rfl (.inl rfl) (.inr rfl)) pgs_nil))) (fun _ _ _ _ _ => pts_nil)
              (fun _ _ _ _ _ => pe_call GP.ok hr rfl GP.g GP.kp GP.b .nil pass0 (pa_cons (pe_ix (show IxR _ (rIxL K) from ix_list) (pv 1) (pv 2) (fun _ _ => rfl)) (pa_cons (pe_ix (show IxR _ (rIxL K) from ix_list) (pv 1) (pv 3) (fun _ _ => rfl)) pa_nil)))) pa_nil)) pa_nil)) pa_nil)))), ?_⟩
    obtain ⟨ta, vs, e1, e2, e3⟩ := G.web.ex
    have len := e3.len
    have few := G.few
    have hB := G.bel
    refine ⟨_, rfl, w, _, _, _, rfl, rfl, SqT.of e1, atI_nat (j := 0) rfl, _, rfl, w, _, _, _, rfl, rfl, SqT.of e1, atI_nat (j := 1) rfl, ta, rfl, ⟨_, SqT.of e2⟩, fun Da hD => ?_⟩
    refine lc_it (walk_tup (xs := vs)) (fun i N => ∃ ws L2, N Da = some (.lst ws) ∧ Prs N ws L2 ∧ Bel n L2 ∧ L2.length = i ∧ Same H N) ⟨[], [], upd_same, .nil, .nil, rfl, same_new hD⟩ (fun i N _ ⟨_, _, _, _, _, _, s⟩ => SqT.of (s _ _ e2)) ?_ ?_
    · rintro i x N N' hi ⟨ws, L2, g1, g2, g3, g4, g5⟩ ⟨rfl, hx⟩
      obtain ⟨b, q, rfl, hq, hb⟩ := e3.get hx
      have hbq := hB q (List.mem_of_getElem? hq)
      obtain ⟨q1, q2⟩ := q
      have hbq : 0 ≤ q1 ∧ q1 < q2 ∧ q2 < n := hbq
      obtain ⟨i1, rfl⟩ : ∃ j : Nat, q1 = j := ⟨q1.toNat, by omega⟩
      obtain ⟨i2, rfl⟩ : ∃ j : Nat, q2 = j := ⟨q2.toNat, by omega⟩
      obtain ⟨x, x1, x2, x3, x4⟩ := os_at ho (i := i1) (by omega)
      obtain ⟨y, y1, y2, y3, y4⟩ := os_at ho (i := i2) (by omega)
      refine ⟨b, _, rfl, SqT.of (g5 _ _ hb), rfl, _, _, rfl, _, _, rfl, rfl, rfl, yes_tt (iteT ?_)⟩
      refine ⟨_, rfl, _, rfl, l, _, _, _, rfl, rfl, SqL.of (g5 _ _ hl), atI_nat x2, _, rfl, _, rfl, l, _, _, _, rfl, rfl, SqL.of (g5 _ _ hl), atI_nat y2, x, y, rfl, fun t ht => ?_⟩
      have sT := same_new (H := N') (o := .tup [.int (mm x y).1, .int (mm x y).2]) ht
      have g1' := sT _ _ g1
      have kp6 := (KpT.same sT).trans (KpT.upd (o' := .lst (ws ++ [.ref t])) g1' (fun _ z => nomatch z))
      refine ⟨ws, g1', by rw [g2.len, sizeLine_eq]; omega, ws ++ [.ref t], L2 ++ [mm x y], upd_same, (g2.mono kp6).app (.cons ?_ .nil), g3.snoc (mm_bel ⟨x3, x4⟩ ⟨y3, y4⟩ (ho.ne x1 y1 (by omega))), by rw [List.length_append, g4]; rfl, set_same hD (g5.trans sT)⟩
      rw [upd_ne (ne_of_none g1 ht).symm, upd_same]
    · rintro N ⟨ws, L2, g1, g2, g3, g4, g5⟩
      have n2 := G.n2
      refine ⟨Da, ws, rfl, SqL.of g1, by rw [g2.len]; omega, g2.tups g3 (by omega), fun ys b pm pw hb => ?_⟩
      obtain ⟨M2, pm2, pr⟩ := Prs.perm pm g2
      have sr := pr.srt pw
      refine ⟨b, ys, rfl, .inl ⟨SqL.of upd_same, fun t ht => ⟨by show 2 ≤ sizeLine; rw [sizeLine_eq]; decide, fun wa hw => ?_⟩⟩⟩
      have sb := same_new (o := .lst ys) hb
      have st := same_new (o := .tup ys) ht
      have sw := same_new (o := .tup [.int n, .ref t]) hw
      have s3 := (sb.trans st).trans sw
      refine k wa M2 _ (g5.trans s3) (g5.free (sb.free (st.free hw))) ⟨⟨t, ys, upd_same, sw _ _ upd_same, pr.mono ((KpT.same sb).trans ((KpT.same st).trans (KpT.same sw)))⟩, G.n1, G.n2, g3.sub fun q z => pm2.mem_iff.mp z, sr, by rw [pm2.length_eq]; omega⟩ (by rw [pm2.length_eq]; omega)
end
end K0

set_option Elab.async false
set_option linter.all false
set_option maxRecDepth 100000
set_option maxHeartbeats 8000000
/-! The law's own: whether a value is a pairing. -/
namespace K0
open PySem PySem.Spec L2
open PyProof.Rows hiding St
open KR (TupX tobj)
theorem ends_nd {L : List (Int × Int)} : ∀ {ns : List Nat}, (endsN L ns).Nodup → ns.Nodup
  | [], _ => .nil
  | k :: ns, h => by
    have h : ([(tie L k).1, (tie L k).2] ++ endsN L ns).Nodup := h
    obtain ⟨_, h2, h3⟩ := List.nodup_append.mp h
    refine List.nodup_cons.mpr ⟨fun z => ?_, ends_nd h2⟩
    exact h3 _ (List.mem_cons_self ..) _ (List.mem_flatMap.mpr ⟨k, z, List.mem_cons_self ..⟩) rfl
theorem iota_nd (n : Nat) : (iota n).Nodup := by
  unfold iota
  exact List.pairwise_map.mpr (List.nodup_range.imp fun {a b} h e => h (by omega))
/-- what is no lot is no pairing -/
theorem pr_lot {L : List (Int × Int)} {n : Nat} {o : Option (List V)} (h : lotO L.length o = false) : prO L n o = false := by
  cases o with
  | none => rfl
  | some xs =>
    show (xs.all (belowV · L.length) && prB L n (natsOf xs)) = false
    have h : (xs.all (belowV · (L.length : Int)) && decide ((xs.map intV).Pairwise (· < ·))) = false := h
    cases hb : xs.all (belowV · (L.length : Int)) with
    | false => rfl
    | true =>
      rw [hb, Bool.true_and, decide_eq_false_iff_not] at h
      rw [Bool.true_and]
      cases q : prB L n (natsOf xs) with
      | false => rfl
      | true =>
        exfalso
        apply h
        unfold prB at q
        rw [Bool.and_eq_true, decide_eq_true_eq, decide_eq_true_eq] at q
        obtain ⟨x1, x2⟩ := nats_of hb
        generalize natsOf xs = ns at x1 x2 q
        subst x1
        have nd := ends_nd (q.2.nodup_iff.mpr (iota_nd n))
        have lt : ns.Pairwise (· < ·) := (List.Pairwise.and q.1 nd).imp fun h => by have := h.1; have := h.2; omega
        rw [List.map_map]
        exact List.pairwise_map.mpr (lt.imp fun {a b} h => by show (a : Int) < b; omega)
theorem pr_of_lot {L : List (Int × Int)} {n : Nat} {ns : List Nat} (lt : ns.Pairwise (· < ·)) (hb : ∀ k ∈ ns, k < L.length) : prO L n (some (ns.map natV)) = decide ((endsN L ns).Perm (iota n)) := by
  show ((ns.map natV).all (belowV · L.length) && prB L n (natsOf (ns.map natV))) = _
  rw [below_nats hb, nats_back, Bool.true_and]
  unfold prB
  rw [decide_eq_true (lt.imp fun h => Nat.le_of_lt h), Bool.true_and]
section
variable {P : Program} {w0 : World} {K : PySem.W.Frag} {mg : Str → Option Value} {base : Heap}
def spLIsLotL : Sp := fun vs H Q _ => ∃ (n : Nat) (v : V), vs = [.int n, v] ∧ LgT H v ∧ ∀ H', Same H H' → Q (.bl false) H'
theorem ok_lIsLotL {f fW : Addr} {fd fdW : FuncData} (F : Fun K "_law_is_lot" "_law_is_lot" lIsLot f fd) (T : Bk mg) (GW' : Dn P w0 K mg base "_law_is_whole" 1 ["_law_thing"] spWhole fW fdW) : FnOk P w0 K mg base CX0 2 f fd ["_law_n", "_law_thing"] spLIsLotL := by
  refine F.ok scLIsLot (fun vs H Q E h => ?_) (fun cdv A outer s H vs Q E hr h => ?_)
  · obtain ⟨n, v, rfl, _⟩ := h
    rfl
  · obtain ⟨n, v, rfl, ⟨a, xs, rfl, e, hx, ne, hl⟩, k⟩ := h
    have hu0 := hr.units0
    have hu6 : A.units + 3 + 64 < cLine := by have := hr.un; have e : (A.deeper (envOfC "_law_is_lot" (defScope lIsLot) s.heap.objs.size f cdv)).units = A.units + 3 := rfl; omega
    refine ⟨_, pss_cons (ps_if (PW.pt (pw_or (pt_not (pt_val (pe_callB call_isi (by rfl) T.isi (by decide +kernel) (pa_cons (pv 1) (pa_cons (pe_bltn (v := .ty "tuple") (u := .type "tuple") (by rfl) T.tuple (by decide +kernel) rfl) pa_nil)))))
          (pw_or1 (pt_cmpR (op_ne0 hu0) (pe_lc (own := [("_law_it", 2)]) (g := gName 2) rfl scLIsLot.nd (pi_tup (pv 1)) (blkOk_by (N := nLIsLot) (sc := defScope lIsLot) (by decide +kernel))
            (fun _ _ _ _ _ => pg_name (i := 2) scLIsLot.nd rfl (Or.inl rfl)) (fun _ _ _ _ _ => pts_one (pt_not (pt_val (pe_call GW'.ok hr rfl GW'.g GW'.kp GW'.b .nil pass0 (pa_cons (pv 2) pa_nil))))) (fun _ _ _ _ _ => pv 2)) (pe_lst pa_nil) (nomark _)))))
          (pss_one (ps_ret pe_bl)) pss_nil)
      <| pss_one (ps_ret (pe_and (pe_cmpR (op_eq0 hu0) (pe_lc (own := [("_law_it", 2)]) (g := gName 2) rfl scLIsLot.nd (pi_tup (pv 1)) (blkOk_by (N := nLIsLot) (sc := defScope lIsLot) (by decide +kernel))
            (fun _ _ _ _ _ => pg_name (i := 2) scLIsLot.nd rfl (Or.inl rfl)) (fun _ _ _ _ _ => pts_one (PW.pt (pw_or (pt_cmpR op_lt (pv 2) pe_int (nomark _)) (pw_or1 (pt_cmpR op_ge (pv 2) (pv 0) (nomark _)))))) (fun _ _ _ _ _ => pv 2)) (pe_lst pa_nil) (nomark _))
          (pe_one (pe_cmpR (op_eqD hu6) (pe_callTy call_list_of (by rfl) T.list (by decide +kernel) (pa_cons (pv 1) pa_nil)) (pe_callB (cr_sortedSet rfl) (by rfl) T.sorted (by decide +kernel) (pa_cons (pe_callTy (KR.cr_setTI rfl) (by rfl) T.set (by decide +kernel) (pa_cons (pv 1) pa_nil)) pa_nil)) (nomark _))))), ?_⟩
    have hv : VT H (.ref a) "tuple" := .tup e
    refine ⟨_, rfl, .ref a, .ty "tuple", .type "tuple", .type "tuple", _, rfl, .ty "tuple", hv.ty, hv.kit.2.2, _, rfl, iteNS (c := "tuple" = "tuple") rfl ?_⟩
    refine ⟨_, rfl, a, rfl, ⟨_, e.sq⟩, fun Da hD => ?_⟩
    refine lc_it (walk_tup (xs := xs)) (fun i M => M Da = some (.lst (xs.take i)) ∧ Same H M) ⟨upd_same, same_new hD⟩ (fun i M _ g => (e.keep fun o q => g.2 _ _ q).sq) ?_ ?_
    · rintro i x M M' hi ⟨g1, g2⟩ ⟨rfl, hx'⟩
      have ht := hx x (List.mem_of_getElem? hx')
      have hw : wholeV x = false := by rw [ht.whole]; decide
      refine ⟨rfl, _, rfl, x, _, rfl, ht.mono g2, _, rfl, ?_⟩
      rw [hw]
      refine iteT ⟨_, rfl, _, g1, by rw [List.length_take, sizeLine_eq]; omega, ?_, set_same hD g2⟩
      rw [upd_same, take_snoc hx']
    · rintro M ⟨g1, g2⟩
      rw [List.take_length] at g1
      refine ⟨by show 0 ≤ sizeLine; exact Nat.zero_le _, fun b0 hb0 => ?_⟩
      have s1 : Same H (upd M b0 (.lst [])) := g2.trans (same_new hb0)
      refine ⟨Da, b0, _, rfl, rfl, SqL.of (by rw [upd_ne (ne_of_none g1 hb0)]; exact g1), SqL.of upd_same, _, rfl, ?_⟩
      have : xs.isEmpty = false := by cases xs with
        | nil => exact absurd rfl ne
        | cons _ _ => rfl
      rw [this]
      exact k _ s1
abbrev nLIsPr : List Str := ["_law_web_here", "_law_thing", "_law_met", "_law_at"]
theorem scLIsPr : FnScope nLIsPr ["_law_web_here", "_law_thing"] (defScope lIsPairing) := ⟨rfl, rfl, rfl, by decide +kernel, rfl, by decide +kernel, by decide +kernel⟩
theorem ok_lIsPr {f fL : Addr} {fd fdL : FuncData} (F : Fun K "_law_is_pairing" "_law_is_pairing" lIsPairing f fd) (T : Bk mg) (GL : Dn P w0 K mg base "_law_is_lot" 2 ["_law_n", "_law_thing"] (fun vs H Q E => spLIsLot vs H Q E ∨ spLIsLotL vs H Q E) fL fdL) :
    FnOk P w0 K mg base CX0 3 f fd ["_law_web_here", "_law_thing"] spIpo := by
  refine F.ok scLIsPr (fun vs H Q E h => ?_) (fun cdv A outer s H vs Q E hr h => ?_)
  · obtain ⟨w, n, L, v, r, rfl, _⟩ := h
    rfl
  · obtain ⟨w, n, L, v, r, rfl, G, hv, k⟩ := h
    have hu6 : A.units + 3 + 64 < cLine := by have := hr.un; have e : (A.deeper (envOfC "_law_is_pairing" (defScope lIsPairing) s.heap.objs.size f cdv)).units = A.units + 3 := rfl; omega
    refine ⟨_, pss_cons (ps_if (pt_not (pt_val (pe_call GL.ok hr rfl GL.g GL.kp GL.b .nil pass0 (pa_cons (pe_callB call_len_seq (by rfl) T.len PySem.boot_len (pa_cons (pe_ix ix_tup (pv 0) pe_int (fun _ _ => rfl)) pa_nil)) (pa_cons (pv 1) pa_nil))))) (pss_one (ps_ret pe_bl)) pss_nil)
      <| pss_cons (ps_set (i := 2) scLIsPr.nd rfl (.inl rfl) (pe_lst pa_nil))
      <| pss_cons (ps_for PassesOwn.never rfl (pi_tup (pv 1)) (pg_name (i := 3) scLIsPr.nd rfl (.inl rfl))
          (pss_one (ps_set (i := 2) scLIsPr.nd rfl (.inl rfl) (pe_op op_cat (pv 2) (pe_callTy call_list_of (by rfl) T.list (by decide +kernel) (pa_cons (pe_ix ix_tup (pe_ix ix_tup (pv 0) pe_int (fun _ _ => rfl)) (pv 3) (fun _ _ => rfl)) pa_nil))))))
      <| pss_one (ps_ret (pe_cmpR (op_eqD hu6) (pe_callB cr_sortedI (by rfl) T.sorted (by decide +kernel) (pa_cons (pv 2) pa_nil)) (pe_listRg rfl (by rfl) T.list (prg_1 (by rfl) T.range (pe_ix ix_tup (pv 0) pe_int (fun _ _ => rfl)))) (nomark _))), ?_⟩
    obtain ⟨t, vs, e1, e2, e3⟩ := G.web.ex
    have len := e3.len
    have few := G.few
    have n2 := G.n2
    refine ⟨_, rfl, w, _, _, _, rfl, rfl, SqT.of e1, atI_nat (j := 1) rfl, t, _, rfl, .inr (SqT.of e2), _, rfl, ?_⟩
    rcases hv with ⟨o, th, rfl⟩ | ⟨lg, rfl⟩
    rotate_left
    · exact .inr ⟨vs.length, v, rfl, lg, fun H1 s1 => ⟨_, rfl, k H1 s1⟩⟩
    refine .inl ⟨vs.length, v, o, rfl, by omega, th, fun H1 s1 => ⟨_, rfl, ?_⟩⟩
    rw [len]
    rcases th_cases (n := (L.length : Int)) th with ⟨lt, a, ns', rfl, rfl, il, tt⟩ | no
    rotate_left
    · rw [no]
      have := pr_lot (n := n) no
      rw [this] at k
      exact k H1 s1
    rw [lt]
    obtain ⟨ns, rfl⟩ : ∃ ns : List Nat, ns' = ns.map fun (i : Nat) => (i : Int) := ⟨ns'.map Int.toNat, by
      rw [List.map_map]
      refine ((List.map_congr_left fun i hi => ?_).trans (List.map_id ns')).symm
      have := il.1 i hi
      show ((i.toNat : Nat) : Int) = i
      omega⟩
    have hb : ∀ kk ∈ ns, kk < L.length := fun kk hk => by have := il.1 _ (List.mem_map.mpr ⟨kk, hk, rfl⟩); omega
    have asc : ns.Pairwise (· < ·) := (List.pairwise_map.mp il.2).imp fun h => by omega
    rw [← natV_ints] at k tt
    rw [pr_of_lot asc hb] at k
    have nl : ns.length ≤ 60 := by
      have := asc.imp (fun {a b} (h : a < b) => (Nat.ne_of_lt h : a ≠ b))
      have nd : ns.Nodup := this
      have sub := len_le (m := List.range L.length) nd fun kk hk => List.mem_range.mpr (hb kk hk)
      rw [List.length_range] at sub
      omega
    refine ⟨Nat.zero_le _, fun l0 hl0 => ?_⟩
    have s2 := s1.trans (same_new (o := .lst []) hl0)
    refine ⟨_, rfl, a, rfl, ⟨_, (tt.keep fun o q => s2 _ _ q).sq⟩, ?_⟩
    refine for_tup (K := K) (a := a) (xs := ns.map natV) (fun i σ M => ∃ (m : Addr) (o3 : Option V), σ = [some (.ref w), some (.ref a), some (.ref m), o3] ∧ M m = some (.lst ((endsN L (ns.take i)).map V.int)) ∧ Same H M) ⟨l0, none, rfl, upd_same, s2⟩ (fun i σ M _ ⟨_, _, _, _, s⟩ => (tt.keep fun o q => s _ _ q).sq) ?_ ?_
    · rintro i x σ M hx ⟨m, o3, rfl, g1, g2⟩
      rw [List.getElem?_map] at hx
      obtain ⟨kk, hkk, rfl⟩ := Option.map_eq_some_iff.mp hx
      have il : i < ns.length := (List.getElem?_eq_some_iff.mp hkk).1
      have kl := hb kk (List.mem_of_getElem? hkk)
      have ts : ns.take (i + 1) = ns.take i ++ [kk] := by rw [List.take_succ, hkk]; rfl
      obtain ⟨bb, q, eb, hq, hbb⟩ := e3.get (List.getElem?_eq_getElem (show kk < vs.length by omega))
      have tq : tie L kk = q := tie_at hq
      have el := ends_len L (ns.take i)
      rw [List.length_take] at el
      refine ⟨_, rfl, _, rfl, w, _, _, _, rfl, rfl, SqT.of (g2 _ _ e1), atI_nat (j := 1) rfl, _, rfl, t, vs, _, _, rfl, rfl, SqT.of (g2 _ _ e2), atI_nat (List.getElem?_eq_getElem (show kk < vs.length by omega)), bb, _, by rw [eb], .inr (SqT.of (g2 _ _ hbb)), fun l1 hl1 => ?_⟩
      have s3 := g2.trans (same_new (o := .lst [.int q.1, .int q.2]) hl1)
      refine ⟨m, l1, _, _, rfl, rfl, (same_new hl1) _ _ g1, upd_same, by rw [List.length_map, sizeLine_eq]; show _ + 2 ≤ _; omega, fun p hp => ⟨p, _, rfl, ?_, s3.trans (same_new hp)⟩⟩
      rw [upd_same, ts, ends_snoc, tq, List.map_append]
      rfl
    · rintro σ M ⟨m, o3, rfl, g1, g2⟩
      rw [List.length_map, List.take_length] at g1
      refine ⟨_, rfl, m, endsN L ns, rfl, SqL.of g1, fun ms p q1 q2 hp => ?_⟩
      have s3 := g2.trans (same_new (o := .lst (ms.map V.int)) hp)
      refine ⟨_, rfl, w, _, _, _, rfl, rfl, SqT.of (s3 _ _ e1), atI_nat (j := 0) rfl, _, rfl, .of_le (by omega) (by omega) (by omega) (by omega), fun lo hlo => ?_⟩
      rw [rg_ints]
      have s4 := s3.trans (same_new (o := .lst (((List.range n).map fun i => ((i : Nat) : Int)).map V.int)) hlo)
      refine ⟨.list (ms.map PyData.int), .list (((List.range n).map fun i => ((i : Nat) : Int)).map PyData.int), .lst (SqL.of (by rw [upd_ne (ne_of_none upd_same hlo)]; exact upd_same)) (ints_dp ms), .lst (SqL.of upd_same) (ints_dp _), ints_shaped ms, ints_shaped _, ?_⟩
      rw [eqv_ints]
      have ans : decide (ms = (List.range n).map fun i => ((i : Nat) : Int)) = decide ((endsN L ns).Perm (iota n)) :=
        decide_eq_decide.mpr ⟨fun z => by rw [z] at q1; exact q1.symm, fun z => le_uniq q2 (iota_le n) (q1.trans z)⟩
      rw [ans]
      exact k _ s4
end
end K0

set_option Elab.async false
set_option linter.all false
set_option maxRecDepth 100000
set_option maxHeartbeats 8000000
/-! The law's own: webs to begin with. -/
namespace K0
open PySem PySem.Spec L2
open PyProof.Rows hiding St
open KR (TupX tobj)
abbrev lSeed : Stmt := top 40
def tPL : List (Int × Int) → TA
  | [] => tNil
  | q :: L => tCons (tTup (tCons (tC (.int q.1)) (tCons (tC (.int q.2)) tNil))) (tPL L)
theorem tPL_run : ∀ {L : List (Int × Int)} {σ : L2.St} {M : Hp} {Q : List V → Hp → Prop}, (∀ vs M', Same M M' → Prs M' vs L → Q vs M') → tPL L σ M Q
  | [], σ, M, Q, h => h [] M (Same.refl M) .nil
  | q :: L, σ, M, Q, h => by
    refine ⟨by show 2 ≤ sizeLine; rw [sizeLine_eq]; decide, fun a ha => tPL_run fun vs M' s p => h _ M' ((same_new ha).trans s) (.cons (s _ _ upd_same) p)⟩
/-- a web as it is written -/
def tWb (n : Nat) (L : List (Int × Int)) : TE := fun _ M Q => ∀ w M', Same M M' → M w = none → Web M' w n L → Q (.ref w) M'
theorem pe_wb {X : Cx} {n : Nat} {L : List (Int × Int)} {e : Expr} (h : PE X e (tTup (tCons (tC (.int (n : Int))) (tCons (tTup (tPL L)) tNil)))) (few : L.length ≤ 1000) : PE X e (tWb n L) := pe_imp h fun σ M Q q => by
  refine tPL_run fun vs M1 s1 p1 => ⟨by rw [p1.len, sizeLine_eq]; omega, fun t ht => ⟨by show 2 ≤ sizeLine; rw [sizeLine_eq]; decide, fun w hw => ?_⟩⟩
  have s2 := same_new (o := .tup vs) ht
  have s3 := same_new (o := .tup [.int n, .ref t]) hw
  exact q w _ (s1.trans (s2.trans s3)) (s1.free (s2.free hw)) ⟨t, vs, upd_same, s3 _ _ upd_same, p1.mono ((KpT.same s2).trans (KpT.same s3))⟩
/-- a web that may be grown -/
def WbV (M : Hp) (v : V) : Prop := ∃ w n L, v = .ref w ∧ GW M w n L ∧ 2 ≤ n ∧ n ≤ 8 ∧ L.length ≤ 16
theorem WbV.kp {M M' : Hp} {v : V} (h : WbV M v) (k : KpT M M') : WbV M' v := let ⟨w, n, L, e, g, r⟩ := h; ⟨w, n, L, e, g.mono k, r⟩
instance {n : Int} {L : List (Int × Int)} : Decidable (Bel n L) := by unfold Bel; infer_instance
instance {L : List (Int × Int)} : Decidable (Srt L) := by unfold Srt; infer_instance
def SdJ (H : Hp) (p c : Addr) (k : Nat) : L2.St → Hp → Prop := fun σ M => ∃ (f l : Addr) (us : List V), σ = [some (.ref p), some (.ref f), some (.ref l)] ∧ M l = some (.lst us) ∧ us.length = k ∧ (∀ u ∈ us, WbV M u) ∧ H l = none ∧ Same H M
theorem wb_mk {M : Hp} {w n : Nat} {L : List (Int × Int)} (W : Web M w n L) (h2 : 2 ≤ n) (h8 : n ≤ 8) (hB : Bel n L) (hS : Srt L) (hl : L.length ≤ 16) : WbV M (.ref w) := ⟨w, n, L, rfl, ⟨W, by omega, by omega, hB, hS, by omega⟩, h2, h8, hl⟩
theorem sd_step {H : Hp} {p c : Addr} {k n : Nat} {L : List (Int × Int)} {K : PySem.W.Frag} (_ : Deck H p c) (hk : k ≤ 100) (h2 : 2 ≤ n) (h8 : n ≤ 8) (hB : Bel n L) (hS : Srt L) (hl : L.length ≤ 16) :
    ∀ D σ M, SdJ H p c k σ M → (∀ σ' M', SdJ H p c (k + 1) σ' M' → D.nx σ' M') → tDrop (tBM K "list" rAppend (tVar 2) (tCons (tWb n L) tNil)) D σ M := by
  rintro D σ M ⟨f, l, us, rfl, e, el, eu, hl0, s⟩ nx
  refine ⟨_, rfl, .inl ⟨rfl, _, SqL.of e⟩, fun w M1 s1 hw W => ⟨l, us, _, rfl, rfl, s1 _ _ e, by rw [sizeLine_eq]; omega, ?_⟩⟩
  have kp := (KpT.same s1).trans (KpT.upd (o' := .lst (us ++ [.ref w])) (s1 _ _ e) (fun _ z => nomatch z))
  refine nx _ _ ⟨f, l, us ++ [.ref w], rfl, upd_same, by rw [List.length_append, el]; rfl, fun u hu => ?_, hl0, set_same hl0 (s.trans s1)⟩
  rcases List.mem_append.mp hu with z | z
  · exact (eu u z).kp kp
  · rw [List.mem_singleton.mp z]
    exact (wb_mk W h2 h8 hB hS hl).kp (KpT.upd (s1 _ _ e) (fun _ z => nomatch z))
section
variable {P : Program} {w0 : World} {K : PySem.W.Frag} {mg : Str → Option Value} {base : Heap}
def spSeed : Sp := fun vs H Q _ => ∃ (p c : Addr), vs = [.ref p] ∧ Deck H p c ∧ ∀ (v : V) (H' : Hp), WbV H' v → Deck H' p c → Kp p c H H' → Q v H'
theorem scSeed : FnScope ["_law_deck_here", "_law_full", "_law_some"] ["_law_deck_here"] (defScope lSeed) := ⟨rfl, rfl, rfl, by decide +kernel, rfl, by decide +kernel, by decide +kernel⟩
theorem ok_seed {f fP : Addr} {fd fdP : FuncData} (F : Fun K "_law_seed" "_law_seed" lSeed f fd) (GP : Dn P w0 K mg base "_law_pick" 2 ["_law_deck_here", "_law_some"] spPick fP fdP) : FnOk P w0 K mg base CX0 3 f fd ["_law_deck_here"] spSeed := by
  refine F.ok scSeed (fun vs H Q E h => ?_) (fun cdv A outer s H vs Q E hr h => ?_)
  · obtain ⟨p, c, rfl, _⟩ := h
    rfl
  · obtain ⟨p, c, rfl, D, k⟩ := h
    refine ⟨_, pss_cons (ps_set (i := 1) scSeed.nd rfl (.inl rfl) (pe_wb (n := 4) (L := [(0, 1), (0, 2), (0, 3), (1, 2), (1, 3), (2, 3)]) (pe_tup (pa_cons pe_int (pa_cons (pe_tup (pa_cons (pe_tup (pa_cons pe_int (pa_cons pe_int pa_nil))) (pa_cons (pe_tup (pa_cons pe_int (pa_cons pe_int pa_nil))) (pa_cons (pe_tup (pa_cons pe_int (pa_cons pe_int pa_nil))) (pa_cons (pe_tup (pa_cons pe_int (pa_cons pe_int pa_nil))) (pa_cons (pe_tup (pa_cons pe_int (pa_cons pe_int pa_nil))) (pa_cons (pe_tup (pa_cons pe_int (pa_cons pe_int pa_nil))) pa_nil))))))) pa_nil))) (by decide)))
      <| pss_cons (ps_set (i := 2) scSeed.nd rfl (.inl rfl) (pe_lst (pa_cons (pe_wb (n := 2) (L := [(0, 1)]) (pe_tup (pa_cons pe_int (pa_cons (pe_tup (pa_cons (pe_tup (pa_cons pe_int (pa_cons pe_int pa_nil))) pa_nil)) pa_nil))) (by decide)) (pa_cons (pe_wb (n := 2) (L := [(0, 1), (0, 1)]) (pe_tup (pa_cons pe_int (pa_cons (pe_tup (pa_cons (pe_tup (pa_cons pe_int (pa_cons pe_int pa_nil))) (pa_cons (pe_tup (pa_cons pe_int (pa_cons pe_int pa_nil))) pa_nil))) pa_nil))) (by decide)) (pa_cons (pe_wb (n := 4) (L := [(0, 1), (0, 3), (1, 2), (2, 3)]) (pe_tup (pa_cons pe_int (pa_cons (pe_tup (pa_cons (pe_tup (pa_cons pe_int (pa_cons pe_int pa_nil))) (pa_cons (pe_tup (pa_cons pe_int (pa_cons pe_int pa_nil))) (pa_cons (pe_tup (pa_cons pe_int (pa_cons pe_int pa_nil))) (pa_cons (pe_tup (pa_cons pe_int (pa_cons pe_int pa_nil))) pa_nil))))) pa_nil))) (by decide)) (pa_cons (pv 1) (pa_cons (pv 1) pa_nil)))))))
      <| pss_cons (ps_inv (J := SdJ H p c 5) (J' := SdJ H p c 6) (ps_expr (pe_bm PySem.F.plainAttrs_list PySem.F.slot_list_append PySem.F.type_list_append mt_append (pv 2) (pa_cons (pe_wb (n := 6) (L := [(0, 1), (0, 2), (0, 3), (1, 2), (1, 4), (2, 5), (3, 4), (3, 5), (4, 5)]) (pe_tup (pa_cons pe_int (pa_cons (pe_tup (pa_cons (pe_tup (pa_cons pe_int (pa_cons pe_int pa_nil))) (pa_cons (pe_tup (pa_cons pe_int (pa_cons pe_int pa_nil))) (pa_cons (pe_tup (pa_cons pe_int (pa_cons pe_int pa_nil))) (pa_cons (pe_tup (pa_cons pe_int (pa_cons pe_int pa_nil))) (pa_cons (pe_tup (pa_cons pe_int (pa_cons pe_int pa_nil))) (pa_cons (pe_tup (pa_cons pe_int (pa_cons pe_int pa_nil))) (pa_cons (pe_tup (pa_cons pe_int (pa_cons pe_int pa_nil))) (pa_cons (pe_tup (pa_cons pe_int (pa_cons pe_int pa_nil))) (pa_cons (pe_tup (pa_cons pe_int (pa_cons pe_int pa_nil))) pa_nil)))))))))) pa_nil))) (by decide)) pa_nil))) (sd_step D (by decide) (by decide) (by decide) (by decide) (by decide) (by decide)))
      <| pss_cons (ps_inv (J := SdJ H p c 6) (J' := SdJ H p c 7) (ps_expr (pe_bm PySem.F.plainAttrs_list PySem.F.slot_list_append PySem.F.type_list_append mt_append (pv 2) (pa_cons (pe_wb (n := 6) (L := [(0, 1), (0, 2), (0, 3), (0, 4), (0, 5), (1, 2), (1, 5), (2, 3), (3, 4), (4, 5)]) (pe_tup (pa_cons pe_int (pa_cons (pe_tup (pa_cons (pe_tup (pa_cons pe_int (pa_cons pe_int pa_nil))) (pa_cons (pe_tup (pa_cons pe_int (pa_cons pe_int pa_nil))) (pa_cons (pe_tup (pa_cons pe_int (pa_cons pe_int pa_nil))) (pa_cons (pe_tup (pa_cons pe_int (pa_cons pe_int pa_nil))) (pa_cons (pe_tup (pa_cons pe_int (pa_cons pe_int pa_nil))) (pa_cons (pe_tup (pa_cons pe_int (pa_cons pe_int pa_nil))) (pa_cons (pe_tup (pa_cons pe_int (pa_cons pe_int pa_nil))) (pa_cons (pe_tup (pa_cons pe_int (pa_cons pe_int pa_nil))) (pa_cons (pe_tup (pa_cons pe_int (pa_cons pe_int pa_nil))) (pa_cons (pe_tup (pa_cons pe_int (pa_cons pe_int pa_nil))) pa_nil))))))))))) pa_nil))) (by decide)) pa_nil))) (sd_step D (by decide) (by decide) (by decide) (by decide) (by decide) (by decide)))
      <| pss_cons (ps_inv (J := SdJ H p c 7) (J' := SdJ H p c 8) (ps_expr (pe_bm PySem.F.plainAttrs_list PySem.F.slot_list_append PySem.F.type_list_append mt_append (pv 2) (pa_cons (pe_wb (n := 6) (L := [(0, 1), (0, 3), (1, 2), (1, 4), (2, 5), (3, 4), (4, 5)]) (pe_tup (pa_cons pe_int (pa_cons (pe_tup (pa_cons (pe_tup (pa_cons pe_int (pa_cons pe_int pa_nil))) (pa_cons (pe_tup (pa_cons pe_int (pa_cons pe_int pa_nil))) (pa_cons (pe_tup (pa_cons pe_int (pa_cons pe_int pa_nil))) (pa_cons (pe_tup (pa_cons pe_int (pa_cons pe_int pa_nil))) (pa_cons (pe_tup (pa_cons pe_int (pa_cons pe_int pa_nil))) (pa_cons (pe_tup (pa_cons pe_int (pa_cons pe_int pa_nil))) (pa_cons (pe_tup (pa_cons pe_int (pa_cons pe_int pa_nil))) pa_nil)))))))) pa_nil))) (by decide)) pa_nil))) (sd_step D (by decide) (by decide) (by decide) (by decide) (by decide) (by decide)))
      <| pss_cons (ps_inv (J := SdJ H p c 8) (J' := SdJ H p c 9) (ps_expr (pe_bm PySem.F.plainAttrs_list PySem.F.slot_list_append PySem.F.type_list_append mt_append (pv 2) (pa_cons (pe_wb (n := 6) (L := [(0, 3), (0, 4), (0, 5), (1, 3), (1, 4), (1, 5), (2, 3), (2, 4), (2, 5)]) (pe_tup (pa_cons pe_int (pa_cons (pe_tup (pa_cons (pe_tup (pa_cons pe_int (pa_cons pe_int pa_nil))) (pa_cons (pe_tup (pa_cons pe_int (pa_cons pe_int pa_nil))) (pa_cons (pe_tup (pa_cons pe_int (pa_cons pe_int pa_nil))) (pa_cons (pe_tup (pa_cons pe_int (pa_cons pe_int pa_nil))) (pa_cons (pe_tup (pa_cons pe_int (pa_cons pe_int pa_nil))) (pa_cons (pe_tup (pa_cons pe_int (pa_cons pe_int pa_nil))) (pa_cons (pe_tup (pa_cons pe_int (pa_cons pe_int pa_nil))) (pa_cons (pe_tup (pa_cons pe_int (pa_cons pe_int pa_nil))) (pa_cons (pe_tup (pa_cons pe_int (pa_cons pe_int pa_nil))) pa_nil)))))))))) pa_nil))) (by decide)) pa_nil))) (sd_step D (by decide) (by decide) (by decide) (by decide) (by decide) (by decide)))
      <| pss_cons (ps_inv (J := SdJ H p c 9) (J' := SdJ H p c 10) (ps_expr (pe_bm PySem.F.plainAttrs_list PySem.F.slot_list_append PySem.F.type_list_append mt_append (pv 2) (pa_cons (pe_wb (n := 6) (L := [(0, 1), (0, 2), (0, 3), (0, 4), (0, 5), (1, 2), (1, 3), (1, 4), (1, 5), (2, 3), (4, 5)]) (pe_tup (pa_cons pe_int (pa_cons (pe_tup (pa_cons (pe_tup (pa_cons pe_int (pa_cons pe_int pa_nil))) (pa_cons (pe_tup (pa_cons pe_int (pa_cons pe_int pa_nil))) (pa_cons (pe_tup (pa_cons pe_int (pa_cons pe_int pa_nil))) (pa_cons (pe_tup (pa_cons pe_int (pa_cons pe_int pa_nil))) (pa_cons (pe_tup (pa_cons pe_int (pa_cons pe_int pa_nil))) (pa_cons (pe_tup (pa_cons pe_int (pa_cons pe_int pa_nil))) (pa_cons (pe_tup (pa_cons pe_int (pa_cons pe_int pa_nil))) (pa_cons (pe_tup (pa_cons pe_int (pa_cons pe_int pa_nil))) (pa_cons (pe_tup (pa_cons pe_int (pa_cons pe_int pa_nil))) (pa_cons (pe_tup (pa_cons pe_int (pa_cons pe_int pa_nil))) (pa_cons (pe_tup (pa_cons pe_int (pa_cons pe_int pa_nil))) pa_nil)))))))))))) pa_nil))) (by decide)) pa_nil))) (sd_step D (by decide) (by decide) (by decide) (by decide) (by decide) (by decide)))
      <| pss_cons (ps_inv (J := SdJ H p c 10) (J' := SdJ H p c 11) (ps_expr (pe_bm PySem.F.plainAttrs_list PySem.F.slot_list_append PySem.F.type_list_append mt_append (pv 2) (pa_cons (pe_wb (n := 6) (L := [(0, 1), (0, 5), (1, 2), (2, 3), (3, 4), (4, 5)]) (pe_tup (pa_cons pe_int (pa_cons (pe_tup (pa_cons (pe_tup (pa_cons pe_int (pa_cons pe_int pa_nil))) (pa_cons (pe_tup (pa_cons pe_int (pa_cons pe_int pa_nil))) (pa_cons (pe_tup (pa_cons pe_int (pa_cons pe_int pa_nil))) (pa_cons (pe_tup (pa_cons pe_int (pa_cons pe_int pa_nil))) (pa_cons (pe_tup (pa_cons pe_int (pa_cons pe_int pa_nil))) (pa_cons (pe_tup (pa_cons pe_int (pa_cons pe_int pa_nil))) pa_nil))))))) pa_nil))) (by decide)) pa_nil))) (sd_step D (by decide) (by decide) (by decide) (by decide) (by decide) (by decide)))
      <| pss_cons (ps_inv (J := SdJ H p c 11) (J' := SdJ H p c 12) (ps_expr (pe_bm PySem.F.plainAttrs_list PySem.F.slot_list_append PySem.F.type_list_append mt_append (pv 2) (pa_cons (pe_wb (n := 8) (L := [(0, 1), (0, 3), (0, 4), (1, 2), (1, 5), (2, 3), (2, 6), (3, 7), (4, 5), (4, 7), (5, 6), (6, 7)]) (pe_tup (pa_cons pe_int (pa_cons (pe_tup (pa_cons (pe_tup (pa_cons pe_int (pa_cons pe_int pa_nil))) (pa_cons (pe_tup (pa_cons pe_int (pa_cons pe_int pa_nil))) (pa_cons (pe_tup (pa_cons pe_int (pa_cons pe_int pa_nil))) (pa_cons (pe_tup (pa_cons pe_int (pa_cons pe_int pa_nil))) (pa_cons (pe_tup (pa_cons pe_int (pa_cons pe_int pa_nil))) (pa_cons (pe_tup (pa_cons pe_int (pa_cons pe_int pa_nil))) (pa_cons (pe_tup (pa_cons pe_int (pa_cons pe_int pa_nil))) (pa_cons (pe_tup (pa_cons pe_int (pa_cons pe_int pa_nil))) (pa_cons (pe_tup (pa_cons pe_int (pa_cons pe_int pa_nil))) (pa_cons (pe_tup (pa_cons pe_int (pa_cons pe_int pa_nil))) (pa_cons (pe_tup (pa_cons pe_int (pa_cons pe_int pa_nil))) (pa_cons (pe_tup (pa_cons pe_int (pa_cons pe_int pa_nil))) pa_nil))))))))))))) pa_nil))) (by decide)) pa_nil))) (sd_step D (by decide) (by decide) (by decide) (by decide) (by decide) (by decide)))
      <| pss_one (ps_ret (pe_call GP.ok hr rfl GP.g GP.kp GP.b .nil pass0 (pa_cons (pv 0) (pa_cons (pv 2) pa_nil)))), ?_⟩
    intro wf M0 s0 _ W0
    intro wa M1 s1 _ W1 wb M2 s2 _ W2 wc M3 s3 _ W3
    have s13 := s1.trans (s2.trans s3)
    refine ⟨_, rfl, _, rfl, by show 5 ≤ sizeLine; rw [sizeLine_eq]; decide, fun l hl => ?_⟩
    have sl := same_new (o := .lst [.ref wa, .ref wb, .ref wc, .ref wf, .ref wf]) hl
    have hlH := s0.free (s13.free hl)
    refine ⟨⟨wf, l, _, rfl, upd_same, rfl, fun u hu => ?_, hlH, s0.trans (s13.trans sl)⟩, ?_⟩
    · have kl := KpT.same sl
      simp only [List.mem_cons, List.not_mem_nil, or_false] at hu
      rcases hu with rfl | rfl | rfl | rfl | rfl
      · exact (wb_mk (W1.same (s2.trans s3)) (by decide) (by decide) (by decide) (by decide) (by decide)).kp kl
      · exact (wb_mk (W2.same s3) (by decide) (by decide) (by decide) (by decide) (by decide)).kp kl
      · exact (wb_mk W3 (by decide) (by decide) (by decide) (by decide) (by decide)).kp kl
      · exact (wb_mk (W0.same s13) (by decide) (by decide) (by decide) (by decide) (by decide)).kp kl
      · exact (wb_mk (W0.same s13) (by decide) (by decide) (by decide) (by decide) (by decide)).kp kl
    intro σ M j; refine ⟨j, ?_⟩; clear j
    intro σ M j; refine ⟨j, ?_⟩; clear j
    intro σ M j; refine ⟨j, ?_⟩; clear j
    intro σ M j; refine ⟨j, ?_⟩; clear j
    intro σ M j; refine ⟨j, ?_⟩; clear j
    intro σ M j; refine ⟨j, ?_⟩; clear j
    rintro σ M ⟨f', l', us, rfl, e, el, eu, hl0, s⟩
    obtain ⟨lp, lc⟩ := D.inp hl0
    have DM := D.same s
    refine ⟨_, rfl, _, rfl, p, c, l', us, rfl, DM, e, lp, lc, by omega, by omega, fun i v H' hv D' K' => k v H' ?_ D' ((kp_same s).trans K')⟩
    exact (eu v (List.mem_of_getElem? hv)).kp (K'.tup DM)
end
end K0

set_option Elab.async false
set_option linter.all false
set_option maxRecDepth 100000
set_option maxHeartbeats 8000000
/-! The law's own: a web grown by an ear. -/
namespace K0
open PySem PySem.Spec L2
open PyProof.Rows hiding St
open KR (TupX tobj)
abbrev lEared : Stmt := top 41
theorem two_pows {a b n : Nat} (ha : a < n) (hb : b < n) (ne : a ≠ b) : 2 ^ a + 2 ^ b + 1 ≤ 2 ^ n := by
  have go : ∀ {a b : Nat}, a < b → b < n → 2 ^ a + 2 ^ b + 1 ≤ 2 ^ n := fun {a b} h hb => by
    have h1 := Nat.pow_lt_pow_right (a := 2) (by decide) h
    have h2 := Nat.pow_le_pow_right (n := 2) (by decide) (show b + 1 ≤ n from hb)
    rw [Nat.pow_succ] at h2
    omega
  rcases Nat.lt_or_gt_of_ne ne with h | h
  · exact go h hb
  · have := go h ha
    omega
def rowE (a b : Int) (n k j : Nat) : Int := if j = 0 then a else if j ≤ k then (n : Int) + ((j - 1 : Nat) : Int) else b
theorem row_at {a b r : Int} {n k j : Nat} (hr : r = (k : Int)) (h : j ≤ k + 1) : (([V.int a] ++ rgV (n : Int) ((n : Int) + r)) ++ [V.int b])[j]? = some (.int (rowE a b n k j)) := by
  subst hr
  have e : ((n : Int) + (k : Int) - (n : Int)).toNat = k := by omega
  unfold rgV rowE
  rw [e]
  cases j with
  | zero => rfl
  | succ j =>
    rw [if_neg (Nat.succ_ne_zero j)]
    show (((List.range k).map fun i => V.int ((n : Int) + (i : Nat))) ++ [V.int b])[j]? = _
    by_cases hj : j < k
    · rw [if_pos (by omega), List.getElem?_append_left (by simpa using hj), List.getElem?_map, List.getElem?_range hj]
      rfl
    · have : j = k := by omega
      subst this
      rw [if_neg (by omega), List.getElem?_append_right (by simp)]
      simp
theorem row_ok {a b : Int} {n k j : Nat} (ha : 0 ≤ a ∧ a < n) (hb : 0 ≤ b ∧ b < n) (ne : a ≠ b) (hj : j ≤ k) : (0 ≤ rowE a b n k j ∧ rowE a b n k j < (n + k : Nat)) ∧ (0 ≤ rowE a b n k (j + 1) ∧ rowE a b n k (j + 1) < (n + k : Nat)) ∧ rowE a b n k j ≠ rowE a b n k (j + 1) := by
  unfold rowE
  rw [if_neg (Nat.succ_ne_zero j)]
  split
  · split
    · refine ⟨by omega, by omega, by omega⟩
    · refine ⟨by omega, by omega, ne⟩
  · split
    · refine ⟨by omega, by omega, by omega⟩
    · refine ⟨by omega, by omega, by omega⟩
theorem new_at {H : Hp} {l : Addr} {o : HO} (h : H l = none) : Same H (upd H l o) ∧ (upd H l o) l = some o := ⟨same_new h, upd_same⟩
section
variable {P : Program} {w0 : World} {K : PySem.W.Frag} {mg : Str → Option Value} {base : Heap}
def spEared : Sp := fun vs H Q _ => ∃ (p c : Addr) (v : V), vs = [.ref p, v, .int 8, .int 16] ∧ Deck H p c ∧ WbV H v ∧ ∀ (v' : V) (H' : Hp), WbV H' v' → Deck H' p c → Kp p c H H' → Q v' H'
abbrev nEared : List Str := ["_law_deck_here", "_law_web_here", "_law_wide", "_law_most", "_law_n", "_law_ties", "_law_one", "_law_step", "_law_inner", "_law_other", "_law_row", "_law_at"]
theorem scEared : FnScope nEared ["_law_deck_here", "_law_web_here", "_law_wide", "_law_most"] (defScope lEared) := ⟨rfl, rfl, rfl, by decide +kernel, rfl, by decide +kernel, by decide +kernel⟩
theorem ok_eared {f fD fN fC fP : Addr} {fd fdD fdN fdC fdP : FuncData} (F : Fun K "_law_eared" "_law_eared" lEared f fd) (T : Bj mg) (GD : Dn P w0 K mg base "_law_draw" 1 ["_law_deck_here", "_law_many"] spDraw fD fdD)
    (GN : Dn P w0 K mg base "_law_near" 1 ["_law_web_here"] spLNear fN fdN) (GC : Dn P w0 K mg base "_law_can" 1 ["_law_near_here", "_law_left"] spLCan fC fdC) (GP : Dn P w0 K mg base "_law_pair" 1 ["_law_one", "_law_other"] spPair fP fdP) :
    FnOk P w0 K mg base CX0 2 f fd ["_law_deck_here", "_law_web_here", "_law_wide", "_law_most"] spEared := by
  refine F.ok scEared (fun vs H Q E h => ?_) (fun cdv A outer s H vs Q E hr h => ?_)
  · obtain ⟨p, c, v, rfl, _⟩ := h
    rfl
  · obtain ⟨p, c, v, rfl, D, ⟨w, n, L, rfl, G, h2, h8, h16⟩, k⟩ := h
    refine ⟨_, pss_cons (ps_asg (pv 1) (pg_tup rfl (pgs_cons (pg_name (i := 4) scEared.nd rfl (.inl rfl)) (pgs_cons (pg_name (i := 5) scEared.nd rfl (.inl rfl)) pgs_nil))))
      <| pss_cons (ps_par3 (i := 6) (j := 7) (l := 8) rfl scEared.nd rfl rfl rfl (by decide) (by decide) (by decide) rfl rfl rfl (pa_cons (pe_call GD.ok hr rfl GD.g GD.kp GD.b .nil pass0 (pa_cons (pv 0) (pa_cons (pv 4) pa_nil))) (pa_cons (pe_op op_add pe_int (pe_call GD.ok hr rfl GD.g GD.kp GD.b .nil pass0 (pa_cons (pv 0) (pa_cons (pe_op op_sub (pv 4) pe_int) pa_nil))))
            (pa_cons (pe_op op_mul pe_int (pe_call GD.ok hr rfl GD.g GD.kp GD.b .nil pass0 (pa_cons (pv 0) (pa_cons pe_int pa_nil)))) pa_nil))) (by rfl))
      <| pss_cons (ps_set (i := 9) scEared.nd rfl (.inl rfl) (pe_op op_modN (pe_callTy call_int1 (by rfl) T.int (by decide +kernel) (pa_cons (pe_op op_add (pv 6) (pv 7)) pa_nil)) (pv 4)))
      <| pss_cons (ps_if (PW.pt (pw_or (pt_cmpR op_gt (pe_op op_add (pv 4) (pv 8)) (pv 2) (nomark _)) (pw_or1 (pt_cmpR op_ge (pe_op op_add (pe_callB call_len_seq (by rfl) T.len PySem.boot_len (pa_cons (pv 5) pa_nil)) (pv 8)) (pv 3) (nomark _))))) (pss_one (ps_ret (pv 1))) pss_nil)
      <| pss_cons (ps_if (pt_not (pt_val (pe_call GC.ok hr rfl GC.g GC.kp GC.b .nil pass0 (pa_cons (pe_call GN.ok hr rfl GN.g GN.kp GN.b .nil pass0 (pa_cons (pv 1) pa_nil))
            (pa_cons (pe_op op_sub (pe_op op_sub (pe_op op_sub (pe_op op_oneShl pe_int (pv 4)) pe_int) (pe_op op_oneShl pe_int (pv 6))) (pe_op op_oneShl pe_int (pv 9))) pa_nil))))) (pss_one (ps_ret (pv 1))) pss_nil)
      <| pss_cons (ps_set (i := 10) scEared.nd rfl (.inr rfl) (pe_op op_cat (pe_op op_cat (pe_lst (pa_cons (pv 6) pa_nil)) (pe_listRg rfl (by rfl) T.list (prg_2 (by rfl) T.range (pv 4) (pe_op op_add (pv 4) (pv 8))))) (pe_lst (pa_cons (pv 9) pa_nil))))
      <| pss_one (ps_ret (pe_tup (pa_cons (pe_op op_add (pv 4) (pv 8)) (pa_cons (pe_callTy call_tuple_of (by rfl) T.tuple (by decide +kernel) (pa_cons (pe_callB (cr_sortT (d := 2) (B := 64) (by decide)) (by rfl) T.sorted (by decide +kernel)
          (pa_cons (pe_op op_cat (pe_callTy call_list_of (by rfl) T.list (by decide +kernel) (pa_cons (pv 5) pa_nil))
            (pe_lc (own := [("_law_at", 11)]) (g := gName 11) (tt := tYes) rfl scEared.nd (pi_range1 (by rfl) T.range (pa_cons (pe_op op_add (pv 8) pe_int) pa_nil)) (blkOk_by (N := nEared) (sc := defScope lEared) (by decide +kernel))
              (fun _ _ _ _ _ => pg_name (i := 11) scEared.nd rfl (.inl rfl)) (fun _ _ _ _ _ => pts_nil)
              (fun _ _ _ _ _ => pe_call GP.ok hr rfl GP.g GP.kp GP.b .nil pass0 (pa_cons (pe_ix (show IxR _ (rIxL K) from ix_list) (pv 10) (pv 11) (fun _ _ => rfl)) (pa_cons (pe_ix (show IxR _ (rIxL K) from ix_list) (pv 10) (pe_op op_add (pv 11) pe_int) (fun _ _ => rfl)) pa_nil))))) pa_nil)) pa_nil)) pa_nil)))), ?_⟩
    obtain ⟨ta, vs, e1, e2, e3⟩ := G.web.ex
    have len := e3.len
    have hB := G.bel
    refine ⟨_, rfl, w, _, rfl, SqT.of e1, rfl, _, _, rfl, _, _, rfl, rfl, ?_⟩
    refine ⟨_, rfl, _, rfl, p, c, _, rfl, D, by omega, by omega, fun x H1 x0 x1 D1 K1 => ⟨_, rfl, _, rfl, _, _, rfl, rfl, p, c, _, rfl, D1, by omega, by omega, fun y H2 y0 y1 D2 K2 => ⟨_, _, rfl, rfl, _, rfl, p, c, _, rfl, D2, by decide, by decide, fun z H3 z0 z1 D3 K3 => ?_⟩⟩⟩
    have K13 := (K1.trans K2).trans K3
    obtain ⟨a, rfl⟩ : ∃ a : Nat, x = a := ⟨x.toNat, by omega⟩
    obtain ⟨kk, rfl⟩ : ∃ kk : Nat, z = kk := ⟨z.toNat, by omega⟩
    refine ⟨_, _, rfl, rfl, ?cm, _, _, _, rfl, ?_⟩
    case cm => exact .inl ⟨by decide, by decide⟩
    have o0 := fmod_in (a := (a : Int) + (1 + y)) (b := (n : Int)) (by omega)
    have ne : (a : Int) ≠ ((a : Int) + (1 + y)).fmod n := by
      rw [Int.fmod_eq_emod_of_nonneg _ (by omega)]
      by_cases z : (a : Int) + (1 + y) < n
      · rw [Int.emod_eq_of_lt (by omega) z]; omega
      · have : ((a : Int) + (1 + y)) % (n : Int) = (a : Int) + (1 + y) - n := by
          rw [← Int.sub_emod_right, Int.emod_eq_of_lt (by omega) (by omega)]
        rw [this]; omega
    refine ⟨_, rfl, _, rfl, _, _, rfl, rfl, .inl ⟨_, rfl, _, rfl, _, _, rfl, rfl, by omega, ?_⟩⟩
    obtain ⟨b, eb⟩ : ∃ b : Nat, ((a : Int) + (1 + y)).fmod n = b := ⟨(((a : Int) + (1 + y)).fmod n).toNat, by omega⟩
    show gName 9 (.int (((a : Int) + (1 + y)).fmod n)) _ _ _
    rw [eb] at o0 ne ⊢
    have kp3 : KpT H H3 := K13.tup D
    have G3 := G.mono kp3
    have ret : ∀ M, Deck M p c → Kp p c H M → Q (.ref w) M := fun M DM KM => k _ M ⟨w, n, L, rfl, G.mono (KM.tup D), h2, h8, h16⟩ DM KM
    refine ⟨_, rfl, _, rfl, _, _, rfl, rfl, _, rfl, _, _, rfl, rfl, _, rfl, ite2 (fun _ => iteT ⟨_, rfl, ret H3 D3 K13⟩) (fun w1 => ?_)⟩
    refine ⟨_, rfl, ta, _, rfl, .inr (SqT.of (kp3 _ _ e2)), _, rfl, _, _, rfl, rfl, _, rfl, _, _, rfl, rfl, _, rfl, ite2 (fun _ => ⟨_, rfl, ret H3 D3 K13⟩) (fun w2 => ?_)⟩
    have w1' : ¬ ((n : Int) + 2 * (kk : Int) > 8) := fun z => w1 (decide_eq_true z)
    have w2' : ¬ (((vs.length : Nat) : Int) + 2 * (kk : Int) ≥ 16) := fun z => w2 (decide_eq_true z)
    have tp := two_pows (n := n) (a := a) (b := b) (by omega) (by omega) (by omega)
    have hm : (2 : Int) ^ n - 1 - 2 ^ a - 2 ^ b = ((2 ^ n - 1 - 2 ^ a - 2 ^ b : Nat) : Int) := by
      have c2 : ∀ j : Nat, (2 : Int) ^ j = ((2 ^ j : Nat) : Int) := fun j => by rw [Int.natCast_pow] <;> rfl
      rw [c2, c2, c2]
      omega
    refine ⟨_, rfl, w, n, L, rfl, G3.web, G.n2, hB, fun l ms H4 s4 hl el nr => ?_⟩
    refine ⟨_, rfl, n, rfl, rfl, by omega, _, _, rfl, rfl, _, rfl, a, rfl, rfl, by omega, _, _, rfl, rfl, _, rfl, b, rfl, rfl, by omega, _, _, rfl, rfl, ?_⟩
    refine ⟨l, 2 ^ n - 1 - 2 ^ a - 2 ^ b, n, ms, by show [V.ref l, V.int ((2 : Int) ^ n - 1 - 2 ^ a - 2 ^ b)] = _; rw [hm], el, nr.len, G.n2, by have := Nat.two_pow_pos n; have := Nat.two_pow_pos a; have := Nat.two_pow_pos b; omega, fun bb H5 s5 => ⟨_, rfl, ?_⟩⟩
    have s35 := s4.trans s5
    have D5 := D3.same s35
    have K5 := K13.trans (kp_same (p := p) (c := c) s35)
    cases bb with
    | false => exact iteT ⟨_, rfl, ret H5 D5 K5⟩
    | true =>
    refine iteF ?_
    have z1 : 1 ≤ sizeLine := by rw [sizeLine_eq]; decide
    have z8 : ∀ {m : Nat}, m ≤ 1000 → m ≤ sizeLine := fun h => by rw [sizeLine_eq]; omega
    have rl : (rgV (n : Int) ((n : Int) + 2 * (kk : Int))).length ≤ 20 := by rw [rgV_length]; omega
    refine ⟨_, rfl, z1, fun l1 hl1 => ⟨_, rfl, _, rfl, _, rfl, _, _, rfl, rfl, _, _, rfl, rfl, .of_le (by omega) (by omega) (by omega) (by omega), fun l2 hl2 => ?_⟩⟩
    have t1 := same_new (o := .lst [.int (a : Int)]) hl1
    have t2 := same_new (o := .lst (rgV (n : Int) ((n : Int) + 2 * (kk : Int)))) hl2
    refine ⟨l1, l2, _, _, rfl, rfl, t2 _ _ upd_same, upd_same, z8 (by show 1 + _ ≤ _; omega), fun l3 hl3 => ⟨_, rfl, z1, fun l4 hl4 => ?_⟩⟩
    have t3 := same_new (o := .lst ([.int (a : Int)] ++ rgV (n : Int) ((n : Int) + 2 * (kk : Int)))) hl3
    have t4 := same_new (o := .lst [.int (b : Int)]) hl4
    refine ⟨l3, l4, _, _, rfl, rfl, t4 _ _ upd_same, upd_same, z8 (by rw [List.length_append]; show 1 + _ + 1 ≤ _; omega), fun l5 hl5 => ?_⟩
    obtain ⟨t5, e5⟩ := new_at (o := .lst (([.int (a : Int)] ++ rgV (n : Int) ((n : Int) + 2 * (kk : Int))) ++ [.int (b : Int)])) hl5
    have s15 := (t1.trans t2).trans ((t3.trans t4).trans t5)
    refine ⟨_, rfl, _, rfl, _, _, rfl, rfl, _, rfl, ta, vs, rfl, .inr (SqT.of (s15 _ _ (s35 _ _ (kp3 _ _ e2)))), fun l6 hl6 => ?_⟩
    obtain ⟨t6, e6⟩ := new_at (o := .lst vs) hl6
    have r6 := t6 _ _ e5
    have s36 := s35.trans (s15.trans t6)
    have g36 := e3.mono (kp3.trans (KpT.same s36))
    generalize upd _ l6 _ = M6 at t6 e6 r6 s36 g36 ⊢
    refine ⟨_, rfl, _, _, rfl, rfl, _, rfl, by omega, by omega, fun Da hD => ?_⟩
    have n6 : l6 ≠ Da := ne_of_none e6 hD
    refine lc_range (lo := 0) (n := (2 * (kk : Int) + 1).toNat) (fun i N => ∃ ws L2, N Da = some (.lst ws) ∧ Prs N ws L2 ∧ Bel (n + 2 * kk : Nat) L2 ∧ L2.length = i ∧ Same M6 N) ⟨[], [], upd_same, .nil, .nil, rfl, same_new hD⟩ ?_ ?_
    · rintro i N hi ⟨ws, L2, g1, g2, g3, g4, g5⟩
      have il : i ≤ 2 * kk := by omega
      have rk := row_ok (a := (a : Int)) (b := (b : Int)) (n := n) (k := 2 * kk) (j := i) ⟨by omega, by omega⟩ ⟨by omega, by omega⟩ ne il
      refine ⟨rfl, yes_tt (iteT ?_)⟩
      refine ⟨_, rfl, _, rfl, l5, _, _, _, rfl, rfl, SqL.of (g5 _ _ r6), by rw [Int.zero_add]; exact atI_nat (row_at (k := 2 * kk) (by omega) (by omega)), _, rfl, _, rfl, _, _, rfl, rfl, l5, _, _, _, rfl, rfl, SqL.of (g5 _ _ r6), by rw [Int.zero_add]; exact atI_nat (j := i + 1) (row_at (k := 2 * kk) (by omega) (by omega)), _, _, rfl, fun t ht => ?_⟩
      obtain ⟨sT, eT⟩ := new_at (H := N) (o := .tup [.int (mm (rowE a b n (2 * kk) i) (rowE a b n (2 * kk) (i + 1))).1, .int (mm (rowE a b n (2 * kk) i) (rowE a b n (2 * kk) (i + 1))).2]) ht
      have g1' := sT _ _ g1
      have kp6 := (KpT.same sT).trans (KpT.upd (o' := .lst (ws ++ [.ref t])) g1' (fun _ z => nomatch z))
      refine ⟨ws, g1', by rw [g2.len, sizeLine_eq]; omega, ws ++ [.ref t], L2 ++ [mm (rowE a b n (2 * kk) i) (rowE a b n (2 * kk) (i + 1))], upd_same, (g2.mono kp6).app (.cons ?_ .nil), g3.snoc (mm_bel rk.1 rk.2.1 rk.2.2), by rw [List.length_append, g4]; rfl, set_same hD (g5.trans sT)⟩
      rw [upd_ne (ne_of_none g1 ht).symm]
      exact eT
    · rintro N ⟨ws, L2, g1, g2, g3, g4, g5⟩
      have l4 : L2.length = 2 * kk + 1 := by rw [g4]; omega
      refine ⟨l6, Da, _, _, rfl, rfl, g5 _ _ e6, g1, z8 (by rw [g2.len]; omega), fun l7 hl7 => ?_⟩
      obtain ⟨t7, e7⟩ := new_at (o := .lst (vs ++ ws)) hl7
      have p7 := ((g36.mono (KpT.same g5)).app g2).mono (KpT.same t7)
      have hB2 : Bel ((n + 2 * kk : Nat) : Int) (L ++ L2) := Bel.app (fun q hq => by have := hB q hq; omega) g3
      have ln : (vs ++ ws).length ≤ 40 := by rw [List.length_append, g2.len]; omega
      refine ⟨l7, vs ++ ws, rfl, SqL.of e7, by omega, p7.tups hB2 (by omega), fun ys b2 pm pw hb => ?_⟩
      obtain ⟨M2, pm2, pr⟩ := Prs.perm pm p7
      have sr := pr.srt pw
      refine ⟨b2, ys, rfl, .inl ⟨SqL.of upd_same, fun t ht => ⟨by show 2 ≤ sizeLine; rw [sizeLine_eq]; decide, fun wa hw => ?_⟩⟩⟩
      have sb := same_new (o := .lst ys) hb
      have st := same_new (o := .tup ys) ht
      have sw := same_new (o := .tup [.int ((n : Int) + 2 * (kk : Int)), .ref t]) hw
      have s3 := (sb.trans st).trans sw
      have sall := s36.trans (g5.trans (t7.trans s3))
      have lM : M2.length = L.length + L2.length := by rw [pm2.length_eq, List.length_append]
      refine k (.ref wa) _ ⟨wa, n + 2 * kk, M2, rfl, ⟨⟨t, ys, ?_, sw _ _ upd_same, pr.mono ((KpT.same sb).trans ((KpT.same st).trans (KpT.same sw)))⟩, by omega, by omega, hB2.sub fun q z => pm2.mem_iff.mp z, sr, by omega⟩, by omega, by omega, by omega⟩ (D3.same sall) (K13.trans (kp_same sall))
      rw [upd_same, show ((n + 2 * kk : Nat) : Int) = (n : Int) + 2 * (kk : Int) by omega]
end
end K0

set_option Elab.async false
set_option linter.all false
set_option maxRecDepth 100000
set_option maxHeartbeats 8000000
/-! The law's own parts, their lots known whole. -/
namespace K0
open PySem PySem.Spec L2
open PyProof.Rows hiding St
open KR (TupX tobj)
theorem new_tupX {H : Hp} {a : Addr} {o : HO} (h : H a = none) : ∀ b x, TupX H b x → TupX (upd H a o) b x := fun b x t => t.same (same_new h)
theorem upd_tupX {H : Hp} {a : Addr} {o : HO} {ws : List V} (e : H a = some (.lst ws)) : ∀ b x, TupX H b x → TupX (upd H a o) b x := fun b x ⟨us, q⟩ => ⟨us, by rw [upd_ne (fun z => by rw [z, e] at q; cases q)]; exact q⟩
inductive TupsX (H : Hp) : List V → List (List Nat) → Prop
  | nil : TupsX H [] []
  | cons {t : Addr} {r : List Nat} {vs : List V} {ys : List (List Nat)} (h : TupX H t (r.map natV)) (q : TupsX H vs ys) : TupsX H (.ref t :: vs) (r :: ys)
theorem TupsX.mono {H H' : Hp} {vs : List V} {ys : List (List Nat)} (p : TupsX H vs ys) (s : ∀ a x, TupX H a x → TupX H' a x) : TupsX H' vs ys := by
  induction p with
  | nil => exact .nil
  | cons h _ ih => exact .cons (s _ _ h) ih
theorem TupsX.same {H H' : Hp} {vs : List V} {ys : List (List Nat)} (p : TupsX H vs ys) (s : Same H H') : TupsX H' vs ys := p.mono fun _ _ t => t.same s
theorem TupsX.app {H : Hp} {vs ws : List V} {ys zs : List (List Nat)} (p : TupsX H vs ys) (q : TupsX H ws zs) : TupsX H (vs ++ ws) (ys ++ zs) := by
  induction p with
  | nil => exact q
  | cons h _ ih => exact .cons h ih
theorem TupsX.len {H : Hp} {vs : List V} {ys : List (List Nat)} (p : TupsX H vs ys) : vs.length = ys.length := by
  induction p with
  | nil => rfl
  | cons _ _ ih => rw [List.length_cons, List.length_cons, ih]
theorem TupsX.get {H : Hp} {vs : List V} {ys : List (List Nat)} (p : TupsX H vs ys) : ∀ {i : Nat} {v : V}, vs[i]? = some v → ∃ t r, v = .ref t ∧ ys[i]? = some r ∧ TupX H t (r.map natV) := by
  induction p with
  | nil => intro i v z; cases z
  | @cons t r vs ys h _ ih =>
    intro i v z
    cases i with
    | zero => cases z; exact ⟨t, r, rfl, rfl, h⟩
    | succ i => exact ih (by simpa using z)
theorem TupsX.at {H : Hp} {vs : List V} {ys : List (List Nat)} (p : TupsX H vs ys) : TupsAt H vs ys := by
  induction p with
  | nil => exact .nil
  | cons h _ ih => exact .cons (.inr h) ih
theorem TupsX.perm {H : Hp} {vs : List V} {ys : List (List Nat)} (p : TupsX H vs ys) {ws : List V} (q : ws.Perm vs) : ∃ zs, zs.Perm ys ∧ TupsX H ws zs := by
  induction q generalizing ys with
  | nil => exact ⟨ys, .refl _, p⟩
  | trans q1 q2 ih1 ih2 =>
    obtain ⟨z1, h1, h2⟩ := ih2 p
    obtain ⟨z2, h3, h4⟩ := ih1 h2
    exact ⟨z2, h3.trans h1, h4⟩
  | swap x y l =>
    cases p with
    | cons h p =>
      cases p with
      | cons g p => exact ⟨_, .swap .., .cons g (.cons h p)⟩
  | cons x _ ih =>
    cases p with
    | cons h p =>
      obtain ⟨zs, h1, h2⟩ := ih p
      exact ⟨_, h1.cons _, .cons h h2⟩
/-- the ints of a tuple that is known whole -/
def kOfX (M : Hp) : V → List Int
  | .ref t => match M t with
    | some (.frz _ (.tup xs)) => xs.map intV
    | _ => []
  | _ => []
theorem kOfX_row {M : Hp} {t : Addr} {r : List Nat} (h : TupX M t (r.map natV)) : kOfX M (.ref t) = r.map fun i => ((i : Nat) : Int) := by
  obtain ⟨us, h⟩ := h
  simp only [kOfX, h]
  rw [List.map_map]
  exact List.map_congr_left fun _ _ => rfl
theorem TupsX.srt {M : Hp} {vs : List V} {ys : List (List Nat)} (p : TupsX M vs ys) (d : ys.Pairwise fun a b => ∀ i, i ∈ a → i ∉ b) (ne : ∀ c ∈ ys, c ≠ []) (h : vs.Pairwise fun x y => HT.lexLt (kOfX M y) (kOfX M x) = false) : ys.Pairwise fun a b => hd a < hd b := by
  induction p with
  | nil => exact .nil
  | @cons t r vs ys ht q ih =>
    obtain ⟨h1, h2⟩ := List.pairwise_cons.mp h
    obtain ⟨d1, d2⟩ := List.pairwise_cons.mp d
    refine List.pairwise_cons.mpr ⟨fun c hc => ?_, ih d2 (fun c hc => ne c (List.mem_cons_of_mem _ hc)) h2⟩
    obtain ⟨i, hi⟩ := List.getElem?_of_mem hc
    have li : i < vs.length := by rw [q.len]; exact (List.getElem?_eq_some_iff.mp hi).1
    obtain ⟨t', r', e1, e2, e3⟩ := q.get (List.getElem?_eq_getElem li)
    rw [hi] at e2
    cases e2
    have := h1 _ (List.getElem_mem li)
    rw [e1, kOfX_row e3, kOfX_row ht] at this
    exact lex_hd (ne _ (List.mem_cons_self ..)) (ne c (List.mem_cons_of_mem _ hc)) (d1 c hc) this
theorem TupsX.tupI {K : PySem.W.Frag} {M : Hp} {vs : List V} {ys : List (List Nat)} (p : TupsX M vs ys) (ne : ∀ c ∈ ys, c ≠ []) : ∀ x ∈ vs, TupI K M x (kOfX M x) ∧ kOfX M x ≠ [] := fun x hx => by
  obtain ⟨i, hi⟩ := List.getElem?_of_mem hx
  obtain ⟨t, r, rfl, e2, e3⟩ := p.get hi
  rw [kOfX_row e3]
  refine ⟨⟨t, rfl, ?_⟩, fun z => ne r (List.mem_of_getElem? e2) (List.map_eq_nil_iff.mp z)⟩
  rw [← natV_ints]
  exact e3.sq
theorem TupsX.two {H : Hp} {vs : List V} {c e : List Nat} (p : TupsX H vs [c, e]) : ∃ t u, vs = [.ref t, .ref u] ∧ TupX H t (c.map natV) ∧ TupX H u (e.map natV) := by
  cases p with
  | cons h p =>
    cases p with
    | cons g p =>
      cases p
      exact ⟨_, _, rfl, h, g⟩
def spLPartsX : Sp := fun vs H Q _ => ∃ (w : Addr) (n : Nat) (L : List (Int × Int)), vs = [.ref w] ∧ Web H w n L ∧ n ≤ 12 ∧ Bel n L ∧ L.length ≤ 40 ∧ ∀ (t : Addr) (us : List V) (ys : List (List Nat)) (H' : Hp), Same H H' → H t = none → H' t = some (.tup us) → TupsX H' us ys → IsParts L (2 ^ n - 1) ys → Q (.ref t) H'
section
variable {P : Program} {w0 : World} {K : PySem.W.Frag} {mg : Str → Option Value} {base : Heap}
abbrev nLPartsX : List Str := ["_law_web_here", "_law_found", "_law_one", "_law_other", "_law_near_here", "_law_place", "_law_part"]
theorem scLPartsX : FnScope nLPartsX ["_law_web_here"] (defScope lParts) := ⟨rfl, rfl, rfl, by decide +kernel, rfl, by decide +kernel, by decide +kernel⟩
theorem ok_lPartsX {f : Addr} {fd : FuncData} (F : Fun K "_law_parts" "_law_parts" lParts f fd) (T : Bk mg) : FnOk P w0 K mg base CX0 1 f fd ["_law_web_here"] spLPartsX := by
  refine F.ok scLPartsX (fun vs H Q E h => ?_) (fun cdv A outer s H vs Q E hr h => ?_)
  · obtain ⟨w, n, L, rfl, _⟩ := h
    rfl
  · obtain ⟨w, n, L, rfl, W, hn, hB, few, k⟩ := h
    have hu6 : A.units + 3 + 65 < cLine := by have := hr.un; have e : (A.deeper (envOfC "_law_parts" (defScope lParts) s.heap.objs.size f cdv)).units = A.units + 3 := rfl; omega
    refine ⟨_, pss_cons (ps_setLc (i := 1) (own := [("_law_place", 5)]) (g := gName 5) (tt := tYes) rfl scLPartsX.nd rfl rfl (sw_true rfl rfl rfl (by decide +kernel))
          (pi_range1 (by rfl) T.range (pa_cons (pe_ix ix_tup (pv 0) pe_int (fun _ _ => rfl)) pa_nil)) (blkOk_by (N := nLPartsX) (sc := defScope lParts) (by decide +kernel)) (fun _ _ _ _ _ => pg_name (i := 5) scLPartsX.nd rfl (Or.inl rfl)) (fun _ _ _ _ _ => pts_nil)
          (fun _ _ _ _ _ => pe_tupF (pa_cons (pv 5) pa_nil)))
      <| pss_cons (ps_for PassesOwn.never rfl (pi_tup (pe_ix ix_tup (pv 0) pe_int (fun _ _ => rfl))) (pg_tup rfl (pgs_cons (pg_name (i := 2) scLPartsX.nd rfl (.inr rfl)) (pgs_cons (pg_name (i := 3) scLPartsX.nd rfl (.inr rfl)) pgs_nil)))
          (pss_cons (ps_set (i := 4) scLPartsX.nd rfl (.inr rfl) (pe_lc (own := [("_law_part", 6)]) (g := gName 6) rfl scLPartsX.nd (pi_list (pv 1)) (blkOk_by (N := nLPartsX) (sc := defScope lParts) (by decide +kernel))
              (fun _ _ _ _ _ => pg_name (i := 6) scLPartsX.nd rfl (Or.inl rfl))
              (fun _ _ _ _ _ => pts_one (PW.pt (pw_or (pt_cmpR (show OpR _ (compareOp .In) (rIn K false) from op_in_seq) (pv 2) (pv 6) (by rfl)) (pw_or1 (pt_cmpR (show OpR _ (compareOp .In) (rIn K false) from op_in_seq) (pv 3) (pv 6) (by rfl)))))) (fun _ _ _ _ _ => pv 6)))
          <| pss_one (ps_if (pt_cmpR op_eq (pe_callB call_len_seq (by rfl) T.len PySem.boot_len (pa_cons (pv 4) pa_nil)) pe_int (nomark _))
              (pss_one (ps_set (i := 1) scLPartsX.nd rfl (.inl rfl) (pe_op op_cat (pe_lc (own := [("_law_part", 6)]) (g := gName 6) rfl scLPartsX.nd (pi_list (pv 1)) (blkOk_by (N := nLPartsX) (sc := defScope lParts) (by decide +kernel))
                (fun _ _ _ _ _ => pg_name (i := 6) scLPartsX.nd rfl (Or.inl rfl))
                (fun _ _ _ _ _ => pts_one (pt_cmpR (show OpR _ (compareOp .NotIn) (rNotInD K) from op_notInD hu6) (pv 6) (pv 4) (by rfl))) (fun _ _ _ _ _ => pv 6))
                (pe_lst (pa_cons (pe_callTy KR.call_tupF (by rfl) T.tuple (by decide +kernel) (pa_cons (pe_callB (KR.cr_sortTI) (by rfl) T.sorted (by decide +kernel)
                  (pa_cons (pe_op op_catT (pe_ix (show IxR _ (rIxL K) from ix_list) (pv 4) pe_int (fun _ _ => rfl)) (pe_ix (show IxR _ (rIxL K) from ix_list) (pv 4) pe_int (fun _ _ => rfl))) pa_nil)) pa_nil)) pa_nil))))) pss_nil)))
      <| pss_one (ps_ret (pe_callTy call_tuple_of (by rfl) T.tuple (by decide +kernel) (pa_cons (pe_callB (show CallR _ (.builtin "sorted") (KR.rSortTL K) from KR.cr_sortTL) (by rfl) T.sorted (by decide +kernel) (pa_cons (pv 1) pa_nil)) pa_nil))), ?_⟩
    obtain ⟨ta, vs, e1, e2, e3⟩ := W.ex
    refine ⟨_, rfl, w, _, _, _, rfl, rfl, SqT.of e1, atI_nat (j := 0) rfl, _, rfl, by omega, by omega, fun Da hD => ?_⟩
    have s0 : Same H (upd H Da (.lst [])) := same_new hD
    refine lc_range (lo := 0) (n := ((n : Nat) : Int).toNat) (fun i M => ∃ us, M Da = some (.lst us) ∧ TupsX M us ((List.range i).map fun i => [i]) ∧ Same H M) ⟨[], upd_same, .nil, s0⟩ ?_ ?_
    · rintro i M hi ⟨us, g1, g2, g3⟩
      refine ⟨rfl, ?_⟩
      unfold tYes
      have l := g2.len
      rw [List.length_map, List.length_range] at l
      refine iteT ⟨_, rfl, by show 1 ≤ sizeLine; decide, fun t uu ht => ?_⟩
      have g1' : (upd M t (.frz (tobj uu) (.tup [V.int (0 + (i : Int))]))) Da = some (.lst us) := by rw [upd_ne (ne_of_none g1 ht)]; exact g1
      refine ⟨us, g1', by rw [l, sizeLine_eq]; omega, us ++ [.ref t], upd_same, ?_, set_same hD (g3.trans (same_new ht))⟩
      rw [List.range_succ, List.map_append]
      exact ((g2.mono (new_tupX ht)).app (.cons (r := [i]) ⟨uu, by rw [upd_same, Int.zero_add] <;> rfl⟩ .nil)).mono (upd_tupX g1')
    · rintro M0 ⟨us0, g1, g2, g3⟩
      rw [Int.toNat_natCast] at g2
      refine ⟨_, rfl, w, _, _, _, rfl, rfl, SqT.of (g3 _ _ e1), atI_nat (j := 1) rfl, ta, rfl, ⟨_, SqT.of (g3 _ _ e2)⟩, ?_⟩
      refine for_tup (K := K) (a := ta) (xs := vs) (fun i σ M => ∃ (lf : Addr) (us : List V) (xs : List (List Nat)) (o2 o3 o4 : Option V), σ = [some (.ref w), some (.ref lf), o2, o3, o4, none, none] ∧ M lf = some (.lst us) ∧ TupsX M us xs ∧ Cls (L.take i) (2 ^ n - 1) xs ∧ Same H M)
        ⟨Da, us0, _, none, none, none, rfl, g1, g2, by rw [List.take_zero]; exact Cls.start n, g3⟩ (fun i σ M _ ⟨_, _, _, _, _, _, _, _, _, _, s⟩ => SqT.of (s _ _ e2)) ?_ ?_
      · rintro i x σ M hx ⟨lf, us, xs, o2, o3, o4, rfl, f1, f2, C, f3⟩
        obtain ⟨b, q, rfl, hq, hb⟩ := e3.get hx
        have bq := hB q (List.mem_of_getElem? hq)
        obtain ⟨q1, q2⟩ := q
        obtain ⟨a1, rfl⟩ : ∃ a1 : Nat, q1 = a1 := ⟨q1.toNat, by have := bq.1; dsimp only at this; omega⟩
        obtain ⟨a2, rfl⟩ : ∃ a2 : Nat, q2 = a2 := ⟨q2.toNat, by have := bq.1; have := bq.2.1; dsimp only at *; omega⟩
        dsimp only at bq
        have lt : a1 < a2 := by omega
        have l2 : a2 < n := by omega
        have ts := take_snoc hq
        have fw := C.few
        have lus := f2.len
        refine ⟨b, _, rfl, SqT.of (f3 _ _ hb), rfl, _, _, rfl, _, _, rfl, rfl, ?_⟩
        refine ⟨_, rfl, lf, rfl, ⟨_, SqL.of f1⟩, fun Dn hDn => ?_⟩
        have sn : Same M (upd M Dn (.lst [])) := same_new hDn
        refine lc_list (K := K) (a := lf) (xs := us) (fun j N => ∃ ws, N Dn = some (.lst ws) ∧ TupsX N ws (nearC a1 a2 (xs.take j)) ∧ Same M N) ⟨[], upd_same, .nil, sn⟩ (fun j N _ ⟨_, _, _, s⟩ => SqL.of (s _ _ f1)) ?_ ?_
        · rintro j y N hy ⟨ws, g1, g2, g3⟩
          obtain ⟨t, r, rfl, hr', ht⟩ := f2.get hy
          have ht' := ht.same g3
          have lw := g2.len
          have lw2 : (nearC a1 a2 (xs.take j)).length ≤ n := Nat.le_trans (List.length_filter_le _ _) (by rw [List.length_take]; omega)
          have nt : nearC a1 a2 (xs.take (j + 1)) = nearC a1 a2 (xs.take j) ++ [r].filter fun c => decide (a1 ∈ c) || decide (a2 ∈ c) := by rw [take_snoc hr']; unfold nearC; rw [List.filter_append]
          have eb : ∀ k : Nat, (if false = true then !inV (V.int (k : Int)) (r.map natV) else inV (V.int (k : Int)) (r.map natV)) = decide (k ∈ r) := fun k => by rw [if_neg Bool.false_ne_true]; exact inV_nat k r
          have yes : (decide (a1 ∈ r) || decide (a2 ∈ r)) = true → ∃ ws', (upd N Dn (.lst (ws ++ [.ref t]))) Dn = some (.lst ws') ∧ TupsX (upd N Dn (.lst (ws ++ [.ref t]))) ws' (nearC a1 a2 (xs.take (j + 1))) ∧ Same M (upd N Dn (.lst (ws ++ [.ref t]))) := fun h => by
            refine ⟨_, upd_same, ?_, set_same hDn g3⟩
            rw [nt, List.filter_cons_of_pos (p := fun c => decide (a1 ∈ c) || decide (a2 ∈ c)) h, List.filter_nil]
            exact (g2.app (.cons ht' .nil)).mono (upd_tupX g1)
          refine ⟨rfl, _, rfl, _, rfl, t, _, rfl, .inr ht'.sq, rfl, flat_natV _, _, rfl, ?_⟩
          rw [eb]
          cases h1 : decide (a1 ∈ r) with
          | true => exact iteT (iteT ⟨_, rfl, ws, g1, by rw [sizeLine_eq]; omega, yes (by rw [h1, Bool.true_or])⟩)
          | false =>
            refine iteF ⟨_, rfl, _, rfl, t, _, rfl, .inr ht'.sq, rfl, flat_natV _, _, rfl, ?_⟩
            rw [eb]
            cases h2 : decide (a2 ∈ r) with
            | true => exact iteT ⟨_, rfl, ws, g1, by rw [sizeLine_eq]; omega, yes (by rw [h1, h2] <;> rfl)⟩
            | false => exact iteF ⟨ws, g1, by rw [nt, List.filter_cons_of_neg (by rw [h1, h2]; decide), List.filter_nil, List.append_nil]; exact g2, g3⟩
        · rintro N ⟨ws, g1, g2, g3⟩
          rw [lus, List.take_length] at g2
          have lw := g2.len
          have ba : (2 ^ n - 1).testBit a1 = true := by rw [full_bit]; exact decide_eq_true (by omega)
          have bb : (2 ^ n - 1).testBit a2 = true := by rw [full_bit]; exact decide_eq_true l2
          refine ⟨_, rfl, Dn, ws, rfl, .inl (SqL.of g1), rfl, _, rfl, ?_⟩
          have dl : ∀ j : Nat, decide (V.int ((j : Nat) : Int) = V.int 2) = decide (j = 2) := fun j => by
            refine decide_eq_decide.mpr ⟨fun z => ?_, fun z => by rw [z] <;> rfl⟩
            injection z with z
            omega
          rw [dl, lw]
          rcases C.near ba bb with ⟨c, en, ac, bc, hc⟩ | ⟨c, e, en, hc, he, ce, ends, pm⟩
          · rw [en]
            refine iteF ⟨lf, us, xs, _, _, _, rfl, g3 _ _ f1, f2.same g3, ?_, f3.trans g3⟩
            rw [ts]
            exact C.stay ba bb ((C.one hc ac a2).mp bc)
          · rw [en]
            refine iteT ?_
            rw [en] at g2
            obtain ⟨tc, te, rfl, htc, hte⟩ := g2.two
            refine ⟨_, rfl, lf, rfl, ⟨_, SqL.of (g3 _ _ f1)⟩, fun Dq hDq => ?_⟩
            have sq : Same N (upd N Dq (.lst [])) := same_new hDq
            refine lc_list (K := K) (a := lf) (xs := us) (fun j N2 => ∃ vs2, N2 Dq = some (.lst vs2) ∧ TupsX N2 vs2 ((xs.take j).filter fun x => !decide (x ∈ nearC a1 a2 xs)) ∧ Same N N2) ⟨[], upd_same, .nil, sq⟩ (fun j N2 _ ⟨_, _, _, s⟩ => SqL.of (s _ _ (g3 _ _ f1))) ?_ ?_
            · rintro j y N2 hy ⟨vs2, h1, h2, h3⟩
              obtain ⟨t, r, rfl, hr', ht⟩ := f2.get hy
              have ht' := (ht.same g3).same h3
              have lv := h2.len
              have lv2 : ((xs.take j).filter fun x => !decide (x ∈ nearC a1 a2 xs)).length ≤ n := Nat.le_trans (List.length_filter_le _ _) (by rw [List.length_take]; omega)
              have nt : (xs.take (j + 1)).filter (fun x => !decide (x ∈ nearC a1 a2 xs)) = (xs.take j).filter (fun x => !decide (x ∈ nearC a1 a2 xs)) ++ [r].filter fun x => !decide (x ∈ nearC a1 a2 xs) := by rw [take_snoc hr', List.filter_append]
              refine ⟨rfl, _, rfl, _, rfl, rowD r, [c, e].map rowD, dp_row (.inr ht'), .lst (SqL.of (h3 _ _ g1)) ((g2.same h3).at.dp), row_sh r, rows_sh _, _, rfl, ?_⟩
              rw [rows_any, ← en]
              cases hm : decide (r ∈ nearC a1 a2 xs) with
              | true => exact iteF ⟨vs2, h1, by rw [nt, List.filter_cons_of_neg (by rw [hm]; decide), List.filter_nil, List.append_nil]; exact h2, h3⟩
              | false =>
                refine iteT ⟨_, rfl, vs2, h1, by rw [sizeLine_eq]; omega, _, upd_same, ?_, set_same hDq h3⟩
                rw [nt, List.filter_cons_of_pos (p := fun x => !decide (x ∈ nearC a1 a2 xs)) (by rw [hm] <;> rfl), List.filter_nil]
                exact (h2.app (.cons ht' .nil)).mono (upd_tupX h1)
            · rintro N2 ⟨vs2, h1, h2, h3⟩
              rw [lus, List.take_length] at h2
              have lc' := (C.short hc).1
              have le' := (C.short he).1
              have ec : ∀ l : List Nat, l.map natV = (l.map fun i => ((i : Nat) : Int)).map V.int := natV_ints
              refine ⟨_, rfl, Dn, _, _, _, rfl, rfl, SqL.of (h3 _ _ g1), atI_nat (j := 0) rfl, _, rfl, Dn, _, _, _, rfl, rfl, SqL.of (h3 _ _ g1), atI_nat (j := 1) rfl, ?_⟩
              refine ⟨tc, te, _, _, rfl, rfl, (htc.same h3).sq, (hte.same h3).sq, fun z => C.ne hc (List.map_eq_nil_iff.mp z), by rw [List.length_map, List.length_map, sizeLine_eq]; omega, fun z => absurd (List.map_eq_nil_iff.mp z) (C.ne he), fun _ p hp => ?_⟩
              refine ⟨p, (c ++ e).map fun i => ((i : Nat) : Int), rfl, SqT.of (by rw [upd_same, ← List.map_append, ec]), fun ms p2 pmm pw hp2 => ?_⟩
              obtain ⟨g, rfl, gi, gm, gl⟩ := merge (C.inc c hc) (C.inc e he) (fun i h1 h2 => ce (dis_mem C.dis hc he h1 h2)) pmm pw
              have s4 : Same N2 (upd (upd N2 p (.tup (c.map natV ++ e.map natV))) p2 (.lst ((g.map fun i => ((i : Nat) : Int)).map V.int))) := (same_new hp).trans (same_new hp2)
              refine ⟨p2, _, rfl, SqL.of upd_same, fun t uu ht => ⟨by show 1 ≤ sizeLine; decide, fun l hl => ?_⟩⟩
              have s5 := (s4.trans (same_new (o := .frz (tobj uu) (.tup ((g.map fun i => ((i : Nat) : Int)).map V.int))) ht)).trans (same_new (o := .lst [.ref t]) hl)
              have lv := h2.len
              have lv2 : (xs.filter fun x => !decide (x ∈ nearC a1 a2 xs)).length ≤ n := Nat.le_trans (List.length_filter_le _ _) fw
              refine ⟨Dq, l, vs2, [.ref t], rfl, rfl, s5 _ _ h1, upd_same, by rw [List.length_singleton, sizeLine_eq]; omega, fun z hz => ?_⟩
              have s6 := s5.trans (same_new (o := .lst (vs2 ++ [.ref t])) hz)
              have et0 : TupX (upd (upd (upd N2 p (.tup (c.map natV ++ e.map natV))) p2 (.lst ((g.map fun i => ((i : Nat) : Int)).map V.int))) t (.frz (tobj uu) (.tup ((g.map fun i => ((i : Nat) : Int)).map V.int)))) t (g.map natV) := ⟨uu, by rw [upd_same, ← ec]⟩
              have et := et0.same ((same_new (o := .lst [.ref t]) hl).trans (same_new (o := .lst (vs2 ++ [.ref t])) hz))
              refine ⟨z, _, (xs.filter fun x => !decide (x ∈ nearC a1 a2 xs)) ++ [g], _, _, _, rfl, upd_same, (h2.same s6).app (.cons et .nil), ?_, ((f3.trans g3).trans h3).trans s6⟩
              rw [ts]
              have C1 := C.perm pm.symm
              rcases ends with ⟨x1, x2⟩ | ⟨x1, x2⟩
              · exact C1.join x1 x2 gi gm
              · exact (C1.perm (.swap ..)).join x2 x1 gi fun i => (gm i).trans or_comm
      · rintro σ M ⟨lf, us, xs, o2, o3, o4, rfl, f1, f2, C, f3⟩
        rw [e3.len, List.take_length] at C
        refine ⟨_, rfl, lf, us, kOfX M, rfl, SqL.of f1, f2.tupI fun c hc => C.ne hc, fun ys p pm pw hp => ?_⟩
        obtain ⟨zs, z1, z2⟩ := f2.perm pm
        have C2 := C.perm z1
        have asc := z2.srt C2.dis (fun c hc => C2.ne hc) pw
        refine ⟨p, ys, rfl, .inl ⟨SqL.of upd_same, fun t ht => ?_⟩⟩
        have s9 := (f3.trans (same_new (o := .lst ys) hp)).trans (same_new (o := .tup ys) ht)
        exact k t ys zs _ s9 ((f3.trans (same_new (o := .lst ys) hp)).free ht) upd_same ((z2.mono (new_tupX hp)).mono (new_tupX ht)) ⟨C2, asc⟩
end
end K0

set_option Elab.async false
set_option linter.all false
set_option maxRecDepth 100000
set_option maxHeartbeats 8000000
/-! The law's own: the core of a web. -/
namespace K0
open PySem PySem.Spec L2
open PyProof.Rows hiding St
open KR (TupX tobj)
abbrev lCore : Stmt := top 39
/-- a dict == {} -/
def rEqL : R2 := fun x y H Q => ∃ a b ks, x = .ref a ∧ y = .ref b ∧ H a = some (.dK ks) ∧ H b = some (.dK []) ∧ Q (.bl ks.isEmpty) H
theorem op_eqL {X : Cx} (hu : X.A.units < cLine) : OpR X (compareOp .Eq) rEqL := by
  intro pins s σ H x y v u Q I rx ry h
  obtain ⟨a, b, ks, rfl, rfl, ea, eb, q⟩ := h
  cases ks with
  | nil => exact op_eq_dictA hu pins s σ H _ _ v u Q I rx ry ⟨a, b, [], [], rfl, rfl, ea, eb, rfl, by simp, q⟩
  | cons k ks =>
    obtain rfl : v = Value.ref a := rx
    obtain rfl : u = Value.ref b := ry
    obtain ⟨_, ya, va, ra, da⟩ := (show ObjOk X.prog X.w H s.heap a (.dK (k :: ks)) from I.hok a _ ea)
    obtain ⟨_, yb, vb, rb, db⟩ := (show ObjOk X.prog X.w H s.heap b (.dK []) from I.hok b _ eb)
    have l1 := ra.length
    have l2 := rb.length
    have hl : va.length ≠ vb.length := by rw [← l1, ← l2]; simp
    exact PySem.W.keq_eq (knd := mixKind X.prog X.w) (r := true) ya yb da db hu (fun z => absurd z hl) (fin_bl I q (by simp [hl]))
def keepI (L : List (Int × Int)) (f : Nat → Bool) (i : Nat) : List (Int × Int) := ((List.range i).filter f).map (tie L)
theorem keep_succ (L : List (Int × Int)) (f : Nat → Bool) (i : Nat) : keepI L f (i + 1) = if f i = true then keepI L f i ++ [tie L i] else keepI L f i := by
  unfold keepI
  rw [List.range_succ, List.filter_append]
  cases h : f i with
  | true => rw [if_pos rfl, List.filter_cons_of_pos h, List.filter_nil, List.map_append] <;> rfl
  | false => rw [if_neg Bool.false_ne_true, List.filter_cons_of_neg (by rw [h]; decide), List.filter_nil, List.append_nil]
theorem tie_all (L : List (Int × Int)) : (List.range L.length).map (tie L) = L := by
  refine List.ext_getElem (by simp) fun i h1 h2 => ?_
  simp [tie, List.getD_eq_getElem?_getD, h2]
theorem keep_sub (L : List (Int × Int)) (f : Nat → Bool) : (keepI L f L.length).Sublist L := by
  have : (keepI L f L.length).Sublist ((List.range L.length).map (tie L)) := List.Sublist.map _ List.filter_sublist
  rwa [tie_all] at this
theorem keep_mem {L : List (Int × Int)} {f : Nat → Bool} {k : Nat} (hk : k < L.length) (h : f k = true) : tie L k ∈ keepI L f L.length := List.mem_map.mpr ⟨k, List.mem_filter.mpr ⟨List.mem_range.mpr hk, h⟩, rfl⟩
/-- the first part has a second place -/
theorem core_two {L : List (Int × Int)} {n : Nat} {r0 : List Nat} {ys : List (List Nat)} (I : IsParts L (2 ^ n - 1) (r0 :: ys)) (n1 : 1 ≤ n) {o : Nat} (on : o < n) (o0 : o ≠ 0) (a : Adj L 0 o) : 2 ≤ r0.length := by
  have b0 : (2 ^ n - 1).testBit 0 = true := by rw [full_bit]; exact decide_eq_true (by omega)
  have bo : (2 ^ n - 1).testBit o = true := by rw [full_bit]; exact decide_eq_true on
  obtain ⟨c, hc, h0⟩ := I.cls.all 0 b0
  have r00 : 0 ∈ r0 := by
    rcases List.mem_cons.mp hc with rfl | z
    · exact h0
    · have lt := (List.pairwise_cons.mp I.asc).1 c z
      have inc := I.cls.inc c hc
      have : hd c = 0 := by
        cases c with
        | nil => cases h0
        | cons x s =>
          rcases List.mem_cons.mp h0 with e | e
          · exact e.symm
          · have := (List.pairwise_cons.mp inc).1 0 e
            omega
      omega
  have ro : o ∈ r0 := (I.cls.one (List.mem_cons_self ..) r00 o).mpr (.step (.refl b0) a bo)
  match r0, r00, ro with
  | [x], h1, h2 =>
    rw [List.mem_singleton] at h1 h2
    omega
  | _ :: _ :: _, _, _ => simp
/-- a pairing meets the first place -/
theorem due_zero {L : List (Int × Int)} {n : Nat} (hB : BelP L) (hS : SrtP L) (hn : n ≤ 12) (n1 : 1 ≤ n) {p : List Nat} (hp : p ∈ dueN L n) : ∃ k ∈ p, k < L.length ∧ (tie L k).1 = 0 := by
  obtain ⟨_, lt, pm, _⟩ := due_asc hB hS hn hp
  have : (0 : Int) ∈ endsN L p := pm.mem_iff.mpr (List.mem_map.mpr ⟨0, List.mem_range.mpr n1, rfl⟩)
  obtain ⟨k, hk, h⟩ := List.mem_flatMap.mp this
  have b := hB k (lt k hk)
  refine ⟨k, hk, lt k hk, ?_⟩
  simp only [List.mem_cons, List.not_mem_nil, or_false] at h
  omega
section
variable {P : Program} {w0 : World} {K : PySem.W.Frag} {mg : Str → Option Value} {base : Heap}
def spCore : Sp := fun vs H Q _ => ∃ (w : Addr) (n : Nat) (L : List (Int × Int)), vs = [.ref w] ∧ GW H w n L ∧ L.length ≤ 16 ∧ n ≤ 8 ∧ ∀ (v : V) (H' : Hp), Same H H' → (v = .non ∨ WbV H' v) → Q v H'
abbrev nCore : List Str := ["_law_web_here", "_law_met", "_law_pairing", "_law_at", "_law_left", "_law_tie"]
theorem scCore : FnScope nCore ["_law_web_here"] (defScope lCore) := ⟨rfl, rfl, rfl, by decide +kernel, rfl, by decide +kernel, by decide +kernel⟩
theorem ok_core {f fP fT fW : Addr} {fd fdP fdT fdW : FuncData} (F : Fun K "_law_core" "_law_core" lCore f fd) (T : Bk mg) (GP : Dn P w0 K mg base "_law_pairings" 1 ["_law_web_here"] spLPrs fP fdP) (GT : Dn P w0 K mg base "_law_parts" 1 ["_law_web_here"] spLPartsX fT fdT)
    (GW' : Dn P w0 K mg base "_law_within" 1 ["_law_web_here", "_law_lot"] spLWithin fW fdW) : FnOk P w0 K mg base CX0 2 f fd ["_law_web_here"] spCore := by
  refine F.ok scCore (fun vs H Q E h => ?_) (fun cdv A outer s H vs Q E hr h => ?_)
  · obtain ⟨w, n, L, rfl, _⟩ := h
    rfl
  · obtain ⟨w, n, L, rfl, G, l16, n8, k⟩ := h
    have hu := hu_of hr
    have hu0 := hr.units0
    refine ⟨_, pss_cons (ps_set (i := 1) scCore.nd rfl (.inr rfl) pe_dnewK)
      <| pss_cons (ps_for PassesOwn.never rfl (pi_list (pe_call GP.ok hr rfl GP.g GP.kp GP.b .nil pass0 (pa_cons (pv 0) pa_nil))) (pg_name (i := 2) scCore.nd rfl (.inl rfl))
          (pss_one (ps_for PassesOwn.never rfl (pi_tup (pv 2)) (pg_name (i := 3) scCore.nd rfl (.inl rfl)) (pss_one (ps_dput hu (pv 1) (pv 3) pe_bl rfl)))))
      <| pss_cons (ps_if (pt_cmpR (op_eqL hu0) (pv 1) pe_dnewK (nomark _)) (pss_one (ps_ret pe_non)) pss_nil)
      <| pss_cons (ps_set (i := 4) scCore.nd rfl (.inl rfl) (pe_tup (pa_cons (pe_ix ix_tup (pv 0) pe_int (fun _ _ => rfl)) (pa_cons (pe_callTy call_tuple_of (by rfl) T.tuple (by decide +kernel) (pa_cons
          (pe_lc (own := [("_law_at", 3), ("_law_tie", 5)]) (g := gTup K 2 (gCons (gName 3) (gCons (gName 5) gNil))) rfl scCore.nd (KR.pi_enumT (by rfl) T.enu (pa_cons (pe_ix ix_tup (pv 0) pe_int (fun _ _ => rfl)) pa_nil)) (blkOk_by (N := nCore) (sc := defScope lCore) (by decide +kernel))
            (fun _ _ _ _ _ => pg_tup rfl (pgs_cons (pg_name (i := 3) scCore.nd rfl (.inl rfl)) (pgs_cons (pg_name (i := 5) scCore.nd rfl (.inl rfl) (.inr rfl)) pgs_nil)))
            (fun _ _ _ _ _ => pts_one (pt_cmp (pc_din hu (pv 3) (pv 1)))) (fun _ _ _ _ _ => pv 5)) pa_nil)) pa_nil))))
      <| pss_one (ps_ret (pe_call GW'.ok hr rfl GW'.g GW'.kp GW'.b .nil pass0 (pa_cons (pv 4) (pa_cons (pe_ix ix_tup (pe_call GT.ok hr rfl GT.g GT.kp GT.b .nil pass0 (pa_cons (pv 4) pa_nil)) pe_int (fun _ _ => rfl)) pa_nil)))), ?_⟩
    obtain ⟨ta, vs, e1, e2, e3⟩ := G.web.ex
    have len := e3.len
    have n2 := G.n2
    have hB := G.belP
    have hS := G.srtP
    intro d0 hd0
    have s0 := same_new (o := .dK []) hd0
    refine ⟨_, rfl, w, n, L, rfl, G.same s0, by omega, fun l us H1 s1 hl el al => ⟨l, rfl, ⟨_, SqL.of el⟩, ?_⟩⟩
    have s01 := s0.trans s1
    have ed0 : H1 d0 = some (.dK []) := s1 _ _ upd_same
    have nld : l ≠ d0 := fun z => by rw [z, ed0] at el; cases el
    have kpd : ∀ {M : Hp} {kvs : List (Key × V)} {o : HO}, M d0 = some (.dK kvs) → KpT M (upd M d0 o) := fun e => KpT.upd e (fun _ z => nomatch z)
    have kb : ∀ {p : List Nat}, p ∈ dueN L n → ∀ kk ∈ p, kk < 2 ^ 5 := fun hp kk hk => by
      have := (due_asc hB hS n2 hp).2.1 kk hk
      omega
    refine for_list (K := K) (a := l) (xs := us) (fun i σ M => ∃ (kvs : List (Key × V)) (o2 o3 : Option V), σ = [some (.ref w), some (.ref d0), o2, o3, none, none] ∧ M d0 = some (.dK kvs) ∧ KyOk 5 kvs ∧ (∀ kk : Nat, (valV kvs (Sum.inl (kk : Int) : Key)).isSome = true ↔ kk ∈ ((dueN L n).take i).flatten) ∧ M l = some (.lst us) ∧ KpT H1 M ∧ Same H M)
      ⟨[], none, none, rfl, ed0, ⟨by simp, by simp⟩, fun kk => by simp [valV_nil], el, KpT.refl _, s01⟩ (fun i σ M _ ⟨_, _, _, _, _, _, _, e, _⟩ => SqL.of e) ?_ ?_
    · rintro i x σ M hx ⟨kvs, o2, o3, rfl, g1, g2, g3, g4, g5, g6⟩
      obtain ⟨p, hp, b, rfl, hb⟩ := al.get hx
      have pm := List.mem_of_getElem? hp
      have ts : (dueN L n).take (i + 1) = (dueN L n).take i ++ [p] := by rw [List.take_succ, hp]; rfl
      refine ⟨_, rfl, b, rfl, ⟨_, SqT.of (g5 _ _ hb)⟩, ?_⟩
      refine for_tup (K := K) (a := b) (xs := p.map natV) (fun t σ M2 => ∃ (kvs : List (Key × V)) (o3 : Option V), σ = [some (.ref w), some (.ref d0), some (.ref b), o3, none, none] ∧ M2 d0 = some (.dK kvs) ∧ KyOk 5 kvs ∧ (∀ kk : Nat, (valV kvs (Sum.inl (kk : Int) : Key)).isSome = true ↔ kk ∈ ((dueN L n).take i).flatten ∨ kk ∈ p.take t) ∧ M2 l = some (.lst us) ∧ KpT H1 M2 ∧ Same H M2)
        ⟨kvs, _, rfl, g1, g2, fun kk => by rw [g3]; simp, g4, g5, g6⟩ (fun t σ M2 _ ⟨_, _, _, _, _, _, _, k, _⟩ => SqT.of (k _ _ hb)) ?_ ?_
      · rintro t x σ M2 hx ⟨kvs, o3, rfl, f1, f2, f3, f4, f5, f6⟩
        rw [List.getElem?_map] at hx
        obtain ⟨kk, hkk, rfl⟩ := Option.map_eq_some_iff.mp hx
        have tt : p.take (t + 1) = p.take t ++ [kk] := by rw [List.take_succ, hkk]; rfl
        refine ⟨_, rfl, _, rfl, d0, _, rfl, DPut.k (k := Sum.inl (kk : Int)) f1 (by have := f2.len (by decide : 5 ≤ 12); rw [sizeLine_eq]; omega), ?_⟩
        refine ⟨_, _, rfl, upd_same, f2.put (kb pm kk (List.mem_of_getElem? hkk)), fun jj => ?_, by rw [upd_ne nld]; exact f4, f5.trans (kpd f1), set_same hd0 f6⟩
        rw [valV_put, tt, List.mem_append, List.mem_singleton]
        by_cases e : jj = kk
        · subst e
          rw [if_pos rfl]
          simp
        · rw [if_neg (fun z => e (by have : (jj : Int) = kk := by injection z
                                     omega)), f3]
          simp [e]
      · rintro σ M2 ⟨kvs, o3, rfl, f1, f2, f3, f4, f5, f6⟩
        rw [List.length_map, List.take_length] at f3
        refine ⟨kvs, _, _, rfl, f1, f2, fun kk => ?_, f4, f5, f6⟩
        rw [f3, ts, List.flatten_append, List.mem_append]
        simp
    · rintro σ M ⟨kvs, o2, o3, rfl, g1, g2, g3, g4, g5, g6⟩
      rw [al.len, List.take_length] at g3
      refine ⟨_, rfl, fun d1 hd1 => ?_⟩
      have s3 := same_new (o := .dK []) hd1
      refine ⟨d0, d1, kvs, rfl, rfl, s3 _ _ g1, upd_same, _, rfl, ?_⟩
      have s6 := g6.trans s3
      cases hke : kvs.isEmpty with
      | true => exact iteT (k .non _ s6 (.inl rfl))
      | false =>
      refine iteF ?_
      obtain ⟨p0, hp0⟩ : ∃ p0, p0 ∈ dueN L n := by
        cases kvs with
        | nil => cases hke
        | cons q kvs =>
          obtain ⟨m, em, _⟩ := g2.ok q (List.mem_cons_self ..)
          have : m ∈ (dueN L n).flatten := (g3 m).mp (by rw [valV_pos em]; rfl)
          obtain ⟨p0, h, _⟩ := List.mem_flatten.mp this
          exact ⟨p0, h⟩
      have g1' := s3 _ _ g1
      generalize upd M d1 (.dK []) = M4 at g1' s6 ⊢
      refine ⟨_, rfl, w, _, _, _, rfl, rfl, SqT.of (s6 _ _ e1), atI_nat (j := 0) rfl, _, rfl, w, _, _, _, rfl, rfl, SqT.of (s6 _ _ e1), atI_nat (j := 1) rfl, ta, vs, rfl, SqT.of (s6 _ _ e2), fun Da hD => ?_⟩
      refine lc_it (KR.walk_enumT (xs := vs)) (fun i N => ∃ ws, N Da = some (.lst ws) ∧ Prs N ws (keepI L (fun t => (valV kvs (Sum.inl (t : Int) : Key)).isSome) i) ∧ Same M4 N) ⟨[], upd_same, .nil, same_new hD⟩ (fun i N _ ⟨_, _, _, s⟩ => SqT.of (s _ _ (s6 _ _ e2))) ?_ ?_
      · rintro t x N N' ht ⟨ws, f1, f2, f3⟩ ⟨Tt, u, y, rfl, hT, rfl, e7, e8⟩
        cases e7
        have e8 : vs[t]? = some y := e8
        obtain ⟨b2, q2, rfl, hq2, hb2⟩ := e3.get e8
        have tq : tie L t = q2 := tie_at hq2
        have sT := same_new (H := N) (o := .tup [.int (t : Nat), .ref b2]) hT
        have f1' := sT _ _ f1
        have ks := keep_succ L (fun t => (valV kvs (Sum.inl (t : Int) : Key)).isSome) t
        refine ⟨Tt, _, rfl, SqT.of upd_same, rfl, _, _, rfl, _, _, rfl, rfl, rfl, _, rfl, _, rfl, d0, _, rfl, DGet.k (k := Sum.inl (t : Int)) (sT _ _ (f3 _ _ g1')), _, rfl, ?_⟩
        have f2' := f2.mono (KpT.same sT)
        have eTb : (upd N Tt (.tup [.int (t : Nat), .ref b2])) b2 = some (.tup [.int q2.1, .int q2.2]) := sT _ _ (f3 _ _ (s6 _ _ hb2))
        cases hf : (valV kvs (Sum.inl (t : Int) : Key)).isSome with
        | true =>
          rw [if_pos hf] at ks
          have wl := f2.len
          have tl : t < vs.length := ht
          have kl : (keepI L (fun t => (valV kvs (Sum.inl (t : Int) : Key)).isSome) t).length ≤ t := by
            unfold keepI
            rw [List.length_map]
            have := List.length_filter_le (fun t : Nat => (valV kvs (Sum.inl (t : Int) : Key)).isSome) (List.range t)
            rwa [List.length_range] at this
          refine iteT ⟨_, rfl, ws, f1', by rw [sizeLine_eq]; omega, ws ++ [.ref b2], upd_same, ?_, set_same hD (f3.trans sT)⟩
          rw [ks, tq]
          exact (f2'.app (.cons eTb .nil)).mono (KpT.upd f1' (fun _ z => nomatch z))
        | false =>
          rw [if_neg (by rw [hf]; exact Bool.false_ne_true)] at ks
          exact iteF ⟨ws, f1', by rw [ks]; exact f2', f3.trans sT⟩
      · rintro N ⟨ws, f1, f2, f3⟩
        rw [len] at f2
        refine ⟨Da, ws, rfl, .inl ⟨SqL.of f1, fun t1 ht1 => ⟨by show 2 ≤ sizeLine; rw [sizeLine_eq]; decide, fun wl hwl => ?_⟩⟩⟩
        have u1 := same_new (o := .tup ws) ht1
        have u2 := same_new (o := .tup [.int n, .ref t1]) hwl
        have sub := keep_sub L (fun t => (valV kvs (Sum.inl (t : Int) : Key)).isSome)
        have hBl : Bel n (keepI L (fun t => (valV kvs (Sum.inl (t : Int) : Key)).isSome) L.length) := fun q hq => G.bel q (sub.subset hq)
        have hSl : Srt (keepI L (fun t => (valV kvs (Sum.inl (t : Int) : Key)).isSome) L.length) := G.srt.sublist sub
        have lel := sub.length_le
        have W : Web (upd (upd N t1 (.tup ws)) wl (.tup [.int n, .ref t1])) wl n (keepI L (fun t => (valV kvs (Sum.inl (t : Int) : Key)).isSome) L.length) := ⟨t1, ws, upd_same, u2 _ _ upd_same, f2.mono ((KpT.same u1).trans (KpT.same u2))⟩
        have s7 := s6.trans (f3.trans (u1.trans u2))
        obtain ⟨k0, hk0, k0l, k0z⟩ := due_zero hB hS n2 G.n1 hp0
        have mem0 := keep_mem (f := fun t => (valV kvs (Sum.inl (t : Int) : Key)).isSome) k0l ((g3 k0).mpr (List.mem_flatten.mpr ⟨p0, hp0, hk0⟩))
        have bk0 := bel_tie G.bel k0l
        generalize keepI L (fun t => (valV kvs (Sum.inl (t : Int) : Key)).isSome) L.length = L2 at hBl hSl lel W mem0
        refine ⟨_, rfl, _, rfl, wl, n, L2, rfl, W, n2, hBl, by omega, fun t2 us2 ys H5 s5 _ e5 a5 I5 => ?_⟩
        have adj : Adj L2 0 (tie L k0).2.toNat := .inl (by
          have e : tie L k0 = (((0 : Nat) : Int), (((tie L k0).2.toNat : Nat) : Int)) := Prod.ext (by rw [k0z]; rfl) (by show (tie L k0).2 = _; omega)
          rw [← e]
          exact mem0)
        cases a5 with
        | nil =>
          obtain ⟨c, hc, _⟩ := I5.cls.all 0 (by rw [full_bit]; exact decide_eq_true G.n1)
          cases hc
        | @cons t0 r0 us' ys' h0 rest =>
          have two := core_two I5 G.n1 (o := (tie L k0).2.toNat) (by omega) (by omega) adj
          have sh := I5.cls.short (List.mem_cons_self ..)
          have inc := I5.cls.inc r0 (List.mem_cons_self ..)
          have GL : GW H5 wl n L2 := ⟨W.same s5, G.n1, n2, hBl, hSl, by omega⟩
          refine ⟨t2, _, 0, .ref t0, rfl, rfl, SqT.of e5, atI_nat (j := 0) rfl, wl, t0, n, L2, cas r0, rfl, GL, by rw [← natV_ints]; exact h0, fun w' H6 s6' hw' W6 => ?_⟩
          have g6 := within_gw hBl n2 hSl (by omega) inc sh.2 (fun z => by rw [z] at two; simp at two) W6
          have wf := within_few L2 (cas r0)
          exact k (.ref w') H6 (s7.trans (s5.trans s6')) (.inr ⟨w', r0.length, _, rfl, g6, two, by omega, by omega⟩)
end
end K0

set_option Elab.async false
set_option linter.all false
set_option maxRecDepth 100000
set_option maxHeartbeats 8000000
/-! The law's own: webs that are covered. -/
namespace K0
open PySem PySem.Spec L2
open PyProof.Rows hiding St
open KR (TupX tobj)
abbrev lCovered : Stmt := top 43
def CvJ (H : Hp) (p c : Addr) (b : Bool) : L2.St → Hp → Prop := fun σ M => ∃ (v : V) (o4 : Option V), σ = [some (.ref p), some (.int 8), some (.int 16), some v, o4] ∧ (WbV M v ∨ (b = false ∧ v = .non)) ∧ Deck M p c ∧ Kp p c H M
section
variable {P : Program} {w0 : World} {K : PySem.W.Frag} {mg : Str → Option Value} {base : Heap}
def spCov : Sp := fun vs H Q _ => ∃ (p c : Addr), vs = [.ref p, .int 8, .int 16] ∧ Deck H p c ∧ ∀ (v : V) (H' : Hp), WbV H' v → Deck H' p c → Kp p c H H' → Q v H'
abbrev nCov : List Str := ["_law_deck_here", "_law_wide", "_law_most", "_law_web_here", "_law_turn"]
theorem scCov : FnScope nCov ["_law_deck_here", "_law_wide", "_law_most"] (defScope lCovered) := ⟨rfl, rfl, rfl, by decide +kernel, rfl, by decide +kernel, by decide +kernel⟩
theorem ok_cov {f fD fW fC fS fE fT fO : Addr} {fd fdD fdW fdC fdS fdE fdT fdO : FuncData} (F : Fun K "_law_covered" "_law_covered" lCovered f fd) (T : Bj mg) (GD : Dn P w0 K mg base "_law_draw" 1 ["_law_deck_here", "_law_many"] spDraw fD fdD)
    (GW' : Dn P w0 K mg base "_law_web" 4 ["_law_deck_here", "_law_n", "_law_most"] spWeb fW fdW) (GC : Dn P w0 K mg base "_law_core" 2 ["_law_web_here"] spCore fC fdC) (GS : Dn P w0 K mg base "_law_seed" 3 ["_law_deck_here"] spSeed fS fdS)
    (GE : Dn P w0 K mg base "_law_eared" 2 ["_law_deck_here", "_law_web_here", "_law_wide", "_law_most"] spEared fE fdE) (GT : Dn P w0 K mg base "_law_turned" 2 ["_law_web_here", "_law_order_here"] spTurned fT fdT)
    (GO : Dn P w0 K mg base "_law_order" 2 ["_law_deck_here", "_law_n"] spOrder fO fdO) : FnOk P w0 K mg base CX0 5 f fd ["_law_deck_here", "_law_wide", "_law_most"] spCov := by
  refine F.ok scCov (fun vs H Q E h => ?_) (fun cdv A outer s H vs Q E hr h => ?_)
  · obtain ⟨p, c, rfl, _⟩ := h
    rfl
  · obtain ⟨p, c, rfl, D, k⟩ := h
    have r1 : Room 1 (A.deeper (envOfC "_law_covered" (defScope lCovered) s.heap.objs.size f cdv)) := hr.mono (by decide)
    have r2 : Room 2 (A.deeper (envOfC "_law_covered" (defScope lCovered) s.heap.objs.size f cdv)) := hr.mono (by decide)
    have r3 : Room 3 (A.deeper (envOfC "_law_covered" (defScope lCovered) s.heap.objs.size f cdv)) := hr.mono (by decide)
    refine ⟨_, pss_cons (ps_set (i := 3) scCov.nd rfl (.inl rfl) pe_non)
      <| pss_cons (ps_inv (J := fun σ M => σ = [some (.ref p), some (.int 8), some (.int 16), some .non, none] ∧ M = H) (J' := CvJ H p c false) (ps_if (pt_cmpR op_eq (pe_call GD.ok r1 rfl GD.g GD.kp GD.b .nil pass0 (pa_cons (pv 0) (pa_cons pe_int pa_nil))) pe_int (nomark _))
          (pss_one (ps_set (i := 3) scCov.nd rfl (.inl rfl) (pe_call GC.ok r2 rfl GC.g GC.kp GC.b .nil pass0 (pa_cons (pe_call GW'.ok hr rfl GW'.g GW'.kp GW'.b .nil pass0 (pa_cons (pv 0) (pa_cons (pe_op op_add pe_int (pe_op op_mul pe_int (pe_call GD.ok r1 rfl GD.g GD.kp GD.b .nil pass0 (pa_cons (pv 0) (pa_cons (pe_op op_fdivNN (pv 1) pe_int) pa_nil)))))
            (pa_cons (pv 2) pa_nil)))) pa_nil)))) pss_nil) ?i0)
      <| pss_cons (ps_inv (J := CvJ H p c false) (J' := CvJ H p c true) (ps_if (pt_cmp (pc_isN (pv 3)))
          (pss_cons (ps_set (i := 3) scCov.nd rfl (.inl rfl) (pe_call GS.ok r3 rfl GS.g GS.kp GS.b .nil pass0 (pa_cons (pv 0) pa_nil)))
          <| pss_cons (ps_if (PW.pt (pw_or (pt_cmpR op_gt (pe_ix ix_tup (pv 3) pe_int (fun _ _ => rfl)) (pv 1) (nomark _)) (pw_or1 (pt_cmpR op_gt (pe_callB call_len_seq (by rfl) T.len PySem.boot_len (pa_cons (pe_ix ix_tup (pv 3) pe_int (fun _ _ => rfl)) pa_nil)) (pv 2) (nomark _)))))
              (pss_one (ps_set (i := 3) scCov.nd rfl (.inl rfl) (pe_wb (n := 4) (L := [(0, 1), (0, 2), (0, 3), (1, 2), (1, 3), (2, 3)]) (pe_tup (pa_cons pe_int (pa_cons (pe_tup (pa_cons (pe_tup (pa_cons pe_int (pa_cons pe_int pa_nil))) (pa_cons (pe_tup (pa_cons pe_int (pa_cons pe_int pa_nil))) (pa_cons (pe_tup (pa_cons pe_int (pa_cons pe_int pa_nil)))
                (pa_cons (pe_tup (pa_cons pe_int (pa_cons pe_int pa_nil))) (pa_cons (pe_tup (pa_cons pe_int (pa_cons pe_int pa_nil))) (pa_cons (pe_tup (pa_cons pe_int (pa_cons pe_int pa_nil))) pa_nil))))))) pa_nil))) (by decide)))) pss_nil)
          <| pss_one (ps_for PassesOwn.never rfl (pi_range1 (by rfl) T.range (pa_cons (pe_call GD.ok r1 rfl GD.g GD.kp GD.b .nil pass0 (pa_cons (pv 0) (pa_cons pe_int pa_nil))) pa_nil)) (pg_name (i := 4) scCov.nd rfl (.inl rfl))
              (pss_one (ps_set (i := 3) scCov.nd rfl (.inl rfl) (pe_call GE.ok r2 rfl GE.g GE.kp GE.b .nil pass0 (pa_cons (pv 0) (pa_cons (pv 3) (pa_cons (pv 1) (pa_cons (pv 2) pa_nil))))))))) pss_nil) ?i1)
      <| pss_one (ps_ret (pe_call GT.ok r2 rfl GT.g GT.kp GT.b .nil pass0 (pa_cons (pv 3) (pa_cons (pe_call GO.ok r2 rfl GO.g GO.kp GO.b .nil pass0 (pa_cons (pv 0) (pa_cons (pe_ix ix_tup (pv 3) pe_int (fun _ _ => rfl)) pa_nil))) pa_nil)))), ?z⟩
    case i0 =>
      rintro D0 σ M ⟨rfl, rfl⟩ nx
      refine ⟨_, rfl, p, c, _, rfl, D, by decide, by decide, fun x H1 x0 x1 D1 K1 => ⟨rfl, _, rfl, ite2 (fun _ => ?_) (fun _ => nx _ _ ⟨.non, none, rfl, .inr ⟨rfl, rfl⟩, D1, K1⟩)⟩⟩
      refine ⟨_, rfl, _, rfl, _, rfl, 8, 2, rfl, rfl, ⟨by decide, by decide⟩, p, c, _, rfl, D1, by decide, by decide, fun y H2 y0 y1 D2 K2 => ⟨_, _, rfl, rfl, .inl ⟨by decide, by decide⟩, _, _, rfl, rfl, _, rfl, ?_⟩⟩
      obtain ⟨yn, rfl⟩ : ∃ yn : Nat, y = yn := ⟨y.toNat, by omega⟩
      have y4 : yn < 4 := by
        have : (yn : Int) < ((8 / 2 : Nat) : Int) := y1
        omega
      refine ⟨p, c, 2 + 2 * yn, 16, by show [V.ref p, V.int (2 + 2 * (yn : Int)), V.int 16] = _; rw [show (2 + 2 * (yn : Int)) = ((2 + 2 * yn : Nat) : Int) by omega] <;> rfl, by omega, by omega, by decide, D2, fun w L H3 _ W hB hS hl D3 K3 => ?_⟩
      have G : GW H3 w (2 + 2 * yn) L := ⟨W, by omega, by omega, hB, hS, by omega⟩
      refine ⟨w, _, L, rfl, G, hl, by omega, fun v H4 s4 hv => ?_⟩
      refine nx _ _ ⟨v, none, rfl, ?_, D3.same s4, ((K1.trans K2).trans K3).trans (kp_same s4)⟩
      rcases hv with rfl | hv
      · exact .inr ⟨rfl, rfl⟩
      · exact .inl hv
    case i1 =>
      rintro D0 σ M ⟨v, o4, rfl, hv, D1, K1⟩ nx
      rcases hv with hv | ⟨_, rfl⟩
      · obtain ⟨w, n, L, rfl, G, h2, h8, h16⟩ := id hv
        exact ⟨_, rfl, _, rfl, iteF' (by rfl) (nx _ _ ⟨.ref w, o4, rfl, .inl hv, D1, K1⟩)⟩
      · refine ⟨_, rfl, _, rfl, iteT' (by rfl) ⟨_, rfl, p, c, rfl, D1, fun v H2 hv D2 K2 => ?_⟩⟩
        obtain ⟨w, n, L, rfl, G, h2, h8, h16⟩ := id hv
        obtain ⟨ta, vs, e1, e2, e3⟩ := G.web.ex
        have len := e3.len
        refine ⟨_, rfl, w, _, _, _, rfl, rfl, SqT.of e1, atI_nat (j := 0) rfl, _, rfl, _, _, rfl, rfl, _, rfl, ?_⟩
        rw [show decide ((n : Int) > 8) = false from decide_eq_false (by omega)]
        refine iteF ⟨_, rfl, w, _, _, _, rfl, rfl, SqT.of e1, atI_nat (j := 1) rfl, ta, _, rfl, .inr (SqT.of e2), _, rfl, _, _, rfl, rfl, _, rfl, ?_⟩
        rw [show decide (((vs.length : Nat) : Int) > 16) = false from decide_eq_false (by omega)]
        refine iteF ⟨_, rfl, p, c, _, rfl, D2, by decide, by decide, fun r H3 r0 r1' D3 K3 => ⟨_, rfl, by omega, by omega, ?_⟩⟩
        have K13 := (K1.trans K2).trans K3
        refine for_range (lo := 0) (n := r.toNat) (fun i σ M => ∃ (v : V) (o4 : Option V), σ = [some (.ref p), some (.int 8), some (.int 16), some v, o4] ∧ WbV M v ∧ Deck M p c ∧ Kp p c H M) ⟨.ref w, o4, rfl, hv.kp (K3.tup D2), D3, K13⟩ ?_ ?_
        · rintro i σ M3 hi ⟨v, o4, rfl, hv, DM, KM⟩
          exact ⟨_, rfl, _, rfl, _, rfl, _, rfl, p, c, v, rfl, DM, hv, fun v' M4 hv' D4 K4 => ⟨v', _, rfl, hv', D4, KM.trans K4⟩⟩
        · rintro σ M3 ⟨v, o4, rfl, hv, DM, KM⟩
          exact nx _ _ ⟨v, o4, rfl, .inl hv, DM, KM⟩
    case z =>
      refine ⟨⟨rfl, rfl⟩, fun σ1 M1 j1 => ⟨j1, fun σ2 M2 j2 => ?_⟩⟩
      obtain ⟨v, o4, rfl, hv, D2, K2⟩ := j2
      rcases hv with hv | ⟨z, _⟩
      rotate_left
      · cases z
      obtain ⟨w, n, L, rfl, G, h2, h8, h16⟩ := hv
      obtain ⟨ta, vs, e1, e2, e3⟩ := G.web.ex
      refine ⟨_, rfl, _, rfl, _, rfl, w, _, _, _, rfl, rfl, SqT.of e1, atI_nat (j := 0) rfl, p, c, n, rfl, G.n2, D2, fun lo os M3 _ e3' ho D3 K3 => ?_⟩
      exact ⟨w, lo, n, L, os, rfl, G.mono (K3.tup D2), e3', ho, fun w' L' M4 s4 _ G4 l4 => k (.ref w') M4 ⟨w', n, L', rfl, G4, h2, h8, by omega⟩ (D3.same s4) ((K2.trans K3).trans (kp_same s4))⟩
end
end K0

set_option Elab.async false
set_option linter.all false
set_option maxRecDepth 100000
set_option maxHeartbeats 8000000
/-! How many pairings at most; what is told of them, as data; a pick of many. -/
namespace K0
open PySem PySem.Spec L2
open PyProof.Rows hiding St
open KR (TupX tobj)
theorem pow_key {d w : Nat} : ∀ l : List Nat, (∀ x ∈ l, x + d ≤ w) → (l.map fun x => 2 ^ x).sum * 2 ^ d ≤ l.length * 2 ^ w
  | [], _ => by simp
  | x :: l, h => by
    have i := pow_key l fun y hy => h y (List.mem_cons_of_mem _ hy)
    have j : 2 ^ x * 2 ^ d ≤ 2 ^ w := by
      rw [← Nat.pow_add]
      exact Nat.pow_le_pow_right (by decide) (h x (List.mem_cons_self ..))
    simp only [List.map_cons, List.sum_cons, List.length_cons, Nat.add_mul, Nat.one_mul]
    omega
theorem two_le_pow : ∀ {d : Nat}, d ≠ 0 → 2 * d ≤ 2 ^ d
  | 1, _ => by decide
  | d + 2, _ => by
    have := two_le_pow (d := d + 1) (by omega)
    rw [Nat.pow_succ]
    omega
theorem pm_few {L : List (Int × Int)} (hB : BelP L) : ∀ {t m : Nat}, m < 2 ^ 12 → cnt m = 2 * t → (pmN L t m).length * 2 ^ t ≤ 2 ^ wid L m
  | 0, m, _, _ => by
    show 1 * 1 ≤ _
    have := Nat.two_pow_pos (wid L m)
    omega
  | t + 1, m, hm, hc => by
    have m0 : m ≠ 0 := fun z => by have := (cnt_zero hm).mpr z; omega
    have each : ∀ s ∈ stepsN L m, (pmN L t s.2).length * 2 ^ t ≤ 2 ^ wid L s.2 ∧ wid L s.2 + (stepsN L m).length ≤ wid L m := fun s hs => by
      obtain ⟨a, b⟩ := step_cnt (k := s.1) (q := s.2) hB hm m0 hs
      exact ⟨pm_few hB a (by omega), wid_step (k := s.1) (q := s.2) hB hm m0 hs⟩
    have el : (pmN L (t + 1) m).length = ((stepsN L m).map fun s => (pmN L t s.2).length).sum := by
      show ((stepsN L m).flatMap fun s => (pmN L t s.2).map (s.1 :: ·)).length = _
      rw [List.length_flatMap]
      simp
    have sm : ∀ l : List (Nat × Nat), (∀ s ∈ l, (pmN L t s.2).length * 2 ^ t ≤ 2 ^ wid L s.2) → (l.map fun s => (pmN L t s.2).length).sum * 2 ^ t ≤ ((l.map fun s => wid L s.2).map fun x => 2 ^ x).sum := fun l => by
      induction l with
      | nil => intro _; simp
      | cons s l ih =>
        intro h
        have := ih fun y hy => h y (List.mem_cons_of_mem _ hy)
        have := h s (List.mem_cons_self ..)
        simp only [List.map_cons, List.sum_cons, Nat.add_mul]
        omega
    have s1 := sm _ fun s hs => (each s hs).1
    have s2 := pow_key (d := (stepsN L m).length) (w := wid L m) ((stepsN L m).map fun s => wid L s.2) fun x hx => by
      obtain ⟨s, hs, rfl⟩ := List.mem_map.mp hx
      exact (each s hs).2
    rw [List.length_map] at s2
    rw [el]
    generalize ((stepsN L m).map fun s => (pmN L t s.2).length).sum = S at s1
    generalize (((stepsN L m).map fun s => wid L s.2).map fun x => 2 ^ x).sum = R at s1 s2
    generalize hd : (stepsN L m).length = d at s2
    by_cases d0 : d = 0
    · subst d0
      have : R = 0 := by simpa using s2
      rw [this] at s1
      have : S * 2 ^ t = 0 := by omega
      rw [Nat.pow_succ, ← Nat.mul_assoc, this, Nat.zero_mul]
      exact Nat.zero_le _
    have t2 := two_le_pow d0
    have h1 : S * 2 ^ (t + 1) * 2 ^ d ≤ 2 ^ wid L m * 2 ^ d := by
      calc S * 2 ^ (t + 1) * 2 ^ d = 2 * (S * 2 ^ t * 2 ^ d) := by rw [Nat.pow_succ]; ac_rfl
        _ ≤ 2 * (R * 2 ^ d) := Nat.mul_le_mul_left _ (Nat.mul_le_mul_right _ s1)
        _ ≤ 2 * (d * 2 ^ wid L m) := Nat.mul_le_mul_left _ s2
        _ = 2 ^ wid L m * (2 * d) := by ac_rfl
        _ ≤ 2 ^ wid L m * 2 ^ d := Nat.mul_le_mul_left _ t2
    exact Nat.le_of_mul_le_mul_right h1 (Nat.two_pow_pos d)
theorem due_few {L : List (Int × Int)} {n : Nat} (hB : BelP L) (hn : n ≤ 12) (l16 : L.length ≤ 16) : (dueN L n).length * (n / 2 + 1) ≤ 65536 := by
  have g : (dueN L n).length * 2 ^ (n / 2) ≤ 65536 := by
    unfold dueN
    split
    · have a := pm_few (L := L) hB (t := n / 2) (full_lt hn) (by rw [cnt_full hn]; omega)
      have b := Nat.pow_le_pow_right (n := 2) (by decide) (Nat.le_trans (wid_le L (2 ^ n - 1)) l16)
      exact Nat.le_trans a b
    · simp
  have t : n / 2 + 1 ≤ 2 ^ (n / 2) := Nat.lt_two_pow_self
  exact Nat.le_trans (Nat.mul_le_mul_left _ t) g
/-! ### as data -/
theorem int_fit {i : Nat} (h : i < 2 ^ 20) : PyData.showable (.int (i : Int)) = true ∧ PyData.leavesShort 13 (.int (i : Int)) = true := by
  refine ⟨?_, ?_⟩
  · show decide ((i : Int).natAbs.log2 < 1920) = true
    rw [Int.natAbs_natCast, decide_eq_true_eq]
    by_cases z : i = 0
    · subst z; decide
    · have := (Nat.log2_lt z).mpr h
      omega
  · show decide ((PyData.shown (.int (i : Int))).length ≤ 13) = true
    rw [decide_eq_true_eq]
    exact PyData.shown_int_le (by rw [Int.natAbs_natCast]; omega)
theorem ints_fit : ∀ {r : List Nat}, (∀ k ∈ r, k < 2 ^ 20) → PyData.showableAll ((r.map fun i => ((i : Nat) : Int)).map PyData.int) = true ∧ PyData.leavesShortAll 13 ((r.map fun i => ((i : Nat) : Int)).map PyData.int) = true ∧ PyData.bulkAll ((r.map fun i => ((i : Nat) : Int)).map PyData.int) = r.length ∧ PyData.depthAll ((r.map fun i => ((i : Nat) : Int)).map PyData.int) = 0
  | [], _ => by simp [PyData.showableAll, PyData.leavesShortAll, PyData.bulkAll, PyData.depthAll]
  | k :: r, h => by
    obtain ⟨a, b, c, d⟩ := ints_fit (r := r) fun j hj => h j (List.mem_cons_of_mem _ hj)
    obtain ⟨e, f⟩ := int_fit (h k (List.mem_cons_self ..))
    refine ⟨by simp only [List.map_cons, PyData.showableAll, e, a, Bool.and_self], by simp only [List.map_cons, PyData.leavesShortAll, f, b, Bool.and_self], ?_, ?_⟩
    · simp only [List.map_cons, PyData.bulkAll, PyData.bulk, c, List.length_cons]; omega
    · simp only [List.map_cons, PyData.depthAll, PyData.depth, d]; omega
theorem rows_fit {t : Nat} : ∀ {ds : List (List Nat)}, (∀ r ∈ ds, r.length = t ∧ ∀ k ∈ r, k < 2 ^ 20) → PyData.showableAll (ds.map rowD) = true ∧ PyData.leavesShortAll 13 (ds.map rowD) = true ∧ PyData.bulkAll (ds.map rowD) = ds.length * (t + 1) ∧ PyData.depthAll (ds.map rowD) ≤ 2
  | [], _ => by simp [PyData.showableAll, PyData.leavesShortAll, PyData.bulkAll, PyData.depthAll]
  | r :: ds, h => by
    obtain ⟨a, b, c, d⟩ := rows_fit (ds := ds) fun j hj => h j (List.mem_cons_of_mem _ hj)
    obtain ⟨hl, hk⟩ := h r (List.mem_cons_self ..)
    obtain ⟨e, f, g, i⟩ := ints_fit hk
    refine ⟨by simp only [List.map_cons, PyData.showableAll, PyData.showable, e, a, Bool.and_self], by simp only [List.map_cons, PyData.leavesShortAll, PyData.leavesShort, f, b, Bool.and_self], ?_, ?_⟩
    · simp only [List.map_cons, PyData.bulkAll, PyData.bulk, c, g, hl, List.length_cons, Nat.add_mul]; omega
    · simp only [List.map_cons, PyData.depthAll, PyData.depth, i]; omega
abbrev dueD (ds : List (List Nat)) : PyData := .tuple (ds.map rowD)
abbrev toldD (ds : List (List Nat)) : PyData := .tuple [dueD ds, dueD ds, .int ds.length, .int ds.length]
theorem told_fit {L : List (Int × Int)} {n : Nat} (hB : BelP L) (hS : SrtP L) (hn : n ≤ 12) (l16 : L.length ≤ 16) : Fit (toldD (dueN L n)) := by
  have few := due_few hB hn l16
  have rf := rows_fit (t := n / 2) (ds := dueN L n) fun r hr => by
    obtain ⟨_, b, _, d⟩ := due_asc hB hS hn hr
    exact ⟨d, fun k hk => by have := b k hk; omega⟩
  have dl : (dueN L n).length ≤ 65536 := by
    exact Nat.le_trans (Nat.le_mul_of_pos_right (dueN L n).length (Nat.succ_pos (n / 2))) few
  obtain ⟨a, b⟩ := int_fit (i := (dueN L n).length) (by omega)
  obtain ⟨c, d, e, f⟩ := rf
  simp only [PyData.showable] at a
  simp only [PyData.leavesShort] at b
  refine ⟨by simp only [PyData.showable, PyData.showableAll, c, a, Bool.and_self], by simp only [PyData.depth, PyData.depthAll]; omega, PyData.shown_fits_bulk (B := 13) (by decide) (by decide) (by simp only [PyData.leavesShort, PyData.leavesShortAll, d, b, Bool.and_self]) ?_⟩
  simp only [PyData.bulk, PyData.bulkAll, e]
  omega
theorem NsV.dv {H : Hp} {v : V} {r : List Nat} (h : NsV H v r) : DV H Any v (rowD r) := by
  obtain ⟨b, rfl, e⟩ := h
  exact dv_lot (.inl (by rw [← natV_ints]; exact e))
theorem AtL.dv {H : Hp} {us : List V} {ds : List (List Nat)} {t : Addr} (h : AtL (NsV H) us ds) (e : H t = some (.tup us)) : DV H Any (.ref t) (dueD ds) :=
  .tup trivial (.inl e) (by rw [List.length_map]; exact h.len) fun i v d e1 e2 => by
    obtain ⟨r, hr, hv⟩ := h.get e1
    rw [List.getElem?_map, hr] at e2
    cases e2
    exact hv.dv
theorem dv_four {H : Hp} {t : Addr} {a b c d : V} {x y z w : PyData} (e : H t = some (.tup [a, b, c, d])) (h1 : DV H Any a x) (h2 : DV H Any b y) (h3 : DV H Any c z) (h4 : DV H Any d w) : DV H Any (.ref t) (.tuple [x, y, z, w]) :=
  .tup trivial (.inl e) rfl fun i v q e1 e2 => by
    match i with
    | 0 => cases e1; cases e2; exact h1
    | 1 => cases e1; cases e2; exact h2
    | 2 => cases e1; cases e2; exact h3
    | 3 => cases e1; cases e2; exact h4
    | i + 4 => simp at e1
/-- x is not True -/
theorem pc_notT {X : Cx} {a : Expr} {ta : TE} {j pos'} (ha : PE X a ta) : PC X .IsNot a (.Constant (.bool true) j pos') (fun σ H Q => ta σ H fun x H1 => ∃ b, x = .bl b ∧ Q (.bl (!b)) H1) := by
  refine ⟨fun pins s σ H Q I h => ?_⟩
  refine thn (ha.run pins s σ H _ I h) fun v s1 ⟨x, H1, I1, r1, b, ex, q⟩ => ?_
  subst ex
  obtain rfl : v = Value.bool b := r1
  exact wpAny_Constant_bool (wpAny_isNot_plain rfl ⟨.bl (!b), H1, I1, by cases b <;> rfl, q⟩)
section
variable {P : Program} {w : World} {K : PySem.W.Frag} {mg : Str → Option Value} {base : Heap}
/-- pick, of very many -/
def spPickB : Sp := fun vs H Q _ => ∃ (p c l : Addr) (xs : List V), vs = [.ref p, .ref l] ∧ Deck H p c ∧ H l = some (.lst xs) ∧ l ≠ p ∧ l ≠ c ∧ 1 ≤ xs.length ∧ xs.length < 1000000 ∧
  ∀ (i : Nat) (v : V) (H' : Hp), xs[i]? = some v → Deck H' p c → Kp p c H H' → Q v H'
theorem ok_pickB {f fD : Addr} {fd fdD : FuncData} (F : Fun K "_law_pick" "_law_pick" sPick f fd) (T : Bi mg) (G : Dn P w K mg base "_law_draw" 1 ["_law_deck_here", "_law_many"] spDraw fD fdD) :
    FnOk P w K mg base CX0 2 f fd ["_law_deck_here", "_law_some"] spPickB := by
  refine F.ok scPick (fun vs H Q E h => ?_) (fun cdv A outer s H vs Q E hr h => ?_)
  · obtain ⟨p, c, l, xs, rfl, _⟩ := h
    rfl
  · obtain ⟨p, c, l, xs, rfl, D, hl, lp, lc, n1, n2, k⟩ := h
    refine ⟨_, pss_one (ps_ret (pe_ix ix_list (pv 1) (pe_call G.ok hr rfl G.g G.kp G.b .nil pass0
      (pa_cons (pv 0) (pa_cons (pe_callB call_len_seq (by rfl) T.len PySem.boot_len (pa_cons (pv 1) pa_nil)) pa_nil))) (fun _ _ => rfl))), ?_⟩
    refine ⟨_, rfl, _, rfl, _, rfl, l, _, rfl, .inl (SqL.of hl), p, c, _, rfl, D, by omega, by omega, fun r H' r0 r1 D' K' => ?_⟩
    have hl' := K' l _ lp lc hl
    obtain ⟨i, rfl⟩ : ∃ i : Nat, r = i := ⟨r.toNat, by omega⟩
    have hi : i < xs.length := by omega
    exact ⟨l, _, _, _, rfl, rfl, SqL.of hl', atI_nat (List.getElem?_eq_getElem hi), k i _ H' (List.getElem?_eq_getElem hi) D' K'⟩
end
end K0

set_option Elab.async false
set_option linter.all false
set_option maxRecDepth 100000
set_option maxHeartbeats 16000000
/-! The law. -/
namespace K0
open PySem PySem.Spec L2
open PyProof.Rows hiding St
open KR (TupX tobj)
abbrev lLaw : Stmt := top 49
structure Lw (P : Program) (w0 : World) (K : PySem.W.Frag) (mg : Str → Option Value) (base : Heap) : Prop where
  bk : Bq mg
  deck : ∃ f fd, Dn P w0 K mg base "_law_deck" 1 ["_law_script"] (spDeck K) f fd
  draw : ∃ f fd, Dn P w0 K mg base "_law_draw" 1 ["_law_deck_here", "_law_many"] spDraw f fd
  pick : ∃ f fd, Dn P w0 K mg base "_law_pick" 2 ["_law_deck_here", "_law_some"] spPickB f fd
  any : ∃ f fd, Dn P w0 K mg base "_law_any" 5 ["_law_deck_here", "_law_deep"] (spAny 3) f fd
  web : ∃ f fd, Dn P w0 K mg base "_law_web" 4 ["_law_deck_here", "_law_n", "_law_most"] spWeb f fd
  cov : ∃ f fd, Dn P w0 K mg base "_law_covered" 5 ["_law_deck_here", "_law_wide", "_law_most"] spCov f fd
  prs : ∃ f fd, Dn P w0 K mg base "_law_pairings" 1 ["_law_web_here"] spLPrs f fd
  bent : ∃ f fd, Dn P w0 K mg base "_law_bent_numbers" 3 ["_law_deck_here", "_law_some", "_law_most"] spBentN f fd
  isl : ∃ f fd, Dn P w0 K mg base "_law_is_pairing" 3 ["_law_web_here", "_law_thing"] spIpo f fd
  pairings : ∃ f fd, Dn P w0 K mg base "pairings" 30 ["web"] spPms f fd ∧ Kw1 fd "web"
  many : ∃ f fd, Dn P w0 K mg base "how_many" 31 ["web"] spHow f fd ∧ Kw1 fd "web"
  isp : ∃ f fd, Dn P w0 K mg base "is_pairing" 6 ["web", "thing"] spIpo f fd ∧ Kw2 fd "web" "thing"
/-- a list that grows changes no value's kind -/
theorem VT.putL {l : Addr} {xs ys : List V} {H : Hp} {v : V} {t : String} (h : VT H v t) (e0 : H l = some (.lst xs)) : VT (upd H l (.lst ys)) v t := by
  cases h with
  | non => exact .non
  | bl b => exact .bl b
  | int i => exact .int i
  | str x => exact .str x
  | @lst a zs e =>
    by_cases z : a = l
    · subst z; exact .lst upd_same
    · exact .lst (by rw [upd_ne z]; exact e)
  | tup e => exact .tup (e.elim (fun e => .inl (by rw [upd_ne (fun z => by rw [z, e0] at e; cases e)]; exact e)) fun ⟨us, e⟩ => .inr ⟨us, by rw [upd_ne (fun z => by rw [z, e0] at e; cases e)]; exact e⟩)
  | dct e => exact .dct (by rw [upd_ne (fun z => by rw [z, e0] at e; cases e)]; exact e)
theorem TT.putL {l a : Addr} {xs ys zs : List V} {H : Hp} (e : TT H a zs) (e0 : H l = some (.lst xs)) : TT (upd H l (.lst ys)) a zs :=
  e.elim (fun e => .inl (by rw [upd_ne (fun z => by rw [z, e0] at e; cases e)]; exact e)) fun ⟨us, e⟩ => .inr ⟨us, by rw [upd_ne (fun z => by rw [z, e0] at e; cases e)]; exact e⟩
theorem Th.putL {l : Addr} {xs ys : List V} {H : Hp} {v : V} {o : Option (List V)} (h : Th H v o) (e0 : H l = some (.lst xs)) : Th (upd H l (.lst ys)) v o := by
  cases h with
  | tup e h l => exact .tup (e.putL e0) (fun x hx => let ⟨t, q⟩ := h x hx; ⟨t, q.putL e0⟩) l
  | oth h ne => exact .oth (h.putL e0) ne
theorem LgT.putL {l : Addr} {xs ys : List V} {H : Hp} {v : V} (h : LgT H v) (e0 : H l = some (.lst xs)) : LgT (upd H l (.lst ys)) v := let ⟨a, zs, e1, e2, e3, e4⟩ := h; ⟨a, zs, e1, e2.putL e0, fun x hx => (e3 x hx).putL e0, e4⟩
/-- a value that may be asked, whatever the deck does -/
def Thg (p c : Addr) (M : Hp) (v : V) : Prop := Thd p c M v ∨ ∀ M', Kp p c M M' → LgT M' v
theorem Thg.mono {p c : Addr} {M M1 : Hp} {v : V} (a : Thg p c M v) (k : Kp p c M M1) : Thg p c M1 v := a.elim (fun a => .inl (a.mono k)) fun a => .inr fun M' k' => a M' (k.trans k')
theorem Thg.put {p c l : Addr} {M : Hp} {xs ys : List V} {v : V} (a : Thg p c M v) (e : M l = some (.lst xs)) (lp : l ≠ p) (lc : l ≠ c) : Thg p c (upd M l (.lst ys)) v := by
  have back : ∀ {M'}, Kp p c (upd M l (.lst ys)) M' → Kp p c M (upd M' l (.lst xs)) ∧ upd (upd M' l (.lst xs)) l (.lst ys) = M' := fun {M'} k => by
    refine ⟨fun b o b1 b2 eb => ?_, ?_⟩
    · by_cases z : b = l
      · subst z
        rw [e] at eb
        cases eb
        exact upd_same
      · rw [upd_ne z]
        exact k b o b1 b2 (by rw [upd_ne z]; exact eb)
    · rw [upd_upd]
      funext b
      by_cases z : b = l
      · subst z
        rw [upd_same]
        exact (k b _ lp lc upd_same).symm
      · rw [upd_ne z]
  rcases a with ⟨o, a⟩ | a
  · refine .inl ⟨o, fun M' k => ?_⟩
    obtain ⟨k1, k2⟩ := back k
    have := (a _ k1).putL (ys := ys) upd_same
    rwa [k2] at this
  · refine .inr fun M' k => ?_
    obtain ⟨k1, k2⟩ := back k
    have := (a _ k1).putL (ys := ys) upd_same
    rwa [k2] at this
theorem dv_thd {p c : Addr} {H H' : Hp} {v : V} {e : PyData} (D : Deck H p c) (dv : DV H' (fun a => H a = none) v e) (nt : NT H' v) : Thd p c H' v := by
  obtain ⟨xs, m, n, e1, e2, _⟩ := D.ex
  have np : ∀ {a : Addr}, H a = none → a ≠ p ∧ a ≠ c := fun h => ⟨fun z => (by rw [z, e1] at h; cases h), fun z => (by rw [z, e2] at h; cases h)⟩
  have st : ∀ M', Kp p c H' M' → ∀ (v : V) (d : PyData), DV H' (fun a => H a = none) v d → DV M' Any v d := fun M' k v d h => h.mono fun a o t q => ⟨trivial, k a o (np t).1 (np t).2 q⟩
  cases dv with
  | non => exact ⟨none, fun M' k => .oth .non (by decide)⟩
  | bl b => exact ⟨none, fun M' k => .oth (.bl b) (by decide)⟩
  | int i => exact ⟨none, fun M' k => .oth (.int i) (by decide)⟩
  | str x => exact ⟨none, fun M' k => .oth (.str x) (by decide)⟩
  | lst t e => exact ⟨none, fun M' k => .oth (.lst (k _ _ (np t).1 (np t).2 e)) (by decide)⟩
  | dct t e => exact ⟨none, fun M' k => .oth (.dct (k _ _ (np t).1 (np t).2 e)) (by decide)⟩
  | @tup r xs ds t e l h =>
    refine ⟨some xs, fun M' k => .tup (e.imp (fun e => k _ _ (np t).1 (np t).2 e) fun ⟨us, e⟩ => ⟨us, k _ _ (np t).1 (np t).2 e⟩) (fun x hx => ?_) ?_⟩
    · obtain ⟨i, hi⟩ := List.getElem?_of_mem hx
      have hi' : i < ds.length := by rw [← l]; exact (List.getElem?_eq_some_iff.mp hi).1
      exact (st M' k x _ (h i x _ hi (List.getElem?_eq_getElem hi'))).vt
    · rcases e with e | e
      · exact absurd e (nt r xs rfl).1
      · exact (nt r xs rfl).2 e
theorem ne_sameV (v : V) : (!decide (v = v)) = false := by simp
def If10 (σ : L2.St) (M : Hp) (Q : VK) : Prop := ∃ p c : Addr, σ[1]? = some (some (.ref p)) ∧ Deck M p c ∧ ∀ (d : Int) (M1 : Hp), (d = 12 ∨ d = 8) → Deck M1 p c → Kp p c M M1 → Q (.int d) M1
/-- a row of drawn numbers, in order -/
def DrT (σ : L2.St) (M : Hp) (Q : VK) : Prop := ∃ (p c : Addr) (m h : Nat) (o0 o2 o3 o6 o7 o8 o9 o10 o11 : Option V), σ = [o0, some (.ref p), o2, o3, some (.int (m : Nat)), some (.int ((h : Nat) : Int)), o6, o7, o8, o9, o10, o11, none] ∧ Deck M p c ∧ m ≤ 40 ∧ h ≤ 6 ∧
  ∀ (b : Addr) (rs : List Int) (M' : Hp), M' b = some (.tup (rs.map V.int)) → rs.length ≤ 6 → Deck M' p c → Kp p c M M' → Q (.ref b) M'
/-- one that is due, or drawn numbers -/
def IfO (σ : L2.St) (M : Hp) (Q : VK) : Prop := ∃ (p c l : Addr) (us : List V) (ds : List (List Nat)) (m h : Nat) (o0 o2 o6 o7 o8 o9 o10 o11 : Option V), σ = [o0, some (.ref p), o2, some (.ref l), some (.int (m : Nat)), some (.int ((h : Nat) : Int)), o6, o7, o8, o9, o10, o11, none] ∧ Deck M p c ∧ m ≤ 40 ∧ h ≤ 6 ∧
  M l = some (.lst us) ∧ l ≠ p ∧ l ≠ c ∧ us.length ≤ 65536 ∧ AtL (NsV M) us ds ∧ (∀ r ∈ ds, r.length ≤ 6) ∧
  ∀ (b : Addr) (rs : List Int) (M' : Hp), M' b = some (.tup (rs.map V.int)) → rs.length ≤ 6 → Deck M' p c → Kp p c M M' → Q (.ref b) M'
abbrev nLaw : List Str := ["_law_script", "_law_deck_here", "_law_web_here", "_law_due", "_law_many", "_law_half", "_law_told", "_law_pairing", "_law_some", "_law_turn", "_law_one", "_law_thing", "_law_at"]
theorem scLaw : FnScope nLaw ["_law_script"] (defScope lLaw) := ⟨rfl, rfl, rfl, by decide +kernel, rfl, by decide +kernel, by decide +kernel⟩
/-- what is fixed while the law runs -/
structure LP1 where
  a : Addr
  p : Addr
  c : Addr
  w : Addr
  n : Nat
  L : List (Int × Int)
  l : Addr
  us : List V
/-- the slots -/
def st1 (x : LP1) (o6 o7 o8 o9 o10 o11 : Option V) : L2.St := [some (.ref x.a), some (.ref x.p), some (.ref x.w), some (.ref x.l), some (.int (x.L.length : Nat)), some (.int ((x.n / 2 : Nat) : Int)), o6, o7, o8, o9, o10, o11, none]
structure Ba (x : LP1) (M : Hp) : Prop where
  dk : Deck M x.p x.c
  gw : GW M x.w x.n x.L
  l16 : x.L.length ≤ 16
  el : M x.l = some (.lst x.us)
  lp : x.l ≠ x.p
  lc : x.l ≠ x.c
  al : AtL (NsV M) x.us (dueN x.L x.n)
theorem Ba.go {x : LP1} {M M' : Hp} (b : Ba x M) (D : Deck M' x.p x.c) (k : Kp x.p x.c M M') : Ba x M' :=
  ⟨D, b.gw.mono (k.tup b.dk), b.l16, k _ _ b.lp b.lc b.el, b.lp, b.lc, b.al.mono fun v r h => h.kp (k.tup b.dk)⟩
theorem Ba.same {x : LP1} {M M' : Hp} (b : Ba x M) (s : Same M M') : Ba x M' := b.go (b.dk.same s) (kp_same s)
theorem Ba.putL {x : LP1} {M : Hp} {so : Addr} {xs ys : List V} (b : Ba x M) (e : M so = some (.lst xs)) (sp : so ≠ x.p) (sc : so ≠ x.c) (sl : x.l ≠ so) : Ba x (upd M so (.lst ys)) :=
  have k : KpT M (upd M so (.lst ys)) := KpT.upd e (fun _ z => nomatch z)
  ⟨b.dk.put sp sc, b.gw.mono k, b.l16, by rw [upd_ne sl]; exact b.el, b.lp, b.lc, b.al.mono fun v r h => h.kp k⟩
/-- what is told of a value -/
theorem Thg.told {p c n : Nat} {L : List (Int × Int)} {M : Hp} {v : V} (h : Thg p c M v) : ∃ r, ∀ M', Kp p c M M' → ((∃ o, Th M' v o ∧ r = prO L n o) ∨ (LgT M' v ∧ r = false)) := by
  rcases h with ⟨o, h⟩ | h
  · exact ⟨prO L n o, fun M' k => .inl ⟨o, h M' k, rfl⟩⟩
  · exact ⟨false, fun M' k => .inr ⟨h M' k, rfl⟩⟩
theorem dv_bb {H : Hp} {t : Addr} {r : Bool} (e : H t = some (.tup [.bl r, .bl r])) : DV H Any (.ref t) (.tuple [.bool r, .bool r]) :=
  .tup trivial (.inl e) rfl fun i v q e1 e2 => by
    match i with
    | 0 => cases e1; cases e2; exact .bl r
    | 1 => cases e1; cases e2; exact .bl r
    | i + 2 => simp at e1
theorem fit_bbb (a : Bool) : Fit (.tuple [.bool a, .bool a]) := by
  have t := tame_tuple (k := 0) (ds := [.bool a, .bool a]) (fun d hd => by
    rcases List.mem_cons.mp hd with rfl | hd
    · exact tame_plain (.inl ⟨a, rfl⟩) 0
    · rw [List.mem_singleton.mp hd]; exact tame_plain (.inl ⟨a, rfl⟩) 0) (by simp)
  have b1 : bb (0 + 1) ≤ 1000 := by decide
  exact fit_of t.sh t.lv (by have := t.dp; omega) (by have := t.bk; omega)
/-- the row of things -/
structure So (x : LP1) (M : Hp) (so : Addr) (xs : List V) : Prop where
  el : M so = some (.lst xs)
  sp : so ≠ x.p
  sc : so ≠ x.c
  sl : x.l ≠ so
  th : ∀ v ∈ xs, Thg x.p x.c M v
theorem So.go {x : LP1} {M M' : Hp} {so : Addr} {xs : List V} (h : So x M so xs) (k : Kp x.p x.c M M') : So x M' so xs := ⟨k _ _ h.sp h.sc h.el, h.sp, h.sc, h.sl, fun v hv => (h.th v hv).mono k⟩
theorem So.put {x : LP1} {M : Hp} {so : Addr} {xs : List V} {v : V} (h : So x M so xs) (hv : Thg x.p x.c M v) : So x (upd M so (.lst (xs ++ [v]))) so (xs ++ [v]) :=
  ⟨upd_same, h.sp, h.sc, h.sl, fun u hu => by
    rcases List.mem_append.mp hu with z | z
    · exact (h.th u z).put h.el h.sp h.sc
    · rw [List.mem_singleton.mp z]; exact hv.put h.el h.sp h.sc⟩
section
variable {P : Program} {w0 : World} {K : PySem.W.Frag} {mg : Str → Option Value} {base : Heap} {c0 fa a : Addr}
theorem law_body (Z : Lw P w0 K mg base) {s : Shared} {H : Hp} {ns : List Int} (hS : SqL K H a (ns.map V.int)) (hr : Room 40 (callerA.deeper (envOfC "law" (defScope lLaw) s.heap.objs.size fa (.ref c0)))) :
    ∃ t, PSs (cxOf CX0 P w0 K mg base nLaw "law" (defScope lLaw) fa (.ref c0) callerA [] s H (fun _ _ _ => False)).nox (defBody lLaw) t ∧ t { nx := fun _ H' => (V.non = .bl true : Prop), rt := fun v _ => v = .bl true } (start nLaw [.ref a]) H := by
  have T := Z.bk
  obtain ⟨_, _, GDk⟩ := Z.deck
  obtain ⟨_, _, GD⟩ := Z.draw
  obtain ⟨_, _, GP⟩ := Z.pick
  obtain ⟨_, _, GA⟩ := Z.any
  obtain ⟨_, _, GWb⟩ := Z.web
  obtain ⟨_, _, GC⟩ := Z.cov
  obtain ⟨_, _, GL⟩ := Z.prs
  obtain ⟨_, _, GB⟩ := Z.bent
  obtain ⟨_, _, GI⟩ := Z.isl
  obtain ⟨_, _, GM, kM⟩ := Z.pairings
  obtain ⟨_, _, GH, kH⟩ := Z.many
  obtain ⟨_, _, GS, kS⟩ := Z.isp
  have hu : callerA.units + 3 + 64 < cLine := by decide +kernel
  have hu0 := hr.units0
  have hgu : (callerA.deeper (envOfC "law" (defScope lLaw) s.heap.objs.size fa (.ref c0))).guards = some [] := rfl
  have r1 : Room 1 (callerA.deeper (envOfC "law" (defScope lLaw) s.heap.objs.size fa (.ref c0))) := hr.mono (by decide)
  have r2 : Room 2 (callerA.deeper (envOfC "law" (defScope lLaw) s.heap.objs.size fa (.ref c0))) := hr.mono (by decide)
  have r3 : Room 3 (callerA.deeper (envOfC "law" (defScope lLaw) s.heap.objs.size fa (.ref c0))) := hr.mono (by decide)
  have r4 : Room 4 (callerA.deeper (envOfC "law" (defScope lLaw) s.heap.objs.size fa (.ref c0))) := hr.mono (by decide)
  have r5 : Room 5 (callerA.deeper (envOfC "law" (defScope lLaw) s.heap.objs.size fa (.ref c0))) := hr.mono (by decide)
  have r6 : Room 6 (callerA.deeper (envOfC "law" (defScope lLaw) s.heap.objs.size fa (.ref c0))) := hr.mono (by decide)
  have r30 : Room 30 (callerA.deeper (envOfC "law" (defScope lLaw) s.heap.objs.size fa (.ref c0))) := hr.mono (by decide)
  have r31 : Room 31 (callerA.deeper (envOfC "law" (defScope lLaw) s.heap.objs.size fa (.ref c0))) := hr.mono (by decide)
  refine ⟨_, pss_cons (ps_set (i := 1) scLaw.nd rfl (.inr rfl) (pe_call GDk.ok r1 rfl GDk.g GDk.kp GDk.b .nil pass0 (pa_cons (pv 0) pa_nil)))
    <| pss_cons (ps_invP (α := Addr × Addr) (J := fun x σ M => σ = [some (.ref a), some (.ref x.1), none, none, none, none, none, none, none, none, none, none, none] ∧ Deck M x.1 x.2)
        (J' := fun x σ M => ∃ (w n : Nat) (L : List (Int × Int)), σ = [some (.ref a), some (.ref x.1), some (.ref w), none, none, none, none, none, none, none, none, none, none] ∧ Deck M x.1 x.2 ∧ GW M w n L ∧ L.length ≤ 16)
        (ps_if (pt_cmpR op_eq (pe_call GD.ok r1 rfl GD.g GD.kp GD.b .nil pass0 (pa_cons (pv 1) (pa_cons pe_int pa_nil))) pe_int (nomark _))
          (pss_one (ps_set (i := 2) scLaw.nd rfl (.inl rfl) (pe_call GC.ok r5 rfl GC.g GC.kp GC.b .nil pass0 (pa_cons (pv 1) (pa_cons pe_int (pa_cons pe_int pa_nil))))))
          (pss_one (ps_set (i := 2) scLaw.nd rfl (.inl rfl) (pe_call GWb.ok r4 rfl GWb.g GWb.kp GWb.b .nil pass0 (pa_cons (pv 1) (pa_cons (pe_op op_add pe_int (pe_call GD.ok r1 rfl GD.g GD.kp GD.b .nil pass0 (pa_cons (pv 1) (pa_cons
            (pe_imp (t' := If10) (pe_ifExp (pt_cmpR op_eq (pe_call GD.ok r1 rfl GD.g GD.kp GD.b .nil pass0 (pa_cons (pv 1) (pa_cons pe_int pa_nil))) pe_int (nomark _)) pe_int pe_int) ?ifx) pa_nil)))) (pa_cons pe_int pa_nil))))))) ?web)
    <| pss_cons (ps_asg (pe_tup (pa_cons (pe_call GL.ok r1 rfl GL.g GL.kp GL.b .nil pass0 (pa_cons (pv 2) pa_nil)) (pa_cons (pe_callB call_len_seq (by rfl) T.len PySem.boot_len (pa_cons (pe_ix ix_tup (pv 2) pe_int (fun _ _ => rfl)) pa_nil)) (pa_cons (pe_op op_fdivNN (pe_ix ix_tup (pv 2) pe_int (fun _ _ => rfl)) pe_int) pa_nil))))
        (pg_tup rfl (pgs_cons (pg_name (i := 3) scLaw.nd rfl (.inl rfl)) (pgs_cons (pg_name (i := 4) scLaw.nd rfl (.inr rfl)) (pgs_cons (pg_name (i := 5) scLaw.nd rfl (.inl rfl)) pgs_nil)))))
    <| pss_cons (ps_set (i := 6) scLaw.nd rfl (.inl rfl) (pe_tup (pa_cons (pe_call GM.ok r30 rfl GM.g GM.kp GM.b .nil pass0 (pa_cons (pv 2) pa_nil)) (pa_cons (pe_kw1 GM.ok r30 rfl GM.g GM.kp kM pass0 (pv 2))
        (pa_cons (pe_call GH.ok r31 rfl GH.g GH.kp GH.b .nil pass0 (pa_cons (pv 2) pa_nil)) (pa_cons (pe_kw1 GH.ok r31 rfl GH.g GH.kp kH pass0 (pv 2)) pa_nil))))))
    <| pss_cons (ps_if (pt_cmpR op_ne (pe_callB (call_repr hgu hu) (by rfl) T.repr (by decide +kernel) (pa_cons (pv 6) pa_nil)) (pe_callB (call_repr hgu hu) (by rfl) T.repr (by decide +kernel) (pa_cons (pe_tup (pa_cons (pe_callTy call_tuple_of (by rfl) T.tuple (by decide +kernel) (pa_cons (pv 3) pa_nil))
        (pa_cons (pe_callTy call_tuple_of (by rfl) T.tuple (by decide +kernel) (pa_cons (pv 3) pa_nil)) (pa_cons (pe_callB call_len_seq (by rfl) T.len PySem.boot_len (pa_cons (pv 3) pa_nil)) (pa_cons (pe_callB call_len_seq (by rfl) T.len PySem.boot_len (pa_cons (pv 3) pa_nil)) pa_nil))))) pa_nil)) (nomark _)) (pss_one (ps_ret pe_bl)) pss_nil)
    <| pss_cons (ps_for PassesOwn.never rfl (pi_list (pv 3)) (pg_name (i := 7) scLaw.nd rfl (.inl rfl))
        (pss_one (ps_if (pt_cmp (pc_notT (pe_call GS.ok r6 rfl GS.g GS.kp GS.b .nil pass0 (pa_cons (pv 2) (pa_cons (pv 7) pa_nil))))) (pss_one (ps_ret pe_bl)) pss_nil)))
    <| pss_cons (ps_set (i := 8) scLaw.nd rfl (.inl rfl) (pe_lst (pa_cons (pe_tup pa_nil) (pa_cons pe_non (pa_cons (pe_tupRg rfl (by rfl) T.tuple (prg_1 (by rfl) T.range (pv 4))) (pa_cons (pe_callTy call_tuple_of (by rfl) T.tuple (by decide +kernel) (pa_cons (pv 3) pa_nil))
        (pa_cons (pe_call GA.ok r5 rfl GA.g GA.kp GA.b .nil pass0 (pa_cons (pv 1) (pa_cons pe_int pa_nil))) (pa_cons (pv 2) pa_nil))))))))
    <| pss_cons (ps_for PassesOwn.never rfl (pi_range1 (by rfl) T.range (pa_cons pe_int pa_nil)) (pg_name (i := 9) scLaw.nd rfl (.inl rfl))
        (pss_cons (ps_set (i := 10) scLaw.nd rfl (.inl rfl) (pe_imp (t' := IfO) (pe_ifExp (pt_cmpR (op_ne0 hu0) (pv 3) (pe_lst pa_nil) (nomark _)) (pe_call GP.ok r2 rfl GP.g GP.kp GP.b .nil pass0 (pa_cons (pv 1) (pa_cons (pv 3) pa_nil)))
            (pe_imp (t' := DrT) (pe_callTy call_tuple_of (by rfl) T.tuple (by decide +kernel) (pa_cons (pe_callB cr_sortedI (by rfl) T.sorted (by decide +kernel) (pa_cons
              (pe_lc (own := [("_law_at", 12)]) (g := gName 12) (tt := tYes) rfl scLaw.nd (pi_range1 (by rfl) T.range (pa_cons (pv 5) pa_nil)) (blkOk_by (N := nLaw) (sc := defScope lLaw) (by decide +kernel)) (fun _ _ _ _ _ => pg_name (i := 12) scLaw.nd rfl (Or.inl rfl)) (fun _ _ _ _ _ => pts_nil)
                (fun _ _ _ _ _ => pe_call GD.ok r1 rfl GD.g GD.kp GD.b .nil pass0 (pa_cons (pv 1) (pa_cons (pe_op op_add (pv 4) pe_int) pa_nil)))) pa_nil)) pa_nil)) ?dr1)) ?one))
        <| pss_cons (ps_expr (pe_bm PySem.F.plainAttrs_list PySem.F.slot_list_append PySem.F.type_list_append mt_append (pv 8) (pa_cons (pe_call GB.ok r3 rfl GB.g GB.kp GB.b .nil pass0 (pa_cons (pv 1) (pa_cons (pv 10) (pa_cons (pv 4) pa_nil)))) pa_nil)))
        <| pss_one (ps_expr (pe_bm PySem.F.plainAttrs_list PySem.F.slot_list_append PySem.F.type_list_append mt_append (pv 8) (pa_cons (pe_imp (t' := DrT) (pe_callTy call_tuple_of (by rfl) T.tuple (by decide +kernel) (pa_cons (pe_callB cr_sortedI (by rfl) T.sorted (by decide +kernel) (pa_cons
              (pe_lc (own := [("_law_at", 12)]) (g := gName 12) (tt := tYes) rfl scLaw.nd (pi_range1 (by rfl) T.range (pa_cons (pv 5) pa_nil)) (blkOk_by (N := nLaw) (sc := defScope lLaw) (by decide +kernel)) (fun _ _ _ _ _ => pg_name (i := 12) scLaw.nd rfl (Or.inl rfl)) (fun _ _ _ _ _ => pts_nil)
                (fun _ _ _ _ _ => pe_call GD.ok r1 rfl GD.g GD.kp GD.b .nil pass0 (pa_cons (pv 1) (pa_cons (pe_op op_add (pv 4) pe_int) pa_nil)))) pa_nil)) pa_nil)) ?dr2) pa_nil)))))
    <| pss_cons (ps_for PassesOwn.never rfl (pi_list (pv 8)) (pg_name (i := 11) scLaw.nd rfl (.inl rfl))
        (pss_cons (ps_set (i := 6) scLaw.nd rfl (.inl rfl) (pe_call GI.ok r3 rfl GI.g GI.kp GI.b .nil pass0 (pa_cons (pv 2) (pa_cons (pv 11) pa_nil))))
        <| pss_one (ps_if (pt_cmpR op_ne (pe_callB (call_repr hgu hu) (by rfl) T.repr (by decide +kernel) (pa_cons (pe_tup (pa_cons (pe_call GS.ok r6 rfl GS.g GS.kp GS.b .nil pass0 (pa_cons (pv 2) (pa_cons (pv 11) pa_nil)))
              (pa_cons (pe_kw2r GS.ok r6 rfl GS.g GS.kp kS pass0 (pv 11) (pv 2)) pa_nil))) pa_nil))
            (pe_callB (call_repr hgu hu) (by rfl) T.repr (by decide +kernel) (pa_cons (pe_tup (pa_cons (pv 6) (pa_cons (pv 6) pa_nil))) pa_nil)) (nomark _)) (pss_one (ps_ret pe_bl)) pss_nil)))
    <| pss_one (ps_ret pe_bl), ?main⟩
  case ifx =>
    rintro σ M Q ⟨p, c, hs, D, k⟩
    exact ⟨_, hs, p, c, _, rfl, D, by decide, by decide, fun r M1 r0 r1 D1 K1 => ⟨rfl, _, rfl, ite2 (fun _ => k _ _ (.inl rfl) D1 K1) (fun _ => k _ _ (.inr rfl) D1 K1)⟩⟩
  case dr1 =>
    rintro σ M Q ⟨p, c, m, h, o0, o2, o3, o6, o7, o8, o9, o10, o11, rfl, D, hm, hh, k⟩
    refine ⟨_, rfl, _, rfl, by omega, by omega, fun Da hD => ?_⟩
    obtain ⟨Dp, Dc⟩ := D.inp hD
    refine lc_range (lo := 0) (n := ((h : Nat) : Int).toNat) (fun i N => (∃ ks : List Int, N Da = some (.lst (ks.map V.int)) ∧ ks.length = i) ∧ Deck N p c ∧ Kp p c M N) ⟨⟨[], upd_same, rfl⟩, D.new hD, kp_new hD⟩ ?_ ?_
    · rintro i N hi ⟨⟨ks, f1, f2⟩, DN, KN⟩
      refine ⟨rfl, yes_tt (iteT ⟨_, rfl, _, rfl, _, _, rfl, rfl, p, c, _, rfl, DN, by omega, by omega, fun d N2 d0 d1 D2 K2 => ⟨ks.map V.int, K2 _ _ Dp Dc f1, by rw [List.length_map]; exact Nat.lt_of_le_of_lt (show ks.length ≤ 1000 by omega) (by rw [sizeLine_eq]; decide), ⟨ks ++ [d], by rw [upd_same, List.map_append] <;> rfl, by rw [List.length_append, f2] <;> rfl⟩, D2.put Dp Dc, (KN.trans K2).own hD⟩⟩)⟩
    · rintro N ⟨⟨ks, f1, f2⟩, DN, KN⟩
      refine ⟨Da, ks, rfl, SqL.of f1, fun ms p2 m1 m2 hp2 => ⟨p2, _, rfl, .inl ⟨SqL.of upd_same, fun t9 ht9 => ?_⟩⟩⟩
      exact k t9 ms _ upd_same (by rw [m1.length_eq]; omega) ((DN.new hp2).new ht9) ((KN.trans (kp_new hp2)).trans (kp_new ht9))
  case dr2 =>
    rintro σ M Q ⟨p, c, m, h, o0, o2, o3, o6, o7, o8, o9, o10, o11, rfl, D, hm, hh, k⟩
    refine ⟨_, rfl, _, rfl, by omega, by omega, fun Da hD => ?_⟩
    obtain ⟨Dp, Dc⟩ := D.inp hD
    refine lc_range (lo := 0) (n := ((h : Nat) : Int).toNat) (fun i N => (∃ ks : List Int, N Da = some (.lst (ks.map V.int)) ∧ ks.length = i) ∧ Deck N p c ∧ Kp p c M N) ⟨⟨[], upd_same, rfl⟩, D.new hD, kp_new hD⟩ ?_ ?_
    · rintro i N hi ⟨⟨ks, f1, f2⟩, DN, KN⟩
      refine ⟨rfl, yes_tt (iteT ⟨_, rfl, _, rfl, _, _, rfl, rfl, p, c, _, rfl, DN, by omega, by omega, fun d N2 d0 d1 D2 K2 => ⟨ks.map V.int, K2 _ _ Dp Dc f1, by rw [List.length_map]; exact Nat.lt_of_le_of_lt (show ks.length ≤ 1000 by omega) (by rw [sizeLine_eq]; decide), ⟨ks ++ [d], by rw [upd_same, List.map_append] <;> rfl, by rw [List.length_append, f2] <;> rfl⟩, D2.put Dp Dc, (KN.trans K2).own hD⟩⟩)⟩
    · rintro N ⟨⟨ks, f1, f2⟩, DN, KN⟩
      refine ⟨Da, ks, rfl, SqL.of f1, fun ms p2 m1 m2 hp2 => ⟨p2, _, rfl, .inl ⟨SqL.of upd_same, fun t9 ht9 => ?_⟩⟩⟩
      exact k t9 ms _ upd_same (by rw [m1.length_eq]; omega) ((DN.new hp2).new ht9) ((KN.trans (kp_new hp2)).trans (kp_new ht9))
  case one =>
    rintro σ M Q ⟨p, c, l, us, ds, m, h, o0, o2, o6, o7, o8, o9, o10, o11, rfl, D, hm, hh, el, lp, lc, hu6, al, hd, k⟩
    refine ⟨_, rfl, Nat.zero_le _, fun l2 hl2 => ⟨l, l2, us, rfl, rfl, SqL.of (same_new hl2 _ _ el), SqL.of upd_same, _, rfl, ite2 (fun hne => ?_) (fun _ => ?_)⟩⟩
    · have D2 := D.new (o := .lst []) hl2
      have u1 : 1 ≤ us.length := by
        cases us with
        | nil => cases hne
        | cons x xs => simp
      refine ⟨_, rfl, _, rfl, p, c, l, us, rfl, D2, same_new hl2 _ _ el, lp, lc, u1, by omega, fun i v M2 hv D3 K3 => ?_⟩
      obtain ⟨r, hr, b, rfl, eb⟩ := al.get hv
      have eb2 := K3.tup D2 _ _ (same_new hl2 _ _ eb)
      exact k b (r.map fun (i : Nat) => (i : Int)) M2 (by rw [← natV_ints]; exact eb2) (by rw [List.length_map]; exact hd r (List.mem_of_getElem? hr)) D3 ((kp_new hl2).trans K3)
    · exact ⟨p, c, m, h, o0, o2, some (.ref l), o6, o7, o8, o9, o10, o11, rfl, D.new hl2, hm, hh, fun b rs M2 e1 e2 e3 e4 => k b rs M2 e1 e2 e3 ((kp_new hl2).trans e4)⟩
  case web =>
    rintro ⟨p, c⟩ D0 σ M ⟨rfl, D⟩ nx
    dsimp only at D
    refine ⟨_, rfl, p, c, _, rfl, D, by decide, by decide, fun r M1 r0 r1' D1 K1 => ⟨rfl, _, rfl, ite2 (fun _ => ?_) (fun _ => ?_)⟩⟩
    · refine ⟨_, rfl, p, c, rfl, D1, fun v M2 hv D2 K2 => ?_⟩
      obtain ⟨w, n, L, rfl, G, h2, h8, h16⟩ := hv
      exact nx _ _ ⟨w, n, L, rfl, D2, G, h16⟩
    · refine ⟨_, rfl, _, rfl, p, c, rfl, D1, fun d M2 hd D2 K2 => ⟨p, c, d, rfl, D2, by omega, by omega, fun x M3 x0 x1 D3 K3 => ⟨_, _, rfl, rfl, ?_⟩⟩⟩
      obtain ⟨n, hn⟩ : ∃ n : Nat, 1 + x = n := ⟨(1 + x).toNat, by omega⟩
      refine ⟨p, c, n, 16, by show [V.ref p, V.int (1 + x), V.int 16] = _; rw [hn] <;> rfl, by omega, by omega, by decide, D3, fun w L M4 _ W hB hS' hl D4 K4 => ?_⟩
      exact nx _ _ ⟨w, n, L, rfl, D4, ⟨W, by omega, by omega, hB, hS', by omega⟩, hl⟩
  case main =>
    have z30 : ∀ {x : Nat}, x ≤ 1000 → x ≤ sizeLine := fun h => by rw [sizeLine_eq]; omega
    have nK : ∀ {ds : List PyData} (kvs), PyData.tuple ds ≠ .dict kvs := fun _ z => nomatch z
    refine ⟨_, rfl, a, ns, rfl, hS, fun p c H1 D1 s1 hp hc => ?_⟩
    refine ⟨(p, c), ⟨rfl, D1⟩, ?_⟩
    clear D1 s1 hp hc
    rintro σ M ⟨w, n, L, rfl, D2, G, l16⟩
    dsimp only at D2 ⊢
    obtain ⟨t, vs, e1, e2, e3⟩ := G.web.ex
    have len := e3.len
    refine ⟨_, rfl, w, n, L, rfl, G, by omega, fun l us M1 s1 hl el al => ?_⟩
    refine ⟨_, rfl, w, _, _, _, rfl, rfl, SqT.of (s1 _ _ e1), atI_nat (j := 1) rfl, t, _, rfl, .inr (SqT.of (s1 _ _ e2)), _, rfl, w, _, _, _, rfl, rfl, SqT.of (s1 _ _ e1), atI_nat (j := 0) rfl, n, 2, rfl, rfl, ⟨by decide, by decide⟩, z30 (by decide : 3 ≤ 1000), fun tt htt => ?_⟩
    have sT := same_new (H := M1) (o := .tup [.ref l, .int (vs.length : Nat), .int ((n / 2 : Nat) : Int)]) htt
    refine ⟨tt, _, rfl, SqT.of upd_same, rfl, _, _, rfl, _, _, rfl, _, _, rfl, rfl, ?_⟩
    obtain ⟨lp, lc⟩ := D2.inp hl
    have B : Ba ⟨a, p, c, w, n, L, l, us⟩ (upd M1 tt (.tup [.ref l, .int (vs.length : Nat), .int ((n / 2 : Nat) : Int)])) :=
      ⟨D2.same (s1.trans sT), G.same (s1.trans sT), l16, sT _ _ el, lp, lc, al.mono fun v r h => h.kp (KpT.same sT)⟩
    generalize upd M1 tt (.tup [.ref l, .int (vs.length : Nat), .int ((n / 2 : Nat) : Int)]) = M2 at B ⊢
    rw [len]
    clear sT htt s1 hl el al e1 e2 e3 len lp lc G D2
    have G := B.gw
    dsimp only at G
    have hB := G.belP
    have hSP := G.srtP
    have n2 := G.n2
    have n1 := G.n1
    have fit := told_fit hB hSP n2 l16
    have few := due_few hB n2 l16
    have ule := B.al.len
    dsimp only at ule
    have u65 : us.length ≤ 65536 := by
      rw [ule]
      exact Nat.le_trans (Nat.le_mul_of_pos_right _ (Nat.succ_pos (n / 2))) few
    refine ⟨_, rfl, w, n, L, rfl, G, by omega, fun t1 us1 M3 s3 _ e3 a3 => ⟨_, rfl, ?_⟩⟩
    dsimp only [tNil, List.cons_append, List.nil_append]
    refine ⟨w, n, L, rfl, G.same s3, by omega, fun t2 us2 M4 s4 _ e4 a4 => ⟨_, rfl, w, n, L, rfl, (G.same s3).same s4, by omega, fun M5 s5 => ⟨_, rfl, ?_⟩⟩⟩
    dsimp only [tNil, List.cons_append, List.nil_append]
    refine ⟨w, n, L, rfl, ((G.same s3).same s4).same s5, by omega, fun M6 s6 => ⟨z30 (by decide : 4 ≤ 1000), fun tt htt => ?_⟩⟩
    have s46 := (s4.trans s5).trans s6
    have s56 := s5.trans s6
    have sT := same_new (H := M6) (o := .tup [.ref t1, .ref t2, .int ((dueN L n).length : Nat), .int ((dueN L n).length : Nat)]) htt
    have eT : (upd M6 tt (.tup [.ref t1, .ref t2, .int ((dueN L n).length : Nat), .int ((dueN L n).length : Nat)])) tt = some (.tup [.ref t1, .ref t2, .int ((dueN L n).length : Nat), .int ((dueN L n).length : Nat)]) := upd_same
    have B6 := B.same ((s3.trans s46).trans sT)
    have d1 : DV (upd M6 tt (.tup [.ref t1, .ref t2, .int ((dueN L n).length : Nat), .int ((dueN L n).length : Nat)])) Any (.ref t1) (dueD (dueN L n)) := (a3.mono fun v r h => h.kp (KpT.same (s46.trans sT))).dv (sT _ _ (s46 _ _ e3))
    have d2 : DV (upd M6 tt (.tup [.ref t1, .ref t2, .int ((dueN L n).length : Nat), .int ((dueN L n).length : Nat)])) Any (.ref t2) (dueD (dueN L n)) := (a4.mono fun v r h => h.kp (KpT.same (s56.trans sT))).dv (sT _ _ (s56 _ _ e4))
    generalize upd M6 tt (.tup [.ref t1, .ref t2, .int ((dueN L n).length : Nat), .int ((dueN L n).length : Nat)]) = M7 at B6 eT d1 d2 ⊢
    refine ⟨_, rfl, tt, toldD (dueN L n), rfl, dv_four eT d1 d2 (.int _) (.int _), fit, nK, ?_⟩
    clear d1 d2 eT sT s56 s46 s6 s5 s4 s3 a3 a4 e3 e4 htt B G
    have el := B6.el
    dsimp only at el
    refine ⟨_, rfl, l, us, rfl, .inl ⟨SqL.of el, fun q1 hq1 => ?_⟩⟩
    have u1 := same_new (o := .tup us) hq1
    refine ⟨_, rfl, l, us, rfl, .inl ⟨SqL.of (u1 _ _ el), fun q2 hq2 => ?_⟩⟩
    have u2 := same_new (o := .tup us) hq2
    have u12 := u1.trans u2
    refine ⟨_, rfl, l, us, rfl, .inl (SqL.of (u12 _ _ el)), _, rfl, l, us, rfl, .inl (SqL.of (u12 _ _ el)), z30 (by decide : 4 ≤ 1000), fun q3 hq3 => ?_⟩
    have u3 := same_new (o := .tup [.ref q1, .ref q2, .int (us.length : Nat), .int (us.length : Nat)]) hq3
    have B7 := B6.same (u12.trans u3)
    have al7 := B7.al
    dsimp only at al7
    refine ⟨q3, toldD (dueN L n), rfl, dv_four upd_same (al7.dv ((u2.trans u3) _ _ upd_same)) (al7.dv (u3 _ _ upd_same)) (by rw [ule]; exact .int _) (by rw [ule]; exact .int _), fit, nK, rfl, _, rfl, ?_⟩
    rw [ne_sameV]
    refine iteF ?_
    generalize upd (upd (upd M7 q1 (.tup us)) q2 (.tup us)) q3 (.tup [.ref q1, .ref q2, .int (us.length : Nat), .int (us.length : Nat)]) = M8 at B7 ⊢
    clear al7 u3 u12 u2 u1 el B6 hq1 hq2 hq3 fit
    have dl6 : ∀ r ∈ dueN L n, r.length ≤ 6 := fun r hr => by have := (due_asc hB hSP n2 hr).2.2.2; omega
    refine ⟨_, rfl, l, rfl, ⟨_, SqL.of B7.el⟩, ?_⟩
    refine for_list (K := K) (a := l) (xs := us) (fun i σ M => ∃ (o7 : Option V), σ = [some (.ref a), some (.ref p), some (.ref w), some (.ref l), some (.int (L.length : Nat)), some (.int ((n / 2 : Nat) : Int)), some (.ref tt), o7, none, none, none, none, none] ∧ Ba ⟨a, p, c, w, n, L, l, us⟩ M)
      ⟨none, rfl, B7⟩ (fun i σ M _ ⟨_, _, b⟩ => SqL.of b.el) ?_ ?_
    · rintro i x σ M hx ⟨o7, rfl, B⟩
      obtain ⟨r, hr', b, rfl, eb⟩ := B.al.get hx
      dsimp only at hr'
      obtain ⟨q1, q2, q3, q4⟩ := due_asc hB hSP n2 (List.mem_of_getElem? hr')
      have yes : true = prO L n (some (r.map natV)) := by
        rw [pr_of_lot q1 q2]
        exact (decide_eq_true q3).symm
      refine ⟨_, rfl, _, rfl, w, n, L, .ref b, true, rfl, B.gw, .inl ⟨_, .tup (.inl eb) (fun x hx => by obtain ⟨k, _, rfl⟩ := List.mem_map.mp hx; exact ⟨_, .int _⟩) (by rw [List.length_map]; omega), yes⟩, fun M1 s1 => ⟨true, rfl, _, rfl, iteF' rfl ⟨_, rfl, B.same s1⟩⟩⟩
    rintro σ M ⟨o7, rfl, B⟩
    clear B7
    have hw := B.gw
    dsimp only at hw
    refine ⟨Nat.zero_le _, fun t0 ht0 => ⟨_, rfl, _, rfl, .of_le (by omega) (by omega) (by omega) (by omega), fun t1 ht1 => ?_⟩⟩
    rw [rg_ints]
    have u0 := same_new (o := .tup []) ht0
    have u1 := same_new (o := .tup (((List.range L.length).map fun i => ((i : Nat) : Int)).map V.int)) ht1
    have B1 := B.same (u0.trans u1)
    have f0 := u1 _ _ (upd_same (H := M) (a := t0) (o := .tup []))
    have f1 : (upd (upd M t0 (.tup [])) t1 (.tup (((List.range L.length).map fun i => ((i : Nat) : Int)).map V.int))) t1 = some (.tup (((List.range L.length).map fun i => ((i : Nat) : Int)).map V.int)) := upd_same
    generalize upd (upd M t0 (.tup [])) t1 (.tup (((List.range L.length).map fun i => ((i : Nat) : Int)).map V.int)) = M1 at B1 f0 f1 ⊢
    refine ⟨_, rfl, l, us, rfl, .inl ⟨SqL.of B1.el, fun t2 ht2 => ?_⟩⟩
    have u2 := same_new (o := .tup us) ht2
    have B2 := B1.same u2
    have f2 : (upd M1 t2 (.tup us)) t2 = some (.tup us) := upd_same
    have f0 := u2 _ _ f0
    have f1 := u2 _ _ f1
    generalize upd M1 t2 (.tup us) = M2 at B2 f0 f1 f2 ⊢
    have D2 := B2.dk
    dsimp only at D2
    refine ⟨_, rfl, p, c, 2, rfl, by decide, D2, fun v1 ed M3 _ dv nt D3 K3 => ⟨_, rfl, z30 (by decide : 6 ≤ 1000), fun so hso => ?_⟩⟩
    have B3 := B2.go D3 K3
    have th1 := dv_thd D2 dv nt
    have u4 := same_new (o := .lst [.ref t0, .non, .ref t1, .ref t2, v1, .ref w]) hso
    have B4 := B3.same u4
    have kt := K3.tup D2
    have D4 := B4.dk
    dsimp only at D4
    obtain ⟨sp, sc⟩ := D3.inp hso
    have el3 := B3.el
    dsimp only at el3
    have S4 : So ⟨a, p, c, w, n, L, l, us⟩ (upd M3 so (.lst [.ref t0, .non, .ref t1, .ref t2, v1, .ref w])) so [.ref t0, .non, .ref t1, .ref t2, v1, .ref w] := by
      refine ⟨upd_same, sp, sc, ne_of_none el3 hso, fun v hv => ?_⟩
      simp only [List.mem_cons, List.not_mem_nil, or_false] at hv
      rcases hv with rfl | rfl | rfl | rfl | rfl | rfl
      · exact .inl (Thd.tup D4 (u4 _ _ (kt _ _ f0)) (fun _ z => nomatch z) (Nat.zero_le _))
      · exact .inl ⟨none, fun M' k => .oth .non (by decide)⟩
      · exact .inl (Thd.tup D4 (u4 _ _ (kt _ _ f1)) (fun x hx M' _ => by obtain ⟨k, _, rfl⟩ := List.mem_map.mp hx; exact ⟨_, .int k⟩) (by rw [List.length_map, List.length_map, List.length_range]; omega))
      · have e2 := u4 _ _ (kt _ _ f2)
        have al4 := B4.al
        dsimp only at al4
        by_cases z : us = []
        · exact .inl (Thd.tup D4 e2 (fun x hx => by rw [z] at hx; cases hx) (by rw [z]; exact Nat.zero_le _))
        · refine .inr fun M' k => ⟨t2, us, rfl, .inl (k.tup D4 _ _ e2), fun x hx => ?_, z, by omega⟩
          obtain ⟨r, _, b, rfl, eb⟩ := al4.mem hx
          exact .tup (.inl (k.tup D4 _ _ eb))
      · exact .inl (th1.mono (kp_same u4))
      · have gw4 := B4.gw
        dsimp only at gw4
        obtain ⟨tw, vw, g1, g2, _⟩ := gw4.web.ex
        refine .inl (Thd.tup D4 g1 (fun x hx M' k => ?_) (by show 2 ≤ 60; decide))
        simp only [List.mem_cons, List.not_mem_nil, or_false] at hx
        rcases hx with rfl | rfl
        · exact ⟨_, .int _⟩
        · exact ⟨_, .tup (.inl (k.tup D4 _ _ g2))⟩
    generalize upd M3 so (.lst [.ref t0, .non, .ref t1, .ref t2, v1, .ref w]) = M4 at B4 S4 ⊢
    clear D4 el3 sp sc kt u4 th1 B3 dv nt K3 D3 f2 f1 f0 B2 D2 u2 hso ht2 B1 u0 u1 ht0 ht1 hw B
    refine ⟨20, rfl, by decide, by decide, ?_⟩
    refine for_range (lo := 0) (n := (20 : Int).toNat) (fun i σ M => ∃ (o9 o10 : Option V) (xs : List V), σ = [some (.ref a), some (.ref p), some (.ref w), some (.ref l), some (.int (L.length : Nat)), some (.int ((n / 2 : Nat) : Int)), some (.ref tt), o7, some (.ref so), o9, o10, none, none] ∧ Ba ⟨a, p, c, w, n, L, l, us⟩ M ∧ So ⟨a, p, c, w, n, L, l, us⟩ M so xs ∧ xs.length ≤ 6 + 2 * i)
      ⟨none, none, _, rfl, B4, S4, by simp⟩ ?_ ?_
    · rintro i σ M hi ⟨o9, o10, xs, rfl, B, S, lx⟩
      have hi20 : i < 20 := hi
      have Dk := B.dk
      have elB := B.el
      have lpB := B.lp
      have lcB := B.lc
      have alB := B.al
      dsimp only at Dk elB lpB lcB alB
      refine ⟨p, c, l, us, dueN L n, L.length, n / 2, _, _, _, _, _, _, _, _, rfl, Dk, by omega, by omega, elB, lpB, lcB, u65, alB, dl6, fun b rs M1 eb lb D1 K1 => ?_⟩
      have B1 := B.go D1 K1
      have S1 := S.go K1
      refine ⟨_, rfl, .inl ⟨rfl, _, SqL.of S1.el⟩, _, rfl, _, rfl, _, rfl, p, c, b, L.length, rs.map V.int, rfl, by omega, D1, eb, by rw [List.length_map]; omega, fun x hx M' _ => by obtain ⟨k, _, rfl⟩ := List.mem_map.mp hx; exact ⟨_, .int k⟩, fun v M2 th D2 K2 => ?_⟩
      have B2 := B1.go D2 K2
      have S2 := S1.go K2
      refine ⟨so, _, _, rfl, rfl, S2.el, by rw [sizeLine_eq]; omega, ?_⟩
      have B3 := B2.putL (ys := xs ++ [v]) S2.el S2.sp S2.sc S2.sl
      have S3 := S2.put (v := v) (.inl th)
      generalize upd M2 so (.lst (xs ++ [v])) = M3 at B3 S3 ⊢
      have D3 := B3.dk
      dsimp only at D3
      refine ⟨_, rfl, .inl ⟨rfl, _, SqL.of S3.el⟩, p, c, L.length, n / 2, _, _, _, _, _, _, _, _, _, rfl, D3, by omega, by omega, fun b2 rs2 M4 eb2 lb2 D4 K4 => ?_⟩
      have B4 := B3.go D4 K4
      have S4 := S3.go K4
      refine ⟨so, _, _, rfl, rfl, S4.el, by rw [List.length_append, sizeLine_eq]; show xs.length + 1 < _; omega, ?_⟩
      refine ⟨_, _, _, rfl, B4.putL S4.el S4.sp S4.sc S4.sl, S4.put (v := .ref b2) (.inl (Thd.tup D4 eb2 (fun x hx M' _ => by obtain ⟨k, _, rfl⟩ := List.mem_map.mp hx; exact ⟨_, .int k⟩) (by rw [List.length_map]; omega))), ?_⟩
      rw [List.length_append, List.length_append]
      show xs.length + 1 + 1 ≤ _
      omega
    rintro σ M ⟨o9, o10, xs, rfl, B, S, lx⟩
    refine ⟨_, rfl, so, rfl, ⟨_, SqL.of S.el⟩, ?_⟩
    refine for_list (K := K) (a := so) (xs := xs) (fun i σ M => ∃ (o6 o11 : Option V), σ = [some (.ref a), some (.ref p), some (.ref w), some (.ref l), some (.int (L.length : Nat)), some (.int ((n / 2 : Nat) : Int)), o6, o7, some (.ref so), o9, o10, o11, none] ∧ Ba ⟨a, p, c, w, n, L, l, us⟩ M ∧ So ⟨a, p, c, w, n, L, l, us⟩ M so xs)
      ⟨_, none, rfl, B, S⟩ (fun i σ M _ ⟨_, _, _, _, s⟩ => SqL.of s.el) ?_ ?_
    · rintro i v σ M hx ⟨o6, o11, rfl, B, S⟩
      have hth := S.th v (List.mem_of_getElem? hx)
      dsimp only at hth
      obtain ⟨r, tr⟩ := hth.told (L := L) (n := n)
      have gw := B.gw
      dsimp only at gw
      refine ⟨_, rfl, _, rfl, w, n, L, v, r, rfl, gw, tr M kp_refl, fun M1 s1 => ?_⟩
      refine ⟨_, rfl, _, rfl, w, n, L, v, r, rfl, gw.same s1, tr M1 (kp_same s1), fun M2 s2 => ⟨_, rfl, _, rfl, ?_⟩⟩
      dsimp only [tNil, List.cons_append, List.nil_append]
      have s12 := s1.trans s2
      refine ⟨w, n, L, v, r, rfl, gw.same s12, tr M2 (kp_same s12), fun M3 s3 => ⟨z30 (by decide : 2 ≤ 1000), fun q htq => ?_⟩⟩
      have s4 := same_new (o := .tup [.bl r, .bl r]) htq
      refine ⟨q, .tuple [.bool r, .bool r], rfl, dv_bb upd_same, fit_bbb r, nK, _, rfl, _, rfl, z30 (by decide : 2 ≤ 1000), fun q2 hq2 => ?_⟩
      have s5 := same_new (o := .tup [.bl r, .bl r]) hq2
      refine ⟨q2, .tuple [.bool r, .bool r], rfl, dv_bb upd_same, fit_bbb r, nK, rfl, _, rfl, ?_⟩
      rw [ne_sameV]
      have sA := s12.trans (s3.trans (s4.trans s5))
      exact iteF ⟨_, _, rfl, B.same sA, S.go (kp_same sA)⟩
    · rintro σ M ⟨o6, o11, rfl, _, _⟩
      rfl
end
end K0

set_option Elab.async false
set_option linter.all false
set_option maxRecDepth 100000
set_option maxHeartbeats 4000000
/-! What the top has written, put together. -/
namespace K0
open PySem PySem.Spec L2
open PyProof.Rows hiding St
open PySem.W (Frag)
open LamX (ExtN Tabs TabB TabS)
/-- a def of the row -/
def Df (K : Frag) (mg : Str → Option Value) (n : Str) (st : Stmt) (f : Addr) (fd : FuncData) : Prop := mg n = some (.ref f) ∧ PySem.W.keepIn K (.ref f) = true ∧ Fun K n n st f fd
theorem df_mk {K : Frag} {h : Heap} {mg : Str → Option Value} {n : Str} {st : Stmt} {f : Addr} {oc : Value} {od an : Option Addr} {osl : Array (Option Value)} {kV doc pm cdv ct : Value} (X : K.In h) (G : h.Ns mainGlobals mg)
    (a : PySem.W.nsIn K mainGlobals n = some (some (.ref f))) (l : K.lookup f = some ⟨oc, od, .func (PySem.W.fnOf n n (defArgs st) (defBody st) (defScope st) .none kV doc pm an cdv ct), osl⟩)
    (c : PySem.W.codeIn K cdv n = true) (k : PySem.W.keepIn K (.ref f) = true) : Df K mg n st f (PySem.W.fnOf n n (defArgs st) (defBody st) (defScope st) .none kV doc pm an cdv ct) := ⟨PySem.W.mg_of X G a, k, fun_mk l c k⟩

/-- a def of the row, its code object told -/
def DfC (K : Frag) (mg : Str → Option Value) (n : Str) (st : Stmt) (f c : Addr) (fd : FuncData) : Prop := mg n = some (.ref f) ∧ PySem.W.keepIn K (.ref f) = true ∧ FunC K n n st f fd c
theorem dfc_mk {K : Frag} {h : Heap} {mg : Str → Option Value} {n : Str} {st : Stmt} {f c : Addr} {oc : Value} {od an : Option Addr} {osl : Array (Option Value)} {kV doc pm ct : Value} (X : K.In h) (G : h.Ns mainGlobals mg)
    (a : PySem.W.nsIn K mainGlobals n = some (some (.ref f))) (l : K.lookup f = some ⟨oc, od, .func (PySem.W.fnOf n n (defArgs st) (defBody st) (defScope st) .none kV doc pm an (.ref c) ct), osl⟩)
    (z : PySem.W.codeIn K (.ref c) n = true) (k : PySem.W.keepIn K (.ref f) = true) : DfC K mg n st f c (PySem.W.fnOf n n (defArgs st) (defBody st) (defScope st) .none kV doc pm an (.ref c) ct) := ⟨PySem.W.mg_of X G a, k, ⟨_, _, _, _, _, _, _, _, rfl, l, z⟩, k⟩
theorem kw2_mk {K : Frag} {x qual : Str} {st : Stmt} {f : Addr} {fd : FuncData} {k1 k2 : Str} (F : Fun K x qual st f fd)
    (h : ∀ (kV doc pm : Value) (an : Option Addr) (cdv ct a b : Value), bindArgs (PySem.W.fnOf x qual (defArgs st) (defBody st) (defScope st) .none kV doc pm an cdv ct) ⟨[], [(k1, a), (k2, b)]⟩ = pure [(k1, a), (k2, b)] ∧
      bindArgs (PySem.W.fnOf x qual (defArgs st) (defBody st) (defScope st) .none kV doc pm an cdv ct) ⟨[], [(k2, b), (k1, a)]⟩ = pure [(k1, a), (k2, b)]) : Kw2 fd k1 k2 := by
  obtain ⟨oc, od, kV, doc, pm, an, cdv, ct, osl, rfl, _, _⟩ := F.ex
  exact fun s a b => ⟨.of_eq (h ..).1, .of_eq (h ..).2⟩
theorem kw1_mk {K : Frag} {x qual : Str} {st : Stmt} {f : Addr} {fd : FuncData} {k1 : Str} (F : Fun K x qual st f fd) (h : ∀ (kV doc pm : Value) (an : Option Addr) (cdv ct a : Value), bindArgs (PySem.W.fnOf x qual (defArgs st) (defBody st) (defScope st) .none kV doc pm an cdv ct) ⟨[], [(k1, a)]⟩ = pure [(k1, a)]) : Kw1 fd k1 := by
  obtain ⟨oc, od, kV, doc, pm, an, cdv, ct, osl, rfl, _, _⟩ := F.ex
  exact fun s a => .of_eq (h ..)
/-- the names that are nobody's own -/
def free : List Str := ["int", "max", "len", "list", "range", "tuple", "min", "sorted", "set", "all", "isinstance", "enumerate", "bool", "repr", "super", "any", "sum"]
def freeB (K : Frag) : Bool := free.all fun x => decide (PySem.W.nsIn K mainGlobals x = some none)
theorem free_mk {K : Frag} {h : Heap} {mg : Str → Option Value} (X : K.In h) (G : h.Ns mainGlobals mg) (e : freeB K = true) : ∀ x ∈ free, mg x = none := fun x hx => PySem.W.mg_none_of X G (of_decide_eq_true (List.all_eq_true.mp e x hx))
/-- what the end asks of the law -/
def LawEnd (P : Program) (w : World) (K : Frag) (mg : Str → Option Value) (fa : Addr) (h : Heap) : Prop := ∃ (fd : FuncData) (c0 : Addr), FunC K "law" "law" lLaw fa fd c0 ∧ (∀ (s : Shared) (u : Value), BindsTo s fd ⟨[u], []⟩ [("_law_script", u)]) ∧ ∀ base : Heap, K.In base → base.Ns mainGlobals mg → Lw P w K mg base
theorem walk_out {l : PySem.W.OpenLaw} {q : Program} {loose : List Str} {XP : (Str → Option Value) → Heap → Prop} {YP : World → Heap → Prop} {d : DefRec} {K : Params → Frag} (hn : l.most = some 63) (hdf : d.params.defaults = []) (hY : ∀ (w : World) (h : Heap), YP w h → (K w.params).In h)
    (F : ∀ (w : World) (mg : Str → Option Value) (fa : Addr) (h : Heap), (K w.params).In h → h.Ns mainGlobals mg → mg d.name = some (.ref fa) → LawEnd l.prog w (K w.params) mg fa h) :
    PySem.W.WalkO q loose XP YP l.row.toRowW d [] (fun f vs => PySem.call f vs) := by
  refine Att.attach_callB hn hdf fun w s₀ s₁ mg mb fa o pm cd doc a vs ns G Y ho hd hcd hmg hobj hints hlen _ hg => ?_
  have KX := hY w _ Y
  obtain ⟨fd, c0, FL, hb, rest⟩ := F w mg fa _ KX G.T.g hmg
  refine law_outT (k := 40) (cs := []) FL scLaw KX G.T.g G.T.b G.T.builtins G.T.nolimit hg G.T.bmain (fun p hp => nomatch hp) hobj hints (Nat.le_trans hlen (by rw [sizeLine_eq]; decide)) ⟨rfl, by decide, by decide⟩ hb fun base H s KB GB _ _ hS hr => ?_
  exact law_body (rest base KB GB) hS hr
/-- a method of the class -/
def DfM (K : Frag) (C : Addr) (n qual : Str) (st : Stmt) (f : Addr) (fd : FuncData) : Prop := Meth K C n f ∧ Fun K n qual st f fd
theorem dfm_mk {K : Frag} {C : Addr} {n qual : Str} {st : Stmt} {f : Addr} {oc : Value} {od an : Option Addr} {osl : Array (Option Value)} {kV doc pm cdv ct : Value} (a : PySem.W.findIn K (.ref C) n = some (some (.ref f))) (i : PySem.W.isFn K (.ref f) = true)
    (l : K.lookup f = some ⟨oc, od, .func (PySem.W.fnOf n qual (defArgs st) (defBody st) (defScope st) .none kV doc pm an cdv ct), osl⟩) (c : PySem.W.codeIn K cdv qual = true) (k : PySem.W.keepIn K (.ref f) = true) : DfM K C n qual st f (PySem.W.fnOf n qual (defArgs st) (defBody st) (defScope st) .none kV doc pm an cdv ct) := ⟨⟨a, i, k⟩, fun_mk l c k⟩
/-- the class -/
def DfK (K : Frag) (mg : Str → Option Value) (C : Addr) : Prop := MC K mg C ∧ PySem.W.makesIn K C = true ∧ PySem.W.keepIn K (.ref C) = true
theorem dfk_mk {K : Frag} {h : Heap} {mg : Str → Option Value} {C : Addr} (X : K.In h) (G : h.Ns mainGlobals mg) (aC : PySem.W.nsIn K mainGlobals "Matcher" = some (some (.ref C)))
    (pg : PySem.W.plainGet K C Str.empty = true) (hd : PySem.W.hasDictIn K C = true) (po : PySem.W.plainOver K C = true) (sa : PySem.W.findIn K (.ref C) "__setattr__" = some (some (.builtin "object.__setattr__"))) (mk : PySem.W.makesIn K C = true) (kc : PySem.W.keepIn K (.ref C) = true)
    (nF : PySem.W.findIn K (.ref C) "full" = some none) (nN : PySem.W.findIn K (.ref C) "near" = some none) (nT : PySem.W.findIn K (.ref C) "ties" = some none) (nK : PySem.W.findIn K (.ref C) "known" = some none) : DfK K mg C :=
  ⟨⟨⟨pg, hd, po, sa⟩, nF, nN, nT, nK, PySem.W.mg_of X G aC⟩, mk, kc⟩
set_option maxHeartbeats 16000000 in
theorem all_mk {P : Program} {w : World} {K : Frag} {h : Heap} {mg : Str → Option Value} {fa CM fm___init__ fm_missed fm_missed_anew fm_steps fm_pairings_of f_lot_of f_full_mask f_near_masks f_is_whole f_is_below f_is_pair f_is_tie f_is_web f_check_web f_is_tie_number f_places_but f_is_beside f_is_pairing_of f_is_pairing f_pairings f_how_many f__law_deck f__law_draw f__law_pick f__law_order f__law_pair f__law_pairs f__law_drawn_ties f__law_web f__law_near f__law_can f__law_pairings f__law_within f__law_parts f__law_core f__law_seed f__law_eared f__law_turned f__law_covered f__law_is_whole f__law_is_lot f__law_bent_numbers f__law_is_pairing f__law_any f_law c_law : Addr} {dm___init__ dm_missed dm_missed_anew dm_steps dm_pairings_of d_lot_of d_full_mask d_near_masks d_is_whole d_is_below d_is_pair d_is_tie d_is_web d_check_web d_is_tie_number d_places_but d_is_beside d_is_pairing_of d_is_pairing d_pairings d_how_many d__law_deck d__law_draw d__law_pick d__law_order d__law_pair d__law_pairs d__law_drawn_ties d__law_web d__law_near d__law_can d__law_pairings d__law_within d__law_parts d__law_core d__law_seed d__law_eared d__law_turned d__law_covered d__law_is_whole d__law_is_lot d__law_bent_numbers d__law_is_pairing d__law_any d_law : FuncData} {tM : Tok} (X : K.In h) (G : h.Ns mainGlobals mg) (hfa : mg "law" = some (.ref fa))
    (aM : PySem.W.nsIn K mainGlobals "MOST_PLACES" = some (some (.int 12 tM))) (fr : freeB K = true)
    (gk : DfK K mg CM)
    (gm___init__ : DfM K CM "__init__" "Matcher.__init__" mInit fm___init__ dm___init__)
    (gm_missed : DfM K CM "missed" "Matcher.missed" mMissed fm_missed dm_missed)
    (gm_missed_anew : DfM K CM "missed_anew" "Matcher.missed_anew" mAnew fm_missed_anew dm_missed_anew)
    (gm_steps : DfM K CM "steps" "Matcher.steps" mSteps fm_steps dm_steps)
    (gm_pairings_of : DfM K CM "pairings_of" "Matcher.pairings_of" mPairings fm_pairings_of dm_pairings_of)
    (g_lot_of : Df K mg "lot_of" pLotOf f_lot_of d_lot_of)
    (g_full_mask : Df K mg "full_mask" pFull f_full_mask d_full_mask)
    (g_near_masks : Df K mg "near_masks" pNear f_near_masks d_near_masks)
    (g_is_whole : Df K mg "is_whole" pWhole f_is_whole d_is_whole)
    (g_is_below : Df K mg "is_below" pBelow f_is_below d_is_below)
    (g_is_pair : Df K mg "is_pair" pPair2 f_is_pair d_is_pair)
    (g_is_tie : Df K mg "is_tie" pTie f_is_tie d_is_tie)
    (g_is_web : Df K mg "is_web" pWeb f_is_web d_is_web)
    (g_check_web : Df K mg "check_web" pCheckWeb f_check_web d_check_web)
    (g_is_tie_number : Df K mg "is_tie_number" pIsTieNo f_is_tie_number d_is_tie_number)
    (g_places_but : Df K mg "places_but" pPlacesBut f_places_but d_places_but)
    (g_is_beside : Df K mg "is_beside" pIsBeside f_is_beside d_is_beside)
    (g_is_pairing_of : Df K mg "is_pairing_of" pIsPairingOf f_is_pairing_of d_is_pairing_of)
    (g_is_pairing : Df K mg "is_pairing" pIsPairing f_is_pairing d_is_pairing)
    (g_pairings : Df K mg "pairings" pPairings f_pairings d_pairings)
    (g_how_many : Df K mg "how_many" pHowMany f_how_many d_how_many)
    (g__law_deck : Df K mg "_law_deck" sDeck f__law_deck d__law_deck)
    (g__law_draw : Df K mg "_law_draw" sDraw f__law_draw d__law_draw)
    (g__law_pick : Df K mg "_law_pick" sPick f__law_pick d__law_pick)
    (g__law_order : Df K mg "_law_order" sOrder f__law_order d__law_order)
    (g__law_pair : Df K mg "_law_pair" sPair f__law_pair d__law_pair)
    (g__law_pairs : Df K mg "_law_pairs" sPairs f__law_pairs d__law_pairs)
    (g__law_drawn_ties : Df K mg "_law_drawn_ties" sTies f__law_drawn_ties d__law_drawn_ties)
    (g__law_web : Df K mg "_law_web" sWeb f__law_web d__law_web)
    (g__law_near : Df K mg "_law_near" lNear f__law_near d__law_near)
    (g__law_can : Df K mg "_law_can" lCan f__law_can d__law_can)
    (g__law_pairings : Df K mg "_law_pairings" lPairings f__law_pairings d__law_pairings)
    (g__law_within : Df K mg "_law_within" lWithin f__law_within d__law_within)
    (g__law_parts : Df K mg "_law_parts" lParts f__law_parts d__law_parts)
    (g__law_core : Df K mg "_law_core" lCore f__law_core d__law_core)
    (g__law_seed : Df K mg "_law_seed" lSeed f__law_seed d__law_seed)
    (g__law_eared : Df K mg "_law_eared" lEared f__law_eared d__law_eared)
    (g__law_turned : Df K mg "_law_turned" lTurned f__law_turned d__law_turned)
    (g__law_covered : Df K mg "_law_covered" lCovered f__law_covered d__law_covered)
    (g__law_is_whole : Df K mg "_law_is_whole" lWhole f__law_is_whole d__law_is_whole)
    (g__law_is_lot : Df K mg "_law_is_lot" lIsLot f__law_is_lot d__law_is_lot)
    (g__law_bent_numbers : Df K mg "_law_bent_numbers" lBentN f__law_bent_numbers d__law_bent_numbers)
    (g__law_is_pairing : Df K mg "_law_is_pairing" lIsPairing f__law_is_pairing d__law_is_pairing)
    (g__law_any : Df K mg "_law_any" sAny f__law_any d__law_any)
    (g_law : DfC K mg "law" lLaw f_law c_law d_law) : LawEnd P w K mg fa h := by
  have eL := hfa.symm.trans g_law.1
  cases eL
  have n := free_mk X G fr
  have B : Bq mg := { toBk := { int := n _ (by decide), max := n _ (by decide), len := n _ (by decide), list := n _ (by decide), range := n _ (by decide), tuple := n _ (by decide), min := n _ (by decide), sorted := n _ (by decide), set := n _ (by decide), all := n _ (by decide), isi := n _ (by decide), enu := n _ (by decide), bool := n _ (by decide), repr := n _ (by decide), sup := n _ (by decide), most := ⟨_, PySem.W.mg_of X G aM⟩ }, any := n _ (by decide), sum := n _ (by decide) }
  have b_lot_of := g_lot_of.2.2.binds (ps := ["mask"]) fun _ _ _ _ _ _ us hl => match us, hl with | [_], _ => rfl
  have b_full_mask := g_full_mask.2.2.binds (ps := ["web"]) fun _ _ _ _ _ _ us hl => match us, hl with | [_], _ => rfl
  have b_near_masks := g_near_masks.2.2.binds (ps := ["web"]) fun _ _ _ _ _ _ us hl => match us, hl with | [_], _ => rfl
  have b_is_whole := g_is_whole.2.2.binds (ps := ["thing"]) fun _ _ _ _ _ _ us hl => match us, hl with | [_], _ => rfl
  have b_is_below := g_is_below.2.2.binds (ps := ["thing", "bound"]) fun _ _ _ _ _ _ us hl => match us, hl with | [_, _], _ => rfl
  have b_is_pair := g_is_pair.2.2.binds (ps := ["thing"]) fun _ _ _ _ _ _ us hl => match us, hl with | [_], _ => rfl
  have b_is_tie := g_is_tie.2.2.binds (ps := ["thing", "places"]) fun _ _ _ _ _ _ us hl => match us, hl with | [_, _], _ => rfl
  have b_is_web := g_is_web.2.2.binds (ps := ["thing"]) fun _ _ _ _ _ _ us hl => match us, hl with | [_], _ => rfl
  have b_check_web := g_check_web.2.2.binds (ps := ["thing"]) fun _ _ _ _ _ _ us hl => match us, hl with | [_], _ => rfl
  have b_is_tie_number := g_is_tie_number.2.2.binds (ps := ["web", "thing"]) fun _ _ _ _ _ _ us hl => match us, hl with | [_, _], _ => rfl
  have b_places_but := g_places_but.2.2.binds (ps := ["web", "lot"]) fun _ _ _ _ _ _ us hl => match us, hl with | [_, _], _ => rfl
  have b_is_beside := g_is_beside.2.2.binds (ps := ["web", "lot", "thing"]) fun _ _ _ _ _ _ us hl => match us, hl with | [_, _, _], _ => rfl
  have b_is_pairing_of := g_is_pairing_of.2.2.binds (ps := ["web", "thing"]) fun _ _ _ _ _ _ us hl => match us, hl with | [_, _], _ => rfl
  have b_is_pairing := g_is_pairing.2.2.binds (ps := ["web", "thing"]) fun _ _ _ _ _ _ us hl => match us, hl with | [_, _], _ => rfl
  have b_pairings := g_pairings.2.2.binds (ps := ["web"]) fun _ _ _ _ _ _ us hl => match us, hl with | [_], _ => rfl
  have b_how_many := g_how_many.2.2.binds (ps := ["web"]) fun _ _ _ _ _ _ us hl => match us, hl with | [_], _ => rfl
  have b__law_deck := g__law_deck.2.2.binds (ps := ["_law_script"]) fun _ _ _ _ _ _ us hl => match us, hl with | [_], _ => rfl
  have b__law_draw := g__law_draw.2.2.binds (ps := ["_law_deck_here", "_law_many"]) fun _ _ _ _ _ _ us hl => match us, hl with | [_, _], _ => rfl
  have b__law_pick := g__law_pick.2.2.binds (ps := ["_law_deck_here", "_law_some"]) fun _ _ _ _ _ _ us hl => match us, hl with | [_, _], _ => rfl
  have b__law_order := g__law_order.2.2.binds (ps := ["_law_deck_here", "_law_n"]) fun _ _ _ _ _ _ us hl => match us, hl with | [_, _], _ => rfl
  have b__law_pair := g__law_pair.2.2.binds (ps := ["_law_one", "_law_other"]) fun _ _ _ _ _ _ us hl => match us, hl with | [_, _], _ => rfl
  have b__law_pairs := g__law_pairs.2.2.binds (ps := ["_law_n"]) fun _ _ _ _ _ _ us hl => match us, hl with | [_], _ => rfl
  have b__law_drawn_ties := g__law_drawn_ties.2.2.binds (ps := ["_law_deck_here", "_law_n"]) fun _ _ _ _ _ _ us hl => match us, hl with | [_, _], _ => rfl
  have b__law_web := g__law_web.2.2.binds (ps := ["_law_deck_here", "_law_n", "_law_most"]) fun _ _ _ _ _ _ us hl => match us, hl with | [_, _, _], _ => rfl
  have b__law_near := g__law_near.2.2.binds (ps := ["_law_web_here"]) fun _ _ _ _ _ _ us hl => match us, hl with | [_], _ => rfl
  have b__law_can := g__law_can.2.2.binds (ps := ["_law_near_here", "_law_left"]) fun _ _ _ _ _ _ us hl => match us, hl with | [_, _], _ => rfl
  have b__law_pairings := g__law_pairings.2.2.binds (ps := ["_law_web_here"]) fun _ _ _ _ _ _ us hl => match us, hl with | [_], _ => rfl
  have b__law_within := g__law_within.2.2.binds (ps := ["_law_web_here", "_law_lot"]) fun _ _ _ _ _ _ us hl => match us, hl with | [_, _], _ => rfl
  have b__law_parts := g__law_parts.2.2.binds (ps := ["_law_web_here"]) fun _ _ _ _ _ _ us hl => match us, hl with | [_], _ => rfl
  have b__law_core := g__law_core.2.2.binds (ps := ["_law_web_here"]) fun _ _ _ _ _ _ us hl => match us, hl with | [_], _ => rfl
  have b__law_seed := g__law_seed.2.2.binds (ps := ["_law_deck_here"]) fun _ _ _ _ _ _ us hl => match us, hl with | [_], _ => rfl
  have b__law_eared := g__law_eared.2.2.binds (ps := ["_law_deck_here", "_law_web_here", "_law_wide", "_law_most"]) fun _ _ _ _ _ _ us hl => match us, hl with | [_, _, _, _], _ => rfl
  have b__law_turned := g__law_turned.2.2.binds (ps := ["_law_web_here", "_law_order_here"]) fun _ _ _ _ _ _ us hl => match us, hl with | [_, _], _ => rfl
  have b__law_covered := g__law_covered.2.2.binds (ps := ["_law_deck_here", "_law_wide", "_law_most"]) fun _ _ _ _ _ _ us hl => match us, hl with | [_, _, _], _ => rfl
  have b__law_is_whole := g__law_is_whole.2.2.binds (ps := ["_law_thing"]) fun _ _ _ _ _ _ us hl => match us, hl with | [_], _ => rfl
  have b__law_is_lot := g__law_is_lot.2.2.binds (ps := ["_law_n", "_law_thing"]) fun _ _ _ _ _ _ us hl => match us, hl with | [_, _], _ => rfl
  have b__law_bent_numbers := g__law_bent_numbers.2.2.binds (ps := ["_law_deck_here", "_law_some", "_law_most"]) fun _ _ _ _ _ _ us hl => match us, hl with | [_, _, _], _ => rfl
  have b__law_is_pairing := g__law_is_pairing.2.2.binds (ps := ["_law_web_here", "_law_thing"]) fun _ _ _ _ _ _ us hl => match us, hl with | [_, _], _ => rfl
  have b__law_any := g__law_any.2.2.binds (ps := ["_law_deck_here", "_law_deep"]) fun _ _ _ _ _ _ us hl => match us, hl with | [_, _], _ => rfl
  have b_law := g_law.2.2.fun.binds (ps := ["_law_script"]) fun _ _ _ _ _ _ us hl => match us, hl with | [_], _ => rfl
  have k_is_pairing : Kw2 d_is_pairing "web" "thing" := kw2_mk g_is_pairing.2.2 fun _ _ _ _ _ _ _ _ => ⟨rfl, rfl⟩
  have k_pairings : Kw1 d_pairings "web" := kw1_mk g_pairings.2.2 fun _ _ _ _ _ _ _ => rfl
  have k_how_many : Kw1 d_how_many "web" := kw1_mk g_how_many.2.2 fun _ _ _ _ _ _ _ => rfl
  refine ⟨d_law, c_law, g_law.2.2, fun s u => ?_, fun base KB GB => ?_⟩
  · obtain ⟨oc, od, kV, doc, pm, an, ct, osl, rfl, _, _⟩ := g_law.2.2.ex
    exact .of_eq rfl
  have bm___init__ := gm___init__.2.binds (ps := ["self", "web"]) fun _ _ _ _ _ _ us hl => match us, hl with | [_, _], _ => rfl
  have bm_missed := gm_missed.2.binds (ps := ["self", "mask"]) fun _ _ _ _ _ _ us hl => match us, hl with | [_, _], _ => rfl
  have bm_missed_anew := gm_missed_anew.2.binds (ps := ["self", "mask"]) fun _ _ _ _ _ _ us hl => match us, hl with | [_, _], _ => rfl
  have bm_steps := gm_steps.2.binds (ps := ["self", "mask"]) fun _ _ _ _ _ _ us hl => match us, hl with | [_, _], _ => rfl
  have bm_pairings_of := gm_pairings_of.2.binds (ps := ["self", "mask"]) fun _ _ _ _ _ _ us hl => match us, hl with | [_, _], _ => rfl
  have MCm := gk.1
  have MKm : Mk K CM fm___init__ := ⟨gk.2.1, gm___init__.1.at_, gm___init__.1.fn, gk.2.2⟩
  have G_lot_of : Dn P w K mg base "lot_of" 1 ["mask"] spLotOf f_lot_of d_lot_of := ⟨g_lot_of.1, g_lot_of.2.1, b_lot_of, ok_lotOf g_lot_of.2.2 B.toBk.toBj⟩
  have G_full_mask : Dn P w K mg base "full_mask" 1 ["web"] spFull f_full_mask d_full_mask := ⟨g_full_mask.1, g_full_mask.2.1, b_full_mask, ok_full g_full_mask.2.2⟩
  have G_near_masks : Dn P w K mg base "near_masks" 1 ["web"] spNear f_near_masks d_near_masks := ⟨g_near_masks.1, g_near_masks.2.1, b_near_masks, ok_near g_near_masks.2.2⟩
  have G_is_whole : Dn P w K mg base "is_whole" 1 ["thing"] spWhole f_is_whole d_is_whole := ⟨g_is_whole.1, g_is_whole.2.1, b_is_whole, ok_whole g_is_whole.2.2 B.toBk.toBj⟩
  have G_is_below : Dn P w K mg base "is_below" 2 ["thing", "bound"] spBelow f_is_below d_is_below := ⟨g_is_below.1, g_is_below.2.1, b_is_below, ok_below g_is_below.2.2 G_is_whole⟩
  have G_is_pair : Dn P w K mg base "is_pair" 1 ["thing"] spIsPair f_is_pair d_is_pair := ⟨g_is_pair.1, g_is_pair.2.1, b_is_pair, ok_isPair g_is_pair.2.2 B.toBk.toBj⟩
  have G_is_tie : Dn P w K mg base "is_tie" 3 ["thing", "places"] spIsTie f_is_tie d_is_tie := ⟨g_is_tie.1, g_is_tie.2.1, b_is_tie, ok_isTie g_is_tie.2.2 G_is_pair G_is_below⟩
  have G_is_web : Dn P w K mg base "is_web" 4 ["thing"] spIsWeb f_is_web d_is_web := ⟨g_is_web.1, g_is_web.2.1, b_is_web, ok_isWeb g_is_web.2.2 B.toBk G_is_pair G_is_whole G_is_tie⟩
  have G_check_web : Dn P w K mg base "check_web" 5 ["thing"] spCheckWeb f_check_web d_check_web := ⟨g_check_web.1, g_check_web.2.1, b_check_web, ok_checkWeb g_check_web.2.2 G_is_web⟩
  have G_is_tie_number : Dn P w K mg base "is_tie_number" 3 ["web", "thing"] spIsTieNo f_is_tie_number d_is_tie_number := ⟨g_is_tie_number.1, g_is_tie_number.2.1, b_is_tie_number, ok_isTieNo g_is_tie_number.2.2 B.toBk G_is_below⟩
  have G_places_but : Dn P w K mg base "places_but" 1 ["web", "lot"] spPlacesBut f_places_but d_places_but := ⟨g_places_but.1, g_places_but.2.1, b_places_but, ok_placesBut g_places_but.2.2 B.toBk⟩
  have G_is_beside : Dn P w K mg base "is_beside" 4 ["web", "lot", "thing"] (fun vs H Q E => spBesT vs H Q E ∨ spBesL vs H Q E) f_is_beside d_is_beside := ⟨g_is_beside.1, g_is_beside.2.1, b_is_beside, fn_or (ok_besT g_is_beside.2.2 B.toBk G_is_tie_number G_places_but) (ok_besL g_is_beside.2.2 B.toBk G_is_tie_number G_places_but)⟩
  have G_is_pairing_of : Dn P w K mg base "is_pairing_of" 5 ["web", "thing"] spIpo f_is_pairing_of d_is_pairing_of := ⟨g_is_pairing_of.1, g_is_pairing_of.2.1, b_is_pairing_of, ok_ipo g_is_pairing_of.2.2 G_is_beside⟩
  have G_is_pairing : Dn P w K mg base "is_pairing" 6 ["web", "thing"] spIpo f_is_pairing d_is_pairing := ⟨g_is_pairing.1, g_is_pairing.2.1, b_is_pairing, ok_isPairing g_is_pairing.2.2 G_check_web G_is_pairing_of⟩
  have OKI : FnOk P w K mg base CX0 2 fm___init__ dm___init__ ["self", "web"] (spInit CM) := ok_init gm___init__.2 B.toBk.toBj MCm G_full_mask G_near_masks
  have GMS : Mdn P w K mg base CM "missed" 27 ["self", "mask"] (spMissed CM 12) fm_missed dm_missed := ok_both gm_missed.2 gm_missed_anew.2 B.toBk.toBj MCm G_lot_of gm_missed.1 bm_missed gm_missed_anew.1 bm_missed_anew 12
  have GST : Mdn P w K mg base CM "steps" 28 ["self", "mask"] (spSteps CM) fm_steps dm_steps := ⟨gm_steps.1, bm_steps, ok_steps gm_steps.2 MCm GMS⟩
  have GPM : Mdn P w K mg base CM "pairings_of" 29 ["self", "mask"] (spPmOf CM) fm_pairings_of dm_pairings_of := ⟨gm_pairings_of.1, bm_pairings_of, ok_pms gm_pairings_of.2 MCm GMS GST⟩
  have G_pairings : Dn P w K mg base "pairings" 30 ["web"] spPms f_pairings d_pairings := ⟨g_pairings.1, g_pairings.2.1, b_pairings, ok_pairings g_pairings.2.2 B.toBk.toBj MCm MKm bm___init__ OKI G_check_web GPM⟩
  have G_how_many : Dn P w K mg base "how_many" 31 ["web"] spHow f_how_many d_how_many := ⟨g_how_many.1, g_how_many.2.1, b_how_many, ok_howMany g_how_many.2.2 B.toBk.toBj G_pairings⟩
  have G__law_deck : Dn P w K mg base "_law_deck" 1 ["_law_script"] (spDeck K) f__law_deck d__law_deck := ⟨g__law_deck.1, g__law_deck.2.1, b__law_deck, ok_deck g__law_deck.2.2 B.toBk.toBj.toBi⟩
  have G__law_draw : Dn P w K mg base "_law_draw" 1 ["_law_deck_here", "_law_many"] spDraw f__law_draw d__law_draw := ⟨g__law_draw.1, g__law_draw.2.1, b__law_draw, ok_draw g__law_draw.2.2 B.toBk.toBj.toBi⟩
  have G__law_pick : Dn P w K mg base "_law_pick" 2 ["_law_deck_here", "_law_some"] spPick f__law_pick d__law_pick := ⟨g__law_pick.1, g__law_pick.2.1, b__law_pick, ok_pick g__law_pick.2.2 B.toBk.toBj.toBi G__law_draw⟩
  have G__law_order : Dn P w K mg base "_law_order" 2 ["_law_deck_here", "_law_n"] spOrder f__law_order d__law_order := ⟨g__law_order.1, g__law_order.2.1, b__law_order, ok_order g__law_order.2.2 B.toBk.toBj G__law_draw⟩
  have G__law_pair : Dn P w K mg base "_law_pair" 1 ["_law_one", "_law_other"] spPair f__law_pair d__law_pair := ⟨g__law_pair.1, g__law_pair.2.1, b__law_pair, ok_pair g__law_pair.2.2 B.toBk.toBj⟩
  have G__law_pairs : Dn P w K mg base "_law_pairs" 1 ["_law_n"] spPairs f__law_pairs d__law_pairs := ⟨g__law_pairs.1, g__law_pairs.2.1, b__law_pairs, ok_pairs g__law_pairs.2.2 B.toBk.toBj⟩
  have G__law_drawn_ties : Dn P w K mg base "_law_drawn_ties" 3 ["_law_deck_here", "_law_n"] spTies f__law_drawn_ties d__law_drawn_ties := ⟨g__law_drawn_ties.1, g__law_drawn_ties.2.1, b__law_drawn_ties, ok_ties g__law_drawn_ties.2.2 B.toBk.toBj G__law_draw G__law_order G__law_pair G__law_pairs⟩
  have G__law_web : Dn P w K mg base "_law_web" 4 ["_law_deck_here", "_law_n", "_law_most"] spWeb f__law_web d__law_web := ⟨g__law_web.1, g__law_web.2.1, b__law_web, ok_web g__law_web.2.2 B.toBk.toBj G__law_draw G__law_order G__law_pair G__law_drawn_ties G__law_pick⟩
  have G__law_near : Dn P w K mg base "_law_near" 1 ["_law_web_here"] spLNear f__law_near d__law_near := ⟨g__law_near.1, g__law_near.2.1, b__law_near, ok_lNear g__law_near.2.2⟩
  have G__law_can : Dn P w K mg base "_law_can" 1 ["_law_near_here", "_law_left"] spLCan f__law_can d__law_can := ⟨g__law_can.1, g__law_can.2.1, b__law_can, ok_lCan g__law_can.2.2 B.toBk.toBj⟩
  have G__law_pairings : Dn P w K mg base "_law_pairings" 1 ["_law_web_here"] spLPrs f__law_pairings d__law_pairings := ⟨g__law_pairings.1, g__law_pairings.2.1, b__law_pairings, ok_lPrs g__law_pairings.2.2 B.toBk⟩
  have G__law_within : Dn P w K mg base "_law_within" 1 ["_law_web_here", "_law_lot"] spLWithin f__law_within d__law_within := ⟨g__law_within.1, g__law_within.2.1, b__law_within, ok_lWithin g__law_within.2.2 B.toBk⟩
  have G__law_parts : Dn P w K mg base "_law_parts" 1 ["_law_web_here"] spLPartsX f__law_parts d__law_parts := ⟨g__law_parts.1, g__law_parts.2.1, b__law_parts, ok_lPartsX g__law_parts.2.2 B.toBk⟩
  have G__law_core : Dn P w K mg base "_law_core" 2 ["_law_web_here"] spCore f__law_core d__law_core := ⟨g__law_core.1, g__law_core.2.1, b__law_core, ok_core g__law_core.2.2 B.toBk G__law_pairings G__law_parts G__law_within⟩
  have G__law_seed : Dn P w K mg base "_law_seed" 3 ["_law_deck_here"] spSeed f__law_seed d__law_seed := ⟨g__law_seed.1, g__law_seed.2.1, b__law_seed, ok_seed g__law_seed.2.2 G__law_pick⟩
  have G__law_eared : Dn P w K mg base "_law_eared" 2 ["_law_deck_here", "_law_web_here", "_law_wide", "_law_most"] spEared f__law_eared d__law_eared := ⟨g__law_eared.1, g__law_eared.2.1, b__law_eared, ok_eared g__law_eared.2.2 B.toBk.toBj G__law_draw G__law_near G__law_can G__law_pair⟩
  have G__law_turned : Dn P w K mg base "_law_turned" 2 ["_law_web_here", "_law_order_here"] spTurned f__law_turned d__law_turned := ⟨g__law_turned.1, g__law_turned.2.1, b__law_turned, ok_turned g__law_turned.2.2 B.toBk.toBj G__law_pair⟩
  have G__law_covered : Dn P w K mg base "_law_covered" 5 ["_law_deck_here", "_law_wide", "_law_most"] spCov f__law_covered d__law_covered := ⟨g__law_covered.1, g__law_covered.2.1, b__law_covered, ok_cov g__law_covered.2.2 B.toBk.toBj G__law_draw G__law_web G__law_core G__law_seed G__law_eared G__law_turned G__law_order⟩
  have G__law_is_whole : Dn P w K mg base "_law_is_whole" 1 ["_law_thing"] spWhole f__law_is_whole d__law_is_whole := ⟨g__law_is_whole.1, g__law_is_whole.2.1, b__law_is_whole, ok_lWhole g__law_is_whole.2.2 B.toBk.toBj⟩
  have G__law_is_lot : Dn P w K mg base "_law_is_lot" 2 ["_law_n", "_law_thing"] (fun vs H Q E => spLIsLot vs H Q E ∨ spLIsLotL vs H Q E) f__law_is_lot d__law_is_lot := ⟨g__law_is_lot.1, g__law_is_lot.2.1, b__law_is_lot, fn_or (ok_lIsLot g__law_is_lot.2.2 B.toBk G__law_is_whole) (ok_lIsLotL g__law_is_lot.2.2 B.toBk G__law_is_whole)⟩
  have G__law_bent_numbers : Dn P w K mg base "_law_bent_numbers" 3 ["_law_deck_here", "_law_some", "_law_most"] spBentN f__law_bent_numbers d__law_bent_numbers := ⟨g__law_bent_numbers.1, g__law_bent_numbers.2.1, b__law_bent_numbers, ok_bentN g__law_bent_numbers.2.2 B G__law_draw G__law_pick⟩
  have G__law_is_pairing : Dn P w K mg base "_law_is_pairing" 3 ["_law_web_here", "_law_thing"] spIpo f__law_is_pairing d__law_is_pairing := ⟨g__law_is_pairing.1, g__law_is_pairing.2.1, b__law_is_pairing, ok_lIsPr g__law_is_pairing.2.2 B.toBk G__law_is_lot⟩
  have G__law_any : Dn P w K mg base "_law_any" 5 ["_law_deck_here", "_law_deep"] (spAny 3) f__law_any d__law_any := ⟨g__law_any.1, g__law_any.2.1, b__law_any, (ok_any (P := P) (w := w) (base := base) g__law_any.2.2 g__law_any.1 b__law_any B.toBk.toBj.toBi G__law_draw G__law_pick 3)⟩
  exact { bk := B, deck := ⟨_, _, G__law_deck⟩, draw := ⟨_, _, G__law_draw⟩, pick := ⟨_, _, ⟨g__law_pick.1, g__law_pick.2.1, b__law_pick, ok_pickB g__law_pick.2.2 B.toBk.toBj.toBi G__law_draw⟩⟩, any := ⟨_, _, G__law_any⟩, web := ⟨_, _, G__law_web⟩, cov := ⟨_, _, G__law_covered⟩, prs := ⟨_, _, G__law_pairings⟩, bent := ⟨_, _, G__law_bent_numbers⟩, isl := ⟨_, _, G__law_is_pairing⟩, pairings := ⟨_, _, G_pairings, k_pairings⟩, many := ⟨_, _, G_how_many, k_how_many⟩, isp := ⟨_, _, G_is_pairing, k_is_pairing⟩ }
end K0

set_option Elab.async false
set_option maxRecDepth 100000
open PySem PySem.W PyProof.Rows
set_option maxRecDepth 100000 in
set_option maxHeartbeats 0 in
theorem PySem.Challenge.cw_oncecrossed_k10_pairings_of_any_value_holds : PySem.Challenge.rw_oncecrossed_k10_pairings_of_any_value.Holds := by
  w_on; o_law; k_head; (case hw => w_witness2)
  k_fill
  refine K0.walk_out (l := PySem.Challenge.rw_oncecrossed_k10_pairings_of_any_value) rfl rfl (fun w h Y => PySem.W.kIn_of Y) ?F
  case F =>
    intro w mg fa h KX G hmg
    refine' K0.all_mk KX G hmg ?yaM ?yfr ?yk ?ym0 ?ym1 ?ym2 ?ym3 ?ym4 ?yg0 ?yg1 ?yg2 ?yg3 ?yg4 ?yg5 ?yg6 ?yg7 ?yg8 ?yg9 ?yg10 ?yg11 ?yg12 ?yg13 ?yg14 ?yg15 ?yg16 ?yg17 ?yg18 ?yg19 ?yg20 ?yg21 ?yg22 ?yg23 ?yg24 ?yg25 ?yg26 ?yg27 ?yg28 ?yg29 ?yg30 ?yg31 ?yg32 ?yg33 ?yg34 ?yg35 ?yg36 ?yg37 ?yg38 ?yh0
    (case yaM => k_is); (case yfr => kernel_rfl)
    (case yk => (refine' K0.dfk_mk KX G ?ykC ?ykp ?ykh ?yko ?yks ?ykm ?ykk ?yk1 ?yk2 ?yk3 ?yk4; (case ykC => k_is); (case ykp => k_is); (case ykh => k_is); (case yko => k_is); (case yks => k_is); (case ykm => k_is); (case ykk => k_is); (case yk1 => k_is); (case yk2 => k_is); (case yk3 => k_is); (case yk4 => k_is)))
    (case ym0 => (refine' K0.dfm_mk ?yma0 ?ymi0 ?yml0 ?ymc0 ?ymk0; (case yma0 => k_is); (case ymi0 => k_is); (case yml0 => k_is); (case ymc0 => k_is); (case ymk0 => k_is)))
    (case ym1 => (refine' K0.dfm_mk ?yma1 ?ymi1 ?yml1 ?ymc1 ?ymk1; (case yma1 => k_is); (case ymi1 => k_is); (case yml1 => k_is); (case ymc1 => k_is); (case ymk1 => k_is)))
    (case ym2 => (refine' K0.dfm_mk ?yma2 ?ymi2 ?yml2 ?ymc2 ?ymk2; (case yma2 => k_is); (case ymi2 => k_is); (case yml2 => k_is); (case ymc2 => k_is); (case ymk2 => k_is)))
    (case ym3 => (refine' K0.dfm_mk ?yma3 ?ymi3 ?yml3 ?ymc3 ?ymk3; (case yma3 => k_is); (case ymi3 => k_is); (case yml3 => k_is); (case ymc3 => k_is); (case ymk3 => k_is)))
    (case ym4 => (refine' K0.dfm_mk ?yma4 ?ymi4 ?yml4 ?ymc4 ?ymk4; (case yma4 => k_is); (case ymi4 => k_is); (case yml4 => k_is); (case ymc4 => k_is); (case ymk4 => k_is)))
    (case yg0 => (refine' K0.df_mk KX G ?yga0 ?ygl0 ?ygc0 ?ygk0; (case yga0 => k_is); (case ygl0 => k_is); (case ygc0 => k_is); (case ygk0 => k_is)))
    (case yg1 => (refine' K0.df_mk KX G ?yga1 ?ygl1 ?ygc1 ?ygk1; (case yga1 => k_is); (case ygl1 => k_is); (case ygc1 => k_is); (case ygk1 => k_is)))
    (case yg2 => (refine' K0.df_mk KX G ?yga2 ?ygl2 ?ygc2 ?ygk2; (case yga2 => k_is); (case ygl2 => k_is); (case ygc2 => k_is); (case ygk2 => k_is)))
    (case yg3 => (refine' K0.df_mk KX G ?yga3 ?ygl3 ?ygc3 ?ygk3; (case yga3 => k_is); (case ygl3 => k_is); (case ygc3 => k_is); (case ygk3 => k_is)))
    (case yg4 => (refine' K0.df_mk KX G ?yga4 ?ygl4 ?ygc4 ?ygk4; (case yga4 => k_is); (case ygl4 => k_is); (case ygc4 => k_is); (case ygk4 => k_is)))
    (case yg5 => (refine' K0.df_mk KX G ?yga5 ?ygl5 ?ygc5 ?ygk5; (case yga5 => k_is); (case ygl5 => k_is); (case ygc5 => k_is); (case ygk5 => k_is)))
    (case yg6 => (refine' K0.df_mk KX G ?yga6 ?ygl6 ?ygc6 ?ygk6; (case yga6 => k_is); (case ygl6 => k_is); (case ygc6 => k_is); (case ygk6 => k_is)))
    (case yg7 => (refine' K0.df_mk KX G ?yga7 ?ygl7 ?ygc7 ?ygk7; (case yga7 => k_is); (case ygl7 => k_is); (case ygc7 => k_is); (case ygk7 => k_is)))
    (case yg8 => (refine' K0.df_mk KX G ?yga8 ?ygl8 ?ygc8 ?ygk8; (case yga8 => k_is); (case ygl8 => k_is); (case ygc8 => k_is); (case ygk8 => k_is)))
    (case yg9 => (refine' K0.df_mk KX G ?yga9 ?ygl9 ?ygc9 ?ygk9; (case yga9 => k_is); (case ygl9 => k_is); (case ygc9 => k_is); (case ygk9 => k_is)))
    (case yg10 => (refine' K0.df_mk KX G ?yga10 ?ygl10 ?ygc10 ?ygk10; (case yga10 => k_is); (case ygl10 => k_is); (case ygc10 => k_is); (case ygk10 => k_is)))
    (case yg11 => (refine' K0.df_mk KX G ?yga11 ?ygl11 ?ygc11 ?ygk11; (case yga11 => k_is); (case ygl11 => k_is); (case ygc11 => k_is); (case ygk11 => k_is)))
    (case yg12 => (refine' K0.df_mk KX G ?yga12 ?ygl12 ?ygc12 ?ygk12; (case yga12 => k_is); (case ygl12 => k_is); (case ygc12 => k_is); (case ygk12 => k_is)))
    (case yg13 => (refine' K0.df_mk KX G ?yga13 ?ygl13 ?ygc13 ?ygk13; (case yga13 => k_is); (case ygl13 => k_is); (case ygc13 => k_is); (case ygk13 => k_is)))
    (case yg14 => (refine' K0.df_mk KX G ?yga14 ?ygl14 ?ygc14 ?ygk14; (case yga14 => k_is); (case ygl14 => k_is); (case ygc14 => k_is); (case ygk14 => k_is)))
    (case yg15 => (refine' K0.df_mk KX G ?yga15 ?ygl15 ?ygc15 ?ygk15; (case yga15 => k_is); (case ygl15 => k_is); (case ygc15 => k_is); (case ygk15 => k_is)))
    (case yg16 => (refine' K0.df_mk KX G ?yga16 ?ygl16 ?ygc16 ?ygk16; (case yga16 => k_is); (case ygl16 => k_is); (case ygc16 => k_is); (case ygk16 => k_is)))
    (case yg17 => (refine' K0.df_mk KX G ?yga17 ?ygl17 ?ygc17 ?ygk17; (case yga17 => k_is); (case ygl17 => k_is); (case ygc17 => k_is); (case ygk17 => k_is)))
    (case yg18 => (refine' K0.df_mk KX G ?yga18 ?ygl18 ?ygc18 ?ygk18; (case yga18 => k_is); (case ygl18 => k_is); (case ygc18 => k_is); (case ygk18 => k_is)))
    (case yg19 => (refine' K0.df_mk KX G ?yga19 ?ygl19 ?ygc19 ?ygk19; (case yga19 => k_is); (case ygl19 => k_is); (case ygc19 => k_is); (case ygk19 => k_is)))
    (case yg20 => (refine' K0.df_mk KX G ?yga20 ?ygl20 ?ygc20 ?ygk20; (case yga20 => k_is); (case ygl20 => k_is); (case ygc20 => k_is); (case ygk20 => k_is)))
    (case yg21 => (refine' K0.df_mk KX G ?yga21 ?ygl21 ?ygc21 ?ygk21; (case yga21 => k_is); (case ygl21 => k_is); (case ygc21 => k_is); (case ygk21 => k_is)))
    (case yg22 => (refine' K0.df_mk KX G ?yga22 ?ygl22 ?ygc22 ?ygk22; (case yga22 => k_is); (case ygl22 => k_is); (case ygc22 => k_is); (case ygk22 => k_is)))
    (case yg23 => (refine' K0.df_mk KX G ?yga23 ?ygl23 ?ygc23 ?ygk23; (case yga23 => k_is); (case ygl23 => k_is); (case ygc23 => k_is); (case ygk23 => k_is)))
    (case yg24 => (refine' K0.df_mk KX G ?yga24 ?ygl24 ?ygc24 ?ygk24; (case yga24 => k_is); (case ygl24 => k_is); (case ygc24 => k_is); (case ygk24 => k_is)))
    (case yg25 => (refine' K0.df_mk KX G ?yga25 ?ygl25 ?ygc25 ?ygk25; (case yga25 => k_is); (case ygl25 => k_is); (case ygc25 => k_is); (case ygk25 => k_is)))
    (case yg26 => (refine' K0.df_mk KX G ?yga26 ?ygl26 ?ygc26 ?ygk26; (case yga26 => k_is); (case ygl26 => k_is); (case ygc26 => k_is); (case ygk26 => k_is)))
    (case yg27 => (refine' K0.df_mk KX G ?yga27 ?ygl27 ?ygc27 ?ygk27; (case yga27 => k_is); (case ygl27 => k_is); (case ygc27 => k_is); (case ygk27 => k_is)))
    (case yg28 => (refine' K0.df_mk KX G ?yga28 ?ygl28 ?ygc28 ?ygk28; (case yga28 => k_is); (case ygl28 => k_is); (case ygc28 => k_is); (case ygk28 => k_is)))
    (case yg29 => (refine' K0.df_mk KX G ?yga29 ?ygl29 ?ygc29 ?ygk29; (case yga29 => k_is); (case ygl29 => k_is); (case ygc29 => k_is); (case ygk29 => k_is)))
    (case yg30 => (refine' K0.df_mk KX G ?yga30 ?ygl30 ?ygc30 ?ygk30; (case yga30 => k_is); (case ygl30 => k_is); (case ygc30 => k_is); (case ygk30 => k_is)))
    (case yg31 => (refine' K0.df_mk KX G ?yga31 ?ygl31 ?ygc31 ?ygk31; (case yga31 => k_is); (case ygl31 => k_is); (case ygc31 => k_is); (case ygk31 => k_is)))
    (case yg32 => (refine' K0.df_mk KX G ?yga32 ?ygl32 ?ygc32 ?ygk32; (case yga32 => k_is); (case ygl32 => k_is); (case ygc32 => k_is); (case ygk32 => k_is)))
    (case yg33 => (refine' K0.df_mk KX G ?yga33 ?ygl33 ?ygc33 ?ygk33; (case yga33 => k_is); (case ygl33 => k_is); (case ygc33 => k_is); (case ygk33 => k_is)))
    (case yg34 => (refine' K0.df_mk KX G ?yga34 ?ygl34 ?ygc34 ?ygk34; (case yga34 => k_is); (case ygl34 => k_is); (case ygc34 => k_is); (case ygk34 => k_is)))
    (case yg35 => (refine' K0.df_mk KX G ?yga35 ?ygl35 ?ygc35 ?ygk35; (case yga35 => k_is); (case ygl35 => k_is); (case ygc35 => k_is); (case ygk35 => k_is)))
    (case yg36 => (refine' K0.df_mk KX G ?yga36 ?ygl36 ?ygc36 ?ygk36; (case yga36 => k_is); (case ygl36 => k_is); (case ygc36 => k_is); (case ygk36 => k_is)))
    (case yg37 => (refine' K0.df_mk KX G ?yga37 ?ygl37 ?ygc37 ?ygk37; (case yga37 => k_is); (case ygl37 => k_is); (case ygc37 => k_is); (case ygk37 => k_is)))
    (case yg38 => (refine' K0.df_mk KX G ?yga38 ?ygl38 ?ygc38 ?ygk38; (case yga38 => k_is); (case ygl38 => k_is); (case ygc38 => k_is); (case ygk38 => k_is)))
    (case yh0 => (refine' K0.dfc_mk KX G ?yha0 ?yhl0 ?yhc0 ?yhk0; (case yha0 => k_is); (case yhl0 => k_is); (case yhc0 => k_is); (case yhk0 => k_is)))
