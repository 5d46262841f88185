import PyProof.Rows.All
import Wide.All
import OpenK.AllK
import Wide.FinOn
import HandS.ForMost
import HandS.SetFor
import HandS.Strs
import HandS.TupSets
import HandS.IsInst
import HandS.Small
import PyProof.TupleOfSeq
import HandS.Walk
import HandS.TupAny
import KE.KIndexOf
import KE.KRevSl
import KE.GoesEnum
import KE.GoesMore
import HandS.WideBits
import HandS.Dict
import PyProof.DictUpdate
import HandS.Conv
import PyProof.ReprRoads
import PyProof.ReprBulk
import HandS.Wide
import HandS.Flow
import PySem.Challenge.RW_oncecrossed_k06_sides_or_a_ring_of_odd_l
import HandS.Style
import HandS.Iter
import PyProof.EqAt
import PyProof.EqKinds
import PyProof.TupleCall
import KE.KExcSuper
import HandS.ForExc
import HandS.ExcSuper
import KE.KExcIs
import HandS.TryMany
import HandS.ExcField
import HandS.ExcValue
import HandS.Defaults
import HandS.DictComp
import HandS.SortInts
import HandS.Zip
import HandS.Text
import HandS.Evl
import HandS.Lambda
import HandS.ExcIs
import HandS.EndTab
import KE.KNest
import HandS.SortOrd
import HandS.SortRule
import HandS.NamedTupSort
import KE.KSortTupAny
set_option Elab.async false
set_option linter.all false
set_option maxRecDepth 100000
set_option maxHeartbeats 4000000
/-! Rules for what stands in a tuple: set(t) of ints, set(t) and sorted(t) of pairs. -/
namespace KR
open PySem PySem.Spec L2
open PyProof.Rows hiding St
section
variable {prog : Program} {w : World} {A : Around} {E : Value → Shared → Prop} {s : Shared}
/-- the items of a tuple, gathered: the heap only grows -/
theorem gather_tup {G : List Value → Shared → Prop} {t : Addr} {ob : Obj} {us : Array Value} {ep : Nat} (at_ : s.heap.get? t = some ob) (cl : ob.cls = .type "tuple") (da : ob.data = .seq us ep) (fits : us.size ≤ sizeLine)
    (g : ∀ hN, (∀ b u, s.heap.get? b = some u → hN.get? b = some u) → s.heap.objs.size ≤ hN.objs.size → G us.toList { s with heap := hN }) : wpAny (model prog w) A (collect (.ref t)) G E s := by
  have new0 : (s.heap.push { cls := .type "list", data := .seq ([] : List Value).toArray }).get? s.heap.objs.size = some { cls := .type "list", data := .seq #[] 0 } := Heap.get?_push_size _ rfl
  have new1 := Heap.get?_update_self (Obj.mapSeq (· ++ us)) new0 rfl
  have done_ : wpAny (model prog w) A ((load s.heap.objs.size) >>= fun oL => (match oL.data with
      | Data.seq xs _ => pure xs.toList
      | _ => unsupported "internal:collect" : Sem (List Value))) G E { s with heap := (s.heap.push { cls := .type "list", data := .seq ([] : List Value).toArray }).update s.heap.objs.size (Obj.mapSeq (· ++ us)) } := by
    refine wpAny_bind (wpAny_load new1 (wpAny_pure ?_))
    show G ((#[] : Array Value) ++ us).toList _
    rw [show ((#[] : Array Value) ++ us).toList = us.toList by simp]
    refine g _ (fun b u e => (Heap.get?_update_other _ _ (Nat.ne_of_gt (Heap.lt_size e))).trans (Heap.get?_push_of_some _ e)) ?_
    rw [Heap.size_update, Heap.size_push]
    exact Nat.le_succ _
  unfold collect
  refine wpAny_bind (wpAny_runValue (codeAny_builtin F.entry_proto_collect ?_))
  rw [Around.under_plainId F.plain_proto_collect _]
  show wpAny _ A.in1 (newList [] >>= fun l => again (.builtin "list.__iadd__" ⟨[l, .ref t], []⟩)) _ _ s
  refine wpAny_bind (wpAny_newObj_type (wpAny_pure ⟨plainId_quiet F.plain_list_iadd _, codeAny_builtin F.entry_list_iadd ?_⟩))
  rw [Around.under_plainId F.plain_list_iadd _]
  refine wpAny_mono (wpAny_extend_seq (hsz := fits) (A := A) (R := fun r z => r = .ok (.ret (.ref s.heap.objs.size)) ∧ z = { s with heap := (s.heap.push { cls := .type "list", data := .seq ([] : List Value).toArray }).update s.heap.objs.size (Obj.mapSeq (· ++ us)) })
    (s := { s with heap := s.heap.push { cls := .type "list", data := .seq ([] : List Value).toArray } }) _ t _ 0 (.inr rfl) new0 (Heap.get?_push_of_some _ at_) cl da ⟨rfl, rfl⟩) (fun fin z hz => ?_) (fun e z hz => absurd hz.1 (by simp))
  cases fin with
  | done f =>
    obtain ⟨e, rfl⟩ := hz
    cases e
    exact done_
  | again c' => exact ⟨hz.1, codeAny_mono hz.2 fun r z hr => by obtain ⟨rfl, rfl⟩ := hr; exact done_⟩
end
section
variable {X : Cx}
/-- set(t), t a tuple of ints -/
def rSetTI (K : PySem.W.Frag) (w : World) : List V → Hp → VK → Prop := fun xs H Q => ∃ (t : Addr) (ns : List Int), xs = [V.ref t] ∧ SqT K H t (ns.map V.int) ∧ ns.length ≤ 1000 ∧
  ∀ (a : Addr) (c : Nat), H a = none → c ≤ ns.length → Q (.ref a) (upd H a (SetO w a (fun j => decide (j ∈ ns)) c))
theorem cr_setTI (hc : X.calm = true) : CallR X (.type "set") (rSetTI X.K X.w) := by
  intro pins s σ H xs us Q I r h
  obtain ⟨t, ns, rfl, ht, hn, q⟩ := h
  rw [Vals.ref1 r]
  obtain ⟨its, rv, tp, hz⟩ := I.tuple ht
  have hf : H s.heap.objs.size = none := I.hok.fresh (Nat.le_refl _)
  refine call_set_tupI (P := X.prog) (w := X.w) ns (I.ok.hd hc) tp ?_ (Nat.lt_of_le_of_lt (Nat.succ_le_succ hn) (by decide)) fun h' tk c R hcn k => ?_
  · simpa using Vals.ints rv
  · exact ⟨.ref s.heap.objs.size, upd H s.heap.objs.size (SetO X.w s.heap.objs.size (fun j => decide (j ∈ ns)) c), I.laid (t' := tk) k (Nat.le_refl _) (setO_new R), rfl, q _ c hf hcn⟩
/-- sorted(t), t a tuple of tuples of d ints in [0, B) -/
def rSortTT (K : PySem.W.Frag) (d : Nat) (B : Int) : List V → Hp → VK → Prop := fun vs H Q => ∃ (a : Addr) (xs : List V), vs = [V.ref a] ∧ SqT K H a xs ∧ xs.length < 64 ∧ (∀ x ∈ xs, ∃ ns, TupI K H x ns ∧ ns.length = d ∧ TS.Bd B ns) ∧
  ∀ (ys : List V) (p : Addr), ys.Perm xs → ys.Pairwise (fun x y => ∀ n m, TupI K H x n → TupI K H y m → TS.code B n ≤ TS.code B m) → H p = none → Q (.ref p) (upd H p (.lst ys))
theorem cr_sortTT {d : Nat} {B : Int} (hd : 1 ≤ d) : CallR X (.builtin "sorted") (rSortTT X.K d B) := by
  intro pins s σ H vs us Q I r h
  obtain ⟨a, xs, rfl, hs, few, hx, q⟩ := h
  obtain ⟨its, rv, tp, hz⟩ := I.tuple hs
  rw [Vals.ref1 r]
  have bk := bkV_refs rv fun x m => by
    obtain ⟨_, ⟨t, e, _⟩, _⟩ := hx x m
    exact ⟨t, e⟩
  have len : its.length < 64 := by rw [← rv.length]; exact few
  obtain ⟨o, ho, hcl, n, hda⟩ := id tp
  refine Calls.call_function_entry kind_sorted plain_sorted entry_sorted (args_sorted1 _) ?_
  unfold Builtin.«sorted»
  refine wpAny_bind (m := checkCount "sorted" 1 1 _) (wpAny_pure ?_)
  refine wpAny_bind (gather_tup ho hcl hda (by show its.toArray.size ≤ sizeLine; rw [List.size_toArray, sizeLine_eq]; omega) fun h1 k1 ge => ?_)
  refine wpAny_bind (wpAny_newList ?_ (by rw [sizeLine_eq]; show its.length ≤ _; omega))
  have atL : (h1.push (seqObj "list" its.toArray 0)).get? h1.objs.size = some (seqObj "list" its.toArray 0) := Heap.get?_push_size _ rfl
  have keep : ∀ b u, s.heap.get? b = some u → (h1.push (seqObj "list" its.toArray 0)).get? b = some u := fun b u e => Heap.get?_push_of_some _ (k1 b u e)
  have raw : ∀ {u : Value}, u ∈ its → ∃ t ns, u = .ref t ∧ TupI X.K H (V.ref t) ns ∧ TS.TupInts (h1.push (seqObj "list" its.toArray 0)) u ns ∧ ns.length = d ∧ TS.Bd B ns := fun {u} hu => by
    obtain ⟨t, rfl⟩ := bk.2 u hu
    have hm : V.ref t ∈ xs := by
      rw [bk.1]
      exact List.mem_map.mpr ⟨_, hu, rfl⟩
    obtain ⟨ns, ⟨t', e, ht⟩, hn, hb⟩ := hx _ hm
    cases e
    exact ⟨t, ns, rfl, ⟨t, rfl, ht⟩, (tupI_raw I ht).keeps fun b o e _ => keep b o e, hn, hb⟩
  have ok : TS.TupsOk (h1.push (seqObj "list" its.toArray 0)) d B its := fun v hv => by
    obtain ⟨t, ns, _, _, h2, h3, h4⟩ := raw hv
    exact ⟨ns, h2, h3, h4⟩
  have atL' : (h1.push (seqObj "list" (its.toArray.toList.toArray) 0)).get? h1.objs.size = some (seqObj "list" its.toArray 0) := by simpa using atL
  have red : its.toArray.toList = its := by simp
  rw [red]
  refine wpAny_bind (wpAny_holding (TS.call_sort_tups (s := { s with heap := h1.push (seqObj "list" its.toArray 0) }) atL len hd ok fun out p1 p2 => ?_))
  obtain ⟨c, hc⟩ := sortedHeap_at (vs := its) (out := out) atL
  have refs : ∀ u ∈ out.toList, ∃ t, u = Value.ref t := fun u hu => bk.2 u (p1.mem_iff.mp hu)
  have pm : (out.toList.map bkV).Perm xs := by rw [bk.1]; exact p1.map bkV
  have szs : (out.toList.map bkV).length ≤ sizeLine := by rw [pm.length_eq]; exact hz
  have old : ∀ b u, s.heap.get? b = some u → (sortedHeap (h1.push (seqObj "list" its.toArray 0)) h1.objs.size its out).get? b = some u := fun b u e => by
    have lt := Heap.lt_size (k1 b u e)
    rw [sortedHeap_old (Nat.ne_of_lt lt) (by rw [size_push']; exact Nat.lt_succ_of_lt lt)]
    exact keep b u e
  refine wpAny_pure ⟨_, rfl, .ref h1.objs.size, upd H h1.objs.size (.lst (out.toList.map bkV)), I.laid (t' := s.toks) old ge ⟨szs, out.toList, c, bkV_vals refs, hc⟩, rfl, q _ _ pm ?_ (I.hok.fresh ge)⟩
  rw [List.pairwise_map]
  refine List.Pairwise.imp_of_mem (fun {u v} hu hv huv n m hn hm => ?_) p2
  obtain ⟨t, ns, e1, t1, r1, _⟩ := raw (p1.mem_iff.mp hu)
  obtain ⟨t', ns', e2, t2, r2, _⟩ := raw (p1.mem_iff.mp hv)
  obtain ⟨a1, z1, y1⟩ := hn
  obtain ⟨a2, z2, y2⟩ := hm
  have i1 := ((tupI_raw I y1).keeps fun b o e _ => keep b o e).ints
  have i2 := ((tupI_raw I y2).keeps fun b o e _ => keep b o e).ints
  rw [← bkV_ref z1] at i1
  rw [← bkV_ref z2] at i2
  rw [← i1, ← i2]
  exact huv
end
/-! ### set(t) of a tuple of tuples of ints -/
abbrev set0 (w : World) : Obj := { cls := .type "set", dict := none, data := .set #[] 0 (.fresh 0 0 (!w.params.followText "set-order")) }
section
variable {P : Program} {w : World} {A : Around} {E : Value → Shared → Prop} {s : Shared}
set_option maxRecDepth 100000 in
set_option maxHeartbeats 3200000 in
theorem make_setTT {t : Addr} {us : Array Value} (ks : List (Addr × List Int)) {G : Value → Shared → Prop} (calm : A.handled = none) (tp : s.heap.IsTuple t us) (are : us.toList = ks.map fun p => Value.ref p.1)
    (ok : ∀ p ∈ ks, IsT P w s.heap p.2 p.1) (few : ks.length < 64) (room : A.units + 3 < cLine)
    (g : ∀ (hN : Heap) (tk : Nat) L es ep tb, SetTR P w hN s.heap.objs.size L es ep tb → Got ks ks.length L → (∀ b o, s.heap.get? b = some o → hN.get? b = some o) → G (.ref s.heap.objs.size) { s with heap := hN, toks := tk }) :
    wpAny (model P w) A (call (.type "set") [.ref t]) G E s := by
  have size : us.size = ks.length := by have q := congrArg List.length are; rwa [Array.length_toList, List.length_map] at q
  obtain ⟨c, tl, h0⟩ := F.called_set.mro
  have h1 := F.called_set.made
  have h2 := F.called_set.sub
  refine wpAny_call (codeAny_of_tree ?_)
  show wpAny _ _ (callAny (.type "set") ⟨[.ref t], []⟩) _ _ s
  refine wpAny_pure ⟨Code.quiet_builtin _ (by decide +kernel), codeAny_builtin F.entry_type_call ?_⟩
  rw [Around.under_plain (weight_type_call_type "set" [.ref t] []) rfl]
  have h3 := F.called_set.notType
  have h4 := F.called_set.canCreate
  have h5 := F.typeCall_set_1 (.ref t)
  repeat (any_goals (first | assumption | wp_step))
  generalize hn : s.heap.objs.size = N at *
  refine codeAny_mono (code_set_led1 (.ref t) (E := E) (Q₁ := fun u z => u = .ref N ∧ z = { s with heap := s.heap.push (set0 w) }) ⟨by rw [hn], rfl⟩) fun r z hz => ?_
  cases r with
  | error e => exact hz
  | ok fl =>
    cases fl with
    | next => exact hz.elim
    | brk => exact hz.elim
    | cont => exact hz.elim
    | ret u =>
      obtain ⟨rfl, rfl⟩ := hz
      have new : (s.heap.push (set0 w)).get? N = some (set0 w) := by rw [← hn]; exact Heap.get?_push_size _ rfl
      have ty : Shared.TypeIs { s with heap := s.heap.push (set0 w) } (.ref N) "set" := ⟨_, new, rfl⟩
      have h6 := F.called_set.init.lookup
      have h7 := F.called_set.init.bind (.ref N)
      repeat (any_goals (first | assumption | wp_step))
      refine codeAny_mono (codeAny_call_builtin (R := wants (fun r z => r = .none ∧ ∃ hN tk L es ep tb, z = { s with heap := hN, toks := tk } ∧ SetTR P w hN N L es ep tb ∧ Got ks ks.length L ∧ ∀ b o, s.heap.get? b = some o → hN.get? b = some o) E)
        F.called_set.init.plain F.entry_set_init (check_set_init_1 ty ?_)) fun r z hz => ?_
      · obtain ⟨ob, at_, cl, ep, da⟩ := id tp
        obtain ⟨ocl, odi, oda, osl⟩ := ob
        simp only at cl da
        subst cl; subst da
        have at1 : (s.heap.push (set0 w)).get? t = some { cls := .type "tuple", dict := odi, data := .seq us ep, slots := osl } := Heap.get?_push_of_some _ at_
        have n1 := F.sub_tuple_set
        have n2 := F.sub_tuple_frozenset
        have n3 : (Value.type "tuple" == Value.type "dict") = false := by decide
        have tp1 : (s.heap.push (set0 w)).IsTuple t us := ⟨_, at1, rfl, ep, rfl⟩
        unfold Builtin.«set.__init__» noKeywords Builtin.Frozenset.updateFrom
        generalize hPI : pyIter = PI
        wp_walk
        subst hPI
        refine wpAny_pyIter_tuple tp1 (wpAny_bind (wpAny_runValue ?_))
        have lt : t < N := by rw [← hn]; exact Heap.lt_size at_
        have sz : (s.heap.push (set0 w)).objs.size = N + 1 := by rw [Heap.size_push, hn]
        have ne : t ≠ (s.heap.push (set0 w)).objs.size := by rw [sz]; exact Nat.ne_of_lt (Nat.lt_succ_of_lt lt)
        have fresh : ∀ b, N ≤ b → s.heap.get? b = none := fun b hb => by
          cases q : s.heap.get? b with
          | none => rfl
          | some o => exact absurd (Nat.lt_of_lt_of_le (Heap.lt_size q) (by rw [hn]; exact hb)) (Nat.lt_irrefl _)
        have items : ∀ (i : Nat) (v : Value), us[i]? = some v → ∃ p, ks[i]? = some p ∧ v = .ref p.1 := fun i v hv => by
          rw [← Array.getElem?_toList, are, List.getElem?_map] at hv
          cases q : ks[i]? with
          | none => rw [q] at hv; cases hv
          | some p => rw [q] at hv; exact ⟨p, rfl, (Option.some.inj hv).symm⟩
        refine set_update_tups ((Walks.tuple (by simp [calm]) _ t ne us).toS) N (by rw [sz]; simp only [List.mem_cons, List.not_mem_nil, or_false, not_or]; exact ⟨Nat.ne_of_lt (Nat.lt_succ_self _), Nat.ne_of_gt lt⟩) ks size few items s.heap ok (fresh _ (Nat.le_refl _))
          (fun b hb => fresh b (by rw [List.mem_singleton.mp hb, sz]; exact Nat.le_succ _)) room (us.size - 0) 0 _ (by omega) (Nat.zero_le _) ⟨⟨_, Heap.get?_push_size _ rfl, rfl, rfl⟩, tp1.push _⟩ (fun b o e => Heap.get?_push_of_some _ (Heap.get?_push_of_some _ e))
          ⟨[], #[], 0, _, setTR_fresh (Heap.get?_push_of_some _ new), Got.zero ks⟩ fun z L es ep tb mv R got kp => ?_
        obtain ⟨hN, gN, dN, tN, oN⟩ := z
        obtain rfl : gN = s.gens := mv.gens
        obtain rfl : dN = s.drawn := mv.drawn
        obtain rfl : oN = s.os := mv.os
        show wpAny _ _ _ _ _ _
        refine wpAny_pure ?_
        show wpAny _ _ (ret Value.none) _ _ _
        rw [size] at got
        exact wpAny_pure ⟨rfl, hN, tN, L, es, ep, tb, rfl, R, got, kp⟩
      · cases r with
        | error e => exact hz
        | ok fl =>
          cases fl with
          | next => exact hz.elim
          | brk => exact hz.elim
          | cont => exact hz.elim
          | ret r =>
            obtain ⟨rfl, hN, tk, L, es, ep, tb, rfl, R, got, kp⟩ := hz
            repeat (any_goals (first | assumption | wp_step))
            exact g _ _ _ _ _ _ R got kp
end
section
variable {X : Cx}
/-- set(t), t a tuple of tuples of ints -/
def rSetTT (K : PySem.W.Frag) (P : Program) (w : World) : List V → Hp → VK → Prop := fun xs H Q => ∃ (t : Addr) (ks : List (Addr × List Int)), xs = [V.ref t] ∧ SqT K H t (ks.map fun p => V.ref p.1) ∧ (∀ p ∈ ks, SqT K H p.1 (p.2.map V.int)) ∧ ks.length < 64 ∧
  ∀ a L, H a = none → (∀ p ∈ L, p ∈ ks) → (∀ p ∈ ks, p.2 ∈ L.map (·.2)) → Q (.ref a) (upd H a (SetTO P w a L))
theorem cr_setTT (hc : X.calm = true) (hu : X.A.units + 64 < cLine) : CallR X (.type "set") (rSetTT X.K X.prog X.w) := by
  intro pins s σ H xs us Q I r h
  obtain ⟨t, ks, rfl, ht, hk, few, q⟩ := h
  rw [Vals.ref1 r]
  obtain ⟨its, rv, tp, hz⟩ := I.tuple ht
  refine make_setTT (P := X.prog) (w := X.w) ks (I.ok.hd hc) tp (by simpa using refs_of_vals rv) (fun p hp => I.isT (hk p hp)) few (by omega) fun hN tk L es ep tb R got kp => ?_
  exact ⟨.ref s.heap.objs.size, upd H s.heap.objs.size (SetTO X.prog X.w s.heap.objs.size L), I.laid (t' := tk) kp (Nat.le_refl _) (setTO_new R.t0), rfl,
    q _ L (I.hok.fresh (Nat.le_refl _)) (fun p hp => List.mem_of_mem_take (got.sub p hp)) fun p hp => got.all p (by rw [List.take_length]; exact hp)⟩
end
end KR

set_option Elab.async false
set_option linter.all false
set_option maxRecDepth 100000
set_option maxHeartbeats 4000000
/-! Rules for tuples: index, a reversed copy, enumerate. -/
namespace KR
open PySem PySem.Spec L2
open PyProof.Rows hiding St
section
variable {X : Cx}
/-- t.index(k), k in the tuple of ints -/
def rTIx (K : PySem.W.Frag) : V → List V → Hp → VK → Prop := fun x xs H Q => ∃ (t : Addr) (ns : List Int) (k : Int), x = .ref t ∧ xs = [.int k] ∧ SqT K H t (ns.map V.int) ∧ k ∈ ns ∧ Q (.int (ns.idxOf k : Nat)) H
theorem mt_tindex : MtR X "tuple.index" (rTIx X.K) := by
  intro pins s σ H x xs v us Q I rx rxs h
  obtain ⟨t, ns, k, rfl, rfl, ht, hk, q⟩ := h
  cases rx
  obtain ⟨u, rfl, tk, rfl⟩ := rxs.one
  obtain ⟨its, rv, tp, _⟩ := I.tuple ht
  exact PySem.SeqAt.tuple_index_ints tp (Vals.ints rv) hk ⟨.int (ns.idxOf k : Nat), H, I.tok _, ⟨_, rfl⟩, q⟩

/-- t[::-1] -/
def tRevT (K : PySem.W.Frag) (te : TE) : TE := fun σ H Q => te σ H fun x H1 => ∃ a xs, x = .ref a ∧ SqT K H1 a xs ∧ ∀ p, H1 p = none → Q (.ref p) (upd H1 p (.tup xs.reverse))
end
section
variable {prog : Program} {w : World} {A : Around} {E : Value → Shared → Prop} {s : Shared}
theorem fm_congr {α β : Type} {f g : α → Option β} : ∀ l : List α, (∀ x ∈ l, f x = g x) → l.filterMap f = l.filterMap g
  | [], _ => rfl
  | a :: l, h => by
    rw [List.filterMap_cons, List.filterMap_cons, h a (List.mem_cons_self ..), fm_congr l fun x z => h x (List.mem_cons_of_mem _ z)]
theorem back_places (n : Nat) : Builtin.Slice.sliceAdjust none none (-1) (n : Int) = ((n : Int) - 1, -1) ∧ Builtin.Slice.slicePlaces ((n : Int) - 1) (-1) (-1) = n := by
  refine ⟨by unfold Builtin.Slice.sliceAdjust; rfl, ?_⟩
  unfold Builtin.Slice.slicePlaces
  rw [if_neg (by decide)]
  by_cases h : (n : Int) - 1 > -1
  · rw [if_pos h, show (-(-1 : Int)) = 1 by decide, Int.ediv_one]
    omega
  · rw [if_neg h]
    omega
theorem back_pick (xs : Array Value) : ((List.range xs.size).filterMap fun (k : Nat) => xs[(((xs.size : Int) - 1) + (k : Int) * (-1)).toNat]?).toArray = xs.toList.reverse.toArray := by
  have h := PySem.W.krv_pick xs
  unfold slicePick at h
  rw [PySem.W.krv_bounds] at h
  have h' : ((sliceRange ((xs.size : Int) - 1) (-1) (-1)).filterMap (xs[·]?)).toArray = xs.toList.reverse.toArray := h
  rw [PySem.W.krv_sliceRange, List.filterMap_map] at h'
  rw [← h']
  congr 1
  refine fm_congr _ fun k hk => ?_
  have := List.mem_range.mp hk
  show xs[_]? = xs[xs.size - 1 - k]?
  congr 1
  omega
theorem back_tup {t sl : Addr} {us : Array Value} {vs : Value} {G : Value → Shared → Prop} (tp : IsTup s.heap t us) (hs : s.heap.IsSliceOf sl .none .none vs) (ps : IsPart vs (some (-1))) (fits : us.size ≤ sizeLine)
    (g : G (.ref s.heap.objs.size) { s with heap := s.heap.push { cls := .type "tuple", data := .seq us.toList.reverse.toArray } }) : wpAny (model prog w) A (getItem (.ref t) (.ref sl)) G E s := by
  have ok : sizeOk (.seq us.toList.reverse.toArray) := by
    show us.toList.reverse.toArray.size ≤ sizeLine
    rw [List.size_toArray, List.length_reverse, Array.length_toList]
    exact fits
  obtain ⟨os, e1, e2, e3⟩ := id hs
  have ty : s.TypeIs (.ref sl) "slice" := ⟨os, e1, e2⟩
  unfold getItem
  try with_reducible refine wpAny_holding ?_
  first | refine wpAny_bind (wpAny_pure ?_) | skip
  refine wpAny_bind (wpAny_sequenceKey tp.typeIs (by decide) (wpAny_bind (wpAny_callSpecial?_slot (name := Str.ofString "__getitem__") tp.typeIs PyProof.Rows.slot_tuple_getitem
    (wpAny_call_entry PyProof.Rows.slot_tuple_getitem tp.typeIs entry_tuple_getitem ?_ (args_tuple_getitem _ _)))))
  show wpAny _ _ (Builtin.Tuple.tupleItemsOf (.ref t) >>= _) _ _ s
  refine wpAny_bind (tupleItemsOf_ tp (wpAny_bind (wpAny_typeOf ty ?_)))
  rw [if_pos (by decide)]
  have app : ∀ {R : Int × Int × Nat → Shared → Prop} {B : Around} {F : Value → Shared → Prop}, R ((us.size : Int) - 1, -1, us.size) s → wpAny (model prog w) B (Builtin.Slice.sliceApplied (.ref sl) (pure (us.size : Int))) R F s := fun r => by
    unfold Builtin.Slice.sliceApplied Builtin.Slice.sliceFields
    refine wpAny_bind (wpAny_bind (wpAny_field e1 e3 (x := .none) rfl (wpAny_bind (wpAny_field e1 e3 (x := .none) rfl (wpAny_bind (wpAny_field e1 e3 (x := vs) rfl (wpAny_pure ?_)))))))
    refine wpAny_bind (HT.slicePart_ ps ?_)
    show wpAny _ _ (if ((-1 : Int) == 0) = true then _ else _) _ _ s
    rw [if_neg (by decide)]
    refine wpAny_bind (HT.slicePart_ .none (wpAny_bind (HT.slicePart_ .none (wpAny_bind (wpAny_pure ?_)))))
    show wpAny _ _ (match Builtin.Slice.sliceAdjust none none (-1) (us.size : Int) with | (lo, hi) => pure (lo, (-1 : Int), Builtin.Slice.slicePlaces lo hi (-1))) _ _ s
    rw [(back_places us.size).1]
    show wpAny _ _ (pure ((us.size : Int) - 1, (-1 : Int), Builtin.Slice.slicePlaces ((us.size : Int) - 1) (-1) (-1))) _ _ s
    rw [(back_places us.size).2]
    exact wpAny_pure r
  refine wpAny_bind (app ?_)
  have no : ¬ ((((us.size : Int) - 1) == 0 && (-1 : Int) == 1 && us.size == us.size) = true) := by
    rw [show ((-1 : Int) == 1) = false by decide, Bool.and_false, Bool.false_and]
    exact Bool.false_ne_true
  show wpAny _ _ (if (((us.size : Int) - 1) == 0 && (-1 : Int) == 1 && us.size == us.size) = true then _ else _) _ _ s
  rw [if_neg no, back_pick]
  first
    | exact wpAny_bind (m := Builtin.Tuple.tupleExact _) (wpAny_newObj_type (wpAny_pure ⟨_, rfl, wpAny_pure g⟩) ok)
    | exact wpAny_bind (m := Builtin.Tuple.tupleExact _) (wpAny_newObj_type (wpAny_bind (wpAny_pure (wpAny_pure ⟨_, rfl, wpAny_pure g⟩))) ok)
    | exact wpAny_bind (wpAny_bind (m := Builtin.Tuple.tupleExact _) (wpAny_newObj_type (wpAny_pure (wpAny_pure ⟨_, rfl, wpAny_pure g⟩)) ok))
    | exact wpAny_bind (wpAny_bind (m := Builtin.Tuple.tupleExact _) (wpAny_newObj_type (wpAny_pure ⟨_, rfl, wpAny_pure g⟩) ok))
end
section
variable {X : Cx}
theorem pe_revT {e : Expr} {te : TE} {k : Nat} {p1 p2 p3 pos : Pos} (he : PE X e te) : PE X (.Subscript e (.Slice none none (some (.UnaryOp .USub (.Constant (.int 1) k p1) p2)) p3) pos) (tRevT X.K te) := by
  refine ⟨fun pins s σ H Q I h => Subscript_ (thn (he.run pins s σ H _ I h) fun v s1 ⟨x, H1, I1, r1, a, xs, ex, hx, q⟩ => ?_)⟩
  subst ex
  cases r1
  have step : PO X (some (.UnaryOp .USub (.Constant (.int 1) k p1) p2)) (tPart (tUn (rU fun i => .int (-i)) (tC (.int 1)))) := po_some (pe_un un_neg pe_int)
  refine wpAny_Slice (thn (po_none.run pins s1 σ H1 (fun o J => o = none ∧ J = H1) I1 ⟨rfl, rfl⟩) fun vl s2 ⟨l, H2, I2, pl, el, e2⟩ => ?_)
  subst el e2
  refine thn (po_none.run pins s2 σ H2 (fun o J => o = none ∧ J = H2) I2 ⟨rfl, rfl⟩) fun vu s3 ⟨u, H3, I3, pu, eu, e3⟩ => ?_
  subst eu e3
  refine thn (step.run pins s3 σ H3 (fun o J => o = some (-1) ∧ J = H3) I3 ⟨1, rfl, -1, rfl, rfl, rfl⟩) fun vs s4 ⟨o, H4, I4, ps, eo, e4⟩ => ?_
  subst eo e4
  have I5 : Inv X pins σ H4 { s4 with heap := s4.heap.push { cls := .type "slice", data := .fields #[vl, vu, vs] } } := I4.kept (t' := s4.toks) fun b ob z => Heap.get?_push_of_some _ z
  obtain ⟨its, r, tp, hz⟩ := I5.tuple hx
  cases pl
  cases pu
  show wpAny (model X.prog X.w) X.A (subscriptTail e (.Slice none none (some (.UnaryOp .USub (.Constant (.int 1) k p1) p2)) p3) (.ref a) (.ref s4.heap.objs.size)) (EP X pins σ Q) X.xe { s4 with heap := s4.heap.push { cls := .type "slice", data := .fields #[.none, .none, vs] } }
  refine tail_any (ops := [.ref a, .ref s4.heap.objs.size]) tp.typeIs (PyProof.Rows.slot_tuple_getitem.lookup) ?_ (by with_unfolding_all rfl)
  refine back_tup tp (Heap.IsSliceOf.new _ .none .none vs) ps (by rw [List.size_toArray, ← r.length]; exact hz) ?_
  refine ⟨.ref _, _, I5.laid (t' := s4.toks) (o := .tup xs.reverse) (fun b ob z => Heap.get?_push_of_some _ z) (Nat.le_refl _) ?_, rfl, q _ (I5.hok.fresh (Nat.le_refl _))⟩
  exact ⟨by rw [List.length_reverse]; exact hz, _, r.reverse, ⟨_, Heap.get?_push_size _ rfl, rfl, 0, by simp⟩⟩
end
/-! ### enumerate(t), t a tuple -/
abbrev tIter (t : Addr) : Obj := { cls := .type "tuple_iterator", data := .fields #[.ref t, .int 0 0] }
abbrev tEnum (it : Addr) : Obj := { cls := .type "enumerate", data := .fields #[.none, .bool false, .ref it, rawInt 0, .none, .none] }
theorem meets_enumT (t : Addr) (us : Array Value) (n : Nat) (dd : Option Addr) (sl : Array (Option Value)) :
    Meets (Builtin.«enumerate.__new__» ⟨[.type "enumerate", .ref t], []⟩) (fun _ R s => s.heap.get? t = some { cls := .type "tuple", dict := dd, data := .seq us n, slots := sl } ∧
      R (.ok (.ret (.ref (s.heap.push (tIter t)).objs.size))) { s with heap := (s.heap.push (tIter t)).push (tEnum s.heap.objs.size) }) :=
  .of_wp fun prog w A R z hz => by
    obtain ⟨h0, g0, d0, k0, o0⟩ := z
    obtain ⟨at_, fin⟩ := hz
    have sub_ := sub_enumerate
    have tp : Heap.IsTuple (Shared.heap ⟨h0, g0, d0, k0, o0⟩) t us := ⟨_, at_, rfl, n, rfl⟩
    wp_walk using AutoSeq1.wpAny_loadPart' at_
    refine wpAny_stack_any fun stk => wpAny_pure ?_
    split
    · rename_i c _ _ _ _ _
      cases (c == Value.type "enumerate") <;>
      · wp_walk using AutoSeq1.wpAny_loadPart' at_, wpAny_pyIter_tuple tp
        exact ⟨_, rfl, fin⟩
    · wp_walk using AutoSeq1.wpAny_loadPart' at_, wpAny_pyIter_tuple tp
      exact ⟨_, rfl, fin⟩
section
variable {prog : Program} {w : World} {A : Around} {E : Value → Shared → Prop} {s : Shared}
theorem make_enumT {t : Addr} {us : Array Value} {G : Value → Shared → Prop} (tp : s.heap.IsTuple t us)
    (g : ∀ hN, IsEnum hN (s.heap.objs.size + 1) s.heap.objs.size 0 .none → hN.IsTupleIter s.heap.objs.size t 0 → (∀ b o, s.heap.get? b = some o → hN.get? b = some o) → G (.ref (s.heap.objs.size + 1)) { s with heap := hN }) :
    wpAny (model prog w) A (call (.type "enumerate") [.ref t]) G E s := by
  obtain ⟨⟨c, dd, dt, sl⟩, at_, cl, n, da⟩ := tp
  obtain rfl : c = .type "tuple" := cl
  obtain rfl : dt = .seq us n := da
  refine callType_new F.called_enumerate (by decide) (F.typeCall_enumerate_1 _) (F.newCall_enumerate_1 _) (fun obj => F.args_object_init_2 obj _) F.entry_enumerate_new (meets_enumT t us n dd sl) ⟨at_, ?_⟩
  have sz : (s.heap.push (tIter t)).objs.size = s.heap.objs.size + 1 := Heap.size_push ..
  show _ ∧ _
  rw [sz]
  have en : IsEnum ((s.heap.push (tIter t)).push (tEnum s.heap.objs.size)) (s.heap.objs.size + 1) s.heap.objs.size 0 .none := by
    have q := Heap.get?_push_size (s.heap.push (tIter t)) (o := tEnum s.heap.objs.size) rfl
    rw [sz] at q
    exact q
  exact ⟨⟨_, en, rfl⟩, g _ en ⟨_, Heap.get?_push_of_some _ (Heap.get?_push_size _ rfl), rfl, rfl⟩ fun b o x => Heap.get?_push_of_some _ (Heap.get?_push_of_some _ x)⟩
end
/-- the tuple at a, each item in a new pair -/
def Itet (K : PySem.W.Frag) (a : Addr) : It :=
  ⟨fun i H => ∃ (xs : List V) (x : V), SqT K H a xs ∧ xs[i]? = some x, fun i H v H' => ∃ T x, v = .ref T ∧ H T = none ∧ H' = upd H T (.tup [.int (i : Nat), x]) ∧ ∀ xs, SqT K H a xs → xs[i]? = some x, fun i H => ∃ xs : List V, SqT K H a xs ∧ xs.length = i⟩
theorem turn_enumT {P : Program} {w : World} {K : PySem.W.Frag} {elts : List Expr} {kk : Nat} {tpos : Pos} (a e it : Addr) :
    Turn P w K (.Tuple elts kk tpos) (Itet K a) [e, it] e (fun i h => (∃ old, IsEnum h e it ((i : Nat) : Int) old) ∧ h.IsTupleIter it a i ∧ e ≠ it ∧ e ≠ a ∧ a ≠ it) where
  mem := by simp
  obj := fun i h st b hb => by
    obtain ⟨⟨old, he⟩, ⟨o, ho, _, hd⟩, _⟩ := st
    rcases (by simpa using hb : b = e ∨ b = it) with z | z
    · rw [z]; exact ⟨_, he, fun v q => nomatch q⟩
    · rw [z]; exact ⟨o, ho, fun v q => by rw [hd] at q; cases q⟩
  keep := fun i h h' st k => let ⟨⟨old, he⟩, hi, r⟩ := st; ⟨⟨old, k e (by simp) _ he⟩, hi.at fun o q => k it (by simp) o q, r⟩
  item := by
    intro X hP hw hK hc i pins s σ H E I hf st hg
    subst hP hw hK
    obtain ⟨⟨old, he⟩, hit, ne1, ne2, ne3⟩ := st
    obtain ⟨xs, x, hq, hx⟩ := hg
    obtain ⟨its, rv, tp, _⟩ := I.tuple hq
    obtain ⟨u, hu, ru⟩ := rv.get hx
    have le : e < s.heap.objs.size := Heap.lt_size he
    have li : it < s.heap.objs.size := by obtain ⟨_, q, _⟩ := hit; exact Heap.lt_size q
    have hi : i < its.toArray.size := by rw [List.size_toArray]; exact (List.getElem?_eq_some_iff.mp hu).1
    have calm : X.A.in1.handled = none := by have := I.ok.hd hc; simpa using this
    refine wpAny_pyNext_enum_itemD (Draws.tuple calm it a ne3 its.toArray) he ⟨hit, tp⟩ hi ne1 (by simp only [List.mem_cons, List.not_mem_nil, or_false, not_or]; exact ⟨ne1, ne2⟩) fun y h' tk hy ho st' hT _ hk => ?_
    obtain rfl : y = u := by
      have q : its[i]? = some y := by rw [← List.getElem?_toArray]; exact hy
      exact Option.some.inj (q.symm.trans hu)
    refine ⟨_, rfl, wpAny_letOwnedTupleGo_enum (s := { s with heap := h', toks := tk + 1 }) ho fun h'' he' sb => ?_⟩
    have hT2 : h''.get? s.heap.objs.size = some { cls := .type "tuple", data := .seq #[.int i tk, y] } := (sb.2 _ (Nat.ne_of_gt le)).trans hT
    have I1 : Inv X pins σ (upd H s.heap.objs.size (.tup [.int (i : Nat), x])) { s with heap := h'', toks := tk + 1 } :=
      I.turnedNew (ch := [e, it]) (fun b ob hb q => (sb.2 b (fun z => hb (by simp [z]))).trans (hk b ob (fun z => hb (by simp [z])) (fun z => hb (by simp [z])) q)) hf (Nat.le_refl _)
        ⟨by show 2 ≤ sizeLine; decide, [.int i tk, y], .cons ⟨_, rfl⟩ (.cons ru .nil), ⟨_, hT2, rfl, _, rfl⟩⟩
    refine ⟨.ref s.heap.objs.size, _, I1, rfl, ⟨_, x, rfl, I.hok.fresh (Nat.le_refl _), rfl, fun ys hy => by rw [I.tuple_inj hy hq]; exact hx⟩, ⟨⟨y, ?_⟩, st'.1.at fun o q => (sb.2 it (Ne.symm ne1)).trans q, ne1, ne2, ne3⟩, fun b hb => ?_⟩
    · rw [show ((i + 1 : Nat) : Int) = (i : Int) + 1 by omega]
      exact he'
    · have lb : b < s.heap.objs.size := by
        rcases (by simpa using hb : b = e ∨ b = it) with z | z
        · rw [z]; exact le
        · rw [z]; exact li
      rw [upd_ne (Nat.ne_of_lt lb)]
      exact (hf b hb).1
  done := by
    intro X hP hw hK hc i pins s σ H E I hf st hg
    subst hP hw hK
    obtain ⟨⟨old, he⟩, hit, ne1, ne2, ne3⟩ := st
    obtain ⟨xs, hq, hx⟩ := hg
    obtain ⟨its, rv, tp, _⟩ := I.tuple hq
    obtain ⟨f0, f1, f2, f3, f4, f5⟩ := hf it (by simp)
    have calm : X.A.in1.handled = none := by have := I.ok.hd hc; simpa using this
    have hn : its.toArray.size = i := by rw [List.size_toArray, ← rv.length, hx]
    exact wpAny_pyNext_enum_endD (Draws.tuple calm it a ne3 its.toArray) he ⟨by rw [hn]; exact hit, tp⟩ fun h' eb => ⟨rfl, I.turned (t' := s.toks) (fun b o hb q => eb b o hb q) f0 f1 f3 f4 f5⟩
  self := fun A i s Q E st h => let ⟨⟨_, he⟩, _⟩ := st; wpAny_pyIter_enum he h
def iEnumT (K : PySem.W.Frag) (ta : TA) : TI := fun σ H R => ta σ H fun vs H1 => ∃ a xs, vs = [.ref a] ∧ SqT K H1 a xs ∧ R (Itet K a) H1
theorem pi_enumT {X : Cx} {e : Expr} {ta : TA} {p pos tpos : Pos} {elts : List Expr} {kk : Nat} (hg : Gl X "enumerate") (hm : X.mg "enumerate" = none) (ha : PA X [e] ta) (hs : starEach [e] X.env = [(false, eval e X.env)] := by rfl) :
    PI X (.Tuple elts kk tpos) (.Call (.Name "enumerate" p) [e] [] pos) (iEnumT X.K ta) := by
  refine ⟨fun pins s σ H R I h => Call_ (ld_blt I hg hm boot_enumerate (PyProof.Rows.callWith_type1 (thn (ha.run pos pins s σ H _ I h) fun us s1 ⟨vs, H1, I1, r1, a, xs, ex, hq, q⟩ => ?_) hs rfl))⟩
  subst ex
  obtain ⟨its, rv, tp, _⟩ := I1.tuple hq
  have la : a < s1.heap.objs.size := by obtain ⟨_, z, _⟩ := tp; exact Heap.lt_size z
  rw [Vals.ref1 r1]
  refine make_enumT tp fun hN he hit kp => wpAny_pyIter_enum he ?_
  refine ⟨s1.heap.objs.size + 1, [s1.heap.objs.size + 1, s1.heap.objs.size], _, _, H1, rfl, I1.kept (t' := s1.toks) kp, turn_enumT a (s1.heap.objs.size + 1) s1.heap.objs.size, ⟨⟨.none, he⟩, hit, Nat.succ_ne_self _, Nat.ne_of_gt (Nat.lt_succ_of_lt la), Nat.ne_of_lt la⟩, fun b hb => ?_, q⟩
  have le : s1.heap.objs.size ≤ b := by
    rcases (by simpa using hb : b = s1.heap.objs.size + 1 ∨ b = s1.heap.objs.size) with z | z
    · rw [z]; exact Nat.le_succ _
    · rw [z]; exact Nat.le_refl _
  exact I1.fpOk le (I1.hok.fresh le)
theorem walk_enumT {K : PySem.W.Frag} {a : Addr} {xs : List V} : Walk (Itet K a) xs.length (fun H => SqT K H a xs) (YPair (fun i => some (.int (i : Nat))) (fun i => xs[i]?)) := by
  refine ⟨fun i _ hi q => ⟨xs, xs[i], q, by simp [hi]⟩, fun _ q => ⟨xs, q, rfl⟩, fun i H v H' _ q y => ?_⟩
  obtain ⟨T, x, h1, h2, h3, h4⟩ := y
  exact ⟨T, .int (i : Nat), x, h1, h2, h3, rfl, h4 xs q⟩
end KR

set_option Elab.async false
set_option linter.all false
set_option maxRecDepth 100000
set_option maxHeartbeats 4000000
/-! Rules: the item of a list under an augmented store; a dict brought up to date from another one. -/
namespace KR
open PySem PySem.Spec L2
open PyProof.Rows hiding St
section
variable {X : Cx}
def rGetL : V → V → Hp → VK → Prop := fun o i H Q => ∃ p xs k z, o = .ref p ∧ i = .int k ∧ H p = some (.lst xs) ∧ 0 ≤ k ∧ xs[k.toNat]? = some z ∧ Q z H
theorem get_list : PGet X rGetL := by
  intro pins s σ H o i ov iv Q I ro ri h
  obtain ⟨p, xs, k, z, rfl, rfl, hp, h0, hx, q⟩ := h
  cases ro
  obtain ⟨t, rfl⟩ := ri
  obtain ⟨its, r, pl, hz⟩ := I.list (SqL.of hp)
  obtain ⟨w, ew, rw'⟩ := r.get hx
  have hl := r.length
  have hn := line63
  have lt := (List.getElem?_eq_some_iff.mp hx).1
  refine wpAny_getItem_list pl.isList h0 ?_ (by simpa using ew) ⟨z, H, I, rw', q⟩
  omega
/-- d.update(e), two dicts -/
def tDUpd (td ty : TE) : TE := fun σ H Q => td σ H fun x H1 => ∃ a, x = .ref a ∧ IsD H1 a ∧ ty σ H1 fun y H2 => ∃ b kvs more, y = .ref b ∧ H2 a = some (.dK kvs) ∧ H2 b = some (.dK more) ∧ a ≠ b ∧ kvs.length + more.length ≤ sizeLine ∧ Q .non (upd H2 a (.dK (mergeK kvs more)))
variable {o e : Expr} {td ty : TE} {apos cpos : Pos}
theorem pe_dupd (ho : PE X o td) (he : PE X e ty) (m : M1 X o "update" apos e cpos) : PE X (.Call (.Attribute o "update" apos) [e] [] cpos) (tDUpd td ty) := by
  refine ⟨fun pins s σ H Q I h => ?_⟩
  refine wpAny_Call_method m.base m.few m.line PySem.F.plainAttrs_dict PySem.F.slot_dict_update PySem.F.type_dict_update (thn (ho.run pins s σ H _ I h) fun u s1 ⟨x, H1, I1, rx, a, ex, d, q1⟩ => ?_)
  subst ex
  obtain rfl : u = Value.ref a := rx
  obtain ⟨t1, t2, _⟩ := isD_at I1 d
  refine ⟨t1, t2, ?_⟩
  rw [m.trees]
  refine Calls.callWith_builtin rfl (Calls.evalArgs_plain (Calls.spliced_cons (thn (he.run pins s1 σ H1 _ I1 q1) fun iv s2 ⟨y, H2, I2, ry, b, kvs, more, ey, ea, eb, ne, sz, q2⟩ => Calls.spliced_nil ?_)))
  subst ey
  obtain rfl : iv = Value.ref b := ry
  obtain ⟨za, hda, vs, rel, dd⟩ := dk_of I2.hok ea
  obtain ⟨zb, hdb, ws, rel2, dd2⟩ := dk_of I2.hok eb
  refine call_meetsIn PySem.F.slot_dict_update dd.typeIs PySem.F.entry_dict_update (PySem.F.args_dict_update_2 _ _) (meets_dict_update (mixKind X.prog X.w) a b ne hdb)
    ⟨vs, ws, dd, dd2, by rw [← rel.length, ← rel2.length]; exact sz, fun h' dd' _ hs => ⟨.non, _, ?_, rfl, q2⟩⟩
  have he : ∃ q, h'.get? a = some q := let ⟨q, _, _, hq, _⟩ := dd'; ⟨q, hq⟩
  exact d_write I2 (by rw [ea]; exact True.intro) hs he (dk_new (Nat.le_trans (length_mergeK more kvs) sz) hda (KV.merge rel2 rel) dd')
end
end KR

set_option Elab.async false
set_option linter.all false
set_option maxRecDepth 100000
set_option maxHeartbeats 4000000
/-! Tuples that are known to the last field: locked as they were made. -/
namespace KR
open PySem PySem.Spec L2
open PyProof.Rows hiding St
abbrev tobj (us : List Value) : Obj := { cls := .type "tuple", data := .seq us.toArray }
/-- at a stands a tuple of xs, made by a display's rule or another one of this file -/
def TupX (H : Hp) (a : Addr) (xs : List V) : Prop := ∃ us, H a = some (.frz (tobj us) (.tup xs))
theorem TupX.rd {H : Hp} {a : Addr} {xs : List V} (t : TupX H a xs) : Rd H a (.tup xs) := let ⟨us, e⟩ := t; .inr ⟨_, e⟩
theorem TupX.sq {K : PySem.W.Frag} {H : Hp} {a : Addr} {xs : List V} (t : TupX H a xs) : SqT K H a xs := .inl t.rd
theorem TupX.inj {H : Hp} {a : Addr} {xs ys : List V} (t : TupX H a xs) (u : TupX H a ys) : xs = ys := by
  obtain ⟨us, e⟩ := t
  obtain ⟨vs, e'⟩ := u
  rw [e] at e'
  cases e'
  rfl
theorem TupX.of {H : Hp} {a : Addr} {us : List Value} {xs : List V} : TupX (upd H a (.frz (tobj us) (.tup xs))) a xs := ⟨us, upd_same⟩
theorem TupX.same {H H' : Hp} {a : Addr} {xs : List V} (t : TupX H a xs) (s : Same H H') : TupX H' a xs := let ⟨us, e⟩ := t; ⟨us, s _ _ e⟩
section
variable {X : Cx} {pins : List (Addr × Obj)} {σ : L2.St} {H : Hp} {s : Shared}
theorem frz_ok {P : Program} {w : World} {H : Hp} {h : Heap} {a : Addr} {us : List Value} {xs : List V} (e : h.get? a = some (tobj us)) (r : Vals xs us) (z : xs.length ≤ sizeLine) : ObjOk P w H h a (.frz (tobj us) (.tup xs)) :=
  ⟨e, z, us, r, ⟨_, e, rfl, _, rfl⟩⟩
/-- tuple(l) -/
def rTupF (K : PySem.W.Frag) : List V → Hp → VK → Prop := fun xs H Q => ∃ p ys, xs = [.ref p] ∧ SqL K H p ys ∧ ∀ l us, H l = none → Q (.ref l) (upd H l (.frz (tobj us) (.tup ys)))
theorem call_tupF : CallR X (.type "tuple") (rTupF X.K) := by
  intro pins s σ H xs us Q I r h
  obtain ⟨p, ys, rfl, hq, q⟩ := h
  rw [Vals.ref1 r]
  obtain ⟨its, rv, pl, hz⟩ := I.list hq
  have len := rv.length
  refine call_tuple_list pl.isList (fun h' kp => ?_) (by simp only [List.size_toArray] <;> omega)
  have I1 : Inv X pins σ H { s with heap := h' } := I.kept (t' := s.toks) kp
  exact ⟨.ref h'.objs.size, _, I1.laid (t' := s.toks) (fun b o e => Heap.get?_push_of_some _ e) (Nat.le_refl _) (frz_ok (us := its) (Heap.get?_push_size _ rfl) rv hz), rfl, q _ its (I1.hok.fresh (Nat.le_refl _))⟩
/-- t[i:j] -/
def rSlF (K : PySem.W.Frag) : V → Option Int → Option Int → Hp → VK → Prop := fun x lo hi H Q => ∃ a xs, x = .ref a ∧ SqT K H a xs ∧
  (HT.sIx xs.length 0 lo = 0 ∧ HT.sIx xs.length xs.length hi = xs.length → Q (.ref a) H) ∧
  (¬ (HT.sIx xs.length 0 lo = 0 ∧ HT.sIx xs.length xs.length hi = xs.length) → ∀ p us, H p = none → Q (.ref p) (upd H p (.frz (tobj us) (.tup (cutV xs lo hi)))))
theorem sl_tupF : SlR X (rSlF X.K) := by
  intro pins s σ H x v vl vu lo hi sl Q I rx hs pl pu h
  obtain ⟨a, xs, rfl, hx, q1, q2⟩ := h
  cases rx
  obtain ⟨its, r, ht, hz⟩ := I.tuple hx
  have len : its.toArray.size = xs.length := by rw [List.size_toArray]; exact r.length.symm
  refine ⟨"tuple", _, PyProof.Rows.slot_tuple_getitem.lookup, ht.typeIs, ?_⟩
  by_cases hw : HT.sIx xs.length 0 lo = 0 ∧ HT.sIx xs.length xs.length hi = xs.length
  · exact getItem_tuple_whole ht hs pl pu (by rw [len]; exact hw) ⟨.ref a, H, I, rfl, q1 hw⟩
  · refine HT.getItem_tuple_cut ht hs pl pu (by rw [len]; exact hw) ?_ (by rw [len]; exact hz)
    rw [len]
    refine ⟨.ref s.heap.objs.size, _, I.laid (t' := s.toks) (fun b ob e => Heap.get?_push_of_some _ e) (Nat.le_refl _) (frz_ok (us := (its.drop (HT.sIx xs.length 0 lo)).take (HT.sIx xs.length xs.length hi - HT.sIx xs.length 0 lo)) (Heap.get?_push_size _ rfl) ?_ (Nat.le_trans (cutV_length xs lo hi) hz)), rfl,
      q2 hw _ _ (I.hok.fresh (Nat.le_refl _))⟩
    exact (r.drop (HT.sIx xs.length 0 lo)).take (HT.sIx xs.length xs.length hi - HT.sIx xs.length 0 lo)
/-- t + u -/
def rCatF (K : PySem.W.Frag) : R2 := fun x y H Q => ∃ a b xs ys, x = .ref a ∧ y = .ref b ∧ SqT K H a xs ∧ SqT K H b ys ∧ xs.length + ys.length ≤ sizeLine ∧
  (xs = [] → Q (.ref b) H) ∧ (xs ≠ [] → ys = [] → Q (.ref a) H) ∧ (xs ≠ [] → ys ≠ [] → ∀ p us, H p = none → Q (.ref p) (upd H p (.frz (tobj us) (.tup (xs ++ ys)))))
theorem op_catF : OpR X (binaryOp .Add) (rCatF X.K) := by
  intro pins s σ H x y v u Q I rx ry h
  obtain ⟨a, b, xs, ys, rfl, rfl, ha, hb, hz, q0, q1, q2⟩ := h
  cases rx
  cases ry
  obtain ⟨its, r1, p1, _⟩ := I.tuple ha
  obtain ⟨its2, r2, p2, _⟩ := I.tuple hb
  by_cases hx : xs = []
  · subst hx
    cases r1
    exact cat_tup0 p1 p2 ⟨.ref b, H, I, rfl, q0 rfl⟩
  · refine HT.cat_tup p1 p2 (fun z => hx (r1.nil_iff.mp z)) (fun z => ⟨.ref a, H, I, rfl, q1 hx (r2.nil_iff.mp z)⟩) (fun z => ?_) (by rw [← r1.length, ← r2.length]; exact hz)
    exact ⟨.ref s.heap.objs.size, _, I.laid (t' := s.toks) (fun b ob e => Heap.get?_push_of_some _ e) (Nat.le_refl _) (frz_ok (us := its ++ its2) (Heap.get?_push_size _ rfl) (r1.append r2) (by rw [List.length_append]; exact hz)), rfl,
      q2 hx (fun w => z (r2.nil_iff.mpr w)) _ _ (I.hok.fresh (Nat.le_refl _))⟩
/-- t[::-1] -/
def tRevF (K : PySem.W.Frag) (te : TE) : TE := fun σ H Q => te σ H fun x H1 => ∃ a xs, x = .ref a ∧ SqT K H1 a xs ∧ ∀ p us, H1 p = none → Q (.ref p) (upd H1 p (.frz (tobj us) (.tup xs.reverse)))
theorem pe_revF {e : Expr} {te : TE} {k : Nat} {p1 p2 p3 pos : Pos} (he : PE X e te) : PE X (.Subscript e (.Slice none none (some (.UnaryOp .USub (.Constant (.int 1) k p1) p2)) p3) pos) (tRevF X.K te) := by
  refine ⟨fun pins s σ H Q I h => Subscript_ (thn (he.run pins s σ H _ I h) fun v s1 ⟨x, H1, I1, r1, a, xs, ex, hx, q⟩ => ?_)⟩
  subst ex
  cases r1
  have step : PO X (some (.UnaryOp .USub (.Constant (.int 1) k p1) p2)) (tPart (tUn (rU fun i => .int (-i)) (tC (.int 1)))) := po_some (pe_un un_neg pe_int)
  refine wpAny_Slice (thn (po_none.run pins s1 σ H1 (fun o J => o = none ∧ J = H1) I1 ⟨rfl, rfl⟩) fun vl s2 ⟨l, H2, I2, pl, el, e2⟩ => ?_)
  subst el e2
  refine thn (po_none.run pins s2 σ H2 (fun o J => o = none ∧ J = H2) I2 ⟨rfl, rfl⟩) fun vu s3 ⟨u, H3, I3, pu, eu, e3⟩ => ?_
  subst eu e3
  refine thn (step.run pins s3 σ H3 (fun o J => o = some (-1) ∧ J = H3) I3 ⟨1, rfl, -1, rfl, rfl, rfl⟩) fun vs s4 ⟨o, H4, I4, ps, eo, e4⟩ => ?_
  subst eo e4
  have I5 : Inv X pins σ H4 { s4 with heap := s4.heap.push { cls := .type "slice", data := .fields #[vl, vu, vs] } } := I4.kept (t' := s4.toks) fun b ob z => Heap.get?_push_of_some _ z
  obtain ⟨its, r, tp, hz⟩ := I5.tuple hx
  cases pl
  cases pu
  show wpAny (model X.prog X.w) X.A (subscriptTail e (.Slice none none (some (.UnaryOp .USub (.Constant (.int 1) k p1) p2)) p3) (.ref a) (.ref s4.heap.objs.size)) (EP X pins σ Q) X.xe { s4 with heap := s4.heap.push { cls := .type "slice", data := .fields #[.none, .none, vs] } }
  refine tail_any (ops := [.ref a, .ref s4.heap.objs.size]) tp.typeIs (PyProof.Rows.slot_tuple_getitem.lookup) ?_ (by with_unfolding_all rfl)
  refine back_tup tp (Heap.IsSliceOf.new _ .none .none vs) ps (by rw [List.size_toArray, ← r.length]; exact hz) ?_
  exact ⟨.ref _, _, I5.laid (t' := s4.toks) (fun b ob z => Heap.get?_push_of_some _ z) (Nat.le_refl _) (frz_ok (us := its.reverse) (Heap.get?_push_size _ rfl) r.reverse (by rw [List.length_reverse]; exact hz)), rfl, q _ _ (I5.hok.fresh (Nat.le_refl _))⟩
/-- t.index(k), t locked -/
def tTIx (to : TE) (t : TA) : TE := fun σ H Q => to σ H fun x H1 => (∃ a xs, x = .ref a ∧ TupX H1 a xs) ∧ t σ H1 fun xs H2 => ∃ (a : Addr) (ns : List Int) (k : Int), x = .ref a ∧ xs = [.int k] ∧ TupX H2 a (ns.map V.int) ∧ k ∈ ns ∧ Q (.int (ns.idxOf k : Nat)) H2
variable {o e : Expr} {es : List Expr} {to : TE} {t : TA} {apos cpos : Pos}
theorem pe_tindex (ho : PE X o to) (ha : PA X (e :: es) t)
    (hbase : attributeBase o "index" X.env (eval o X.env) = eval o X.env := by rfl)
    (hfew : ((backTo cpos (starEach (e :: es) X.env)).all (fun x => !x.1) && (backToKw cpos (keywordEach [] X.env)).all (fun x => x.1.isSome)
      && decide ((e :: es).length + ([] : List Keyword).length + (if ([] : List Keyword).isEmpty then 0 else 1) < 30)) = true := by rfl)
    (hline : (apos.endLine == cpos.line) = true := by rfl) (hs : starEach (e :: es) X.env = (false, eval e X.env) :: starEach es X.env := by rfl) (hplain : (backTo cpos (starEach es X.env)).any (·.1) = false := by rfl) :
    PE X (.Call (.Attribute o "index" apos) (e :: es) [] cpos) (tTIx to t) := by
  refine ⟨fun pins s σ H Q I h => wpAny_Call_method_late hbase hfew hline rfl (thn (ho.run pins s σ H _ I h) fun v s1 ⟨x, H1, I1, r1, ⟨a, xs, ex, us, ha1⟩, q1⟩ => ?_)⟩
  subst ex
  cases r1
  obtain ⟨at1, _, _⟩ := I1.hok _ _ ha1
  refine ⟨"tuple", "tuple.index", PySem.F.plainAttrs_tuple, PySem.F.slot_tuple_index, PySem.F.type_tuple_index, ⟨_, at1, rfl⟩, fun b eb => ?_, ?_⟩
  · cases eb
    exact ⟨_, at1, rfl⟩
  · have hA := ha.run cpos pins s1 σ H1 _ I1 q1
    rw [hs] at hA ⊢
    refine Calls.callWith_builtin (by show (false || (backTo cpos (starEach es X.env)).any (·.1)) = false; rw [hplain] <;> rfl) (Calls.evalArgs_plain ?_)
    refine thn hA fun ws s2 ⟨vs, H2, I2, r2, a', ns, k, ea, ev, tx, hk, q2⟩ => ?_
    cases ea
    exact mt_tindex pins s2 σ H2 (.ref a) vs (.ref a) ws Q I2 rfl r2 ⟨a, ns, k, rfl, ev, tx.sq, hk, q2⟩
end
end KR

set_option Elab.async false
set_option linter.all false
set_option maxRecDepth 100000
set_option maxHeartbeats 4000000
/-! Data of any depth over the tracked heap, dicts among them; their texts by repr. -/
namespace K0
open PySem PySem.Spec PyProof.Rows L2
open KR (TupX)

def kD : Key → PyData
  | .inl i => .int i
  | .inr x => .str x
/-- a tuple stands at a: tracked, or known whole -/
def TT (H : Hp) (a : Addr) (xs : List V) : Prop := H a = some (.tup xs) ∨ TupX H a xs
theorem TT.rd {H : Hp} {a : Addr} {xs : List V} (t : TT H a xs) : Rd H a (.tup xs) := t.elim .inl TupX.rd
theorem TT.sq {K : PySem.W.Frag} {H : Hp} {a : Addr} {xs : List V} (t : TT H a xs) : SqT K H a xs := .inl t.rd
theorem TT.at {H : Hp} {a : Addr} {xs : List V} (t : TT H a xs) : ∃ o, H a = some o := t.elim (fun e => ⟨_, e⟩) fun ⟨_, e⟩ => ⟨_, e⟩
theorem TT.keep {H H' : Hp} {a : Addr} {xs : List V} (t : TT H a xs) (s : ∀ o, H a = some o → H' a = some o) : TT H' a xs := t.elim (fun e => .inl (s _ e)) fun ⟨us, e⟩ => .inr ⟨us, s _ e⟩
/-- v is the datum d in H, all its objects such as T says -/
inductive DV (H : Hp) (T : Addr → Prop) : V → PyData → Prop
  | non : DV H T .non .none
  | bl (b : Bool) : DV H T (.bl b) (.bool b)
  | int (i : Int) : DV H T (.int i) (.int i)
  | str (x : Str) : DV H T (.str x) (.str x)
  | lst {a : Addr} {xs : List V} {ds : List PyData} (t : T a) (e : H a = some (.lst xs)) (l : xs.length = ds.length) (h : ∀ (i : Nat) (v : V) (d : PyData), xs[i]? = some v → ds[i]? = some d → DV H T v d) : DV H T (.ref a) (.list ds)
  | tup {a : Addr} {xs : List V} {ds : List PyData} (t : T a) (e : TT H a xs) (l : xs.length = ds.length) (h : ∀ (i : Nat) (v : V) (d : PyData), xs[i]? = some v → ds[i]? = some d → DV H T v d) : DV H T (.ref a) (.tuple ds)
  | dct {a : Addr} {kvs : List (Key × V)} {ds : List PyData} (t : T a) (e : H a = some (.dK kvs)) (l : kvs.length = ds.length) (h : ∀ (i : Nat) (v : V) (d : PyData), (kvs.map (·.2))[i]? = some v → ds[i]? = some d → DV H T v d) :
      DV H T (.ref a) (.dict ((kvs.map fun p => kD p.1).zip ds))
theorem DV.mono {H H' : Hp} {T T' : Addr → Prop} {v : V} {d : PyData} (h : DV H T v d) (s : ∀ a o, T a → H a = some o → T' a ∧ H' a = some o) : DV H' T' v d := by
  induction h with
  | non => exact .non
  | bl b => exact .bl b
  | int i => exact .int i
  | str x => exact .str x
  | lst t e l _ ih => exact .lst (s _ _ t e).1 (s _ _ t e).2 l ih
  | tup t e l _ ih => let ⟨_, h⟩ := e.at; exact .tup (s _ _ t h).1 (e.keep fun o q => (s _ _ t q).2) l ih
  | dct t e l _ ih => exact .dct (s _ _ t e).1 (s _ _ t e).2 l ih
/-- anywhere -/
abbrev Any : Addr → Prop := fun _ => True
theorem DV.any {H : Hp} {T : Addr → Prop} {v : V} {d : PyData} (h : DV H T v d) : DV H Any v d := h.mono fun _ _ _ e => ⟨trivial, e⟩
theorem DV.same {H H' : Hp} {T : Addr → Prop} {v : V} {d : PyData} (h : DV H T v d) (s : Same H H') : DV H' T v d := h.mono fun a o t e => ⟨t, s a o e⟩

/-- items of one kind, point by point -/
theorem readsAll_of {h : Heap} {T : Addr → Prop} : ∀ {xs : List V} {us : List Value} {ds : List PyData}, Vals xs us → xs.length = ds.length →
    (∀ (i : Nat) (v : V) (d : PyData) (u : Value), xs[i]? = some v → ds[i]? = some d → RelV v u → ∃ as, Reads h u d as ∧ ∀ a ∈ as, T a) → ∃ as, ReadsAll h us ds as ∧ ∀ a ∈ as, T a
  | _, _, [], .nil, _, _ => ⟨[], .nil, fun _ z => nomatch z⟩
  | _, _, _ :: _, .nil, l, _ => nomatch l
  | _, _, [], .cons _ _, l, _ => nomatch l
  | _, _, d :: ds, .cons r t, l, f => by
    obtain ⟨as, h1, t1⟩ := f 0 _ _ _ rfl rfl r
    obtain ⟨bs, h2, t2⟩ := readsAll_of (ds := ds) t (Nat.succ.inj l) fun i v e u e1 e2 r' => f (i + 1) v e u (by simpa using e1) (by simpa using e2) r'
    exact ⟨as ++ bs, .cons h1 h2, fun a z => (List.mem_append.mp z).elim (t1 a) (t2 a)⟩

theorem keys_reads {P : Program} {w : World} {h : Heap} {T : Addr → Prop} : ∀ {es : List DictEntry} {vs : List (Key × Value)}, Pairs (mixKind P w) es vs → ∃ as, ReadsAll h (es.map (·.key)) (vs.map fun p => kD p.1) as ∧ ∀ a ∈ as, T a
  | _, _, .nil => ⟨[], .nil, fun _ z => nomatch z⟩
  | _, _, .cons (e := e) (kv := kv) k _ t => by
    obtain ⟨bs, h2, t2⟩ := keys_reads (h := h) (T := T) t
    rcases keyIs_shape (show keyIs kv.1 e.key = true from k) with ⟨i, tk, e1, e2⟩ | ⟨x, tk, e1, e2⟩
    · refine ⟨[] ++ bs, ?_, fun a z => t2 a (by simpa using z)⟩
      show ReadsAll h (e.key :: _) (kD kv.1 :: _) _
      rw [e1, e2]
      exact .cons (.int i tk) h2
    · refine ⟨[] ++ bs, ?_, fun a z => t2 a (by simpa using z)⟩
      show ReadsAll h (e.key :: _) (kD kv.1 :: _) _
      rw [e1, e2]
      exact .cons (.str x tk) h2
theorem vals_of_pairs {P : Program} {w : World} : ∀ {es : List DictEntry} {vs : List (Key × Value)}, Pairs (mixKind P w) es vs → es.map (·.val) = vs.map (·.2)
  | _, _, .nil => rfl
  | _, _, .cons _ e t => by rw [List.map_cons, List.map_cons, e, vals_of_pairs t]
theorem kv_keys : ∀ {kvs : List (Key × V)} {vs : List (Key × Value)}, KV kvs vs → (vs.map fun p => kD p.1) = kvs.map fun p => kD p.1
  | _, _, .nil => rfl
  | _, _, .cons r t => by rw [List.map_cons, List.map_cons, r.1, kv_keys t]
theorem kv_vals : ∀ {kvs : List (Key × V)} {vs : List (Key × Value)}, KV kvs vs → Vals (kvs.map (·.2)) (vs.map (·.2))
  | _, _, .nil => .nil
  | _, _, .cons r t => .cons r.2 (kv_vals t)

theorem DV.reads {P : Program} {w : World} {H : Hp} {h : Heap} (ok : HOk P w H h) {T : Addr → Prop} {v : V} {d : PyData} (D : DV H T v d) : ∀ {u : Value}, RelV v u → ∃ as, Reads h u d as ∧ ∀ a ∈ as, ∃ o, H a = some o := by
  induction D with
  | non => intro u r; cases r; exact ⟨_, .none, fun _ z => nomatch z⟩
  | bl b => intro u r; cases r; exact ⟨_, .bool b, fun _ z => nomatch z⟩
  | int i => intro u r; obtain ⟨t, rfl⟩ := r; exact ⟨_, .int i t, fun _ z => nomatch z⟩
  | str x => intro u r; obtain ⟨t, rfl⟩ := r; exact ⟨_, .str x t, fun _ z => nomatch z⟩
  | lst _ e l _ ih =>
    intro u r
    cases r
    obtain ⟨_, its, n, rv, he⟩ := ok _ _ e
    obtain ⟨as, h1, t1⟩ := readsAll_of rv l fun i v d u e1 e2 r' => ih i v d e1 e2 r'
    refine ⟨_, .list he rfl rfl (by simpa using h1), fun a z => ?_⟩
    rcases List.mem_cons.mp z with rfl | z
    · exact ⟨_, e⟩
    · exact t1 a z
  | tup _ e l _ ih =>
    intro u r
    cases r
    obtain ⟨_, its, rv, o, h1, h2, n, h3⟩ := e.rd.ok ok
    obtain ⟨as, g1, t1⟩ := readsAll_of rv l fun i v d u e1 e2 r' => ih i v d e1 e2 r'
    exact ⟨as, .tuple h1 h2 h3 (by simpa using g1), t1⟩
  | @dct a kvs ds _ e l _ ih =>
    intro u r
    cases r
    obtain ⟨_, _, vs, rv, o, es, ep, h1, h2, h3, _, h5, _⟩ := ok _ _ e
    obtain ⟨as, k1, t1⟩ := keys_reads (h := h) (T := fun a => ∃ o, H a = some o) h5
    obtain ⟨bs, v1, t2⟩ := readsAll_of (h := h) (T := fun a => ∃ o, H a = some o) (ds := ds) (kv_vals rv) (by rw [List.length_map]; exact l) fun i v d u e1 e2 r' => ih i v d e1 e2 r'
    rw [kv_keys rv] at k1
    rw [← vals_of_pairs h5] at v1
    have z1 : (((kvs.map fun p => kD p.1).zip ds).map (·.1)) = kvs.map fun p => kD p.1 := List.map_fst_zip (by rw [List.length_map]; omega)
    have z2 : (((kvs.map fun p => kD p.1).zip ds).map (·.2)) = ds := List.map_snd_zip (by rw [List.length_map]; omega)
    refine ⟨_, .dict h1 h2.1 h3 (by rw [z1]; exact k1) (by rw [z2]; exact v1), fun c z => ?_⟩
    rcases List.mem_append.mp z with z | z
    · rcases List.mem_cons.mp z with rfl | z
      · exact ⟨_, e⟩
      · exact t1 c z
    · exact t2 c z

/-- what repr can tell -/
structure Fit (d : PyData) : Prop where
  sh : d.showable = true
  dp : d.depth ≤ 60
  sz : d.shown.length ≤ sizeLine

/-! ### repr: the texts of tracked data, item by item. The looks at a dict want to know that it isn't the modules' own: a tracked dict says so itself -/
section
variable {P : Program} {w : World} {H : Hp} {h : Heap}
/-- the text of one datum may be asked -/
abbrev Tells (P : Program) (w : World) (h : Heap) (u : Value) (d : PyData) : Prop := ∃ bs, ReadAtMost h d.depth bs ∧ ReprK P w bs h d.depth u d.shown
theorem tells_all : ∀ {xs : List V} {us : List Value} {ds : List PyData}, Vals xs us → xs.length = ds.length → PyData.showableAll ds = true → (∀ t ∈ PyData.shownAll ds, t.length ≤ sizeLine) →
    (∀ (i : Nat) (v : V) (d : PyData) (u : Value), xs[i]? = some v → ds[i]? = some d → RelV v u → d.showable = true → d.shown.length ≤ sizeLine → Tells P w h u d) →
    ∃ bs, ReadAtMost h (PyData.depthAll ds) bs ∧ ReprAllK P w bs h (PyData.depthAll ds) us (PyData.shownAll ds)
  | _, _, [], .nil, _, _, _, _ => ⟨[], (fun _ z => nomatch z), by simp only [PyData.shownAll]; exact .nil⟩
  | _, _, _ :: _, .nil, l, _, _, _ => nomatch l
  | _, _, [], .cons _ _, l, _, _, _ => nomatch l
  | _, _, d :: ds, .cons r t, l, hs, hz, f => by
    simp only [PyData.showableAll, Bool.and_eq_true] at hs
    simp only [PyData.shownAll, List.mem_cons] at hz
    obtain ⟨b1, q1, k1⟩ := f 0 _ _ _ rfl rfl r hs.1 (hz _ (.inl rfl))
    obtain ⟨b2, q2, k2⟩ := tells_all (ds := ds) t (Nat.succ.inj l) hs.2 (fun t z => hz t (.inr z)) fun i v e u e1 e2 => f (i + 1) v e u (by simpa using e1) (by simpa using e2)
    have m1 : d.depth ≤ PyData.depthAll (d :: ds) := by simp only [PyData.depthAll]; omega
    have m2 : PyData.depthAll ds ≤ PyData.depthAll (d :: ds) := by simp only [PyData.depthAll]; omega
    refine ⟨b1 ++ b2, (q1.mono m1).append (q2.mono m2), ?_⟩
    simp only [PyData.shownAll]
    exact .cons ((k1.more fun b z => List.mem_append_left _ z).level_le m1) (k2.more_le (fun b z => List.mem_append_right _ z) m2)
/-- the keys of a dict are ints and texts -/
theorem tells_keys {P : Program} {w : World} {h : Heap} : ∀ {es : List DictEntry} {vs : List (Key × Value)}, Pairs (mixKind P w) es vs → PyData.showableAll (vs.map fun p => kD p.1) = true → (∀ t ∈ PyData.shownAll (vs.map fun p => kD p.1), t.length ≤ sizeLine) →
    ReprAllK P w [] h 0 (es.map (·.key)) (PyData.shownAll (vs.map fun p => kD p.1))
  | _, _, .nil, _, _ => by simp only [List.map_nil, PyData.shownAll]; exact .nil
  | _, _, .cons (e := e) (kv := kv) k _ t, hs, hz => by
    simp only [List.map_cons, PyData.showableAll, Bool.and_eq_true] at hs
    simp only [List.map_cons, PyData.shownAll, List.mem_cons] at hz
    have ih := tells_keys (P := P) (w := w) (h := h) t hs.2 fun t z => hz t (.inr z)
    simp only [List.map_cons, PyData.shownAll]
    refine .cons ?_ ih
    rcases keyIs_shape (show keyIs kv.1 e.key = true from k) with ⟨i, tk, e1, e2⟩ | ⟨x, tk, e1, e2⟩
    · have a := hs.1
      rw [e1] at a ⊢
      rw [e2]
      simp only [kD, PyData.shown]
      exact .of_is (ReprIs.int tk (by simpa [kD, PyData.showable] using a)) _ _ _
    · have a := hz _ (.inl rfl)
      rw [e1] at a ⊢
      rw [e2]
      simp only [kD, PyData.shown] at a ⊢
      exact .of_is (ReprIs.str x tk a) _ _ _
theorem DV.tells (ok : HOk P w H h) {T : Addr → Prop} {v : V} {d : PyData} (D : DV H T v d) : ∀ {u : Value}, RelV v u → d.showable = true → d.shown.length ≤ sizeLine → Tells P w h u d := by
  induction D with
  | non => intro u r _ _; cases r; exact ⟨[], (fun _ z => nomatch z), by simp only [PyData.shown]; exact .of_is ReprIs.none _ _ _⟩
  | bl b => intro u r _ _; cases r; exact ⟨[], (fun _ z => nomatch z), by simp only [PyData.shown]; exact .of_is (ReprIs.bool b) _ _ _⟩
  | int i => intro u r hs _; obtain ⟨t, rfl⟩ := r; exact ⟨[], (fun _ z => nomatch z), by simp only [PyData.shown]; exact .of_is (ReprIs.int t (by simpa [PyData.showable] using hs)) _ _ _⟩
  | str x => intro u r _ hz; obtain ⟨t, rfl⟩ := r; exact ⟨[], (fun _ z => nomatch z), by simp only [PyData.shown] at hz ⊢; exact .of_is (ReprIs.str x t hz) _ _ _⟩
  | @lst a xs ds t0 e l g ih =>
    intro u r hs hz
    obtain ⟨as, R, _⟩ := (DV.lst t0 e l g).reads ok r
    cases r
    obtain ⟨_, its, n, rv, he⟩ := ok _ _ e
    simp only [PyData.shown] at hz
    obtain ⟨bs, hb, hk⟩ := tells_all rv l (by simpa [PyData.showable] using hs) (fun t z => Nat.le_trans (listText_mem_le z) hz) fun i v d u e1 e2 r' => ih i v d e1 e2 r'
    have na : a ∉ bs := not_mem_of_deeper R (by simp only [PyData.depth]; omega) hb
    refine ⟨a :: bs, ReadAtMost.cons R (by simp only [PyData.depth]; omega) hb, ?_⟩
    simp only [PyData.depth, PyData.shown]
    cases its with
    | nil =>
      have e0 := hk.length_eq
      cases ds with
      | nil => simp only [PyData.shownAll, listText_nil]; exact ReprK.listEmpty he rfl rfl
      | cons d ds => simp [PyData.shownAll] at e0
    | cons x rest => exact ReprK.list he rfl rfl na (by simpa using hk.length_eq) fun i y z => hk.item i y (by simpa using z)
  | @tup a xs ds t0 e l g ih =>
    intro u r hs hz
    obtain ⟨as, R, _⟩ := (DV.tup t0 e l g).reads ok r
    cases r
    obtain ⟨_, its, rv, o, h1, h2, n, h3⟩ := e.rd.ok ok
    simp only [PyData.shown] at hz
    obtain ⟨bs, hb, hk⟩ := tells_all rv l (by simpa [PyData.showable] using hs) (fun t z => Nat.le_trans (tupleText_mem_le z) hz) fun i v d u e1 e2 r' => ih i v d e1 e2 r'
    have na : a ∉ bs := not_mem_of_deeper R (by simp only [PyData.depth]; omega) hb
    refine ⟨a :: bs, ReadAtMost.cons R (by simp only [PyData.depth]; omega) hb, ?_⟩
    simp only [PyData.depth, PyData.shown]
    exact ReprK.tuple h1 h2 h3 na (by simpa using hk)
  | @dct a kvs ds t0 e l g ih =>
    intro u r hs hz
    obtain ⟨as, R, _⟩ := (DV.dct t0 e l g).reads ok r
    cases r
    obtain ⟨_, lo, vs, rv, o, es, ep, h1, h2, h3, _, h5, _⟩ := ok _ _ e
    simp only [PyData.shown] at hz
    obtain ⟨s1, s2⟩ := PyData.showableKv_split _ (by simpa [PyData.showable] using hs)
    have z1 : (((kvs.map fun p => kD p.1).zip ds).map (·.1)) = kvs.map fun p => kD p.1 := List.map_fst_zip (by rw [List.length_map]; omega)
    have z2 : (((kvs.map fun p => kD p.1).zip ds).map (·.2)) = ds := List.map_snd_zip (by rw [List.length_map]; omega)
    have k1 := tells_keys (P := P) (w := w) (h := h) h5 (by rw [kv_keys rv, ← z1]; exact s1) (fun t z => by
      rw [kv_keys rv, ← z1] at z
      obtain ⟨p, hp, hl⟩ := PyData.shownKv_key_le _ t z
      exact Nat.le_trans hl (Nat.le_trans (dictText_mem_le hp) hz))
    obtain ⟨b2, hb2, k2⟩ := tells_all (P := P) (w := w) (h := h) (ds := ds) (kv_vals rv) (by rw [List.length_map]; exact l) (by rw [← z2]; exact s2) (fun t z => by
      rw [← z2] at z
      obtain ⟨p, hp, hl⟩ := PyData.shownKv_val_le _ t z
      exact Nat.le_trans hl (Nat.le_trans (dictText_mem_le hp) hz)) fun i v d u e1 e2 r' => ih i v d e1 e2 r'
    rw [← vals_of_pairs h5] at k2
    rw [kv_keys rv, ← z1] at k1
    have d2 : PyData.depthAll ds ≤ PyData.depthKv ((kvs.map fun p => kD p.1).zip ds) := by
      have q := PyData.depthAll_vals_le ((kvs.map fun p => kD p.1).zip ds)
      rw [z2] at q
      exact q
    have hb := hb2.mono d2
    have na : a ∉ b2 := not_mem_of_deeper R (by simp only [PyData.depth]; omega) hb
    refine ⟨a :: b2, ReadAtMost.cons R (by simp only [PyData.depth]; omega) hb, ?_⟩
    simp only [PyData.depth, PyData.shown, PyData.shownKv_eq]
    rw [z2]
    exact ReprK.dict h1 h2.1 h3 lo na (ReprEntriesK.of_two es.toList _ _ (k1.more_le (fun b z => absurd z List.not_mem_nil) (Nat.zero_le _)) (k2.more_le (fun b z => z) d2))
end

/-- repr(x), x a list, a tuple or a dict -/
def rRepr : List V → Hp → VK → Prop := fun xs H Q => ∃ a d, xs = [.ref a] ∧ DV H Any (.ref a) d ∧ Fit d ∧ (∀ kvs, d ≠ .dict kvs) ∧ Q (.str d.shown) H
theorem call_repr {X : Cx} (hg : X.A.guards = some []) (hu : X.A.units + 64 < cLine) : CallR X (.builtin "repr") rRepr := by
  intro pins s σ H xs us Q I r h
  obtain ⟨a, d, rfl, D, F, nd, q⟩ := h
  obtain ⟨u, rfl, ru⟩ := vals1 r
  cases ru
  have fin : ∀ (h' : Heap) (u : Tok) (tk : Nat), (∀ b o, s.heap.get? b = some o → h'.get? b = some o) → EP X pins σ Q (.str d.shown u) { s with heap := h', toks := tk } := fun h' u tk k => ⟨.str d.shown, H, I.kept (t' := tk) k, ⟨u, rfl⟩, q⟩
  have hF := F.sz
  have hS := F.sh
  have hD := F.dp
  cases D with
  | @lst _ xs ds t0 e l g =>
    obtain ⟨as, R, _⟩ := (DV.lst t0 e l g).reads I.hok rfl
    obtain ⟨_, its, n, rv, he⟩ := I.hok _ _ e
    simp only [PyData.shown] at hF fin
    obtain ⟨bs, hb, hk⟩ := tells_all (P := X.prog) (w := X.w) (h := s.heap) rv l (by simpa [PyData.showable] using hS) (fun t z => Nat.le_trans (listText_mem_le z) hF) fun i v d u e1 e2 r' => (g i v d e1 e2).tells I.hok r'
    have na : a ∉ bs := not_mem_of_deeper R (by simp only [PyData.depth]; omega) hb
    simp only [PyData.depth] at hD
    refine call_repr_slot (by omega) ⟨_, he, rfl⟩ PySem.F.slot_list_repr.toG ?_
    cases its with
    | nil =>
      have e0 := hk.length_eq
      cases ds with
      | nil =>
        simp only [PyData.shownAll, listText_nil] at fin
        exact call_list_repr_empty ⟨_, he, rfl⟩ he rfl ⟨_, _, rfl, fin s.heap _ _ fun _ _ z => z⟩
      | cons d ds => simp [PyData.shownAll] at e0
    | cons x rest => exact call_list_reprK he rfl rfl na (by simpa using hk.length_eq) (fun i y z => hk.item i y (by simpa using z)) hg (fun b _ => Clear.nil b) (by show X.A.units + 1 + _ < cLine; omega) (fun _ _ z => z) (fun h' u tk k => ⟨_, _, rfl, fin h' u tk k⟩) hF
  | @tup _ xs ds t0 e l g =>
    obtain ⟨as, R, _⟩ := (DV.tup t0 e l g).reads I.hok rfl
    obtain ⟨_, its, rv, o, h1, h2, n, h3⟩ := e.rd.ok I.hok
    simp only [PyData.shown] at hF fin
    obtain ⟨bs, hb, hk⟩ := tells_all (P := X.prog) (w := X.w) (h := s.heap) rv l (by simpa [PyData.showable] using hS) (fun t z => Nat.le_trans (tupleText_mem_le z) hF) fun i v d u e1 e2 r' => (g i v d e1 e2).tells I.hok r'
    have na : a ∉ bs := not_mem_of_deeper R (by simp only [PyData.depth]; omega) hb
    simp only [PyData.depth] at hD
    refine call_repr_slot (by omega) ⟨_, h1, h2⟩ PySem.F.slot_tuple_repr ?_
    exact call_tuple_reprK h1 h2 h3 na (by simpa using hk) hg (fun b _ => Clear.nil b) (by show X.A.units + 1 + _ < cLine; omega) (fun _ _ z => z) (fun h' u tk k => ⟨_, _, rfl, fin h' u tk k⟩) hF
  | @dct _ kvs ds t0 e l g => exact absurd rfl (nd _)

/-! ### the sizes -/
/-- how much the data of one depth may hold -/
def bb : Nat → Nat
  | 0 => 20
  | k + 1 => 4 * bb k
theorem bb_le (k : Nat) : 20 ≤ bb k := by
  induction k with
  | zero => exact Nat.le_refl _
  | succ k ih => show 20 ≤ 4 * bb k; omega
/- no tuple, in tuples, is long -/
mutual
def slimD : PyData → Bool
  | .tuple ds => decide (ds.length ≤ 60) && slimAll ds
  | _ => true
def slimAll : List PyData → Bool
  | [] => true
  | d :: ds => slimD d && slimAll ds
end
theorem slim_mem {d : PyData} : ∀ {ds : List PyData}, slimAll ds = true → d ∈ ds → slimD d = true
  | [], _, h => nomatch h
  | e :: ds, s, h => by
    simp only [slimAll, Bool.and_eq_true] at s
    rcases List.mem_cons.mp h with rfl | h
    · exact s.1
    · exact slim_mem s.2 h
structure Tame (k : Nat) (d : PyData) : Prop where
  sh : d.showable = true
  lv : d.leavesShort 200 = true
  dp : d.depth ≤ 2 * k + 2
  bk : d.bulk ≤ bb k
  sl : slimD d = true
theorem Tame.up {k : Nat} {d : PyData} (t : Tame k d) : Tame (k + 1) d := ⟨t.sh, t.lv, by have := t.dp; omega, by have := t.bk; have := bb_le k; show _ ≤ 4 * bb k; omega, t.sl⟩

theorem all_of {k : Nat} : ∀ {ds : List PyData}, (∀ d ∈ ds, Tame k d) → PyData.showableAll ds = true ∧ PyData.leavesShortAll 200 ds = true ∧ PyData.depthAll ds ≤ 2 * k + 2 ∧ PyData.bulkAll ds ≤ ds.length * (bb k + 1)
  | [], _ => ⟨by simp only [PyData.showableAll], by simp only [PyData.leavesShortAll], by simp only [PyData.depthAll]; omega, by simp only [PyData.bulkAll]; omega⟩
  | d :: ds, h => by
    obtain ⟨h1, h2, h3, h4⟩ := all_of (ds := ds) fun e z => h e (List.mem_cons_of_mem _ z)
    have t := h d (List.mem_cons_self ..)
    refine ⟨by simp only [PyData.showableAll, t.sh, h1, Bool.and_self], by simp only [PyData.leavesShortAll, t.lv, h2, Bool.and_self], ?_, ?_⟩
    · have := t.dp
      simp only [PyData.depthAll]
      omega
    · have := t.bk
      simp only [PyData.bulkAll, List.length_cons, Nat.add_mul, Nat.one_mul]
      omega
theorem slim_of {k : Nat} : ∀ {ds : List PyData}, (∀ d ∈ ds, Tame k d) → slimAll ds = true
  | [], _ => by simp only [slimAll]
  | d :: ds, h => by simp only [slimAll, (h d (List.mem_cons_self ..)).sl, slim_of fun e z => h e (List.mem_cons_of_mem _ z), Bool.and_self]
theorem slim_ints : ∀ ns : List Int, slimAll (ns.map PyData.int) = true
  | [] => by simp only [List.map_nil, slimAll]
  | i :: ns => by simp only [List.map_cons, slimAll, slimD, slim_ints ns, Bool.and_self]
theorem fit_of {d : PyData} (h1 : d.showable = true) (h2 : d.leavesShort 200 = true) (h3 : d.depth ≤ 60) (h4 : d.bulk ≤ 60000) : Fit d := ⟨h1, h3, by
  have := PyData.shown_le_bulk 200 (by decide) d h2
  rw [sizeLine_eq]
  omega⟩
theorem tame_list {k : Nat} {ds : List PyData} (h : ∀ d ∈ ds, Tame k d) (l : ds.length ≤ 3) : Tame (k + 1) (.list ds) := by
  obtain ⟨h1, h2, h3, h4⟩ := all_of h
  have := bb_le k
  have q : ds.length * (bb k + 1) ≤ 3 * (bb k + 1) := Nat.mul_le_mul_right _ l
  exact ⟨by simp only [PyData.showable, h1], by simp only [PyData.leavesShort, h2], by simp only [PyData.depth]; omega, by simp only [PyData.bulk]; show _ ≤ 4 * bb k; omega, by simp only [slimD]⟩
theorem tame_tuple {k : Nat} {ds : List PyData} (h : ∀ d ∈ ds, Tame k d) (l : ds.length ≤ 3) : Tame (k + 1) (.tuple ds) := by
  obtain ⟨h1, h2, h3, h4⟩ := all_of h
  have := bb_le k
  have q : ds.length * (bb k + 1) ≤ 3 * (bb k + 1) := Nat.mul_le_mul_right _ l
  exact ⟨by simp only [PyData.showable, h1], by simp only [PyData.leavesShort, h2], by simp only [PyData.depth]; omega, by simp only [PyData.bulk]; show _ ≤ 4 * bb k; omega, by simp only [slimD, slim_of h, Bool.and_true]; exact decide_eq_true (by omega)⟩
/-- a number of items, as a datum -/
theorem small_int {n : Nat} (h : n ≤ 3) : PyData.showable (.int n) = true ∧ PyData.leavesShort 200 (.int n) = true := by
  have : n = 0 ∨ n = 1 ∨ n = 2 ∨ n = 3 := by omega
  rcases this with rfl | rfl | rfl | rfl <;> decide +kernel
theorem tame_dict {k : Nat} {ds : List PyData} (h : ∀ d ∈ ds, Tame k d) (l : ds.length ≤ 3) : Tame (k + 1) (.dict [(.str "key", .list ds), (.int 1, .int ds.length)]) := by
  obtain ⟨h1, h2, h3, h4⟩ := all_of h
  have := bb_le k
  have q : ds.length * (bb k + 1) ≤ 3 * (bb k + 1) := Nat.mul_le_mul_right _ l
  have e1 : PyData.showable (.int 1) = true := by decide +kernel
  have e2 : PyData.leavesShort 200 (.int 1) = true := by decide +kernel
  have e3 : PyData.leavesShort 200 (.str "key") = true := by decide +kernel
  have e4 : PyData.bulk (.str "key") = 3 := by decide +kernel
  obtain ⟨e5, e6⟩ := small_int l
  refine ⟨?_, ?_, ?_, ?_, by simp only [slimD]⟩
  · simp only [PyData.showable, PyData.showableKv, h1, Bool.and_true, Bool.true_and] at e1 e5 ⊢
    rw [e1, e5] <;> rfl
  · simp only [PyData.leavesShort, PyData.leavesShortKv, h2, Bool.and_true, Bool.true_and] at e2 e3 e6 ⊢
    rw [e2, e3, e6] <;> rfl
  · simp only [PyData.depth, PyData.depthKv]
    omega
  · simp only [PyData.bulk] at e4
    simp only [PyData.bulk, PyData.bulkKv]
    show _ ≤ 4 * bb k
    omega
theorem tame0 {d : PyData} (h : d = .list [] ∨ d = .tuple [] ∨ d = .dict [(.str "key", .list []), (.int 1, .int 0)]) (k : Nat) : Tame k d := by
  have t : Tame 0 d := by
    rcases h with rfl | rfl | rfl
    · exact ⟨by decide +kernel, by decide +kernel, by decide +kernel, by decide +kernel, by decide +kernel⟩
    · exact ⟨by decide +kernel, by decide +kernel, by decide +kernel, by decide +kernel, by decide +kernel⟩
    · exact ⟨by decide +kernel, by decide +kernel, by decide +kernel, by decide +kernel, by decide +kernel⟩
  induction k with
  | zero => exact t
  | succ k ih => exact ih.up
/-- as many times the same, in a list -/
theorem fit_many {k n : Nat} {d : PyData} (t : Tame k d) (h : n * (bb k + 1) ≤ 60000) (hk : k ≤ 20) : Fit (.list (List.replicate n d)) := by
  obtain ⟨h1, h2, h3, h4⟩ := all_of (k := k) (ds := List.replicate n d) fun e z => by rw [(List.mem_replicate.mp z).2]; exact t
  rw [List.length_replicate] at h4
  exact fit_of (by simp only [PyData.showable, h1]) (by simp only [PyData.leavesShort, h2]) (by simp only [PyData.depth]; omega) (by simp only [PyData.bulk]; omega)
end K0

set_option Elab.async false
set_option linter.all false
set_option maxRecDepth 100000
set_option maxHeartbeats 4000000
/-! The deck of the draws. -/
namespace K0
open PySem PySem.Spec PyProof.Rows L2

def top (i : Nat) : Stmt := PySem.Challenge.pw_oncecrossed_k06_sides_or_a_ring_of_odd_l.main.body.getD i (.Pass ⟨0, 0, 0, 0⟩)
abbrev sDeck : Stmt := top 30
abbrev sDraw : Stmt := top 31
abbrev sPick : Stmt := top 32
abbrev sAny : Stmt := top 48

/-- the deck's dict -/
def dkv (c : Addr) (m n : Int) : List (Key × V) := [(.inr "cells", .ref c), (.inr "mixed", .int m), (.inr "draws", .int n)]
theorem nCM : ¬ (Sum.inr ("cells" : Str) : Key) = Sum.inr ("mixed" : Str) := by decide +kernel
theorem nCD : ¬ (Sum.inr ("cells" : Str) : Key) = Sum.inr ("draws" : Str) := by decide +kernel
theorem nMD : ¬ (Sum.inr ("mixed" : Str) : Key) = Sum.inr ("draws" : Str) := by decide +kernel
theorem v_cells {c : Addr} {m n : Int} : valV (dkv c m n) (Sum.inr "cells") = some (.ref c) := valV_pos rfl
theorem v_mixed {c : Addr} {m n : Int} : valV (dkv c m n) (Sum.inr "mixed") = some (.int m) := (valV_neg nCM).trans (valV_pos rfl)
theorem v_draws {c : Addr} {m n : Int} : valV (dkv c m n) (Sum.inr "draws") = some (.int n) := (valV_neg nCD).trans ((valV_neg nMD).trans (valV_pos rfl))
theorem p_draws {c : Addr} {m n k : Int} : putK (dkv c m n) (Sum.inr "draws") (.int k) = dkv c m k := by
  have e : ((dkv c m n).any fun kv => decide (kv.1 = Sum.inr ("draws" : Str))) = true := by rw [valV_any, v_draws] <;> rfl
  unfold putK
  rw [if_pos e]
  show [_, _, _] = [_, _, _]
  simp only [if_neg nCD, if_neg nMD, if_true]

/-- a deck stands at p, its cells at c -/
structure Deck (H : Hp) (p c : Addr) : Prop where
  ex : ∃ (xs : List Int) (m n : Int), H p = some (.dK (dkv c m n)) ∧ H c = some (.lst (xs.map V.int)) ∧ xs.length ≤ 63
/-- all but the deck is kept -/
def Kp (p c : Addr) (H H' : Hp) : Prop := ∀ b o, b ≠ p → b ≠ c → H b = some o → H' b = some o
theorem Kp.trans {p c : Addr} {H H1 H2 : Hp} (a : Kp p c H H1) (b : Kp p c H1 H2) : Kp p c H H2 := fun d o h1 h2 h => b d o h1 h2 (a d o h1 h2 h)
theorem kp_put {p c b : Addr} {H : Hp} {o : HO} (hb : b = p ∨ b = c) : Kp p c H (upd H b o) := fun a u h1 h2 h => by
  rw [upd_ne (fun z => hb.elim (fun y => h1 (z.trans y)) fun y => h2 (z.trans y))]
  exact h
theorem kp_new {p c l : Addr} {H : Hp} {o : HO} (hl : H l = none) : Kp p c H (upd H l o) := fun a u _ _ h => by
  rw [upd_ne (ne_of_none h hl)]
  exact h
theorem Deck.new {p c l : Addr} {H : Hp} {o : HO} (D : Deck H p c) (hl : H l = none) : Deck (upd H l o) p c := by
  obtain ⟨xs, m, n, h1, h2, h3⟩ := D.ex
  exact ⟨xs, m, n, by rw [upd_ne (ne_of_none h1 hl)]; exact h1, by rw [upd_ne (ne_of_none h2 hl)]; exact h2, h3⟩
theorem Deck.put {p c b : Addr} {H : Hp} {o : HO} (D : Deck H p c) (h1 : b ≠ p) (h2 : b ≠ c) : Deck (upd H b o) p c := by
  obtain ⟨xs, m, n, e1, e2, e3⟩ := D.ex
  exact ⟨xs, m, n, by rw [upd_ne h1.symm]; exact e1, by rw [upd_ne h2.symm]; exact e2, e3⟩

/-- draw: a number below n, from the deck -/
def spDraw : Sp := fun vs H Q _ => ∃ (p c : Addr) (n : Int), vs = [.ref p, .int n] ∧ Deck H p c ∧ 1 ≤ n ∧ n < 1000000 ∧ ∀ (r : Int) (H' : Hp), 0 ≤ r → r < n → Deck H' p c → Kp p c H H' → Q (.int r) H'

structure Bi (mg : Str → Option Value) : Prop where
  int : mg "int" = none
  max : mg "max" = none
  len : mg "len" = none
  list : mg "list" = none
  range : mg "range" = none
  tuple : mg "tuple" = none

theorem ints_last {xs : List Int} (h : xs ≠ []) : ∃ z, (xs.map V.int)[(xs.map V.int).length - 1]? = some (V.int z) ∧ (xs.map V.int).dropLast = xs.dropLast.map V.int := by
  refine ⟨xs.getLast h, ?_, ?_⟩
  · rw [List.length_map, List.getElem?_map]
    have := List.getLast?_eq_getElem? (l := xs)
    rw [← this, List.getLast?_eq_some_getLast h] <;> rfl
  · rw [List.map_dropLast]
theorem ints_dp {K : PySem.W.Frag} {H : Hp} : ∀ xs : List Int, DpAll K H (xs.map V.int) (xs.map PyData.int)
  | [] => .nil
  | x :: xs => .cons (.int x) (ints_dp xs)
theorem ints_shaped (xs : List Int) : SeqAt.shaped (.list (xs.map PyData.int)) = true := by
  have h : ∀ ys : List Int, PyData.canLayAll0 (ys.map PyData.int) = true ∧ PyData.depthAll (ys.map PyData.int) = 0 := fun ys => by
    induction ys with
    | nil => exact ⟨by simp [PyData.canLayAll0], by simp [PyData.depthAll]⟩
    | cons y ys ih => exact ⟨by simp [PyData.canLayAll0, PyData.canLay0, ih.1], by simp [PyData.depthAll, PyData.depth, ih.2]⟩
  show (PyData.canLay0 _ && decide (PyData.depth _ ≤ 64)) = true
  rw [Bool.and_eq_true]
  exact ⟨by simp only [PyData.canLay0]; exact (h xs).1, decide_eq_true (by simp only [PyData.depth, (h xs).2]; omega)⟩
/-- what was tracked is tracked -/
theorem Kp.dom {p c : Addr} {H H' : Hp} (k : Kp p c H H') (D : Deck H' p c) {b : Addr} (h : H' b = none) : H b = none := by
  obtain ⟨xs, m, n, e1, e2, _⟩ := D.ex
  cases e : H b with
  | none => rfl
  | some o => rw [k b o (ne_of_none e1 h).symm (ne_of_none e2 h).symm e] at h; cases h
theorem Deck.inp {H : Hp} {p c : Addr} (D : Deck H p c) {b : Addr} (h : H b = none) : b ≠ p ∧ b ≠ c := by
  obtain ⟨xs, m, n, e1, e2, _⟩ := D.ex
  exact ⟨(ne_of_none e1 h).symm, (ne_of_none e2 h).symm⟩
theorem fmod_in {a b : Int} (h : 0 < b) : 0 ≤ a.fmod b ∧ a.fmod b < b := ⟨Int.fmod_nonneg_of_pos a h, Int.fmod_lt_of_pos a h⟩

section
variable {P : Program} {w : World} {K : PySem.W.Frag} {mg : Str → Option Value} {base : Heap}
theorem scDraw : FnScope ["_law_deck_here", "_law_many", "_law_number", "_law_cell"] ["_law_deck_here", "_law_many"] (defScope sDraw) := ⟨rfl, rfl, rfl, by decide +kernel, rfl, by decide +kernel, by decide +kernel⟩
theorem ok_draw {f : Addr} {fd : FuncData} (F : Fun K "_law_draw" "_law_draw" sDraw f fd) (T : Bi mg) : FnOk P w K mg base CX0 1 f fd ["_law_deck_here", "_law_many"] spDraw := by
  refine F.ok scDraw (fun vs H Q E h => ?_) (fun cdv A outer s H vs Q E hr h => ?_)
  · obtain ⟨p, c, n, rfl, _⟩ := h
    rfl
  · obtain ⟨p, c, n, rfl, D, n1, n2, k⟩ := h
    have hu := hu_of hr
    have hu6 : A.units + 3 + 64 < cLine := by have := hr.un; have e : (A.deeper (envOfC "_law_draw" (defScope sDraw) s.heap.objs.size f cdv)).units = A.units + 3 := rfl; omega
    obtain ⟨xs, m, j, h1, h2, h3⟩ := D.ex
    have npc : p ≠ c := ne_of h1 h2 (by intro z; cases z)
    refine ⟨_, pss_cons (ps_dput hu (pv 0) pe_str (pe_op op_add (pe_dget hu (pv 0) pe_str (fun _ _ => rfl)) pe_int) rfl)
      <| pss_cons (ps_set (i := 2) scDraw.nd rfl (.inl rfl) (pe_op op_add (pe_dget hu (pv 0) pe_str (fun _ _ => rfl)) (pe_op op_mul pe_int (pe_dget hu (pv 0) pe_str (fun _ _ => rfl)))))
      <| pss_cons (ps_if (pt_cmpR (op_neD hu6) (pe_dget hu (pv 0) pe_str (fun _ _ => rfl)) (pe_lst pa_nil) (nomark _))
          (pss_cons (ps_set (i := 3) scDraw.nd rfl (.inl rfl) (pe_bm0 PySem.F.plainAttrs_list PySem.F.slot_list_pop PySem.F.type_list_pop mt_pop (pe_dget hu (pv 0) pe_str (fun _ _ => rfl))))
          <| pss_cons (ps_if (pt_cmpR op_ge (pv 3) (pe_op op_pow pe_int pe_int) (nomark _))
              (pss_cons (ps_expr (pe_bm PySem.F.plainAttrs_list PySem.F.slot_list_append PySem.F.type_list_append mt_append (pe_dget hu (pv 0) pe_str (fun _ _ => rfl))
                (pa_cons (pe_op op_fdivN (pv 3) (pe_callB (call_max2 rfl) (by rfl) T.max (by decide +kernel) (pa_cons pe_int (pa_cons (pv 1) pa_nil)))) pa_nil)))
              <| pss_one (ps_ret (pe_op op_modN (pe_callTy call_int1 (by rfl) T.int (by decide +kernel) (pa_cons (pv 3) pa_nil)) (pv 1)))) pss_nil)
          <| pss_one (ps_set (i := 2) scDraw.nd rfl (.inl rfl) (pe_op op_add (pv 2) (pe_op op_modN (pe_callTy call_int1 (by rfl) T.int (by decide +kernel) (pa_cons (pv 3) pa_nil)) pe_int)))) pss_nil)
      <| pss_cons (ps_set (i := 2) scDraw.nd rfl (.inl rfl) (pe_op op_modN (pe_callTy call_int1 (by rfl) T.int (by decide +kernel) (pa_cons (pe_op op_add (pe_op op_mul (pv 2) pe_int) pe_int) pa_nil)) pe_int))
      <| pss_cons (ps_set (i := 2) scDraw.nd rfl (.inl rfl) (pe_op op_modN (pe_callTy call_int1 (by rfl) T.int (by decide +kernel) (pa_cons (pe_op op_add (pe_op op_add (pe_op op_mul (pv 2) (pv 2)) (pe_op op_mul pe_int (pe_dget hu (pv 0) pe_str (fun _ _ => rfl)))) pe_int) pa_nil)) pe_int))
      <| pss_cons (ps_set (i := 2) scDraw.nd rfl (.inl rfl) (pe_op op_modN (pe_callTy call_int1 (by rfl) T.int (by decide +kernel) (pa_cons (pe_op op_mul (pv 2) pe_int) pa_nil)) pe_int))
      <| pss_one (ps_ret (pe_op op_modN (pe_callTy call_int1 (by rfl) T.int (by decide +kernel) (pa_cons (pe_op op_fdivN (pv 2) pe_int) pa_nil)) (pv 1))), ?_⟩
    have g1 : DGet H p (.str "draws") (some (.int j)) := v_draws ▸ DGet.k (k := Sum.inr "draws") h1
    have q1 : DPut H p (.str "draws") (.int (j + 1)) (upd H p (.dK (dkv c m (j + 1)))) := by
      have z := DPut.k (k := Sum.inr "draws") (v := .int (j + 1)) h1 (show (3 : Nat) < sizeLine by rw [sizeLine_eq]; decide)
      rw [p_draws] at z
      exact z
    refine ⟨_, rfl, p, _, rfl, g1, _, _, rfl, rfl, _, rfl, p, _, rfl, q1, ?_⟩
    generalize hH1 : upd H p (.dK (dkv c m (j + 1))) = H1
    have e1 : H1 p = some (.dK (dkv c m (j + 1))) := by rw [← hH1]; exact upd_same
    have e2 : H1 c = some (.lst (xs.map V.int)) := by rw [← hH1, upd_ne npc.symm]; exact h2
    have K1 : Kp p c H H1 := by rw [← hH1]; exact kp_put (.inl rfl)
    have D1 : Deck H1 p c := ⟨xs, m, j + 1, e1, e2, h3⟩
    have gm : DGet H1 p (.str "mixed") (some (.int m)) := v_mixed ▸ DGet.k (k := Sum.inr "mixed") e1
    have gd : ∀ {H' : Hp}, H' p = some (.dK (dkv c m (j + 1))) → DGet H' p (.str "draws") (some (.int (j + 1))) := fun e => v_draws ▸ DGet.k (k := Sum.inr "draws") e
    have gc : ∀ {H' : Hp}, H' p = some (.dK (dkv c m (j + 1))) → DGet H' p (.str "cells") (some (.ref c)) := fun e => v_cells ▸ DGet.k (k := Sum.inr "cells") e
    refine ⟨_, rfl, p, _, rfl, gm, _, rfl, p, _, rfl, gd e1, _, _, rfl, rfl, .inl ⟨by decide, by decide⟩, _, _, rfl, rfl, ?_⟩
    refine ⟨_, rfl, p, _, rfl, gc e1, (by show 0 ≤ sizeLine; exact Nat.zero_le _), fun l hl => ?_⟩
    have e1l : (upd H1 l (.lst [])) p = some (.dK (dkv c m (j + 1))) := by rw [upd_ne (ne_of_none e1 hl)]; exact e1
    have e2l : (upd H1 l (.lst [])) c = some (.lst (xs.map V.int)) := by rw [upd_ne (ne_of_none e2 hl)]; exact e2
    have K2 : Kp p c H (upd H1 l (.lst [])) := K1.trans (kp_new hl)
    refine ⟨.list (xs.map PyData.int), .list [], Dp.lst (SqL.of e2l) (ints_dp xs), Dp.lst (SqL.of upd_same) .nil, ints_shaped xs, by decide, _, rfl, ?_⟩
    by_cases hx : xs = []
    · subst hx
      refine iteF ?_
      refine ⟨_, rfl, _, _, rfl, rfl, .inr ⟨by decide, by decide⟩, _, _, rfl, rfl, .inl ⟨_, rfl, _, _, rfl, rfl, (by show ¬ ((_ : Int) = 0); decide), ?_⟩⟩
      refine ⟨_, rfl, _, rfl, _, _, rfl, rfl, .inl ⟨Int.lt_of_lt_of_le (by decide) (fmod_in (by decide)).1, Int.lt_trans (fmod_in (by decide)).2 (by decide)⟩, _, rfl, p, _, rfl, gd e1l, _, _, rfl, rfl, .inl ⟨by decide, by decide⟩, _, _, rfl, rfl, _, _, rfl, rfl, .inl ⟨_, rfl, _, _, rfl, rfl, (by show ¬ ((_ : Int) = 0); decide), ?_⟩⟩
      refine ⟨_, rfl, _, _, rfl, rfl, .inr ⟨by decide, by decide⟩, .inl ⟨_, rfl, _, _, rfl, rfl, (by show ¬ ((_ : Int) = 0); decide), ?_⟩⟩
      exact ⟨_, rfl, _, _, rfl, rfl, ⟨by decide, by decide⟩, .inl ⟨_, rfl, _, rfl, _, _, rfl, rfl, by omega, k _ _ (fmod_in (by omega)).1 (fmod_in (by omega)).2 (D1.new hl) K2⟩⟩
    · have ev : PyData.eqv (.list (xs.map PyData.int)) (.list []) = false := by
        cases xs with
        | nil => exact absurd rfl hx
        | cons a r => simp [PyData.eqv, PyData.eqvAll]
      rw [ev]
      refine iteT ?_
      obtain ⟨z, z1, z2⟩ := ints_last hx
      refine ⟨_, rfl, p, _, rfl, gc e1l, .inl ⟨rfl, _, SqL.of e2l⟩, c, _, _, rfl, rfl, e2l, z1, ?_⟩
      rw [z2]
      generalize hH3 : upd (upd H1 l (.lst [])) c (.lst (xs.dropLast.map V.int)) = H3
      have e13 : H3 p = some (.dK (dkv c m (j + 1))) := by rw [← hH3, upd_ne npc]; exact e1l
      have e23 : H3 c = some (.lst (xs.dropLast.map V.int)) := by rw [← hH3]; exact upd_same
      have K3 : Kp p c H H3 := by rw [← hH3]; exact K2.trans (kp_put (.inr rfl))
      have l3 : xs.dropLast.length ≤ 62 := by rw [List.length_dropLast]; omega
      have D3 : Deck H3 p c := ⟨xs.dropLast, m, j + 1, e13, e23, by omega⟩
      refine ⟨_, rfl, _, _, rfl, rfl, ⟨by decide, by decide, by decide⟩, _, _, rfl, rfl, _, rfl, ?_⟩
      refine ite2 (fun _ => ?_) (fun _ => ?_)
      · refine ⟨_, rfl, p, _, rfl, gc e13, .inl ⟨rfl, _, SqL.of e23⟩, _, rfl, _, rfl, _, _, rfl, _, _, rfl, rfl, ⟨?_, ?_⟩, c, _, _, rfl, rfl, e23, ?_, ?_⟩
        · split <;> omega
        · split <;> omega
        · rw [List.length_map, sizeLine_eq]; omega
        · have D4 : Deck (upd H3 c (.lst (xs.dropLast.map V.int ++ [V.int (z.fdiv (if n > 2 then n else 2))]))) p c :=
            ⟨xs.dropLast ++ [z.fdiv (if n > 2 then n else 2)], m, j + 1, by rw [upd_ne npc]; exact e13, by rw [upd_same, List.map_append] <;> rfl, by rw [List.length_append]; show _ + 1 ≤ 63; omega⟩
          exact ⟨_, rfl, .inl ⟨_, rfl, _, rfl, _, _, rfl, rfl, by omega, k _ _ (fmod_in (by omega)).1 (fmod_in (by omega)).2 D4 (K3.trans (kp_put (.inr rfl)))⟩⟩
      · refine ⟨_, rfl, _, rfl, .inl ⟨_, rfl, _, _, rfl, rfl, (by show ¬ ((_ : Int) = 0); decide), _, _, rfl, rfl, ?_⟩⟩
        refine ⟨_, rfl, _, _, rfl, rfl, .inr ⟨by decide, by decide⟩, _, _, rfl, rfl, .inl ⟨_, rfl, _, _, rfl, rfl, (by show ¬ ((_ : Int) = 0); decide), ?_⟩⟩
        refine ⟨_, rfl, _, rfl, _, _, rfl, rfl, .inl ⟨Int.lt_of_lt_of_le (by decide) (fmod_in (by decide)).1, Int.lt_trans (fmod_in (by decide)).2 (by decide)⟩, _, rfl, p, _, rfl, gd e13, _, _, rfl, rfl, .inl ⟨by decide, by decide⟩, _, _, rfl, rfl, _, _, rfl, rfl, .inl ⟨_, rfl, _, _, rfl, rfl, (by show ¬ ((_ : Int) = 0); decide), ?_⟩⟩
        refine ⟨_, rfl, _, _, rfl, rfl, .inr ⟨by decide, by decide⟩, .inl ⟨_, rfl, _, _, rfl, rfl, (by show ¬ ((_ : Int) = 0); decide), ?_⟩⟩
        exact ⟨_, rfl, _, _, rfl, rfl, ⟨by decide, by decide⟩, .inl ⟨_, rfl, _, rfl, _, _, rfl, rfl, by omega, k _ _ (fmod_in (by omega)).1 (fmod_in (by omega)).2 D3 K3⟩⟩

/-- a def of the text that others call -/
structure Dn (P : Program) (w : World) (K : PySem.W.Frag) (mg : Str → Option Value) (base : Heap) (name : Str) (k : Nat) (ps : List Str) (sp : Sp) (f : Addr) (fd : FuncData) : Prop where
  g : mg name = some (.ref f)
  kp : PySem.W.keepIn K (.ref f) = true
  b : Binds K fd ps []
  ok : FnOk P w K mg base CX0 k f fd ps sp

/-- pick: an item of a list that stands beside the deck -/
def spPick : Sp := fun vs H Q _ => ∃ (p c l : Addr) (xs : List V), vs = [.ref p, .ref l] ∧ Deck H p c ∧ H l = some (.lst xs) ∧ l ≠ p ∧ l ≠ c ∧ 1 ≤ xs.length ∧ xs.length < 1000 ∧
  ∀ (i : Nat) (v : V) (H' : Hp), xs[i]? = some v → Deck H' p c → Kp p c H H' → Q v H'
theorem scPick : FnScope ["_law_deck_here", "_law_some"] ["_law_deck_here", "_law_some"] (defScope sPick) := ⟨rfl, rfl, rfl, by decide +kernel, rfl, by decide +kernel, by decide +kernel⟩
theorem ok_pick {f fD : Addr} {fd fdD : FuncData} (F : Fun K "_law_pick" "_law_pick" sPick f fd) (T : Bi mg) (G : Dn P w K mg base "_law_draw" 1 ["_law_deck_here", "_law_many"] spDraw fD fdD) :
    FnOk P w K mg base CX0 2 f fd ["_law_deck_here", "_law_some"] spPick := by
  refine F.ok scPick (fun vs H Q E h => ?_) (fun cdv A outer s H vs Q E hr h => ?_)
  · obtain ⟨p, c, l, xs, rfl, _⟩ := h
    rfl
  · obtain ⟨p, c, l, xs, rfl, D, hl, lp, lc, n1, n2, k⟩ := h
    refine ⟨_, pss_one (ps_ret (pe_ix ix_list (pv 1) (pe_call G.ok hr rfl G.g G.kp G.b .nil pass0
      (pa_cons (pv 0) (pa_cons (pe_callB call_len_seq (by rfl) T.len PySem.boot_len (pa_cons (pv 1) pa_nil)) pa_nil))) (fun _ _ => rfl))), ?_⟩
    refine ⟨_, rfl, _, rfl, _, rfl, l, _, rfl, .inl (SqL.of hl), p, c, _, rfl, D, by omega, by omega, fun r H' r0 r1 D' K' => ?_⟩
    have hl' := K' l _ lp lc hl
    obtain ⟨i, rfl⟩ : ∃ i : Nat, r = i := ⟨r.toNat, by omega⟩
    have hi : i < xs.length := by omega
    exact ⟨l, _, _, _, rfl, rfl, SqL.of hl', atI_nat (List.getElem?_eq_getElem hi), k i _ H' (List.getElem?_eq_getElem hi) D' K'⟩
end
end K0

set_option Elab.async false
set_option linter.all false
set_option maxRecDepth 100000
set_option maxHeartbeats 4000000
/-! The deck made; any value. -/
namespace K0
open PySem PySem.Spec PyProof.Rows L2

theorem cut63 (ns : List Int) : cutV (ns.map V.int) none (some 63) = (ns.take 63).map V.int := by
  unfold cutV
  rw [HT.sIx_none, show (some (63 : Int)) = some ((63 : Nat) : Int) from rfl, HT.sIx_nat, List.drop_zero, Nat.sub_zero, List.length_map, List.map_take]
  by_cases h : 63 ≤ ns.length
  · rw [Nat.min_eq_left h]
  · rw [Nat.min_eq_right (by omega), List.take_of_length_le (by rw [List.length_map]; exact Nat.le_refl _), List.take_of_length_le (by rw [List.length_map]; omega)]
theorem deck_kvs {c : Addr} {m : Int} : mergeK [] [(Sum.inr ("cells" : Str), V.ref c), (Sum.inr ("mixed" : Str), V.int m), (Sum.inr ("draws" : Str), V.int 0)] = dkv c m 0 := by
  have e1 : putK ([] : List (Key × V)) (Sum.inr ("cells" : Str)) (V.ref c) = [(Sum.inr ("cells" : Str), V.ref c)] := putK_new _ rfl
  have e2 : putK [(Sum.inr ("cells" : Str), V.ref c)] (Sum.inr ("mixed" : Str) : Key) (V.int m) = [(Sum.inr ("cells" : Str), V.ref c)] ++ [(Sum.inr ("mixed" : Str), V.int m)] := putK_new _ ((valV_neg nCM).trans rfl)
  have e3 : putK ([(Sum.inr ("cells" : Str), V.ref c)] ++ [(Sum.inr ("mixed" : Str), V.int m)]) (Sum.inr ("draws" : Str) : Key) (V.int 0) = ([(Sum.inr ("cells" : Str), V.ref c)] ++ [(Sum.inr ("mixed" : Str), V.int m)]) ++ [(Sum.inr ("draws" : Str), V.int 0)] :=
    putK_new _ ((valV_neg nCD).trans ((valV_neg nMD).trans rfl))
  unfold mergeK
  simp only [List.foldl_cons, List.foldl_nil]
  rw [e1, e2, e3]
  rfl
theorem int_of {ns : List Int} {i : Nat} {y : V} (h : (ns.map V.int)[i]? = some y) : ∃ z, y = V.int z := by
  rw [List.getElem?_map] at h
  cases e : ns[i]? with
  | none => rw [e] at h; cases h
  | some z => rw [e] at h; exact ⟨z, (Option.some.inj h).symm⟩

/-- the deck of a script -/
def spDeck (K : PySem.W.Frag) : Sp := fun vs H Q _ => ∃ (a : Addr) (ns : List Int), vs = [.ref a] ∧ SqL K H a (ns.map V.int) ∧ ∀ (p c : Addr) (H' : Hp), Deck H' p c → Same H H' → H p = none → H c = none → Q (.ref p) H'
section
variable {P : Program} {w : World} {K : PySem.W.Frag} {mg : Str → Option Value} {base : Heap}
theorem scDeck : FnScope ["_law_script", "_law_mixed", "_law_cell"] ["_law_script"] (defScope sDeck) := ⟨rfl, rfl, rfl, by decide +kernel, rfl, by decide +kernel, by decide +kernel⟩
theorem same_new {H : Hp} {l : Addr} {o : HO} (h : H l = none) : Same H (upd H l o) := fun b u e => by rw [upd_ne (ne_of_none e h)]; exact e
theorem ok_deck {f : Addr} {fd : FuncData} (F : Fun K "_law_deck" "_law_deck" sDeck f fd) (T : Bi mg) : FnOk P w K mg base CX0 1 f fd ["_law_script"] (spDeck K) := by
  refine F.ok scDeck (fun vs H Q E h => ?_) (fun cdv A outer s H vs Q E hr h => ?_)
  · obtain ⟨a, ns, rfl, _⟩ := h
    rfl
  · obtain ⟨a, ns, rfl, hS, k⟩ := h
    refine ⟨_, pss_cons (ps_set (i := 1) scDeck.nd rfl (.inl rfl) pe_int)
      <| pss_cons (ps_for PassesOwn.never rfl (pi_list (pe_slice sl_list (pv 0) po_none (po_some pe_int))) (pg_name (i := 2) scDeck.nd rfl (.inl rfl))
          (pss_one (ps_set (i := 1) scDeck.nd rfl (.inl rfl) (pe_op op_modN (pe_callTy call_int1 (by rfl) T.int (by decide +kernel) (pa_cons (pe_op op_add (pe_op op_add (pe_op op_mul (pv 1) pe_int)
            (pe_op op_modN (pe_callTy call_int1 (by rfl) T.int (by decide +kernel) (pa_cons (pv 2) pa_nil)) pe_int)) pe_int) pa_nil)) pe_int))))
      <| pss_one (ps_ret (pe_disp (pps_cons pe_str (pe_revL (pe_callTy call_list_of (by rfl) T.list (by decide +kernel) (pa_cons (pe_slice sl_list (pv 0) po_none (po_some pe_int)) pa_nil)))
          (pps_cons pe_str (pv 1) (pps_cons pe_str pe_int pps_nil))) rfl rfl (fun z => nomatch z) (by decide))), ?_⟩
    refine ⟨_, rfl, _, rfl, a, _, rfl, hS, fun p0 hp0 => ?_⟩
    rw [cut63]
    have s0 : Same H (upd H p0 (.lst ((ns.take 63).map V.int))) := same_new hp0
    refine ⟨p0, rfl, ⟨_, SqL.of upd_same⟩, for_list (K := K) (a := p0) (xs := (ns.take 63).map V.int) (fun i σ H2 => ∃ (m : Int) (v : Option V), σ = [some (.ref a), some (.int m), v] ∧ H2 = upd H p0 (.lst ((ns.take 63).map V.int)))
      ⟨_, none, rfl, rfl⟩ (fun i σ H2 _ ⟨_, _, _, e⟩ => by rw [e]; exact SqL.of upd_same) ?_ ?_⟩
    · rintro i y σ H2 hi ⟨m, v, rfl, rfl⟩
      obtain ⟨z, rfl⟩ := int_of hi
      exact ⟨_, rfl, _, _, rfl, rfl, .inr ⟨by decide, by decide⟩, _, rfl, .inl ⟨_, rfl, _, _, rfl, rfl, (by show ¬ ((_ : Int) = 0); decide), _, _, rfl, rfl, _, _, rfl, rfl, .inl ⟨_, rfl, _, _, rfl, rfl, (by show ¬ ((_ : Int) = 0); decide), _, _, rfl, rfl⟩⟩⟩
    · rintro σ H2 ⟨m, v, rfl, rfl⟩
      intro p hp
      have s1 : Same H (upd (upd H p0 (.lst ((ns.take 63).map V.int))) p (.dK [])) := s0.trans (same_new hp)
      refine ⟨_, rfl, _, rfl, a, _, rfl, s1.seq hS, fun p1 hp1 => ?_⟩
      rw [cut63]
      refine ⟨p1, _, rfl, .inl (SqL.of upd_same), fun l hl => ⟨l, _, rfl, SqL.of upd_same, fun c hc => ?_⟩⟩
      have s2 := ((s1.trans (same_new (o := .lst ((ns.take 63).map V.int)) hp1)).trans (same_new (o := .lst ((ns.take 63).map V.int)) hl)).trans (same_new (o := .lst ((ns.take 63).map V.int).reverse) hc)
      have np1 : p ≠ p1 := ne_of_none upd_same hp1
      have npl : p ≠ l := ne_of_none (o := .dK []) (by rw [upd_ne np1]; exact upd_same) hl
      have npc : p ≠ c := ne_of_none (o := .dK []) (by rw [upd_ne npl, upd_ne np1]; exact upd_same) hc
      refine ⟨_, rfl, ?_, [(Sum.inr ("cells" : Str), V.ref c), (Sum.inr ("mixed" : Str), V.int m), (Sum.inr ("draws" : Str), V.int 0)], rfl, (by show 3 ≤ 15; decide), ?_⟩
      · rw [upd_ne npc, upd_ne npl, upd_ne np1]
        exact upd_same
      · rw [deck_kvs]
        have hpH : H p = none := s0.free hp
        have hcH : H c = none := by
          have z := hc
          rw [upd_ne (ne_of_none upd_same hc).symm] at z
          exact ((s1.trans (same_new (o := .lst ((ns.take 63).map V.int)) hp1))).free z
        refine k p c _ ⟨(ns.take 63).reverse, m, 0, upd_same, ?_, ?_⟩ (fun b o e => ?_) hpH hcH
        · rw [upd_ne npc.symm, upd_same, List.map_reverse]
        · rw [List.length_reverse, List.length_take]; omega
        · rw [upd_ne (ne_of_none e hpH)]
          exact s2 b o e

theorem int_mem {ns : List Int} {i : Nat} {v : V} (h : (ns.map V.int)[i]? = some v) : ∃ z, z ∈ ns ∧ v = V.int z := by
  obtain ⟨z, h1, h2⟩ := List.mem_map.mp (List.mem_of_getElem? h)
  exact ⟨z, h1, h2.symm⟩
theorem str_mem {ns : List Str} {i : Nat} {v : V} (h : (ns.map V.str)[i]? = some v) : ∃ z, z ∈ ns ∧ v = V.str z := by
  obtain ⟨z, h1, h2⟩ := List.mem_map.mp (List.mem_of_getElem? h)
  exact ⟨z, h1, h2.symm⟩
theorem tame_plain {d : PyData} (h : (∃ b, d = .bool b) ∨ d = .none) (k : Nat) : Tame k d := by
  rcases h with ⟨b, rfl⟩ | rfl <;> exact ⟨by simp only [PyData.showable], by simp only [PyData.leavesShort], by simp only [PyData.depth]; omega, by simp only [PyData.bulk]; omega, by simp only [slimD]⟩
theorem items_snoc {R : V → PyData → Prop} {xs : List V} {ds : List PyData} {v : V} {d : PyData} (l : xs.length = ds.length) (h : ∀ (j : Nat) (a : V) (b : PyData), xs[j]? = some a → ds[j]? = some b → R a b) (r : R v d) :
    ∀ (j : Nat) (a : V) (b : PyData), (xs ++ [v])[j]? = some a → (ds ++ [d])[j]? = some b → R a b := fun j a b q1 q2 => by
  by_cases hj : j < xs.length
  · rw [List.getElem?_append_left hj] at q1
    rw [List.getElem?_append_left (by omega)] at q2
    exact h j a b q1 q2
  · rw [List.getElem?_append_right (by omega)] at q1
    rw [List.getElem?_append_right (by omega)] at q2
    have z : j - xs.length = 0 := by
      cases e : j - xs.length with
      | zero => rfl
      | succ n => rw [e] at q1; simp at q1
    rw [z] at q1
    rw [show j - ds.length = 0 by omega] at q2
    cases q1
    cases q2
    exact r
theorem dict_kvs {l : Addr} {n : Int} : mergeK [] [(Sum.inr ("key" : Str), V.ref l), (Sum.inl 1, V.int n)] = [(Sum.inr ("key" : Str), V.ref l), (Sum.inl 1, V.int n)] := by
  have e1 : putK ([] : List (Key × V)) (Sum.inr ("key" : Str)) (V.ref l) = [(Sum.inr ("key" : Str), V.ref l)] := putK_new _ rfl
  have e2 : putK [(Sum.inr ("key" : Str), V.ref l)] (Sum.inl 1 : Key) (V.int n) = [(Sum.inr ("key" : Str), V.ref l)] ++ [(Sum.inl 1, V.int n)] := putK_new _ ((valV_neg (p := (Sum.inr ("key" : Str), V.ref l)) (r := []) (fun z : (Sum.inr ("key" : Str) : Key) = Sum.inl 1 => by cases z)).trans rfl)
  unfold mergeK
  simp only [List.foldl_cons, List.foldl_nil]
  rw [e1, e2]
  rfl
/-- no tuple that is not known whole, none that is long -/
def NT (H : Hp) (v : V) : Prop := ∀ a xs, v = .ref a → H a ≠ some (.tup xs) ∧ (KR.TupX H a xs → xs.length ≤ 60)
theorem nt_int {H : Hp} {i : Int} : NT H (.int i) := fun _ _ z => nomatch z
theorem nt_str {H : Hp} {x : Str} : NT H (.str x) := fun _ _ z => nomatch z
theorem nt_bl {H : Hp} {b : Bool} : NT H (.bl b) := fun _ _ z => nomatch z
theorem nt_non {H : Hp} : NT H .non := fun _ _ z => nomatch z
theorem nt_at {H : Hp} {a : Addr} {o : HO} (e : H a = some o) (h : ∀ xs, o ≠ .tup xs) (h2 : ∀ ob xs, o ≠ .frz ob (.tup xs)) : NT H (.ref a) := fun b xs z => by
  cases z
  rw [e]
  refine ⟨fun q => h xs (Option.some.inj q), fun ⟨us, q⟩ => ?_⟩
  rw [e] at q
  exact absurd (Option.some.inj q) (h2 _ xs)
theorem nt_lst {H : Hp} {a : Addr} {ys : List V} (e : H a = some (.lst ys)) : NT H (.ref a) := nt_at e (fun _ z => nomatch z) fun _ _ z => nomatch z
theorem nt_dk {H : Hp} {a : Addr} {ys : List (Key × V)} (e : H a = some (.dK ys)) : NT H (.ref a) := nt_at e (fun _ z => nomatch z) fun _ _ z => nomatch z
theorem nt_frz {H : Hp} {a : Addr} {us : List Value} {ys : List V} (e : H a = some (.frz (KR.tobj us) (.tup ys))) (l : ys.length ≤ 60) : NT H (.ref a) := fun b xs z => by
  cases z
  refine ⟨fun q => ?_, fun t => ?_⟩
  · rw [e] at q
    cases q
  · rw [t.inj ⟨us, e⟩]
    exact l
/-- any value, at a depth below d -/
def spAny (d : Nat) : Sp := fun vs H Q _ => ∃ (p c : Addr) (k : Nat), vs = [.ref p, .int k] ∧ k < d ∧ Deck H p c ∧
  ∀ (v : V) (e : PyData) (H' : Hp), Tame k e → DV H' (fun a => H a = none) v e → NT H' v → Deck H' p c → Kp p c H H' → Q v H'
abbrev nAny : List Str := ["_law_deck_here", "_law_deep", "_law_way", "_law_some", "_law_turn"]
theorem scAny : FnScope nAny ["_law_deck_here", "_law_deep"] (defScope sAny) := ⟨rfl, rfl, rfl, by decide +kernel, rfl, by decide +kernel, by decide +kernel⟩

/-- the menus -/
def menuI : List Int := [0, 1, -1, 2, 7, 12, 13, 40, 10 ^ 49 * 10 ^ 50, -(10 ^ 20)]
def menuS : List Str := ["", "a", "(0, 1)", "places 2\n0 1", "~", "lot", "True", "0"]
theorem int_tame : ∀ i ∈ menuI, PyData.showable (.int i) = true ∧ PyData.leavesShort 200 (.int i) = true := by decide +kernel
theorem str_tame : ∀ x ∈ menuS, PyData.leavesShort 200 (.str x) = true ∧ x.cps.size ≤ 12 := by decide +kernel
theorem tame_int {i : Int} (h : i ∈ menuI) (k : Nat) : Tame k (.int i) := ⟨(int_tame i h).1, (int_tame i h).2, by simp only [PyData.depth]; omega, by simp only [PyData.bulk]; omega, by simp only [slimD]⟩
theorem tame_str {x : Str} (h : x ∈ menuS) (k : Nat) : Tame k (.str x) := ⟨by simp only [PyData.showable], (str_tame x h).1, by simp only [PyData.depth]; omega, by
  have := (str_tame x h).2
  have := bb_le k
  simp only [PyData.bulk]; omega, by simp only [slimD]⟩

theorem ok_any {f fD fP : Addr} {fd fdD fdP : FuncData} (F : Fun K "_law_any" "_law_any" sAny f fd) (mf : mg "_law_any" = some (.ref f)) (bf : Binds K fd ["_law_deck_here", "_law_deep"] []) (T : Bi mg)
    (GD : Dn P w K mg base "_law_draw" 1 ["_law_deck_here", "_law_many"] spDraw fD fdD) (GP : Dn P w K mg base "_law_pick" 2 ["_law_deck_here", "_law_some"] spPick fP fdP) :
    ∀ d : Nat, FnOk P w K mg base CX0 (d + 2) f fd ["_law_deck_here", "_law_deep"] (spAny d) := by
  intro d
  induction d with
  | zero => exact ⟨fun vs H Q E ⟨p, c, k, _, hk, _⟩ => absurd hk (Nat.not_lt_zero _), fun A outer s H args us vs Q E _ _ _ _ ⟨p, c, k, _, hk, _⟩ => absurd hk (Nat.not_lt_zero _)⟩
  | succ d ih =>
    refine F.ok scAny (fun vs H Q E h => ?_) (fun cdv A outer s H vs Q E hr h => ?_)
    · obtain ⟨p, c, k, rfl, _⟩ := h
      rfl
    · obtain ⟨p, c, dk, rfl, hdk, D, k⟩ := h
      have hr1 : Room 1 (A.deeper (envOfC "_law_any" (defScope sAny) s.heap.objs.size f cdv)) := hr.mono (by omega)
      have hr2 : Room 2 (A.deeper (envOfC "_law_any" (defScope sAny) s.heap.objs.size f cdv)) := hr.mono (by omega)
      refine ⟨_, pss_cons (ps_set (i := 2) scAny.nd rfl (.inl rfl) (pe_call GD.ok hr1 rfl GD.g GD.kp GD.b .nil pass0 (pa_cons (pv 0) (pa_cons pe_int pa_nil))))
        <| pss_cons (ps_if (pt_cmpR op_lt (pv 2) pe_int (nomark _)) (pss_one (ps_ret (pe_call GP.ok hr2 rfl GP.g GP.kp GP.b .nil pass0 (pa_cons (pv 0) (pa_cons (pe_lst
            (pa_cons pe_int (pa_cons pe_int (pa_cons (pe_un un_neg pe_int) (pa_cons pe_int (pa_cons pe_int (pa_cons pe_int (pa_cons pe_int (pa_cons pe_int (pa_cons (pe_op op_mulW (pe_op op_pow pe_int pe_int) (pe_op op_pow pe_int pe_int))
            (pa_cons (pe_un un_neg (pe_op op_pow pe_int pe_int)) pa_nil))))))))))) pa_nil))))) pss_nil)
        <| pss_cons (ps_if (pt_cmpR op_lt (pv 2) pe_int (nomark _)) (pss_one (ps_ret (pe_call GP.ok hr2 rfl GP.g GP.kp GP.b .nil pass0 (pa_cons (pv 0) (pa_cons (pe_lst
            (pa_cons pe_str (pa_cons pe_str (pa_cons pe_str (pa_cons pe_str (pa_cons pe_str (pa_cons pe_str (pa_cons pe_str (pa_cons pe_str pa_nil))))))))) pa_nil))))) pss_nil)
        <| pss_cons (ps_if (pt_cmpR op_eq (pv 2) pe_int (nomark _)) (pss_one (ps_ret (pe_call GP.ok hr2 rfl GP.g GP.kp GP.b .nil pass0 (pa_cons (pv 0) (pa_cons (pe_lst (pa_cons pe_bl (pa_cons pe_bl (pa_cons pe_non pa_nil)))) pa_nil))))) pss_nil)
        <| pss_cons (ps_set (i := 3) scAny.nd rfl (.inl rfl) (pe_ifExp (pt_cmpR op_gt (pv 1) pe_int (nomark _))
            (pe_lc (own := [("_law_turn", 4)]) (g := gName 4) (tt := tYes) rfl scAny.nd (pi_range1 rfl T.range (pa_cons (pe_call GD.ok hr1 rfl GD.g GD.kp GD.b .nil pass0 (pa_cons (pv 0) (pa_cons pe_int pa_nil))) pa_nil))
              (blkOk_by (N := nAny) (sc := defScope sAny) (by decide +kernel)) (fun _ _ _ _ _ => pg_name (i := 4) scAny.nd rfl (Or.inl rfl)) (fun _ _ _ _ _ => pts_nil)
              (fun _ _ _ _ _ => pe_call ih hr rfl mf F.kp bf .nil pass0 (pa_cons (pv 0) (pa_cons (pe_op op_sub (pv 1) pe_int) pa_nil))))
            (pe_lst pa_nil)))
        <| pss_cons (ps_if (pt_cmpR op_eq (pv 2) pe_int (nomark _)) (pss_one (ps_ret (pv 3))) pss_nil)
        <| pss_one (ps_ret (pe_ifExp (pt_cmpR op_eq (pv 2) pe_int (nomark _)) (pe_disp (pps_cons pe_str (pv 3) (pps_cons pe_int (pe_callB call_len_seq (by rfl) T.len PySem.boot_len (pa_cons (pv 3) pa_nil)) pps_nil)) rfl rfl (fun z => nomatch z) (by decide))
            (pe_callTy KR.call_tupF (by rfl) T.tuple (by decide +kernel) (pa_cons (pv 3) pa_nil)))), ?_⟩
      have cp : ∀ {a : Int} {n : Nat}, n ≤ 1000 → a.natAbs < 2 ^ 64 → CPow a (n : Int) := fun h1 h2 => ⟨Int.natCast_nonneg _, by omega, h2⟩
      refine ⟨_, rfl, p, c, _, rfl, D, by decide, by decide, fun way H1 w0 w1 D1 K1 => ?_⟩
      refine ⟨_, rfl, _, _, rfl, rfl, _, rfl, ite2 (fun _ => ?_) (fun _ => ?_)⟩
      · refine ⟨_, rfl, _, rfl, _, _, rfl, rfl, cp (n := 49) (by decide) (by decide), _, _, rfl, rfl, cp (n := 50) (by decide) (by decide), _, _, rfl, rfl, ?_, _, _, rfl, rfl, cp (n := 20) (by decide) (by decide), _, rfl, ?_, fun l hl => ?_⟩
        · show CMulW (10 ^ 49) (10 ^ 50)
          unfold CMulW
          decide +kernel
        · show 10 ≤ sizeLine; rw [sizeLine_eq]; decide
        · obtain ⟨lp, lc⟩ := D1.inp hl
          refine ⟨p, c, l, _, rfl, D1.new hl, upd_same, lp, lc, (by show 1 ≤ 10; decide), (by show 10 < 1000; decide), fun i v H' e D' K' => ?_⟩
          obtain ⟨z, hz, rfl⟩ := int_mem (ns := menuI) e
          exact k _ _ H' (tame_int hz _) (.int z) nt_int D' (K1.trans ((kp_new hl).trans K'))
      refine ⟨_, rfl, _, _, rfl, rfl, _, rfl, ite2 (fun _ => ?_) (fun _ => ?_)⟩
      · refine ⟨_, rfl, ?_, fun l hl => ?_⟩
        · show 8 ≤ sizeLine; rw [sizeLine_eq]; decide
        · obtain ⟨lp, lc⟩ := D1.inp hl
          refine ⟨p, c, l, _, rfl, D1.new hl, upd_same, lp, lc, (by show 1 ≤ 8; decide), (by show 8 < 1000; decide), fun i v H' e D' K' => ?_⟩
          obtain ⟨z, hz, rfl⟩ := str_mem (ns := menuS) e
          exact k _ _ H' (tame_str hz _) (.str z) nt_str D' (K1.trans ((kp_new hl).trans K'))
      refine ⟨_, rfl, rfl, _, rfl, ite2 (fun _ => ?_) (fun _ => ?_)⟩
      · refine ⟨_, rfl, ?_, fun l hl => ?_⟩
        · show 3 ≤ sizeLine; rw [sizeLine_eq]; decide
        · obtain ⟨lp, lc⟩ := D1.inp hl
          refine ⟨p, c, l, _, rfl, D1.new hl, upd_same, lp, lc, (by show 1 ≤ 3; decide), (by show 3 < 1000; decide), fun i v H' e D' K' => ?_⟩
          have hv : v = .bl true ∨ v = .bl false ∨ v = .non := by
            have q := List.mem_of_getElem? e
            simpa using q
          rcases hv with rfl | rfl | rfl
          · exact k _ (.bool true) H' (tame_plain (.inl ⟨_, rfl⟩) _) (.bl true) nt_bl D' (K1.trans ((kp_new hl).trans K'))
          · exact k _ (.bool false) H' (tame_plain (.inl ⟨_, rfl⟩) _) (.bl false) nt_bl D' (K1.trans ((kp_new hl).trans K'))
          · exact k _ .none H' (tame_plain (.inr rfl) _) (.non) nt_non D' (K1.trans ((kp_new hl).trans K'))
      refine ⟨_, rfl, _, _, rfl, rfl, _, rfl, ite2 (fun hgt => ?_) (fun hgt => ?_)⟩
      · have hk1 : 1 ≤ dk := by have := of_decide_eq_true hgt; omega
        refine ⟨_, rfl, p, c, _, rfl, D1, by decide, by decide, fun r H2 r0 r1 D2 K2 => ⟨_, rfl, by omega, by omega, fun l hl => ?_⟩⟩
        have K02 : Kp p c H H2 := K1.trans K2
        obtain ⟨lp, lc⟩ := D2.inp hl
        have hlH : H l = none := K02.dom D2 hl
        refine lc_range (n := r.toNat) (fun i H3 => ∃ (xs : List V) (ds : List PyData), H3 l = some (.lst xs) ∧ xs.length = i ∧ ds.length = i ∧ (∀ d ∈ ds, Tame (dk - 1) d) ∧ Deck H3 p c ∧ Kp p c H H3 ∧
            ∀ (j : Nat) (v : V) (d : PyData), xs[j]? = some v → ds[j]? = some d → DV H3 (fun a => H a = none ∧ a ≠ l) v d)
          ⟨[], [], upd_same, rfl, rfl, (fun _ z => nomatch z), D2.new hl, K02.trans (kp_new hl), fun j v d z => by simp at z⟩ ?_ ?_
        · rintro i H3 hi ⟨xs, ds, e1, e2, e3, e4, D3, K3, e5⟩
          refine ⟨rfl, ?_⟩
          unfold tYes
          refine iteT ?_
          refine ⟨_, rfl, _, rfl, _, _, rfl, rfl, p, c, dk - 1, ?_, by omega, D3, fun v e H4 t dv _ D4 K4 => ?_⟩
          · show [V.ref p, V.int ((dk : Int) - 1)] = [V.ref p, V.int ((dk - 1 : Nat) : Int)]
            rw [show ((dk : Int) - 1) = ((dk - 1 : Nat) : Int) by omega]
          · have e1' := K4 l _ lp lc e1
            refine ⟨xs, e1', by rw [e2, sizeLine_eq]; omega, xs ++ [v], ds ++ [e], upd_same, by rw [List.length_append, e2]; rfl, by rw [List.length_append, e3]; rfl, fun d' z => ?_, D4.put lp lc, fun b o h1 h2 q => ?_, items_snoc (e2.trans e3.symm) (fun j a b q1 q2 => ?_) ?_⟩
            · rcases List.mem_append.mp z with z | z
              · exact e4 _ z
              · rw [List.mem_singleton.mp z]; exact t
            · rw [upd_ne (ne_of_none q hlH)]
              exact K4 b o h1 h2 (K3 b o h1 h2 q)
            · refine (e5 j a b q1 q2).mono fun x o t' z => ⟨t', ?_⟩
              obtain ⟨x1, x2⟩ := D.inp t'.1
              rw [upd_ne t'.2]
              exact K4 x o x1 x2 z
            · refine dv.mono fun x o t' z => ?_
              have nx : x ≠ l := (ne_of_none e1 t').symm
              exact ⟨⟨K3.dom D3 t', nx⟩, by rw [upd_ne nx]; exact z⟩
        · rintro H3 ⟨xs, ds, e1, e2, e3, e4, D3, K3, e5⟩
          have tm : ∀ d, (d = .list ds ∨ d = .tuple ds ∨ d = .dict [(.str "key", .list ds), (.int 1, .int ds.length)]) → Tame dk d := fun d z => by
            obtain ⟨j, rfl⟩ : ∃ j, dk = j + 1 := ⟨dk - 1, by omega⟩
            have e4' : ∀ d ∈ ds, Tame j d := e4
            rcases z with rfl | rfl | rfl
            · exact tame_list e4' (by omega)
            · exact tame_tuple e4' (by omega)
            · exact tame_dict e4' (by omega)
          refine ⟨_, rfl, rfl, _, rfl, ite2 (fun _ => ?_) (fun _ => ?_)⟩
          · exact ⟨_, rfl, k (.ref l) (.list ds) H3 (tm _ (.inl rfl)) (.lst hlH e1 (e2.trans e3.symm) fun j v d q1 q2 => (e5 j v d q1 q2).mono fun a o t q => ⟨t.1, q⟩) (nt_lst e1) D3 K3⟩
          refine ⟨_, rfl, rfl, _, rfl, ite2 (fun _ => ?_) (fun _ => ?_)⟩
          · intro q hq
            have nlq : l ≠ q := ne_of_none e1 hq
            have e1q : (upd H3 q (.dK [])) l = some (.lst xs) := by rw [upd_ne nlq]; exact e1
            refine ⟨_, rfl, _, rfl, l, _, rfl, .inl (SqL.of e1q), upd_same, [(Sum.inr ("key" : Str), V.ref l), (Sum.inl 1, V.int xs.length)], rfl, (by show 2 ≤ 15; decide), ?_⟩
            rw [upd_upd, dict_kvs]
            have hqH : H q = none := K3.dom D3 hq
            obtain ⟨qp, qc⟩ := D3.inp hq
            refine k (.ref q) (.dict [(.str "key", .list ds), (.int 1, .int ds.length)]) _ (tm _ (.inr (.inr rfl))) ?_ (nt_dk upd_same) (D3.new hq) (K3.trans (kp_new hq))
            refine DV.dct (kvs := [(Sum.inr ("key" : Str), V.ref l), (Sum.inl 1, V.int xs.length)]) (ds := [.list ds, .int ds.length]) hqH upd_same rfl fun j v d q1 q2 => ?_
            match j, q1, q2 with
            | 0, q1, q2 =>
              cases q1
              cases q2
              exact .lst hlH (by rw [upd_ne nlq]; exact e1) (e2.trans e3.symm) fun j v d q1 q2 => (e5 j v d q1 q2).mono fun a o t z => ⟨t.1, by rw [upd_ne (ne_of_none z hq)]; exact z⟩
            | 1, q1, q2 =>
              cases q1
              cases q2
              rw [e2, e3]
              exact .int _
            | j + 2, q1, q2 => simp at q1
          · refine ⟨_, rfl, l, _, rfl, SqL.of e1, fun t us ht => ?_⟩
            exact k (.ref t) (.tuple ds) _ (tm _ (.inr (.inl rfl))) (.tup (K3.dom D3 ht) (.inr ⟨us, upd_same⟩) (e2.trans e3.symm) fun j v d q1 q2 => (e5 j v d q1 q2).mono fun a o t' z => ⟨t'.1, by rw [upd_ne (ne_of_none z ht)]; exact z⟩) (nt_frz upd_same (by omega)) (D3.new ht) (K3.trans (kp_new ht))
      · refine ⟨Nat.zero_le _, fun l hl => ?_⟩
        have hlH : H l = none := K1.dom D1 hl
        obtain ⟨xs, hxs⟩ : ∃ xs : List V, xs = [] := ⟨_, rfl⟩
        obtain ⟨ds, hds⟩ : ∃ ds : List PyData, ds = [] := ⟨_, rfl⟩
        generalize hH3 : upd H1 l (.lst []) = H3
        have e1 : H3 l = some (.lst xs) := by rw [← hH3, hxs]; exact upd_same
        have D3 : Deck H3 p c := by rw [← hH3]; exact D1.new hl
        have K3 : Kp p c H H3 := by rw [← hH3]; exact K1.trans (kp_new hl)
        have e2 : xs.length = 0 := by rw [hxs]; rfl
        have e3 : ds.length = 0 := by rw [hds]; rfl
        have e5 : ∀ (j : Nat) (v : V) (d : PyData), xs[j]? = some v → ds[j]? = some d → DV H3 (fun a => H a = none ∧ a ≠ l) v d := fun j v d z => by rw [hxs] at z; simp at z
        have tm : ∀ d, (d = .list ds ∨ d = .tuple ds ∨ d = .dict [(.str "key", .list ds), (.int 1, .int ds.length)]) → Tame dk d := fun d z => by
          rw [hds] at z
          exact tame0 (by simpa using z) dk
        refine ⟨_, rfl, rfl, _, rfl, ite2 (fun _ => ?_) (fun _ => ?_)⟩
        · exact ⟨_, rfl, k (.ref l) (.list ds) H3 (tm _ (.inl rfl)) (.lst hlH e1 (e2.trans e3.symm) fun j v d q1 q2 => (e5 j v d q1 q2).mono fun a o t q => ⟨t.1, q⟩) (nt_lst e1) D3 K3⟩
        refine ⟨_, rfl, rfl, _, rfl, ite2 (fun _ => ?_) (fun _ => ?_)⟩
        · intro q hq
          have nlq : l ≠ q := ne_of_none e1 hq
          have e1q : (upd H3 q (.dK [])) l = some (.lst xs) := by rw [upd_ne nlq]; exact e1
          refine ⟨_, rfl, _, rfl, l, _, rfl, .inl (SqL.of e1q), upd_same, [(Sum.inr ("key" : Str), V.ref l), (Sum.inl 1, V.int xs.length)], rfl, (by show 2 ≤ 15; decide), ?_⟩
          rw [upd_upd, dict_kvs]
          have hqH : H q = none := K3.dom D3 hq
          obtain ⟨qp, qc⟩ := D3.inp hq
          refine k (.ref q) (.dict [(.str "key", .list ds), (.int 1, .int ds.length)]) _ (tm _ (.inr (.inr rfl))) ?_ (nt_dk upd_same) (D3.new hq) (K3.trans (kp_new hq))
          refine DV.dct (kvs := [(Sum.inr ("key" : Str), V.ref l), (Sum.inl 1, V.int xs.length)]) (ds := [.list ds, .int ds.length]) hqH upd_same rfl fun j v d q1 q2 => ?_
          match j, q1, q2 with
          | 0, q1, q2 =>
            cases q1
            cases q2
            exact .lst hlH (by rw [upd_ne nlq]; exact e1) (e2.trans e3.symm) fun j v d q1 q2 => (e5 j v d q1 q2).mono fun a o t z => ⟨t.1, by rw [upd_ne (ne_of_none z hq)]; exact z⟩
          | 1, q1, q2 =>
            cases q1
            cases q2
            rw [e2, e3]
            exact .int _
          | j + 2, q1, q2 => simp at q1
        · refine ⟨_, rfl, l, _, rfl, SqL.of e1, fun t us ht => ?_⟩
          exact k (.ref t) (.tuple ds) _ (tm _ (.inr (.inl rfl))) (.tup (K3.dom D3 ht) (.inr ⟨us, upd_same⟩) (e2.trans e3.symm) fun j v d q1 q2 => (e5 j v d q1 q2).mono fun a o t' z => ⟨t'.1, by rw [upd_ne (ne_of_none z ht)]; exact z⟩) (nt_frz upd_same (by omega)) (D3.new ht) (K3.trans (kp_new ht))
end
end K0

set_option Elab.async false
set_option linter.all false
set_option maxRecDepth 100000
set_option maxHeartbeats 4000000
/-! Rows of pairs; an order, a pair, all pairs. -/
namespace K0
open PySem PySem.Spec PyProof.Rows L2
/-! ### rows of pairs -/
inductive Prs (H : Hp) : List V → List (Int × Int) → Prop
  | nil : Prs H [] []
  | cons {a : Addr} {q : Int × Int} {vs : List V} {L : List (Int × Int)} (h : H a = some (.tup [.int q.1, .int q.2])) (t : Prs H vs L) : Prs H (.ref a :: vs) (q :: L)
theorem Prs.len {H : Hp} {vs : List V} {L : List (Int × Int)} (p : Prs H vs L) : vs.length = L.length := by
  induction p with
  | nil => rfl
  | cons h t ih => rw [List.length_cons, List.length_cons, ih]
theorem Prs.mono {H H' : Hp} {vs : List V} {L : List (Int × Int)} (p : Prs H vs L) (s : ∀ a x, H a = some (.tup x) → H' a = some (.tup x)) : Prs H' vs L := by
  induction p with
  | nil => exact .nil
  | cons h t ih => exact .cons (s _ _ h) ih
theorem Prs.app {H : Hp} {vs ws : List V} {L M : List (Int × Int)} (p : Prs H vs L) (q : Prs H ws M) : Prs H (vs ++ ws) (L ++ M) := by
  induction p with
  | nil => exact q
  | cons h t ih => exact .cons h ih
theorem Prs.get {H : Hp} {vs : List V} {L : List (Int × Int)} (p : Prs H vs L) : ∀ {i : Nat} {v : V}, vs[i]? = some v → ∃ a q, v = .ref a ∧ L[i]? = some q ∧ H a = some (.tup [.int q.1, .int q.2]) := by
  induction p with
  | nil => intro i v h; simp at h
  | @cons a q vs L h t ih =>
    intro i v e
    cases i with
    | zero => cases e; exact ⟨a, q, rfl, rfl, h⟩
    | succ i => exact ih (by simpa using e)
theorem Prs.erase {H : Hp} {vs : List V} {L : List (Int × Int)} (p : Prs H vs L) : ∀ i : Nat, Prs H (vs.eraseIdx i) (L.eraseIdx i) := by
  induction p with
  | nil => intro i; simpa using Prs.nil
  | @cons a q vs L h t ih =>
    intro i
    cases i with
    | zero => simpa using t
    | succ i => simpa using Prs.cons h (ih i)
theorem Prs.perm {H : Hp} {vs ws : List V} (pm : ws.Perm vs) : ∀ {L : List (Int × Int)}, Prs H vs L → ∃ M, M.Perm L ∧ Prs H ws M := by
  induction pm with
  | nil => intro L p; exact ⟨L, .refl _, p⟩
  | cons v _ ih =>
    intro L p
    cases p with
    | cons h t =>
      obtain ⟨M, pm, pr⟩ := ih t
      exact ⟨_, pm.cons _, .cons h pr⟩
  | swap v w l =>
    intro L p
    cases p with
    | cons h t =>
      cases t with
      | cons h' t' => exact ⟨_, .swap _ _ _, .cons h' (.cons h t')⟩
  | trans _ _ ih1 ih2 =>
    intro L p
    obtain ⟨M, pm, pr⟩ := ih2 p
    obtain ⟨M', pm', pr'⟩ := ih1 pr
    exact ⟨M', pm'.trans pm, pr'⟩
theorem Kp.tup {p c : Addr} {H H' : Hp} (k : Kp p c H H') (D : Deck H p c) : ∀ a x, H a = some (.tup x) → H' a = some (.tup x) := fun a x e => by
  obtain ⟨xs, m, n, h1, h2, _⟩ := D.ex
  exact k a _ (ne_of e h1 (by intro z; cases z)) (ne_of e h2 (by intro z; cases z)) e
theorem same_tup {H H' : Hp} (s : Same H H') : ∀ a x, H a = some (.tup x) → H' a = some (.tup x) := fun a x e => s _ _ e
/-- a list of its own is written -/
theorem Kp.own {p c l : Addr} {H H1 : Hp} {o : HO} (k : Kp p c H H1) (h : H l = none) : Kp p c H (upd H1 l o) := fun b u h1 h2 e => by
  rw [upd_ne (ne_of_none e h)]
  exact k b u h1 h2 e
theorem upd_tup {l : Addr} {H : Hp} {o : HO} {ys : List V} (e : H l = some (.lst ys)) : ∀ a x, H a = some (.tup x) → (upd H l o) a = some (.tup x) := fun a x h => by
  rw [upd_ne (ne_of h e (by intro z; cases z))]
  exact h
theorem new_tup {l : Addr} {H : Hp} {o : HO} (e : H l = none) : ∀ a x, H a = some (.tup x) → (upd H l o) a = some (.tup x) := fun a x h => by
  rw [upd_ne (ne_of_none h e)]
  exact h
/-- a row of pairs in a list at l -/
def LP (H : Hp) (l : Addr) (L : List (Int × Int)) : Prop := ∃ vs, H l = some (.lst vs) ∧ Prs H vs L
theorem LP.mono {H H' : Hp} {l : Addr} {L : List (Int × Int)} (p : LP H l L) (e : ∀ ys, H l = some (.lst ys) → H' l = some (.lst ys)) (s : ∀ a x, H a = some (.tup x) → H' a = some (.tup x)) : LP H' l L := by
  obtain ⟨vs, h, q⟩ := p
  exact ⟨vs, e _ h, q.mono s⟩
theorem LP.kp {p c l : Addr} {H H' : Hp} {L : List (Int × Int)} (q : LP H l L) (D : Deck H p c) (k : Kp p c H H') (lp : l ≠ p) (lc : l ≠ c) : LP H' l L := q.mono (fun ys e => k _ _ lp lc e) (k.tup D)
/-- pairs in order, below n -/
def Bel (n : Int) (L : List (Int × Int)) : Prop := ∀ q ∈ L, 0 ≤ q.1 ∧ q.1 < q.2 ∧ q.2 < n
theorem Bel.nil {n : Int} : Bel n [] := fun _ z => nomatch z
theorem Bel.app {n : Int} {L M : List (Int × Int)} (a : Bel n L) (b : Bel n M) : Bel n (L ++ M) := fun q z => (List.mem_append.mp z).elim (a q) (b q)
theorem Bel.sub {n : Int} {L M : List (Int × Int)} (a : Bel n L) (s : ∀ q ∈ M, q ∈ L) : Bel n M := fun q z => a q (s q z)
theorem Bel.snoc {n : Int} {L : List (Int × Int)} {q : Int × Int} (a : Bel n L) (h : 0 ≤ q.1 ∧ q.1 < q.2 ∧ q.2 < n) : Bel n (L ++ [q]) := a.app fun r z => by rw [List.mem_singleton.mp z]; exact h

/-- names that are nobody's own -/
structure Bj (mg : Str → Option Value) : Prop extends Bi mg where
  min : mg "min" = none
  sorted : mg "sorted" = none
  set : mg "set" = none
  all : mg "all" = none
  isi : mg "isinstance" = none
  enu : mg "enumerate" = none
  bool : mg "bool" = none
  repr : mg "repr" = none
abbrev sOrder : Stmt := top 33
abbrev sPair : Stmt := top 34
abbrev sPairs : Stmt := top 35
abbrev sTies : Stmt := top 36
abbrev sWeb : Stmt := top 37
/-- an order of 0 .. n - 1 -/
def IsOrd (n : Nat) (os : List Int) : Prop := os.Perm ((List.range n).map fun i => ((i : Nat) : Int))
theorem IsOrd.len {n : Nat} {os : List Int} (h : IsOrd n os) : os.length = n := by rw [h.length_eq, List.length_map, List.length_range]
theorem IsOrd.mem {n : Nat} {os : List Int} (h : IsOrd n os) {i : Int} (hi : i ∈ os) : 0 ≤ i ∧ i < n := by
  obtain ⟨k, hk, rfl⟩ := List.mem_map.mp (h.mem_iff.mp hi)
  have := List.mem_range.mp hk
  omega
theorem IsOrd.nd {n : Nat} {os : List Int} (h : IsOrd n os) : os.Nodup := h.nodup_iff.mpr (List.pairwise_map.mpr (List.nodup_range.imp fun {a b} z e => z (by omega)))
theorem IsOrd.at {n : Nat} {os : List Int} (h : IsOrd n os) {i : Nat} (hi : i < n) : ∃ x, os[i]? = some x ∧ 0 ≤ x ∧ x < n := by
  have l := h.len
  exact ⟨os[i], List.getElem?_eq_getElem (by omega), h.mem (List.getElem_mem ..)⟩
theorem IsOrd.ne {n : Nat} {os : List Int} (h : IsOrd n os) {i j : Nat} {x y : Int} (hi : os[i]? = some x) (hj : os[j]? = some y) (ne : i ≠ j) : x ≠ y := by
  have nd := List.pairwise_iff_getElem.mp h.nd
  obtain ⟨i1, rfl⟩ := List.getElem?_eq_some_iff.mp hi
  obtain ⟨j1, rfl⟩ := List.getElem?_eq_some_iff.mp hj
  rcases Nat.lt_or_gt_of_ne ne with z | z
  · exact nd i j i1 j1 z
  · exact (nd j i j1 i1 z).symm
theorem rg_ints (n : Nat) : rgV 0 (n : Int) = ((List.range n).map fun i => ((i : Nat) : Int)).map V.int := by
  unfold rgV
  rw [List.map_map, show ((n : Int) - 0).toNat = n by omega]
  refine List.map_congr_left fun i _ => ?_
  show V.int (0 + (i : Nat)) = V.int (i : Nat)
  rw [Int.zero_add]
theorem iota_ord (n : Nat) : IsOrd n ((List.range n).map fun i => ((i : Nat) : Int)) := List.Perm.refl _

def spOrder : Sp := fun vs H Q _ => ∃ (p c : Addr) (n : Nat), vs = [.ref p, .int n] ∧ n ≤ 12 ∧ Deck H p c ∧ ∀ (l : Addr) (os : List Int) (H' : Hp), H l = none → H' l = some (.lst (os.map V.int)) → IsOrd n os → Deck H' p c → Kp p c H H' → Q (.ref l) H'
section
variable {P : Program} {w : World} {K : PySem.W.Frag} {mg : Str → Option Value} {base : Heap}
abbrev nOrder : List Str := ["_law_deck_here", "_law_n", "_law_left", "_law_found", "_law_turn"]
theorem scOrder : FnScope nOrder ["_law_deck_here", "_law_n"] (defScope sOrder) := ⟨rfl, rfl, rfl, by decide +kernel, rfl, by decide +kernel, by decide +kernel⟩
theorem perm_move : ∀ {l : List Int} {i : Nat} {x : Int}, l[i]? = some x → l.Perm (x :: l.eraseIdx i)
  | [], _, _, h => by simp at h
  | a :: l, 0, x, h => by cases h; exact .refl _
  | a :: l, i + 1, x, h => ((perm_move (l := l) (i := i) (by simpa using h)).cons a).trans (.swap _ _ _)
theorem erase_map (l : List Int) : ∀ i, (l.map V.int).eraseIdx i = (l.eraseIdx i).map V.int := by
  induction l with
  | nil => intro i; rfl
  | cons a l ih =>
    intro i
    cases i with
    | zero => rfl
    | succ i => simp only [List.map_cons, List.eraseIdx_cons_succ, ih i]
theorem ok_order {f fD : Addr} {fd fdD : FuncData} (F : Fun K "_law_order" "_law_order" sOrder f fd) (T : Bj mg) (GD : Dn P w K mg base "_law_draw" 1 ["_law_deck_here", "_law_many"] spDraw fD fdD) :
    FnOk P w K mg base CX0 2 f fd ["_law_deck_here", "_law_n"] spOrder := by
  refine F.ok scOrder (fun vs H Q E h => ?_) (fun cdv A outer s H vs Q E hr h => ?_)
  · obtain ⟨p, c, n, rfl, _⟩ := h
    rfl
  · obtain ⟨p, c, n, rfl, hn, D, k⟩ := h
    refine ⟨_, pss_cons (ps_par (i := 2) (j := 3) rfl scOrder.nd rfl rfl (by decide) rfl rfl (pa_cons (pe_listRg rfl (by rfl) T.list (prg_1 (by rfl) T.range (pv 1))) (pa_cons (pe_lst pa_nil) pa_nil)) (by rfl))
      <| pss_cons (ps_for PassesOwn.never rfl (pi_range1 (by rfl) T.range (pa_cons (pv 1) pa_nil)) (pg_name (i := 4) scOrder.nd rfl (.inl rfl))
        (pss_one (ps_expr (pe_bm PySem.F.plainAttrs_list PySem.F.slot_list_append PySem.F.type_list_append mt_append (pv 3) (pa_cons
          (pe_bm PySem.F.plainAttrs_list PySem.F.slot_list_pop PySem.F.type_list_pop mt_popAt (pv 2) (pa_cons (pe_call GD.ok hr rfl GD.g GD.kp GD.b .nil pass0 (pa_cons (pv 0) (pa_cons (pe_callB call_len_seq (by rfl) T.len PySem.boot_len (pa_cons (pv 2) pa_nil)) pa_nil))) pa_nil)) pa_nil)))))
      <| pss_one (ps_ret (pv 3)), ?_⟩
    refine ⟨_, rfl, _, rfl, .of_le (by omega) (by omega) (by omega) (by omega), fun q hq => ?_⟩
    rw [rg_ints]
    obtain ⟨qp, qc⟩ := D.inp hq
    refine ⟨Nat.zero_le _, fun l hl => ⟨_, _, rfl, ?_⟩⟩
    have D1 := D.new (o := .lst (((List.range n).map fun i => ((i : Nat) : Int)).map V.int)) hq
    obtain ⟨lp, lc⟩ := D1.inp hl
    have lq : l ≠ q := (ne_of_none upd_same hl).symm
    have hlH : H l = none := by rw [upd_ne lq] at hl; exact hl
    refine ⟨_, rfl, _, rfl, by omega, by omega, ?_⟩
    refine for_range (lo := 0) (n := (n : Int).toNat) (fun i σ M => ∃ (ls os : List Int) (o4 : Option V), σ = [some (.ref p), some (.int n), some (.ref q), some (.ref l), o4] ∧ M q = some (.lst (ls.map V.int)) ∧ M l = some (.lst (os.map V.int)) ∧ IsOrd n (os ++ ls) ∧ os.length = i ∧ Deck M p c ∧ Kp p c H M)
      ⟨_, [], none, rfl, by rw [upd_ne lq.symm]; exact upd_same, upd_same, iota_ord n, rfl, D1.new hl, ((kp_new hq).own hlH)⟩ ?_ ?_
    · rintro i σ M hi ⟨ls, os, o4, rfl, e1, e2, e3, e4, D2, K2⟩
      have len := e3.len
      rw [List.length_append, e4] at len
      refine ⟨_, rfl, .inl ⟨rfl, _, SqL.of e2⟩, _, rfl, .inl ⟨rfl, _, SqL.of e1⟩, _, rfl, _, rfl, q, _, rfl, .inl (SqL.of e1), p, c, _, rfl, D2, ?_, ?_, fun r M1 r0 r1 D3 K3 => ?_⟩
      · show (1 : Int) ≤ ((ls.map V.int).length : Nat); rw [List.length_map]; omega
      · show (((ls.map V.int).length : Nat) : Int) < 1000000; rw [List.length_map]; omega
      · have r1' : r < ls.length := by rw [List.length_map] at r1; exact r1
        obtain ⟨j, rfl⟩ : ∃ j : Nat, r = j := ⟨r.toNat, by omega⟩
        have hj : j < ls.length := by omega
        have e1' := K3 q _ qp qc e1
        have e2' := K3 l _ lp lc e2
        have si : seqIndex? (j : Int) (ls.map V.int).length = some j := (ixN_seq (n := (ls.map V.int).length) (by unfold ixN; rw [List.length_map, if_pos (by omega), if_pos (by omega)]; rfl)).1
        refine ⟨q, _, _, j, .int ls[j], rfl, rfl, e1', by omega, by omega, si, by simp [hj], ?_⟩
        refine ⟨l, _, _, rfl, rfl, by rw [upd_ne lq]; exact e2', by rw [List.length_map, sizeLine_eq]; omega, ls.eraseIdx j, os ++ [ls[j]], _, rfl, ?_, by rw [upd_same, List.map_append] <;> rfl, ?_, by rw [List.length_append, e4] <;> rfl, (D3.put qp qc).put lp lc, ?_⟩
        · rw [upd_ne lq.symm, upd_same, erase_map]
        · refine List.Perm.trans ?_ e3
          rw [List.append_assoc]
          exact List.Perm.append_left os (perm_move (List.getElem?_eq_getElem hj)).symm
        · exact ((K2.trans K3).own (D.new (o := .lst []) hq |> fun _ => hq)).own hlH
    · rintro σ M ⟨ls, os, o4, rfl, e1, e2, e3, e4, D2, K2⟩
      have len := e3.len
      rw [List.length_append, e4] at len
      have : ls = [] := List.length_eq_zero_iff.mp (by omega)
      subst this
      exact ⟨_, rfl, k l os M hlH e2 (by simpa using e3) D2 K2⟩
end
end K0

set_option Elab.async false
set_option linter.all false
set_option maxRecDepth 100000
set_option maxHeartbeats 4000000
/-! A pair in order; all pairs. -/
namespace K0
open PySem PySem.Spec PyProof.Rows L2
/-- the two in order -/
def mm (x y : Int) : Int × Int := (if y < x then y else x, if y > x then y else x)
theorem mm_bel {n x y : Int} (hx : 0 ≤ x ∧ x < n) (hy : 0 ≤ y ∧ y < n) (ne : x ≠ y) : 0 ≤ (mm x y).1 ∧ (mm x y).1 < (mm x y).2 ∧ (mm x y).2 < n := by
  unfold mm
  dsimp only
  split <;> split <;> omega
def spPair : Sp := fun vs H Q _ => ∃ (x y : Int), vs = [.int x, .int y] ∧ ∀ a, H a = none → Q (.ref a) (upd H a (.tup [.int (mm x y).1, .int (mm x y).2]))
def spPairs : Sp := fun vs H Q _ => ∃ n : Nat, vs = [.int n] ∧ n ≤ 12 ∧ ∀ (l : Addr) (L : List (Int × Int)) (H' : Hp), H l = none → LP H' l L → Bel n L → L.length ≤ 144 → Same H H' → Q (.ref l) H'
section
variable {P : Program} {w : World} {K : PySem.W.Frag} {mg : Str → Option Value} {base : Heap}
theorem scPair : FnScope ["_law_one", "_law_other"] ["_law_one", "_law_other"] (defScope sPair) := ⟨rfl, rfl, rfl, by decide +kernel, rfl, by decide +kernel, by decide +kernel⟩
theorem ok_pair {f : Addr} {fd : FuncData} (F : Fun K "_law_pair" "_law_pair" sPair f fd) (T : Bj mg) : FnOk P w K mg base CX0 1 f fd ["_law_one", "_law_other"] spPair := by
  refine F.ok scPair (fun vs H Q E h => ?_) (fun cdv A outer s H vs Q E hr h => ?_)
  · obtain ⟨x, y, rfl, _⟩ := h
    rfl
  · obtain ⟨x, y, rfl, k⟩ := h
    refine ⟨_, pss_one (ps_ret (pe_tup (pa_cons (pe_callB (call_min2 rfl) (by rfl) T.min (by decide +kernel) (pa_cons (pv 0) (pa_cons (pv 1) pa_nil))) (pa_cons (pe_callB (call_max2 rfl) (by rfl) T.max (by decide +kernel) (pa_cons (pv 0) (pa_cons (pv 1) pa_nil))) pa_nil)))), ?_⟩
    exact ⟨_, rfl, _, rfl, _, _, rfl, _, rfl, _, rfl, _, _, rfl, by show 2 ≤ sizeLine; decide, fun a ha => k a ha⟩
abbrev nPairs : List Str := ["_law_n", "_law_found", "_law_one", "_law_other"]
theorem scPairs : FnScope nPairs ["_law_n"] (defScope sPairs) := ⟨rfl, rfl, rfl, by decide +kernel, rfl, by decide +kernel, by decide +kernel⟩
theorem ok_pairs {f : Addr} {fd : FuncData} (F : Fun K "_law_pairs" "_law_pairs" sPairs f fd) (T : Bj mg) : FnOk P w K mg base CX0 1 f fd ["_law_n"] spPairs := by
  refine F.ok scPairs (fun vs H Q E h => ?_) (fun cdv A outer s H vs Q E hr h => ?_)
  · obtain ⟨n, rfl, _⟩ := h
    rfl
  · obtain ⟨n, rfl, hn, k⟩ := h
    refine ⟨_, pss_cons (ps_set (i := 1) scPairs.nd rfl (.inl rfl) (pe_lst pa_nil))
      <| pss_cons (ps_for PassesOwn.never rfl (pi_range1 (by rfl) T.range (pa_cons (pv 0) pa_nil)) (pg_name (i := 2) scPairs.nd rfl (.inr rfl))
        (pss_one (ps_set (i := 1) scPairs.nd rfl (.inl rfl) (pe_op op_cat (pv 1) (pe_lc (own := [("_law_other", 3)]) (g := gName 3) (tt := tYes) rfl scPairs.nd (pi_range2 (by rfl) T.range (pa_cons (pe_op op_add (pv 2) pe_int) (pa_cons (pv 0) pa_nil)))
          (blkOk_by (N := nPairs) (sc := defScope sPairs) (by decide +kernel)) (fun _ _ _ _ _ => pg_name (i := 3) scPairs.nd rfl (Or.inl rfl)) (fun _ _ _ _ _ => pts_nil)
          (fun _ _ _ _ _ => pe_tup (pa_cons (pv 2) (pa_cons (pv 3) pa_nil))))))))
      <| pss_one (ps_ret (pv 1)), ?_⟩
    refine ⟨Nat.zero_le _, fun l hl => ⟨_, rfl, _, rfl, by omega, by omega, ?_⟩⟩
    refine for_range (lo := 0) (n := (n : Int).toNat) (fun i σ M => ∃ (l' : Addr) (L : List (Int × Int)) (o2 : Option V), σ = [some (.int n), some (.ref l'), o2, none] ∧ H l' = none ∧ LP M l' L ∧ Bel n L ∧ L.length ≤ 12 * i ∧ Same H M)
      ⟨l, [], none, rfl, hl, ⟨[], upd_same, .nil⟩, .nil, Nat.zero_le _, same_new hl⟩ ?_ ?_
    · rintro i σ M hi ⟨l', L, o2, rfl, hl', ⟨vs, e1, e2⟩, e3, e4, sM⟩
      have len := e2.len
      refine ⟨_, rfl, _, rfl, _, _, rfl, rfl, _, rfl, _, _, rfl, ⟨by omega, by omega, by omega, by omega⟩, fun Da hD => ?_⟩
      have hDH : H Da = none := by
        cases e : H Da with
        | none => rfl
        | some o => rw [sM _ _ e] at hD; cases hD
      have nDl : l' ≠ Da := ne_of_none e1 hD
      refine lc_range (lo := (0 + (i : Int)) + 1) (n := ((n : Int) - ((0 + (i : Int)) + 1)).toNat) (fun j M2 => ∃ (ws : List V) (L2 : List (Int × Int)), M2 Da = some (.lst ws) ∧ Prs M2 ws L2 ∧ Bel n L2 ∧ L2.length = j ∧ M2 l' = some (.lst vs) ∧ Prs M2 vs L ∧ Same H M2)
        ⟨[], [], upd_same, .nil, .nil, rfl, by rw [upd_ne nDl]; exact e1, e2.mono (new_tup hD), sM.trans (same_new hD)⟩ ?_ ?_
      · rintro j M2 hj ⟨ws, L2, f1, f2, f3, f4, f5, f6, f7⟩
        refine ⟨rfl, ?_⟩
        unfold tYes
        refine iteT ?_
        refine ⟨_, rfl, _, rfl, by show 2 ≤ sizeLine; decide, fun t ht => ⟨ws, ?_, ?_, ws ++ [.ref t], L2 ++ [(0 + (i : Int), 0 + (i : Int) + 1 + (j : Int))], upd_same, ?_, f3.snoc ⟨?_, ?_, ?_⟩, by rw [List.length_append, f4] <;> rfl, ?_, ?_, ?_⟩⟩
        · rw [upd_ne (ne_of_none f1 ht)]; exact f1
        · rw [f2.len, f4, sizeLine_eq]; omega
        · have g1 : Prs (upd M2 t (.tup [.int (0 + (i : Int)), .int (0 + (i : Int) + 1 + (j : Int))])) ws L2 := f2.mono (new_tup ht)
          have e1' : (upd M2 t (.tup [V.int (0 + (i : Int)), V.int (0 + (i : Int) + 1 + (j : Int))])) Da = some (.lst ws) := by rw [upd_ne (ne_of_none f1 ht)]; exact f1
          exact (g1.app (.cons (q := (0 + (i : Int), 0 + (i : Int) + 1 + (j : Int))) upd_same .nil)).mono (upd_tup e1')
        · show (0 : Int) ≤ 0 + (i : Int); omega
        · show 0 + (i : Int) < 0 + (i : Int) + 1 + (j : Int); omega
        · show 0 + (i : Int) + 1 + (j : Int) < n; omega
        · rw [upd_ne nDl, upd_ne (ne_of_none f5 ht)]; exact f5
        · have e1' : (upd M2 t (.tup [V.int (0 + (i : Int)), V.int (0 + (i : Int) + 1 + (j : Int))])) Da = some (.lst ws) := by rw [upd_ne (ne_of_none f1 ht)]; exact f1
          exact (f6.mono (new_tup ht)).mono (upd_tup e1')
        · exact fun b o e => by rw [upd_ne (ne_of_none e hDH), upd_ne (ne_of_none (f7 _ _ e) ht)]; exact f7 _ _ e
      · rintro M2 ⟨ws, L2, f1, f2, f3, f4, f5, f6, f7⟩
        have l2 := f2.len
        refine ⟨l', Da, _, _, rfl, rfl, f5, f1, by rw [len, l2, sizeLine_eq]; omega, fun q hq => ?_⟩
        have hqH : H q = none := by
          cases e : H q with
          | none => rfl
          | some o => rw [f7 _ _ e] at hq; cases hq
        exact ⟨q, L ++ L2, _, rfl, hqH, ⟨_, upd_same, (f6.app f2).mono (new_tup hq)⟩, e3.app f3, by rw [List.length_append]; omega, f7.trans (same_new hq)⟩
    · rintro σ M ⟨l', L, o2, rfl, hl', e1, e3, e4, sM⟩
      exact ⟨_, rfl, k l' L M hl' e1 e3 (by omega) sM⟩
end
end K0

set_option Elab.async false
set_option linter.all false
set_option maxRecDepth 100000
set_option maxHeartbeats 8000000
/-! The drawn ties. -/
namespace K0
open PySem PySem.Spec L2
open PyProof.Rows hiding St
/-- what a comprehension over pairs has made: some of them -/
structure FI (p c : Addr) (H : Hp) (l : Addr) (vs : List V) (L : List (Int × Int)) (Da : Addr) (i : Nat) (M : Hp) : Prop where
  ex : ∃ (ws : List V) (L2 : List (Int × Int)), M Da = some (.lst ws) ∧ Prs M ws L2 ∧ (∀ q ∈ L2, q ∈ L) ∧ L2.length ≤ i
  src : M l = some (.lst vs)
  prs : Prs M vs L
  dk : Deck M p c
  kp : Kp p c H M
section
variable {p c l Da : Addr} {H M M' : Hp} {vs : List V} {L : List (Int × Int)} {i : Nat}
theorem FI.step (h : FI p c H l vs L Da i M) (n1 : l ≠ p) (n2 : l ≠ c) (n3 : Da ≠ p) (n4 : Da ≠ c) (D : Deck M' p c) (k : Kp p c M M') : FI p c H l vs L Da i M' := by
  obtain ⟨ws, L2, e1, e2, e3, e4⟩ := h.ex
  exact ⟨⟨ws, L2, k _ _ n3 n4 e1, e2.mono (k.tup h.dk), e3, e4⟩, k _ _ n1 n2 h.src, h.prs.mono (k.tup h.dk), D, h.kp.trans k⟩
theorem FI.skip (h : FI p c H l vs L Da i M) : FI p c H l vs L Da (i + 1) M := by
  obtain ⟨ws, L2, e1, e2, e3, e4⟩ := h.ex
  exact ⟨⟨ws, L2, e1, e2, e3, by omega⟩, h.src, h.prs, h.dk, h.kp⟩
theorem FI.put (h : FI p c H l vs L Da i M) (hD : H Da = none) (n0 : l ≠ Da) (n3 : Da ≠ p) (n4 : Da ≠ c) (hi : i ≤ 1000) {v : V} {j : Nat} (hv : vs[j]? = some v) :
    ∃ acc, M Da = some (.lst acc) ∧ acc.length < sizeLine ∧ FI p c H l vs L Da (i + 1) (upd M Da (.lst (acc ++ [v]))) := by
  obtain ⟨ws, L2, e1, e2, e3, e4⟩ := h.ex
  obtain ⟨a, q, rfl, hq, ha⟩ := h.prs.get hv
  refine ⟨ws, e1, by rw [e2.len, sizeLine_eq]; omega, ⟨ws ++ [.ref a], L2 ++ [q], upd_same, (e2.app (.cons ha .nil)).mono (upd_tup e1), fun r z => ?_, by rw [List.length_append]; show L2.length + 1 ≤ _; omega⟩, by rw [upd_ne n0]; exact h.src, h.prs.mono (upd_tup e1), h.dk.put n3 n4, h.kp.own hD⟩
  rcases List.mem_append.mp z with z | z
  · exact e3 r z
  · rw [List.mem_singleton.mp z]; exact List.mem_of_getElem? hq
end
/-- what a comprehension of new pairs has made, an order beside it -/
structure GI (p c : Addr) (H : Hp) (l : Addr) (os : List Int) (n : Int) (Da : Addr) (i : Nat) (M : Hp) : Prop where
  ex : ∃ (ws : List V) (L2 : List (Int × Int)), M Da = some (.lst ws) ∧ Prs M ws L2 ∧ Bel n L2 ∧ L2.length ≤ i
  src : M l = some (.lst (os.map V.int))
  dk : Deck M p c
  kp : Kp p c H M
section
variable {p c l Da : Addr} {H M M' : Hp} {os : List Int} {n : Int} {i : Nat}
theorem GI.step (h : GI p c H l os n Da i M) (n1 : l ≠ p) (n2 : l ≠ c) (n3 : Da ≠ p) (n4 : Da ≠ c) (D : Deck M' p c) (k : Kp p c M M') : GI p c H l os n Da i M' := by
  obtain ⟨ws, L2, e1, e2, e3, e4⟩ := h.ex
  exact ⟨⟨ws, L2, k _ _ n3 n4 e1, e2.mono (k.tup h.dk), e3, e4⟩, k _ _ n1 n2 h.src, D, h.kp.trans k⟩
theorem GI.put (h : GI p c H l os n Da i M) (hD : H Da = none) (n0 : l ≠ Da) (n3 : Da ≠ p) (n4 : Da ≠ c) (hi : i ≤ 1000) {a : Addr} {q : Int × Int} (ha : M a = none) (hq : 0 ≤ q.1 ∧ q.1 < q.2 ∧ q.2 < n) :
    ∃ acc, (upd M a (.tup [.int q.1, .int q.2])) Da = some (.lst acc) ∧ acc.length < sizeLine ∧ GI p c H l os n Da (i + 1) (upd (upd M a (.tup [.int q.1, .int q.2])) Da (.lst (acc ++ [.ref a]))) := by
  obtain ⟨ws, L2, e1, e2, e3, e4⟩ := h.ex
  have e1' : (upd M a (.tup [.int q.1, .int q.2])) Da = some (.lst ws) := by rw [upd_ne (ne_of_none e1 ha)]; exact e1
  refine ⟨ws, e1', by rw [e2.len, sizeLine_eq]; omega, ⟨ws ++ [.ref a], L2 ++ [q], upd_same, ((e2.mono (new_tup ha)).app (.cons upd_same .nil)).mono (upd_tup e1'), e3.snoc hq, by rw [List.length_append]; show L2.length + 1 ≤ _; omega⟩, ?_, (h.dk.new ha).put n3 n4, (h.kp.trans (kp_new ha)).own hD⟩
  rw [upd_ne n0, upd_ne (ne_of_none h.src ha)]
  exact h.src
end
def spTies : Sp := fun vs H Q _ => ∃ (p c : Addr) (n : Nat), vs = [.ref p, .int n] ∧ 1 ≤ n ∧ n ≤ 12 ∧ Deck H p c ∧ ∀ (l : Addr) (L : List (Int × Int)) (H' : Hp), H l = none → LP H' l L → Bel n L → L.length ≤ 160 → Deck H' p c → Kp p c H H' → Q (.ref l) H'
abbrev nTies : List Str := ["_law_deck_here", "_law_n", "_law_way", "_law_thick", "_law_order_here", "_law_some", "_law_near", "_law_turn", "_law_one", "_law_step", "_law_pair_here", "_law_at"]
/-- between the statements -/
def TJ (p c : Addr) (n : Nat) (H : Hp) (σ : St) (M : Hp) : Prop := ∃ (wy th : Int) (lo : Addr) (os : List Int) (ls : Addr) (L : List (Int × Int)) (o6 : Option V),
  σ = [some (.ref p), some (.int n), some (.int wy), some (.int th), some (.ref lo), some (.ref ls), o6, none, none, none, none, none] ∧ H ls = none ∧ LP M ls L ∧ Bel n L ∧ L.length ≤ 144 ∧
  IsOrd n os ∧ H lo = none ∧ M lo = some (.lst (os.map V.int)) ∧ Deck M p c ∧ Kp p c H M
/-- from one state of affairs to another -/
def tInv (J J' : St → Hp → Prop) : TS := fun D σ H => J σ H ∧ ∀ σ' H', J' σ' H' → D.nx σ' H'
theorem ps_inv {X : Cx} {st : Stmt} {t : TS} {J J' : St → Hp → Prop} (h : PS X st t) (w : ∀ D σ H, J σ H → (∀ σ' H', J' σ' H' → D.nx σ' H') → t D σ H) : PS X st (tInv J J') :=
  ⟨fun pins s σ H D I q => h.run pins s σ H D I (w D σ H q.1 q.2)⟩
theorem pe_imp {X : Cx} {e : Expr} {t t' : TE} (h : PE X e t) (w : ∀ σ H Q, t' σ H Q → t σ H Q) : PE X e t' := ⟨fun pins s σ H Q I q => h.run pins s σ H Q I (w σ H Q q)⟩
theorem Deck.same {p c : Addr} {H H' : Hp} (D : Deck H p c) (s : Same H H') : Deck H' p c := by
  obtain ⟨xs, m, n, h1, h2, h3⟩ := D.ex
  exact ⟨xs, m, n, s _ _ h1, s _ _ h2, h3⟩
theorem kp_same {p c : Addr} {H H' : Hp} (s : Same H H') : Kp p c H H' := fun b o _ _ e => s _ _ e
theorem range2_12 {n : Nat} (h1 : 1 ≤ n) (h2 : n ≤ 12) : RgC 0 ((n : Int) - 1) 2 (n / 2) := by
  have : n = 1 ∨ n = 2 ∨ n = 3 ∨ n = 4 ∨ n = 5 ∨ n = 6 ∨ n = 7 ∨ n = 8 ∨ n = 9 ∨ n = 10 ∨ n = 11 ∨ n = 12 := by omega
  rcases this with rfl | rfl | rfl | rfl | rfl | rfl | rfl | rfl | rfl | rfl | rfl | rfl <;> exact ⟨by decide, by decide, by decide, by decide⟩
theorem atI_neg1 {n : Nat} {os : List Int} (h : IsOrd n os) (hn : 1 ≤ n) : ∃ x, os[n - 1]? = some x ∧ atI (os.map V.int) (0 + ((0 : Nat) : Int) - 1) = some (.int x) := by
  obtain ⟨x, hx, _⟩ := h.at (i := n - 1) (by omega)
  refine ⟨x, hx, ?_⟩
  have l := h.len
  have e : ixN (os.map V.int).length (0 + ((0 : Nat) : Int) - 1) = some (n - 1) := by
    unfold ixN
    rw [List.length_map, l, if_neg (by omega), if_pos (by omega)]
    congr 1
    omega
  unfold atI
  rw [e]
  show (os.map V.int)[n - 1]? = _
  rw [List.getElem?_map, hx] <;> rfl
theorem os_at {n : Nat} {os : List Int} (h : IsOrd n os) {i : Nat} (hi : i < n) : ∃ x, os[i]? = some x ∧ (os.map V.int)[i]? = some (.int x) ∧ 0 ≤ x ∧ x < n := by
  obtain ⟨x, hx, h1, h2⟩ := h.at hi
  exact ⟨x, hx, by rw [List.getElem?_map, hx] <;> rfl, h1, h2⟩
section
variable {P : Program} {w : World} {K : PySem.W.Frag} {mg : Str → Option Value} {base : Heap}
theorem scTies : FnScope nTies ["_law_deck_here", "_law_n"] (defScope sTies) := ⟨rfl, rfl, rfl, by decide +kernel, rfl, by decide +kernel, by decide +kernel⟩
theorem ok_ties {f fD fO fP fA : Addr} {fd fdD fdO fdP fdA : FuncData} (F : Fun K "_law_drawn_ties" "_law_drawn_ties" sTies f fd) (T : Bj mg) (GD : Dn P w K mg base "_law_draw" 1 ["_law_deck_here", "_law_many"] spDraw fD fdD)
    (GO : Dn P w K mg base "_law_order" 2 ["_law_deck_here", "_law_n"] spOrder fO fdO) (GP : Dn P w K mg base "_law_pair" 1 ["_law_one", "_law_other"] spPair fP fdP) (GA : Dn P w K mg base "_law_pairs" 1 ["_law_n"] spPairs fA fdA) :
    FnOk P w K mg base CX0 3 f fd ["_law_deck_here", "_law_n"] spTies := by
  refine F.ok scTies (fun vs H Q E h => ?_) (fun cdv A outer s H vs Q E hr h => ?_)
  · obtain ⟨p, c, n, rfl, _⟩ := h
    rfl
  · obtain ⟨p, c, n, rfl, hn1, hn2, D, k⟩ := h
    have hr1 : Room 1 (A.deeper (envOfC "_law_drawn_ties" (defScope sTies) s.heap.objs.size f cdv)) := hr.mono (by decide)
    refine ⟨_, pss_cons (ps_asg (pe_tup (pa_cons (pe_call GD.ok hr1 rfl GD.g GD.kp GD.b .nil pass0 (pa_cons (pv 0) (pa_cons pe_int pa_nil)))
          (pa_cons (pe_op op_add pe_int (pe_call GD.ok hr1 rfl GD.g GD.kp GD.b .nil pass0 (pa_cons (pv 0) (pa_cons pe_int pa_nil)))) (pa_cons (pe_call GO.ok hr rfl GO.g GO.kp GO.b .nil pass0 (pa_cons (pv 0) (pa_cons (pv 1) pa_nil))) (pa_cons (pe_lst pa_nil) pa_nil)))))
          (pg_tup rfl (pgs_cons (pg_name (i := 2) scTies.nd rfl (.inl rfl)) (pgs_cons (pg_name (i := 3) scTies.nd rfl (.inr rfl)) (pgs_cons (pg_name (i := 4) scTies.nd rfl (.inr rfl)) (pgs_cons (pg_name (i := 5) scTies.nd rfl (.inl rfl)) pgs_nil))))))
      <| pss_cons (ps_inv (J := TJ p c n H) (J' := TJ p c n H) (ps_if (pt_cmpR op_lt (pv 2) pe_int (nomark _)) (pss_one (ps_setLc (i := 5) (own := [("_law_pair_here", 10)]) (g := gName 10) rfl scTies.nd rfl rfl (sw_true rfl rfl rfl (by decide +kernel))
          (pi_list (pe_call GA.ok hr1 rfl GA.g GA.kp GA.b .nil pass0 (pa_cons (pv 1) pa_nil))) (blkOk_by (N := nTies) (sc := defScope sTies) (by decide +kernel)) (fun _ _ _ _ _ => pg_name (i := 10) scTies.nd rfl (Or.inl rfl))
          (fun _ _ _ _ _ => pts_one (pt_cmpR op_lt (pe_call GD.ok hr1 rfl GD.g GD.kp GD.b .nil pass0 (pa_cons (pv 0) (pa_cons pe_int pa_nil))) (pv 3) (nomark _))) (fun _ _ _ _ _ => pv 10))) pss_nil) ?i1)
      <| pss_cons (ps_inv (J := TJ p c n H) (J' := TJ p c n H) (ps_if (pt_cmpR op_eq (pv 2) pe_int (nomark _))
          (pss_cons (ps_set (i := 6) scTies.nd rfl (.inr rfl) (pe_slice sl_list (pv 4) po_none (po_some (pe_op op_add pe_int (pe_call GD.ok hr1 rfl GD.g GD.kp GD.b .nil pass0 (pa_cons (pv 0) (pa_cons (pv 1) pa_nil)))))))
          <| pss_cons (ps_setLc (i := 5) (own := [("_law_pair_here", 10)]) (g := gName 10) rfl scTies.nd rfl rfl (sw_true rfl rfl rfl (by decide +kernel))
            (pi_list (pe_call GA.ok hr1 rfl GA.g GA.kp GA.b .nil pass0 (pa_cons (pv 1) pa_nil))) (blkOk_by (N := nTies) (sc := defScope sTies) (by decide +kernel)) (fun _ _ _ _ _ => pg_name (i := 10) scTies.nd rfl (Or.inl rfl))
            (fun _ _ _ _ _ => pts_one (pt_cmpR op_ne (pe_cmpR (show OpR _ (compareOp .In) (rIn K false) from op_in_seq) (pe_ix (show IxR _ (rIxT K) from ix_tup) (pv 10) pe_int (fun _ _ => rfl)) (pv 6) (by rfl)) (pe_cmpR (show OpR _ (compareOp .In) (rIn K false) from op_in_seq) (pe_ix (show IxR _ (rIxT K) from ix_tup) (pv 10) pe_int (fun _ _ => rfl)) (pv 6) (by rfl)) (nomark _))) (fun _ _ _ _ _ => pv 10))
          <| pss_one (ps_setLc (i := 5) (own := [("_law_pair_here", 10)]) (g := gName 10) rfl scTies.nd rfl rfl (sw_true rfl rfl rfl (by decide +kernel))
            (pi_list (pv 5)) (blkOk_by (N := nTies) (sc := defScope sTies) (by decide +kernel)) (fun _ _ _ _ _ => pg_name (i := 10) scTies.nd rfl (Or.inl rfl))
            (fun _ _ _ _ _ => pts_one (pt_cmpR op_le (pe_call GD.ok hr1 rfl GD.g GD.kp GD.b .nil pass0 (pa_cons (pv 0) (pa_cons pe_int pa_nil))) (pv 3) (nomark _))) (fun _ _ _ _ _ => pv 10))) pss_nil) ?i2)
      <| pss_cons (ps_inv (J := TJ p c n H) (J' := TJ p c n H) (ps_if (PW.pt (pw_and (pt_cmpR op_eq (pv 2) pe_int (nomark _)) (pw_and1 (pt_cmpR op_gt (pv 1) pe_int (nomark _)))))
          (pss_one (ps_setLc (i := 5) (own := [("_law_at", 11)]) (g := gName 11) (tt := tYes) rfl scTies.nd rfl rfl (sw_true rfl rfl rfl (by decide +kernel))
            (pi_range1 (by rfl) T.range (pa_cons (pv 1) pa_nil)) (blkOk_by (N := nTies) (sc := defScope sTies) (by decide +kernel)) (fun _ _ _ _ _ => pg_name (i := 11) scTies.nd rfl (Or.inl rfl)) (fun _ _ _ _ _ => pts_nil)
            (fun _ _ _ _ _ => pe_call GP.ok hr1 rfl GP.g GP.kp GP.b .nil pass0 (pa_cons (pe_ix (show IxR _ (rIxL K) from ix_list) (pv 4) (pe_op op_sub (pv 11) pe_int) (fun _ _ => rfl)) (pa_cons (pe_ix (show IxR _ (rIxL K) from ix_list) (pv 4) (pv 11) (fun _ _ => rfl)) pa_nil))))) pss_nil) ?i3)
      <| pss_cons (ps_inv (J := TJ p c n H) (J' := TJ p c n H) (ps_if (pt_cmpR op_eq (pv 2) pe_int (nomark _))
          (pss_one (ps_setLc (i := 5) (own := [("_law_at", 11)]) (g := gName 11) (tt := tYes) rfl scTies.nd rfl rfl (sw_true rfl rfl rfl (by decide +kernel))
            (pi_range2 (by rfl) T.range (pa_cons pe_int (pa_cons (pv 1) pa_nil))) (blkOk_by (N := nTies) (sc := defScope sTies) (by decide +kernel)) (fun _ _ _ _ _ => pg_name (i := 11) scTies.nd rfl (Or.inl rfl)) (fun _ _ _ _ _ => pts_nil)
            (fun _ _ _ _ _ => pe_call GP.ok hr1 rfl GP.g GP.kp GP.b .nil pass0 (pa_cons (pe_ix (show IxR _ (rIxL K) from ix_list) (pv 4) (pv 11) (fun _ _ => rfl)) (pa_cons (pe_ix (show IxR _ (rIxL K) from ix_list) (pv 4) (pe_call GD.ok hr1 rfl GD.g GD.kp GD.b .nil pass0 (pa_cons (pv 0) (pa_cons (pv 11) pa_nil))) (fun _ _ => rfl)) pa_nil))))) pss_nil) ?i4)
      <| pss_cons (ps_inv (J := TJ p c n H) (J' := TJ p c n H) (ps_if (pt_cmpR op_eq (pv 2) pe_int (nomark _))
          (pss_one (ps_setLc (i := 5) (own := [("_law_at", 11)]) (g := gName 11) (tt := tYes) rfl scTies.nd rfl rfl (sw_true rfl rfl rfl (by decide +kernel))
            (pi_range3 (by rfl) T.range (pa_cons pe_int (pa_cons (pe_op op_sub (pv 1) pe_int) (pa_cons pe_int pa_nil)))) (blkOk_by (N := nTies) (sc := defScope sTies) (by decide +kernel)) (fun _ _ _ _ _ => pg_name (i := 11) scTies.nd rfl (Or.inl rfl)) (fun _ _ _ _ _ => pts_nil)
            (fun _ _ _ _ _ => pe_call GP.ok hr1 rfl GP.g GP.kp GP.b .nil pass0 (pa_cons (pe_ix (show IxR _ (rIxL K) from ix_list) (pv 4) (pv 11) (fun _ _ => rfl)) (pa_cons (pe_ix (show IxR _ (rIxL K) from ix_list) (pv 4) (pe_op op_add (pv 11) pe_int) (fun _ _ => rfl)) pa_nil))))) pss_nil) ?i5)
      <| pss_cons (ps_for PassesOwn.never rfl (pi_range1 (by rfl) T.range (pa_cons (pe_imp (t' := fun σ M Q => TJ p c n H σ M ∧ ∀ (m : Nat) (M1 : Hp), m ≤ 5 → (m = 0 ∨ 2 ≤ n) → Deck M1 p c → Kp p c M M1 → Q (.int m) M1)
            (pe_ifExp (PW.pt (pw_and (pt_cmpR op_gt (pv 1) pe_int (nomark _)) (pw_and1 (pt_cmpR op_gt (pv 2) pe_int (nomark _)))))
            (pe_call GD.ok hr1 rfl GD.g GD.kp GD.b .nil pass0 (pa_cons (pv 0) (pa_cons pe_int pa_nil))) pe_int) ?i6) pa_nil)) (pg_name (i := 7) scTies.nd rfl (.inl rfl))
          (pss_cons (ps_par (i := 8) (j := 9) rfl scTies.nd rfl rfl (by decide) rfl rfl (pa_cons (pe_call GD.ok hr1 rfl GD.g GD.kp GD.b .nil pass0 (pa_cons (pv 0) (pa_cons (pv 1) pa_nil)))
              (pa_cons (pe_op op_add pe_int (pe_call GD.ok hr1 rfl GD.g GD.kp GD.b .nil pass0 (pa_cons (pv 0) (pa_cons (pe_op op_sub (pv 1) pe_int) pa_nil)))) pa_nil)) (by rfl))
            <| pss_one (ps_expr (pe_bm PySem.F.plainAttrs_list PySem.F.slot_list_append PySem.F.type_list_append mt_append (pv 5) (pa_cons (pe_call GP.ok hr1 rfl GP.g GP.kp GP.b .nil pass0
                (pa_cons (pv 8) (pa_cons (pe_op op_modN (pe_callTy call_int1 (by rfl) T.int (by decide +kernel) (pa_cons (pe_op op_add (pv 8) (pv 9)) pa_nil)) (pv 1)) pa_nil))) pa_nil)))))
      <| pss_one (ps_ret (pv 5)), ?i0⟩
    case i1 =>
      rintro D0 σ M ⟨wy, th, lo, os, ls, L, o6, rfl, hls, hL, hB, hlen, hos, hlo, src, D1, K1⟩ nx
      obtain ⟨np, nc⟩ := D.inp hlo
      refine ⟨_, rfl, _, _, rfl, rfl, _, rfl, ite2 (fun h1 => ?_) (fun h1 => nx _ _ ⟨wy, th, lo, os, ls, L, o6, rfl, hls, hL, hB, hlen, hos, hlo, src, D1, K1⟩)⟩
      refine ⟨_, rfl, n, rfl, hn2, fun l L1 M1 ln ⟨vs, e1, e2⟩ hB1 hlen1 s1 => ⟨l, rfl, ⟨_, SqL.of e1⟩, fun Da hD => ?_⟩⟩
      have hDa : H Da = none := K1.dom D1 (s1.free hD)
      obtain ⟨dp, dc⟩ := D.inp hDa
      obtain ⟨lp, lc⟩ := D1.inp ln
      have nlD : l ≠ Da := ne_of_none e1 hD
      have D2 := D1.same s1
      have no : lo ≠ Da := ne_of_none (s1 _ _ src) hD
      refine lc_list (xs := vs) (fun i M2 => FI p c H l vs L1 Da i M2 ∧ M2 lo = some (.lst (os.map V.int))) ⟨⟨⟨[], [], upd_same, .nil, (fun _ z => nomatch z), Nat.le_refl _⟩, by rw [upd_ne nlD]; exact e1, e2.mono (new_tup hD), D2.new hD, (K1.trans (kp_same s1)).trans (kp_new hD)⟩, by rw [upd_ne (ne_of_none (s1 _ _ src) hD)]; exact s1 _ _ src⟩ (fun i M2 _ fi => SqL.of fi.1.src) ?_ ?_
      · rintro i x M2 hx ⟨fi, so⟩
        have hi : i < vs.length := (List.getElem?_eq_some_iff.mp hx).1
        have := e2.len
        refine ⟨rfl, _, rfl, p, c, _, rfl, fi.dk, by decide, by decide, fun r M3 r0 r1 D3 K3 => ⟨_, rfl, _, _, rfl, rfl, _, rfl, ite2 (fun h2 => ?_) (fun h2 => ?_)⟩⟩
        · obtain ⟨acc, f1, f2, f3⟩ := (fi.step lp lc dp dc D3 K3).put hDa nlD dp dc (by omega) hx
          refine ⟨_, rfl, acc, f1, f2, f3, ?_⟩
          rw [upd_ne no]
          exact K3 _ _ np nc so
        · exact ⟨(fi.step lp lc dp dc D3 K3).skip, K3 _ _ np nc so⟩
      · rintro M2 ⟨fi, so⟩
        obtain ⟨ws, L2, f1, f2, f3, f4⟩ := fi.ex
        have := e2.len
        exact nx _ _ ⟨wy, th, lo, os, Da, L2, o6, rfl, hDa, ⟨ws, f1, f2⟩, hB1.sub f3, by omega, hos, hlo, so, fi.dk, fi.kp⟩
    case i2 =>
      rintro D0 σ M ⟨wy, th, lo, os, ls, L, o6, rfl, hls, hL, hB, hlen, hos, hlo, src, D1, K1⟩ nx
      obtain ⟨np, nc⟩ := D.inp hlo
      refine ⟨_, rfl, rfl, _, rfl, ite2 (fun h1 => ?_) (fun h1 => nx _ _ ⟨wy, th, lo, os, ls, L, o6, rfl, hls, hL, hB, hlen, hos, hlo, src, D1, K1⟩)⟩
      -- near = order[:1 + draw(n)]
      refine ⟨_, rfl, _, rfl, _, rfl, p, c, _, rfl, D1, by omega, by omega, fun r N r0 r1 DN KN => ⟨_, _, rfl, rfl, _, rfl, lo, _, rfl, SqL.of (KN _ _ np nc src), fun nr hnr => ?_⟩⟩
      have DN1 := DN.new (o := .lst (cutV (os.map V.int) none (some (1 + r)))) hnr
      have KN1 := (K1.trans KN).trans (kp_new (o := .lst (cutV (os.map V.int) none (some (1 + r)))) hnr)
      have hnrH : H nr = none := K1.dom D1 (KN.dom DN hnr)
      have nn : lo ≠ nr := ne_of_none (KN _ _ np nc src) hnr
      obtain ⟨rp, rc⟩ := D.inp hnrH
      have so1 : (upd N nr (.lst (cutV (os.map V.int) none (some (1 + r))))) lo = some (.lst (os.map V.int)) := by rw [upd_ne nn]; exact KN _ _ np nc src
      have flat : (cutV (os.map V.int) none (some (1 + r))).all flatV = true := by
        refine List.all_eq_true.mpr fun v hv => ?_
        obtain ⟨i, _, rfl⟩ := List.mem_map.mp (List.mem_of_mem_drop (List.mem_of_mem_take hv))
        rfl
      -- the pairs with one end in it
      refine ⟨_, rfl, n, rfl, hn2, fun l L1 M1 ln ⟨vs, e1, e2⟩ hB1 hlen1 s1 => ⟨l, rfl, ⟨_, SqL.of e1⟩, fun Da hD => ?_⟩⟩
      have hDa : H Da = none := KN1.dom DN1 (s1.free hD)
      have hlH : H l = none := KN1.dom DN1 ln
      obtain ⟨dp, dc⟩ := D.inp hDa
      obtain ⟨lp, lc⟩ := D.inp hlH
      have nlD : l ≠ Da := ne_of_none e1 hD
      have D2 := DN1.same s1
      have no : lo ≠ Da := ne_of_none (s1 _ _ so1) hD
      have nrD : nr ≠ Da := ne_of_none (s1 _ _ upd_same) hD
      refine lc_list (xs := vs) (fun i M2 => FI p c H l vs L1 Da i M2 ∧ M2 lo = some (.lst (os.map V.int)) ∧ M2 nr = some (.lst (cutV (os.map V.int) none (some (1 + r)))))
        ⟨⟨⟨[], [], upd_same, .nil, (fun _ z => nomatch z), Nat.le_refl _⟩, by rw [upd_ne nlD]; exact e1, e2.mono (new_tup hD), D2.new hD, (KN1.trans (kp_same s1)).trans (kp_new hD)⟩, by rw [upd_ne no]; exact s1 _ _ so1, by rw [upd_ne nrD]; exact s1 _ _ upd_same⟩ (fun i M2 _ fi => SqL.of fi.1.src) ?_ ?_
      · rintro i x M2 hx ⟨fi, so, sn⟩
        have hi : i < vs.length := (List.getElem?_eq_some_iff.mp hx).1
        have := e2.len
        obtain ⟨a, q, rfl, hq, ha⟩ := fi.prs.get hx
        refine ⟨rfl, _, rfl, a, _, _, _, rfl, rfl, SqT.of ha, atI_nat (j := 0) rfl, _, rfl, nr, _, rfl, .inl (SqL.of sn), rfl, flat, _, rfl, a, _, _, _, rfl, rfl, SqT.of ha, atI_nat (j := 1) rfl, _, rfl, nr, _, rfl, .inl (SqL.of sn), rfl, flat, rfl, _, rfl, ite2 (fun h2 => ?_) (fun h2 => ?_)⟩
        · obtain ⟨acc, f1, f2, f3⟩ := fi.put hDa nlD dp dc (by omega) hx
          exact ⟨_, rfl, acc, f1, f2, f3, by rw [upd_ne no]; exact so, by rw [upd_ne nrD]; exact sn⟩
        · exact ⟨fi.skip, so, sn⟩
      rintro M2 ⟨fi, so, sn⟩
      -- .. some of them
      obtain ⟨ws, L2, f1, f2, f3, f4⟩ := fi.ex
      have lL2 : L2.length ≤ 144 := by have := e2.len; omega
      refine ⟨_, rfl, Da, rfl, ⟨_, SqL.of f1⟩, fun Db hb => ?_⟩
      have hDb : H Db = none := fi.kp.dom fi.dk hb
      obtain ⟨bp, bc⟩ := D.inp hDb
      have nab : Da ≠ Db := ne_of_none f1 hb
      have nob : lo ≠ Db := ne_of_none so hb
      refine lc_list (xs := ws) (fun i M3 => FI p c H Da ws L2 Db i M3 ∧ M3 lo = some (.lst (os.map V.int)))
        ⟨⟨⟨[], [], upd_same, .nil, (fun _ z => nomatch z), Nat.le_refl _⟩, by rw [upd_ne nab]; exact f1, f2.mono (new_tup hb), fi.dk.new hb, fi.kp.trans (kp_new hb)⟩, by rw [upd_ne nob]; exact so⟩ (fun i M3 _ fj => SqL.of fj.1.src) ?_ ?_
      · rintro i x M3 hx ⟨fj, so⟩
        have hi : i < ws.length := (List.getElem?_eq_some_iff.mp hx).1
        have := f2.len
        refine ⟨rfl, _, rfl, p, c, _, rfl, fj.dk, by decide, by decide, fun r M4 r0 r1 D3 K3 => ⟨_, rfl, _, _, rfl, rfl, _, rfl, ite2 (fun h2 => ?_) (fun h2 => ?_)⟩⟩
        · obtain ⟨acc, g1, g2, g3⟩ := (fj.step dp dc bp bc D3 K3).put hDb nab bp bc (by omega) hx
          exact ⟨_, rfl, acc, g1, g2, g3, by rw [upd_ne nob]; exact K3 _ _ np nc so⟩
        · exact ⟨(fj.step dp dc bp bc D3 K3).skip, K3 _ _ np nc so⟩
      · rintro M3 ⟨fj, so⟩
        obtain ⟨ws', L3, g1, g2, g3, g4⟩ := fj.ex
        have := f2.len
        exact nx _ _ ⟨wy, th, lo, os, Db, L3, _, rfl, hDb, ⟨ws', g1, g2⟩, (hB1.sub f3).sub g3, by omega, hos, hlo, so, fj.dk, fj.kp⟩
    case i3 =>
      rintro D0 σ M ⟨wy, th, lo, os, ls, L, o6, rfl, hls, hL, hB, hlen, hos, hlo, src, D1, K1⟩ nx
      obtain ⟨np, nc⟩ := D.inp hlo
      have stay := nx _ _ ⟨wy, th, lo, os, ls, L, o6, rfl, hls, hL, hB, hlen, hos, hlo, src, D1, K1⟩
      refine ⟨_, rfl, rfl, _, rfl, ite2 (fun h1 => ⟨_, rfl, _, _, rfl, rfl, _, rfl, ite2 (fun h2 => ?_) (fun h2 => stay)⟩) (fun h1 => stay)⟩
      have n3 : 2 < n := by have := of_decide_eq_true h2; omega
      refine ⟨_, rfl, _, rfl, by omega, by omega, fun Da hD => ?_⟩
      have hDa : H Da = none := K1.dom D1 hD
      obtain ⟨dp, dc⟩ := D.inp hDa
      have nlD : lo ≠ Da := ne_of_none src hD
      refine lc_range (lo := 0) (n := (n : Int).toNat) (fun i M2 => GI p c H lo os n Da i M2) ⟨⟨[], [], upd_same, .nil, .nil, Nat.le_refl _⟩, by rw [upd_ne nlD]; exact src, D1.new hD, K1.trans (kp_new hD)⟩ ?_ ?_
      · rintro i M2 hi g
        obtain ⟨y, y1, y2, y3, y4⟩ := os_at hos (i := i) (by omega)
        obtain ⟨x, j, x1, x2, x3, x4, xj⟩ : ∃ (x : Int) (j : Nat), os[j]? = some x ∧ atI (os.map V.int) (0 + (i : Int) - 1) = some (.int x) ∧ 0 ≤ x ∧ x < n ∧ j ≠ i := by
          cases i with
          | zero =>
            obtain ⟨x, h1, h2⟩ := atI_neg1 hos hn1
            have := hos.mem (List.mem_of_getElem? h1)
            exact ⟨x, n - 1, h1, h2, this.1, this.2, by omega⟩
          | succ i =>
            obtain ⟨x, h1, h2, h3, h4⟩ := os_at hos (i := i) (by omega)
            refine ⟨x, i, h1, ?_, h3, h4, by omega⟩
            rw [show (0 + ((i + 1 : Nat) : Int) - 1) = (i : Int) by omega]
            exact atI_nat h2
        have e0 : atI (os.map V.int) (0 + (i : Int)) = some (.int y) := by rw [Int.zero_add]; exact atI_nat y2
        refine ⟨rfl, ?_⟩
        unfold tYes
        refine iteT ?_
        refine ⟨_, rfl, _, rfl, _, _, rfl, rfl, lo, _, _, _, rfl, rfl, SqL.of g.src, x2, _, rfl, _, rfl, lo, _, _, _, rfl, rfl, SqL.of g.src, e0, x, y, rfl, fun a ha => ?_⟩
        exact g.put hDa nlD dp dc (by omega) ha (mm_bel ⟨x3, x4⟩ ⟨y3, y4⟩ (hos.ne x1 y1 xj))
      · rintro M2 g
        obtain ⟨ws, L2, f1, f2, f3, f4⟩ := g.ex
        exact nx _ _ ⟨wy, th, lo, os, Da, L2, o6, rfl, hDa, ⟨ws, f1, f2⟩, f3, by omega, hos, hlo, g.src, g.dk, g.kp⟩
    case i4 =>
      rintro D0 σ M ⟨wy, th, lo, os, ls, L, o6, rfl, hls, hL, hB, hlen, hos, hlo, src, D1, K1⟩ nx
      obtain ⟨np, nc⟩ := D.inp hlo
      refine ⟨_, rfl, rfl, _, rfl, ite2 (fun h1 => ?_) (fun h1 => nx _ _ ⟨wy, th, lo, os, ls, L, o6, rfl, hls, hL, hB, hlen, hos, hlo, src, D1, K1⟩)⟩
      refine ⟨_, rfl, _, _, rfl, ⟨by omega, by omega, by omega, by omega⟩, fun Da hD => ?_⟩
      have hDa : H Da = none := K1.dom D1 hD
      obtain ⟨dp, dc⟩ := D.inp hDa
      have nlD : lo ≠ Da := ne_of_none src hD
      refine lc_range (lo := 1) (n := ((n : Int) - 1).toNat) (fun i M2 => GI p c H lo os n Da i M2) ⟨⟨[], [], upd_same, .nil, .nil, Nat.le_refl _⟩, by rw [upd_ne nlD]; exact src, D1.new hD, K1.trans (kp_new hD)⟩ ?_ ?_
      · rintro i M2 hi g
        obtain ⟨y, y1, y2, y3, y4⟩ := os_at hos (i := i + 1) (by omega)
        have e0 : atI (os.map V.int) (1 + (i : Int)) = some (.int y) := by rw [show (1 + (i : Int)) = ((i + 1 : Nat) : Int) by omega]; exact atI_nat y2
        refine ⟨rfl, ?_⟩
        unfold tYes
        refine iteT ?_
        refine ⟨_, rfl, _, rfl, lo, _, _, _, rfl, rfl, SqL.of g.src, e0, _, rfl, _, rfl, _, rfl, p, c, _, rfl, g.dk, by omega, by omega, fun r M3 r0 r1 D3 K3 => ?_⟩
        obtain ⟨j, rfl⟩ : ∃ j : Nat, r = j := ⟨r.toNat, by omega⟩
        obtain ⟨x, x1, x2, x3, x4⟩ := os_at hos (i := j) (by omega)
        have g3 := g.step np nc dp dc D3 K3
        refine ⟨lo, _, _, _, rfl, rfl, SqL.of g3.src, atI_nat x2, y, x, rfl, fun a ha => ?_⟩
        exact g3.put hDa nlD dp dc (by omega) ha (mm_bel ⟨y3, y4⟩ ⟨x3, x4⟩ (hos.ne y1 x1 (by omega)))
      · rintro M2 g
        obtain ⟨ws, L2, f1, f2, f3, f4⟩ := g.ex
        exact nx _ _ ⟨wy, th, lo, os, Da, L2, o6, rfl, hDa, ⟨ws, f1, f2⟩, f3, by omega, hos, hlo, g.src, g.dk, g.kp⟩
    case i5 =>
      rintro D0 σ M ⟨wy, th, lo, os, ls, L, o6, rfl, hls, hL, hB, hlen, hos, hlo, src, D1, K1⟩ nx
      obtain ⟨np, nc⟩ := D.inp hlo
      refine ⟨_, rfl, rfl, _, rfl, ite2 (fun h1 => ?_) (fun h1 => nx _ _ ⟨wy, th, lo, os, ls, L, o6, rfl, hls, hL, hB, hlen, hos, hlo, src, D1, K1⟩)⟩
      refine ⟨_, rfl, _, _, rfl, rfl, _, _, _, n / 2, rfl, range2_12 hn1 hn2, fun Da hD => ?_⟩
      have hDa : H Da = none := K1.dom D1 hD
      obtain ⟨dp, dc⟩ := D.inp hDa
      have nlD : lo ≠ Da := ne_of_none src hD
      refine lc_it walk_rangeC (fun i M2 => GI p c H lo os n Da i M2) ⟨⟨[], [], upd_same, .nil, .nil, Nat.le_refl _⟩, by rw [upd_ne nlD]; exact src, D1.new hD, K1.trans (kp_new hD)⟩ (fun _ _ _ _ => trivial) ?_ ?_
      · rintro i v M2 M2' hi g ⟨rfl, rfl⟩
        obtain ⟨y, y1, y2, y3, y4⟩ := os_at hos (i := i * 2) (by omega)
        obtain ⟨x, x1, x2, x3, x4⟩ := os_at hos (i := i * 2 + 1) (by omega)
        have e0 : atI (os.map V.int) (0 + (i : Int) * 2) = some (.int y) := by rw [show (0 + (i : Int) * 2) = ((i * 2 : Nat) : Int) by omega]; exact atI_nat y2
        have e1 : atI (os.map V.int) (0 + (i : Int) * 2 + 1) = some (.int x) := by rw [show (0 + (i : Int) * 2 + 1) = ((i * 2 + 1 : Nat) : Int) by omega]; exact atI_nat x2
        refine ⟨rfl, ?_⟩
        unfold tYes
        refine iteT ?_
        refine ⟨_, rfl, _, rfl, lo, _, _, _, rfl, rfl, SqL.of g.src, e0, _, rfl, _, rfl, _, _, rfl, rfl, lo, _, _, _, rfl, rfl, SqL.of g.src, e1, y, x, rfl, fun a ha => ?_⟩
        exact g.put hDa nlD dp dc (by omega) ha (mm_bel ⟨y3, y4⟩ ⟨x3, x4⟩ (hos.ne y1 x1 (by omega)))
      · rintro M2 g
        obtain ⟨ws, L2, f1, f2, f3, f4⟩ := g.ex
        exact nx _ _ ⟨wy, th, lo, os, Da, L2, o6, rfl, hDa, ⟨ws, f1, f2⟩, f3, by omega, hos, hlo, g.src, g.dk, g.kp⟩
    case i6 =>
      rintro σ M Q1 ⟨⟨wy, th, lo, os, ls, L, o6, rfl, _, _, _, _, _, _, _, D1, K1⟩, q⟩
      refine ⟨_, rfl, _, _, rfl, rfl, _, rfl, ite2 (fun h1 => ?_) (fun h1 => ?_)⟩
      · refine ⟨_, rfl, _, _, rfl, rfl, _, rfl, ite2 (fun h2 => ?_) (fun h2 => ?_)⟩
        · refine ⟨_, rfl, p, c, _, rfl, D1, by decide, by decide, fun r M1 r0 r1 D2 K2 => ?_⟩
          obtain ⟨j, rfl⟩ : ∃ j : Nat, r = j := ⟨r.toNat, by omega⟩
          have := of_decide_eq_true h1
          exact q j M1 (by omega) (.inr (by omega)) D2 K2
        · exact q 0 M (by decide) (.inl rfl) D1 fun _ _ _ _ e => e
      · exact q 0 M (by decide) (.inl rfl) D1 fun _ _ _ _ e => e
    case i0 =>
      refine ⟨_, rfl, p, c, _, rfl, D, by decide, by decide, fun wy H1 w0 w1 D1 K1 => ⟨_, rfl, p, c, _, rfl, D1, by decide, by decide, fun th H2 t0 t1 D2 K2 => ⟨_, _, rfl, rfl, _, rfl, _, rfl, p, c, n, rfl, hn2, D2, fun lo os H3 lon loe hos D3 K3 => ⟨Nat.zero_le _, fun ls hls => ⟨by show 4 ≤ sizeLine; decide, fun t ht => ?_⟩⟩⟩⟩⟩
      have D4 := (D3.new (o := .lst []) hls).new (o := .tup [.int wy, .int (1 + th), .ref lo, .ref ls]) ht
      have K4 : Kp p c H (upd (upd H3 ls (.lst [])) t (.tup [.int wy, .int (1 + th), .ref lo, .ref ls])) := ((((K1.trans K2).trans K3).trans (kp_new hls)).trans (kp_new ht))
      have K12 := K1.trans K2
      have hlsH : H ls = none := (K12.trans K3).dom D3 hls
      have hloH : H lo = none := K12.dom D2 lon
      have e1 : (upd (upd H3 ls (.lst [])) t (.tup [.int wy, .int (1 + th), .ref lo, .ref ls])) ls = some (.lst []) := by rw [upd_ne (ne_of_none upd_same ht)]; exact upd_same
      have e2 : (upd (upd H3 ls (.lst [])) t (.tup [.int wy, .int (1 + th), .ref lo, .ref ls])) lo = some (.lst (os.map V.int)) := by
        have q : (upd H3 ls (.lst [])) lo = some (.lst (os.map V.int)) := by rw [upd_ne (ne_of_none loe hls)]; exact loe
        rw [upd_ne (ne_of_none q ht)]
        exact q
      refine ⟨t, _, rfl, SqT.of upd_same, rfl, _, _, rfl, _, _, rfl, _, _, rfl, _, _, rfl, rfl, ?_⟩
      refine ⟨⟨wy, 1 + th, lo, os, ls, [], none, rfl, hlsH, ⟨[], e1, .nil⟩, .nil, Nat.zero_le _, hos, hloH, e2, D4, K4⟩, fun σ1 M1 j1 => ⟨j1, fun σ2 M2 j2 => ⟨j2, fun σ3 M3 j3 => ⟨j3, fun σ4 M4 j4 => ⟨j4, fun σ5 M5 j5 => ⟨j5, fun m M6 hm hm2 D6 K6 => ?_⟩⟩⟩⟩⟩⟩
      obtain ⟨wy', th', lo', os', ls', L, o6, rfl, hls', hL, hB, hlen, _, _, _, D5, K5⟩ := j5
      obtain ⟨lp, lc⟩ := D.inp hls'
      refine ⟨_, rfl, by omega, by omega, ?_⟩
      refine for_range (lo := 0) (n := (m : Int).toNat) (fun i σ M => ∃ (L : List (Int × Int)) (o7 o8 o9 : Option V), σ = [some (.ref p), some (.int n), some (.int wy'), some (.int th'), some (.ref lo'), some (.ref ls'), o6, o7, o8, o9, none, none] ∧ LP M ls' L ∧ Bel n L ∧ L.length ≤ 144 + i ∧ Deck M p c ∧ Kp p c H M)
        ⟨L, none, none, none, rfl, hL.kp D5 K6 lp lc, hB, hlen, D6, K5.trans K6⟩ ?_ ?_
      · rintro i σ M hi ⟨L, o7, o8, o9, rfl, hL, hB, hlen, D7, K7⟩
        have hn : 2 ≤ n := by omega
        refine ⟨_, rfl, _, rfl, p, c, _, rfl, D7, by omega, by omega, fun x N1 x0 x1 E1 G1 => ⟨_, rfl, _, rfl, _, _, rfl, rfl, p, c, _, rfl, E1, by omega, by omega, fun y N2 y0 y1 E2 G2 => ⟨_, _, rfl, rfl, _, _, rfl, ?_⟩⟩⟩
        have hL2 := (hL.kp D7 G1 lp lc).kp E1 G2 lp lc
        obtain ⟨vs, f1, f2⟩ := hL2
        have fm := fmod_in (a := x + (1 + y)) (b := (n : Int)) (by omega)
        have ne : x ≠ (x + (1 + y)).fmod n := by
          rw [Int.fmod_eq_emod_of_nonneg _ (by omega)]
          by_cases z : x + (1 + y) < n
          · rw [Int.emod_eq_of_lt (by omega) z]; omega
          · have : (x + (1 + y)) % (n : Int) = x + (1 + y) - n := by
              rw [← Int.sub_emod_right, Int.emod_eq_of_lt (by omega) (by omega)]
            rw [this]; omega
        refine ⟨_, rfl, .inl ⟨rfl, _, SqL.of f1⟩, _, rfl, _, rfl, _, rfl, _, _, rfl, rfl, .inl ⟨_, rfl, _, rfl, _, _, rfl, rfl, by omega, ?_⟩⟩
        refine ⟨_, _, rfl, fun a ha => ?_⟩
        have f1' : (upd N2 a (.tup [.int (mm x ((x + (1 + y)).fmod n)).1, .int (mm x ((x + (1 + y)).fmod n)).2])) ls' = some (.lst vs) := by rw [upd_ne (ne_of_none f1 ha)]; exact f1
        refine ⟨ls', _, _, rfl, rfl, f1', by rw [f2.len, sizeLine_eq]; omega, L ++ [mm x ((x + (1 + y)).fmod n)], _, _, _, rfl, ⟨_, upd_same, ((f2.mono (new_tup ha)).app (.cons upd_same .nil)).mono (upd_tup f1')⟩, hB.snoc (mm_bel ⟨x0, x1⟩ fm ne), by rw [List.length_append]; show L.length + 1 ≤ _; omega, (E2.new ha).put lp lc, ?_⟩
        exact ((((K7.trans G1).trans G2).trans (kp_new ha)).own hls')
      · rintro σ M ⟨L, o7, o8, o9, rfl, hL, hB, hlen, D7, K7⟩
        exact ⟨_, rfl, k ls' L M hls' hL hB (by omega) D7 K7⟩
end
end K0

set_option Elab.async false
set_option linter.all false
set_option maxRecDepth 100000
set_option maxHeartbeats 8000000
/-! A drawn web. -/
namespace K0
open PySem PySem.Spec L2
open PyProof.Rows hiding St
/-- a pair as data -/
def pd (q : Int × Int) : PyData := .tuple [.int q.1, .int q.2]
theorem Prs.dp {K : PySem.W.Frag} {H : Hp} {vs : List V} {L : List (Int × Int)} (p : Prs H vs L) : DpAll K H vs (L.map pd) := by
  induction p with
  | nil => exact .nil
  | cons h t ih => exact .cons (Dp.tup (SqT.of h) (.cons (.int _) (.cons (.int _) .nil))) ih
theorem pd_shaped (L : List (Int × Int)) : SeqAt.shaped (.list (L.map pd)) = true := by
  have h : ∀ M : List (Int × Int), PyData.canLayAll0 (M.map pd) = true ∧ PyData.depthAll (M.map pd) ≤ 1 := fun M => by
    induction M with
    | nil => exact ⟨by simp [PyData.canLayAll0], by simp [PyData.depthAll]⟩
    | cons y ys ih => exact ⟨by simp [pd, PyData.canLayAll0, PyData.canLay0, ih.1], by
        have := ih.2
        simp only [List.map_cons, pd, PyData.depthAll, PyData.depth] at this ⊢
        omega⟩
  show (PyData.canLay0 _ && decide (PyData.depth _ ≤ 64)) = true
  rw [Bool.and_eq_true]
  exact ⟨by simp only [PyData.canLay0]; exact (h L).1, decide_eq_true (by simp only [PyData.depth]; have := (h L).2; omega)⟩
theorem pd_eqv0 (L : List (Int × Int)) : PyData.eqv (.list (L.map pd)) (.list []) = decide (L = []) := by
  cases L with
  | nil => rfl
  | cons q L => simp [PyData.eqv, PyData.eqvAll]
/-- the order of pairs -/
def cd (q : Int × Int) : Int := q.1 * 64 + q.2
def Srt (L : List (Int × Int)) : Prop := L.Pairwise fun a b => cd a ≤ cd b
theorem Prs.mem {H : Hp} {vs : List V} {L : List (Int × Int)} (p : Prs H vs L) : ∀ {q : Int × Int}, q ∈ L → ∃ a, V.ref a ∈ vs ∧ H a = some (.tup [.int q.1, .int q.2]) := by
  induction p with
  | nil => intro q z; cases z
  | @cons a r vs L h t ih =>
    intro q z
    rcases List.mem_cons.mp z with rfl | z
    · exact ⟨a, List.mem_cons_self .., h⟩
    · obtain ⟨b, h1, h2⟩ := ih z
      exact ⟨b, List.mem_cons_of_mem _ h1, h2⟩
theorem Prs.memV {H : Hp} {vs : List V} {L : List (Int × Int)} (p : Prs H vs L) : ∀ {v : V}, v ∈ vs → ∃ a q, v = .ref a ∧ q ∈ L ∧ H a = some (.tup [.int q.1, .int q.2]) := by
  induction p with
  | nil => intro q z; cases z
  | @cons a r vs L h t ih =>
    intro v z
    rcases List.mem_cons.mp z with rfl | z
    · exact ⟨a, r, rfl, List.mem_cons_self .., h⟩
    · obtain ⟨b, q, h1, h2, h3⟩ := ih z
      exact ⟨b, q, h1, List.mem_cons_of_mem _ h2, h3⟩
theorem tupI_pr {K : PySem.W.Frag} {H : Hp} {a : Addr} {q : Int × Int} (h : H a = some (.tup [.int q.1, .int q.2])) : TupI K H (.ref a) [q.1, q.2] := ⟨a, rfl, SqT.of h⟩
theorem Prs.srt {K : PySem.W.Frag} {H : Hp} {ys : List V} {M : List (Int × Int)} (p : Prs H ys M) : ys.Pairwise (fun x y => ∀ n m, TupI K H x n → TupI K H y m → TS.code 64 n ≤ TS.code 64 m) → Srt M := by
  induction p with
  | nil => intro _; exact .nil
  | @cons a r vs L h t ih =>
    intro z
    obtain ⟨z1, z2⟩ := List.pairwise_cons.mp z
    refine List.pairwise_cons.mpr ⟨fun q hq => ?_, ih z2⟩
    obtain ⟨b, hb, eb⟩ := t.mem hq
    have := z1 _ hb _ _ (tupI_pr h) (tupI_pr eb)
    rw [code_pair, code_pair] at this
    exact this
theorem Prs.tups {K : PySem.W.Frag} {H : Hp} {vs : List V} {L : List (Int × Int)} {n : Int} (p : Prs H vs L) (hB : Bel n L) (hn : n ≤ 64) : ∀ x ∈ vs, ∃ ns, TupI K H x ns ∧ ns.length = 2 ∧ TS.Bd 64 ns := fun x hx => by
  obtain ⟨a, q, rfl, hq, h⟩ := p.memV hx
  have := hB q hq
  refine ⟨_, tupI_pr h, rfl, fun m hm => ?_⟩
  rcases List.mem_cons.mp hm with rfl | hm
  · omega
  · rw [List.mem_singleton.mp hm]; omega
/-- a web stands at w -/
structure Web (H : Hp) (w : Addr) (n : Nat) (L : List (Int × Int)) : Prop where
  ex : ∃ (t : Addr) (vs : List V), H w = some (.tup [.int n, .ref t]) ∧ H t = some (.tup vs) ∧ Prs H vs L
theorem Web.mono {H H' : Hp} {w : Addr} {n : Nat} {L : List (Int × Int)} (W : Web H w n L) (s : ∀ a x, H a = some (.tup x) → H' a = some (.tup x)) : Web H' w n L := by
  obtain ⟨t, vs, h1, h2, h3⟩ := W.ex
  exact ⟨t, vs, s _ _ h1, s _ _ h2, h3.mono s⟩
theorem Web.same {H H' : Hp} {w : Addr} {n : Nat} {L : List (Int × Int)} (W : Web H w n L) (s : Same H H') : Web H' w n L := W.mono (same_tup s)
/-- what a comprehension of new pairs has made -/
structure GJ (p c : Addr) (H : Hp) (n : Int) (Da : Addr) (i : Nat) (M : Hp) : Prop where
  ex : ∃ (ws : List V) (L2 : List (Int × Int)), M Da = some (.lst ws) ∧ Prs M ws L2 ∧ Bel n L2 ∧ L2.length ≤ i
  dk : Deck M p c
  kp : Kp p c H M
theorem GJ.put {p c Da : Addr} {H M : Hp} {n : Int} {i : Nat} (h : GJ p c H n Da i M) (hD : H Da = none) (n3 : Da ≠ p) (n4 : Da ≠ c) (hi : i ≤ 1000) {a : Addr} {q : Int × Int} (ha : M a = none) (hq : 0 ≤ q.1 ∧ q.1 < q.2 ∧ q.2 < n) :
    ∃ acc, (upd M a (.tup [.int q.1, .int q.2])) Da = some (.lst acc) ∧ acc.length < sizeLine ∧ GJ p c H n Da (i + 1) (upd (upd M a (.tup [.int q.1, .int q.2])) Da (.lst (acc ++ [.ref a]))) := by
  obtain ⟨ws, L2, e1, e2, e3, e4⟩ := h.ex
  have e1' : (upd M a (.tup [.int q.1, .int q.2])) Da = some (.lst ws) := by rw [upd_ne (ne_of_none e1 ha)]; exact e1
  exact ⟨ws, e1', by rw [e2.len, sizeLine_eq]; omega, ⟨ws ++ [.ref a], L2 ++ [q], upd_same, ((e2.mono (new_tup ha)).app (.cons upd_same .nil)).mono (upd_tup e1'), e3.snoc hq, by rw [List.length_append]; show L2.length + 1 ≤ _; omega⟩, (h.dk.new ha).put n3 n4, (h.kp.trans (kp_new ha)).own hD⟩
/-- a row of pairs stays while a new tuple and another list are written -/
theorem LP.past {M : Hp} {l a Da : Addr} {L : List (Int × Int)} {o : HO} {ws : List V} {acc : List V} (h : LP M l L) (ha : M a = none) (eD : (upd M a o) Da = some (.lst acc)) (ne : l ≠ Da) : LP (upd (upd M a o) Da (.lst ws)) l L :=
  (h.mono (fun ys e => by rw [upd_ne (ne_of_none e ha)]; exact e) (new_tup ha)).mono (fun ys e => by rw [upd_ne ne]; exact e) (upd_tup eD)
theorem LP.new {M : Hp} {l a : Addr} {L : List (Int × Int)} {o : HO} (h : LP M l L) (ha : M a = none) : LP (upd M a o) l L := h.mono (fun ys e => by rw [upd_ne (ne_of_none e ha)]; exact e) (new_tup ha)
def spWeb : Sp := fun vs H Q _ => ∃ (p c : Addr) (n m : Nat), vs = [.ref p, .int n, .int m] ∧ 1 ≤ n ∧ n ≤ 12 ∧ m ≤ 40 ∧ Deck H p c ∧ ∀ (w : Addr) (L : List (Int × Int)) (H' : Hp), H w = none → Web H' w n L → Bel n L → Srt L → L.length ≤ m → Deck H' p c → Kp p c H H' → Q (.ref w) H'
abbrev nWeb : List Str := ["_law_deck_here", "_law_n", "_law_most", "_law_near", "_law_some", "_law_order_here", "_law_turn", "_law_one", "_law_other"]
/-- between the statements -/
def WJ (p c : Addr) (n m : Nat) (H : Hp) (near b lb : Nat) (σ : St) (M : Hp) : Prop := ∃ (ls lo : Addr) (L : List (Int × Int)) (os : List Int) (o6 : Option V),
  σ = [some (.ref p), some (.int n), some (.int m), some (.int near), some (.ref ls), some (.ref lo), o6, none, none] ∧ 1 ≤ near ∧ near ≤ n ∧ H ls = none ∧ H lo = none ∧ LP M ls L ∧ L.length ≤ lb ∧
  IsOrd n os ∧ M lo = some (.lst (os.map V.int)) ∧ Deck M p c ∧ Kp p c H M ∧ Bel b L
section
variable {P : Program} {w : World} {K : PySem.W.Frag} {mg : Str → Option Value} {base : Heap}
theorem scWeb : FnScope nWeb ["_law_deck_here", "_law_n", "_law_most"] (defScope sWeb) := ⟨rfl, rfl, rfl, by decide +kernel, rfl, by decide +kernel, by decide +kernel⟩
theorem ok_web {f fD fO fP fT fK : Addr} {fd fdD fdO fdP fdT fdK : FuncData} (F : Fun K "_law_web" "_law_web" sWeb f fd) (T : Bj mg) (GD : Dn P w K mg base "_law_draw" 1 ["_law_deck_here", "_law_many"] spDraw fD fdD)
    (GO : Dn P w K mg base "_law_order" 2 ["_law_deck_here", "_law_n"] spOrder fO fdO) (GP : Dn P w K mg base "_law_pair" 1 ["_law_one", "_law_other"] spPair fP fdP) (GT : Dn P w K mg base "_law_drawn_ties" 3 ["_law_deck_here", "_law_n"] spTies fT fdT)
    (GK : Dn P w K mg base "_law_pick" 2 ["_law_deck_here", "_law_some"] spPick fK fdK) :
    FnOk P w K mg base CX0 4 f fd ["_law_deck_here", "_law_n", "_law_most"] spWeb := by
  refine F.ok scWeb (fun vs H Q E h => ?_) (fun cdv A outer s H vs Q E hr h => ?_)
  · obtain ⟨p, c, n, m, rfl, _⟩ := h
    rfl
  · obtain ⟨p, c, n, m, rfl, hn1, hn2, hm, D, k⟩ := h
    have hr1 : Room 1 (A.deeper (envOfC "_law_web" (defScope sWeb) s.heap.objs.size f cdv)) := hr.mono (by decide)
    have hr2 : Room 2 (A.deeper (envOfC "_law_web" (defScope sWeb) s.heap.objs.size f cdv)) := hr.mono (by decide)
    have hu6 : A.units + 3 + 64 < cLine := by have := hr.un; have e : (A.deeper (envOfC "_law_web" (defScope sWeb) s.heap.objs.size f cdv)).units = A.units + 3 := rfl; omega
    refine ⟨_, pss_cons (ps_set (i := 3) scWeb.nd rfl (.inr rfl) (pe_imp (t' := fun σ M Q => σ = start nWeb [.ref p, .int n, .int m] ∧ M = H ∧ ∀ (k : Nat) (M1 : Hp), 1 ≤ k → k ≤ n → Deck M1 p c → Kp p c H M1 → Q (.int k) M1)
          (pe_ifExp (pt_cmpR op_eq (pe_call GD.ok hr1 rfl GD.g GD.kp GD.b .nil pass0 (pa_cons (pv 0) (pa_cons pe_int pa_nil))) pe_int (nomark _))
            (pe_op op_add pe_int (pe_call GD.ok hr1 rfl GD.g GD.kp GD.b .nil pass0 (pa_cons (pv 0) (pa_cons (pv 1) pa_nil)))) (pv 1)) ?j1))
      <| pss_cons (ps_asg (pe_tup (pa_cons (pe_call GT.ok hr rfl GT.g GT.kp GT.b .nil pass0 (pa_cons (pv 0) (pa_cons (pv 3) pa_nil))) (pa_cons (pe_listRg rfl (by rfl) T.list (prg_1 (by rfl) T.range (pv 1))) pa_nil)))
          (pg_tup rfl (pgs_cons (pg_name (i := 4) scWeb.nd rfl (.inl rfl)) (pgs_cons (pg_name (i := 5) scWeb.nd rfl (.inr rfl)) pgs_nil))))
      <| pss_cons (ps_inv (J := fun σ M => ∃ near, WJ p c n m H near near 160 σ M) (J' := fun σ M => ∃ near, WJ p c n m H near n 320 σ M) (ps_if (pt_cmpR op_lt (pv 3) (pv 1) (nomark _))
          (pss_cons (ps_set (i := 4) scWeb.nd rfl (.inl rfl) (pe_op op_cat (pv 4) (pe_lc (own := [("_law_one", 7), ("_law_other", 8)]) (g := gTup K 2 (gCons (gName 7) (gCons (gName 8) gNil))) (tt := tYes) rfl scWeb.nd
              (pi_list (pe_call GT.ok hr rfl GT.g GT.kp GT.b .nil pass0 (pa_cons (pv 0) (pa_cons (pe_op op_sub (pv 1) (pv 3)) pa_nil)))) (blkOk_by (N := nWeb) (sc := defScope sWeb) (by decide +kernel))
              (fun _ _ _ _ _ => pg_tup rfl (pgs_cons (pg_name (i := 7) scWeb.nd rfl (.inl rfl) (.inr rfl)) (pgs_cons (pg_name (i := 8) scWeb.nd rfl (.inl rfl) (.inr rfl)) pgs_nil))) (fun _ _ _ _ _ => pts_nil)
              (fun _ _ _ _ _ => pe_tup (pa_cons (pe_op op_add (pv 7) (pv 3)) (pa_cons (pe_op op_add (pv 8) (pv 3)) pa_nil))))))
          <| pss_one (ps_set (i := 5) scWeb.nd rfl (.inr rfl) (pe_call GO.ok hr2 rfl GO.g GO.kp GO.b .nil pass0 (pa_cons (pv 0) (pa_cons (pv 1) pa_nil))))) pss_nil) ?j2)
      <| pss_cons (ps_inv (J := fun σ M => ∃ near, WJ p c n m H near n 320 σ M) (J' := fun σ M => ∃ near, WJ p c n m H near n 320 σ M) (ps_setLc (i := 4) (own := [("_law_one", 7), ("_law_other", 8)]) (g := gTup K 2 (gCons (gName 7) (gCons (gName 8) gNil))) (tt := tYes) rfl scWeb.nd rfl rfl (sw_true rfl rfl rfl (by decide +kernel))
              (pi_list (pv 4)) (blkOk_by (N := nWeb) (sc := defScope sWeb) (by decide +kernel))
              (fun _ _ _ _ _ => pg_tup rfl (pgs_cons (pg_name (i := 7) scWeb.nd rfl (.inl rfl) (.inr rfl)) (pgs_cons (pg_name (i := 8) scWeb.nd rfl (.inl rfl) (.inr rfl)) pgs_nil))) (fun _ _ _ _ _ => pts_nil)
              (fun _ _ _ _ _ => pe_call GP.ok hr1 rfl GP.g GP.kp GP.b .nil pass0 (pa_cons (pe_ix (show IxR _ (rIxL K) from ix_list) (pv 5) (pv 7) (fun _ _ => rfl)) (pa_cons (pe_ix (show IxR _ (rIxL K) from ix_list) (pv 5) (pv 8) (fun _ _ => rfl)) pa_nil)))) ?j3)
      <| pss_cons (ps_for PassesOwn.never rfl (pi_range1 (by rfl) T.range (pa_cons (pe_imp (t' := fun σ M Q => (∃ near, WJ p c n m H near n 320 σ M) ∧ ∀ (ls : Addr) (j : Nat) (M1 : Hp), σ[4]? = some (some (.ref ls)) → j ≤ 3 → (∀ L, LP M ls L → LP M1 ls L ∧ (j = 0 ∨ L ≠ [])) → Deck M1 p c → Kp p c H M1 → Q (.int j) M1)
            (pe_ifExp (pt_cmpR (op_neD hu6) (pv 4) (pe_lst pa_nil) (nomark _)) (pe_call GD.ok hr1 rfl GD.g GD.kp GD.b .nil pass0 (pa_cons (pv 0) (pa_cons pe_int pa_nil))) pe_int) ?j4) pa_nil)) (pg_name (i := 6) scWeb.nd rfl (.inl rfl))
          (pss_one (ps_expr (pe_bm PySem.F.plainAttrs_list PySem.F.slot_list_append PySem.F.type_list_append mt_append (pv 4) (pa_cons (pe_call GK.ok hr2 rfl GK.g GK.kp GK.b .nil pass0 (pa_cons (pv 0) (pa_cons (pv 4) pa_nil))) pa_nil)))))
      <| pss_cons (ps_for PassesOwn.never rfl (pi_range1 (by rfl) T.range (pa_cons (pe_op op_sub (pe_callB call_len_seq (by rfl) T.len PySem.boot_len (pa_cons (pv 4) pa_nil)) (pv 2)) pa_nil)) (pg_name (i := 6) scWeb.nd rfl (.inl rfl))
          (pss_one (ps_expr (pe_bm PySem.F.plainAttrs_list PySem.F.slot_list_pop PySem.F.type_list_pop mt_popAt (pv 4) (pa_cons (pe_call GD.ok hr1 rfl GD.g GD.kp GD.b .nil pass0 (pa_cons (pv 0) (pa_cons (pe_callB call_len_seq (by rfl) T.len PySem.boot_len (pa_cons (pv 4) pa_nil)) pa_nil))) pa_nil)))))
      <| pss_one (ps_ret (pe_tup (pa_cons (pv 1) (pa_cons (pe_callTy call_tuple_of (by rfl) T.tuple (by decide +kernel) (pa_cons (pe_callB (cr_sortT (d := 2) (B := 64) (by decide)) (by rfl) T.sorted (by decide +kernel) (pa_cons (pv 4) pa_nil)) pa_nil)) pa_nil)))), ?j0⟩
    case j1 =>
      rintro σ M Q1 ⟨rfl, rfl, q⟩
      refine ⟨_, rfl, p, c, _, rfl, D, by decide, by decide, fun r M1 r0 r1 D1 K1 => ⟨rfl, _, rfl, ite2 (fun h1 => ?_) (fun h1 => ⟨_, rfl, q n M1 hn1 (Nat.le_refl _) D1 K1⟩)⟩⟩
      refine ⟨_, rfl, _, rfl, p, c, _, rfl, D1, by omega, by omega, fun x M2 x0 x1 D2 K2 => ⟨_, _, rfl, rfl, ?_⟩⟩
      obtain ⟨j, rfl⟩ : ∃ j : Nat, x = j := ⟨x.toNat, by omega⟩
      have e := q (1 + j) M2 (by omega) (by omega) D2 (K1.trans K2)
      rwa [show ((1 + j : Nat) : Int) = 1 + (j : Int) by omega] at e
    case j4 =>
      rintro σ M Q1 ⟨⟨near, ls, lo, L, os, o6, rfl, n1, n2, hls, hlo, ⟨vs, e1, e2⟩, hlen, hos, src, D1, K1, hB⟩, q⟩
      obtain ⟨lp, lc⟩ := D.inp hls
      refine ⟨_, rfl, Nat.zero_le _, fun l hl => ?_⟩
      have e1' : (upd M l (.lst [])) ls = some (.lst vs) := by rw [upd_ne (ne_of_none e1 hl)]; exact e1
      refine ⟨.list (L.map pd), .list [], .lst (SqL.of e1') (e2.mono (new_tup hl)).dp, .lst (SqL.of upd_same) .nil, pd_shaped L, by decide, _, rfl, ?_⟩
      rw [pd_eqv0]
      have D2 := D1.new (o := .lst []) hl
      have keep : ∀ L, LP M ls L → LP (upd M l (.lst [])) ls L := fun L h => h.mono (fun ys e => by rw [upd_ne (ne_of_none e hl)]; exact e) (new_tup hl)
      have LPi : ∀ {L' : List (Int × Int)}, LP M ls L' → L ≠ [] → L' ≠ [] := fun ⟨ws, f1, f2⟩ hL hz => by
        rw [e1] at f1
        cases f1
        have a := e2.len
        have b := f2.len
        rw [hz] at b
        exact hL (List.length_eq_zero_iff.mp (by rw [← a, b]; rfl))
      by_cases hL : L = []
      · rw [decide_eq_true hL]
        exact q ls 0 _ rfl (by decide) (fun L' h => ⟨keep L' h, .inl rfl⟩) D2 (K1.trans (kp_new hl))
      · rw [decide_eq_false hL]
        refine ⟨_, rfl, p, c, _, rfl, D2, by decide, by decide, fun r M1 r0 r1 D3 K3 => ?_⟩
        obtain ⟨j, rfl⟩ : ∃ j : Nat, r = j := ⟨r.toNat, by omega⟩
        exact q ls j M1 rfl (by omega) (fun L' h => ⟨(keep L' h).kp D2 K3 lp lc, .inr (LPi h hL)⟩) D3 ((K1.trans (kp_new hl)).trans K3)
    case j2 =>
      rintro D0 σ M ⟨near, ls, lo, L, os, o6, rfl, n1, n2, hls, hlo, hL, hlen, hos, src, D1, K1, hB⟩ nx
      obtain ⟨sp, sc⟩ := D.inp hls
      refine ⟨_, rfl, _, rfl, _, _, rfl, rfl, _, rfl, ite2 (fun h1 => ?_) (fun h1 => nx _ _ ⟨near, ls, lo, L, os, o6, rfl, n1, n2, hls, hlo, hL, by omega, hos, src, D1, K1, ?_⟩)⟩
      · have h1' := of_decide_eq_true h1
        refine ⟨_, rfl, _, rfl, _, rfl, _, rfl, _, _, rfl, rfl, p, c, n - near, by show [V.ref p, V.int ((n : Int) - (near : Int))] = _; rw [show ((n : Int) - (near : Int)) = ((n - near : Nat) : Int) by omega], by omega, by omega, D1, fun l L1 M1 ln hL1 hB1 hlen1 D2 K2 => ?_⟩
        have hlH : H l = none := K1.dom D1 ln
        obtain ⟨lp, lc⟩ := D.inp hlH
        obtain ⟨vs, e1, e2⟩ := id hL1
        refine ⟨l, rfl, ⟨_, SqL.of e1⟩, fun Da hD => ?_⟩
        have K12 := K1.trans K2
        have hDa : H Da = none := K12.dom D2 hD
        obtain ⟨dp, dc⟩ := D.inp hDa
        have nlD : l ≠ Da := ne_of_none e1 hD
        have hLs := hL.kp D1 K2 sp sc
        have nsD : ls ≠ Da := by obtain ⟨ws, f1, _⟩ := hLs; exact ne_of_none f1 hD
        refine lc_list (xs := vs) (fun i M2 => GJ p c H n Da i M2 ∧ M2 l = some (.lst vs) ∧ Prs M2 vs L1 ∧ LP M2 ls L) ⟨⟨⟨[], [], upd_same, .nil, .nil, Nat.le_refl _⟩, D2.new hD, K12.trans (kp_new hD)⟩, by rw [upd_ne nlD]; exact e1, e2.mono (new_tup hD), hLs.new hD⟩ (fun i M2 _ g => SqL.of g.2.1) ?_ ?_
        · rintro i x M2 hx ⟨g, g1, g2, g3⟩
          have hi : i < vs.length := (List.getElem?_eq_some_iff.mp hx).1
          have := e2.len
          obtain ⟨a, q, rfl, hq, ha⟩ := g2.get hx
          have hb := hB1 q (List.mem_of_getElem? hq)
          refine ⟨a, _, rfl, SqT.of ha, rfl, _, _, rfl, _, _, rfl, rfl, rfl, ?_⟩
          unfold tYes
          refine iteT ?_
          refine ⟨_, rfl, _, rfl, _, _, rfl, rfl, _, rfl, _, rfl, _, _, rfl, rfl, by show 2 ≤ sizeLine; decide, fun t ht => ?_⟩
          obtain ⟨acc, f1, f2, f3⟩ := g.put (q := (q.1 + near, q.2 + near)) hDa dp dc (by omega) ht ⟨by show 0 ≤ q.1 + (near : Int); omega, by show q.1 + (near : Int) < q.2 + near; omega, by show q.2 + (near : Int) < n; omega⟩
          exact ⟨acc, f1, f2, f3, by rw [upd_ne nlD, upd_ne (ne_of_none g1 ht)]; exact g1, (g2.mono (new_tup ht)).mono (upd_tup f1), g3.past ht f1 nsD⟩
        · rintro M2 ⟨g, g1, g2, ws0, f1, f2⟩
          obtain ⟨ws, L2, d1, d2, d3, d4⟩ := g.ex
          have l0 := f2.len
          have l2 := d2.len
          have le := e2.len
          refine ⟨ls, Da, _, _, rfl, rfl, f1, d1, by rw [sizeLine_eq]; omega, fun b hb => ?_⟩
          have hbH : H b = none := g.kp.dom g.dk hb
          obtain ⟨bp, bc⟩ := D.inp hbH
          refine ⟨_, rfl, _, rfl, p, c, n, rfl, hn2, g.dk.new hb, fun lo' os' M3 ln' e3 hos' D3 K3 => ?_⟩
          have hlo' : H lo' = none := (g.kp.trans (kp_new hb)).dom (g.dk.new hb) ln'
          have hLb : LP (upd M2 b (.lst (ws0 ++ ws))) b (L ++ L2) := ⟨_, upd_same, (f2.app d2).mono (new_tup hb)⟩
          refine nx _ _ ⟨near, b, lo', L ++ L2, os', o6, rfl, n1, n2, hbH, hlo', hLb.kp (g.dk.new hb) K3 bp bc, by rw [List.length_append]; omega, hos', e3, D3, (g.kp.trans (kp_new hb)).trans K3, Bel.app (fun q z => ?_) d3⟩
          have := hB q z
          omega
      · have : near = n := by
          have h1' : ¬ ((near : Int) < n) := fun z => h1 (decide_eq_true z)
          omega
        rw [← this]
        exact hB
    case j3 =>
      rintro D0 σ M ⟨near, ls, lo, L, os, o6, rfl, n1, n2, hls, hlo, ⟨vs, e1, e2⟩, hlen, hos, src, D1, K1, hB⟩ nx
      obtain ⟨sp, sc⟩ := D.inp hls
      refine ⟨_, rfl, ls, rfl, ⟨_, SqL.of e1⟩, fun Da hD => ?_⟩
      have hDa : H Da = none := K1.dom D1 hD
      obtain ⟨dp, dc⟩ := D.inp hDa
      have nsD : ls ≠ Da := ne_of_none e1 hD
      have noD : lo ≠ Da := ne_of_none src hD
      refine lc_list (xs := vs) (fun i M2 => GJ p c H n Da i M2 ∧ M2 ls = some (.lst vs) ∧ Prs M2 vs L ∧ M2 lo = some (.lst (os.map V.int))) ⟨⟨⟨[], [], upd_same, .nil, .nil, Nat.le_refl _⟩, D1.new hD, K1.trans (kp_new hD)⟩, by rw [upd_ne nsD]; exact e1, e2.mono (new_tup hD), by rw [upd_ne noD]; exact src⟩ (fun i M2 _ g => SqL.of g.2.1) ?_ ?_
      · rintro i x M2 hx ⟨g, g1, g2, g3⟩
        have hi : i < vs.length := (List.getElem?_eq_some_iff.mp hx).1
        have := e2.len
        obtain ⟨a, q, rfl, hq, ha⟩ := g2.get hx
        have hb := hB q (List.mem_of_getElem? hq)
        obtain ⟨q1, q2⟩ := q
        have hb : 0 ≤ q1 ∧ q1 < q2 ∧ q2 < n := hb
        obtain ⟨i1, rfl⟩ : ∃ j : Nat, q1 = j := ⟨q1.toNat, by omega⟩
        obtain ⟨i2, rfl⟩ : ∃ j : Nat, q2 = j := ⟨q2.toNat, by omega⟩
        obtain ⟨x, x1, x2, x3, x4⟩ := os_at hos (i := i1) (by omega)
        obtain ⟨y, y1, y2, y3, y4⟩ := os_at hos (i := i2) (by omega)
        refine ⟨a, _, rfl, SqT.of ha, rfl, _, _, rfl, _, _, rfl, rfl, rfl, ?_⟩
        unfold tYes
        refine iteT ?_
        refine ⟨_, rfl, _, rfl, lo, _, _, _, rfl, rfl, SqL.of g3, atI_nat x2, _, rfl, _, rfl, lo, _, _, _, rfl, rfl, SqL.of g3, atI_nat y2, x, y, rfl, fun t ht => ?_⟩
        obtain ⟨acc, f1, f2, f3⟩ := g.put (q := mm x y) hDa dp dc (by omega) ht (mm_bel ⟨x3, x4⟩ ⟨y3, y4⟩ (hos.ne x1 y1 (by omega)))
        exact ⟨acc, f1, f2, f3, by rw [upd_ne nsD, upd_ne (ne_of_none g1 ht)]; exact g1, (g2.mono (new_tup ht)).mono (upd_tup f1), by rw [upd_ne noD, upd_ne (ne_of_none g3 ht)]; exact g3⟩
      · rintro M2 ⟨g, g1, g2, g3⟩
        obtain ⟨ws, L2, d1, d2, d3, d4⟩ := g.ex
        have le := e2.len
        exact nx _ _ ⟨near, Da, lo, L2, os, o6, rfl, n1, n2, hDa, hlo, ⟨ws, d1, d2⟩, by omega, hos, g3, g.dk, g.kp, d3⟩
    case j0 =>
      refine ⟨rfl, rfl, fun near M1 n1 n2 D1 K1 => ?_⟩
      refine ⟨_, rfl, _, rfl, p, c, near, rfl, n1, by omega, D1, fun ls L M2 ln hL hB hlen D2 K2 => ⟨_, rfl, _, rfl, .of_le (by omega) (by omega) (by omega) (by omega), fun lo hlo => ⟨by show 2 ≤ sizeLine; decide, fun t ht => ?_⟩⟩⟩
      rw [rg_ints] at ht ⊢
      have K12 := K1.trans K2
      have hlsH : H ls = none := K1.dom D1 ln
      have hloH : H lo = none := K12.dom D2 hlo
      obtain ⟨sp, sc⟩ := D.inp hlsH
      have D3 := (D2.new (o := .lst (((List.range n).map fun i => ((i : Nat) : Int)).map V.int)) hlo).new (o := .tup [.ref ls, .ref lo]) ht
      have K3 := (K12.trans (kp_new (o := .lst (((List.range n).map fun i => ((i : Nat) : Int)).map V.int)) hlo)).trans (kp_new (o := .tup [.ref ls, .ref lo]) ht)
      have eo : (upd (upd M2 lo (.lst (((List.range n).map fun i => ((i : Nat) : Int)).map V.int))) t (.tup [.ref ls, .ref lo])) lo = some (.lst (((List.range n).map fun i => ((i : Nat) : Int)).map V.int)) := by rw [upd_ne (ne_of_none upd_same ht)]; exact upd_same
      refine ⟨t, _, rfl, SqT.of upd_same, rfl, _, _, rfl, _, _, rfl, rfl, ?_⟩
      refine ⟨⟨near, ls, lo, L, _, none, rfl, n1, n2, hlsH, hloH, (hL.new hlo).new ht, by omega, iota_ord n, eo, D3, K3, hB⟩, fun σ1 M3 j3 => ⟨j3, fun σ2 M4 j4 => ⟨j4, fun ls' j M5 e4 hj hkeep D5 K5 => ?_⟩⟩⟩
      obtain ⟨near', ls2, lo', L, os, o6, rfl, _, _, hls, _, hL, hlen, _, _, _, _, hB⟩ := j4
      obtain rfl : ls2 = ls' := by cases e4; rfl
      obtain ⟨hL5, h5⟩ := hkeep L hL
      obtain ⟨lp, lc⟩ := D.inp hls
      refine ⟨_, rfl, by omega, by omega, ?_⟩
      refine for_range (lo := 0) (n := (j : Int).toNat) (fun i σ M => ∃ (L : List (Int × Int)) (o6 : Option V), σ = [some (.ref p), some (.int n), some (.int m), some (.int near'), some (.ref ls2), some (.ref lo'), o6, none, none] ∧ LP M ls2 L ∧ (j = 0 ∨ L ≠ []) ∧ Bel n L ∧ L.length ≤ 320 + i ∧ Deck M p c ∧ Kp p c H M)
        ⟨L, o6, rfl, hL5, h5, hB, hlen, D5, K5⟩ ?_ ?_
      · rintro i σ M hi ⟨L, o6, rfl, ⟨vs, f1, f2⟩, h0, hB, hlen, D6, K6⟩
        have len := f2.len
        have pos : L.length ≠ 0 := fun z => by
          rcases h0 with h0 | h0
          · omega
          · exact h0 (List.length_eq_zero_iff.mp z)
        refine ⟨_, rfl, .inl ⟨rfl, _, SqL.of f1⟩, _, rfl, _, rfl, p, c, ls2, vs, rfl, D6, f1, lp, lc, by omega, by omega, fun k v M6 hv D7 K7 => ?_⟩
        have f1' := K7 _ _ lp lc f1
        have f2' := f2.mono (K7.tup D6)
        obtain ⟨a, q, rfl, hq, ha⟩ := f2'.get hv
        exact ⟨ls2, _, _, rfl, rfl, f1', by rw [sizeLine_eq]; omega, L ++ [q], _, rfl, ⟨_, upd_same, (f2'.app (.cons ha .nil)).mono (upd_tup f1')⟩, .inr (by simp), hB.snoc (hB q (List.mem_of_getElem? hq)), by rw [List.length_append]; show L.length + 1 ≤ _; omega, D7.put lp lc, (K6.trans K7).own hls⟩
      · rintro σ M ⟨L, o6, rfl, ⟨vs, f1, f2⟩, h0, hB, hlen, D6, K6⟩
        have len := f2.len
        refine ⟨_, rfl, ls2, _, rfl, .inl (SqL.of f1), _, rfl, _, _, rfl, rfl, _, rfl, by omega, by omega, ?_⟩
        refine for_range (lo := 0) (n := (((vs.length : Nat) : Int) - (m : Int)).toNat) (fun i σ M' => ∃ (L' : List (Int × Int)) (o6 : Option V), σ = [some (.ref p), some (.int n), some (.int m), some (.int near'), some (.ref ls2), some (.ref lo'), o6, none, none] ∧ LP M' ls2 L' ∧ Bel n L' ∧ L'.length + i = L.length ∧ Deck M' p c ∧ Kp p c H M')
          ⟨L, o6, rfl, ⟨vs, f1, f2⟩, hB, rfl, D6, K6⟩ ?_ ?_
        · rintro i σ M' hi ⟨L', o6, rfl, ⟨ws, g1, g2⟩, hB', hl', D7, K7⟩
          have len' := g2.len
          refine ⟨_, rfl, .inl ⟨rfl, _, SqL.of g1⟩, _, rfl, _, rfl, ls2, _, rfl, .inl (SqL.of g1), p, c, _, rfl, D7, by omega, by omega, fun r M6 r0 r1 D8 K8 => ?_⟩
          obtain ⟨k, rfl⟩ : ∃ k : Nat, r = k := ⟨r.toNat, by omega⟩
          have g1' := K8 _ _ lp lc g1
          have hk : k < ws.length := by omega
          have si : seqIndex? (k : Int) ws.length = some k := (ixN_seq (n := ws.length) (by unfold ixN; rw [if_pos (by omega), if_pos (by omega)]; rfl)).1
          refine ⟨ls2, _, _, k, ws[k], rfl, rfl, g1', by omega, by omega, si, by simp [hk], L'.eraseIdx k, _, rfl, ⟨_, upd_same, ((g2.mono (K8.tup D7)).erase k).mono (upd_tup g1')⟩, hB'.sub fun q z => List.mem_of_mem_eraseIdx z, ?_, D8.put lp lc, (K7.trans K8).own hls⟩
          rw [List.length_eraseIdx, if_pos (by omega)]
          omega
        · rintro σ M' ⟨L', o6, rfl, ⟨ws, g1, g2⟩, hB', hl', D7, K7⟩
          have len' := g2.len
          have few : L'.length ≤ m := by omega
          refine ⟨_, rfl, _, rfl, ls2, ws, rfl, SqL.of g1, by omega, g2.tups hB' (by omega), fun ys b pm pw hb => ?_⟩
          obtain ⟨M2, pm2, pr⟩ := Prs.perm pm g2
          have sr := pr.srt pw
          refine ⟨b, ys, rfl, .inl ⟨SqL.of upd_same, fun t ht => ⟨by show 2 ≤ sizeLine; decide, fun wa hw => ?_⟩⟩⟩
          have hbt : b ≠ t := ne_of_none upd_same ht
          have htb : (upd M' b (.lst ys)) t = none := ht
          have pr' : Prs (upd (upd (upd M' b (.lst ys)) t (.tup ys)) wa (.tup [.int n, .ref t])) ys M2 := ((pr.mono (new_tup hb)).mono (new_tup ht)).mono (new_tup hw)
          have hwH : H wa = none := ((K7.trans (kp_new hb)).trans (kp_new ht)).dom ((D7.new hb).new ht) hw
          exact k wa M2 _ hwH ⟨t, ys, upd_same, by rw [upd_ne (ne_of_none upd_same hw)]; exact upd_same, pr'⟩ (hB'.sub fun q z => pm2.mem_iff.mp z) sr (by rw [pm2.length_eq]; exact few) (((D7.new hb).new ht).new hw) (((K7.trans (kp_new hb)).trans (kp_new ht)).trans (kp_new hw))
end
end K0

set_option Elab.async false
set_option linter.all false
set_option maxRecDepth 100000
set_option maxHeartbeats 4000000
/-! Own exceptions over WebError(Exception) whose making says super().__init__(text) and keeps one field, at the machine's level. -/
namespace PySem.EX
open PySem PySem.W PySem.Calls PyProof.Rows Builtin Builtin.ObjectAttr

/-- the mro behind the own classes -/
abbrev tailE : List Value := [.type "Exception", .type "BaseException", .type "object"]
/-- the text of such a class's making: its one parameter f, what it says, the places -/
def aA (f : Str) (p1 p2 : Pos) : Arguments :=
  { posonlyargs := [], args := [⟨"self", none, p1⟩, ⟨f, none, p2⟩], vararg := none, kwonlyargs := [], kw_defaults := [], kwarg := none, defaults := [] }
def aS (f : Str) : Scope :=
  { kind := .function, names := [("self", .local), (f, .local), ("__class__", .free), ("super", .globalImplicit)], isGenerator := false, isCoroutine := false, more := [] }
def sSay (txt : Str) (k : Nat) (q1 q2 q3 q4 q5 q6 : Pos) : Stmt :=
  .Expr (.Call (.Attribute (.Call (.Name "super" q1) [] [] q2) "__init__" q3) [.Constant (.str txt) k q4] [] q5) q6
def sKeep (f : Str) (q1 q2 q3 q4 : Pos) : Stmt := .Assign [.Attribute (.Name "self" q1) f q2] (.Name f q3) q4

/-- what the written part says of the class at C -/
structure ClsT (P : Program) (K : Frag) (C : Addr) : Prop where
  ex : excInitIn K C tailE "Exception.__new__" = true
  ov : excOver K C tailE = true
  sa : findIn K (.ref C) "__setattr__" = some (some (.builtin "object.__setattr__"))
  hd : hasDictIn K C = true
  su : ks_superIn K C C "__init__" = some (some (.builtin "Exception.__init__"))
  sE : subIn K (.ref C) (.type "Exception") = some true
  mr : mroIn K C (.ref C) = some true
  op : nsIn K cStatics "thirdparty.any" = some none
  kp : keepIn K (.ref C) = true
  file : (P.main.scope.names.lookup ("super" : Str)).isSome = false

/-- the def at fI is this class's making -/
structure IniT (P : Program) (K : Frag) (C fI : Addr) (args : Arguments) (body : List Stmt) (sc : Scope) : Prop where
  fi : findIn K (.ref C) "__init__" = some (some (.ref fI))
  ty : typeIn K (.ref fI) = some (.type "function")
  fn : ∃ (oc : Value) (od : Option Addr) (qual : Str) (dV kV doc pm : Value) (an : Option Addr) (cda : Addr) (ct : Value) (osl : Array (Option Value)) (cc : Addr),
    K.lookup fI = some ⟨oc, od, .func (ksFn "__init__" qual args body sc .none .none doc pm an (.ref cda) ct cc), osl⟩ ∧ codeIn K (.ref cda) qual = true ∧
    (∃ ccl cdd vs ccs file tf, K.lookup cda = some ⟨ccl, cdd, .fields vs, ccs⟩ ∧ vs[2]? = some (.str file tf) ∧ ((P.main.file : Str) == file) = true) ∧
    (∃ cl cld csl, K.lookup cc = some ⟨cl, cld, .cell (some (.ref C)), csl⟩)

section
variable {prog : Program} {w : World} {A : Around} {E : Value → Shared → Prop} {s : Shared} {K : Frag} {mg mb : Str → Option Value} {C fI : Addr}

/-- such a def's scope, its names ns -/
abbrev scp (ns : List (Str × NameKind)) : Scope := { kind := .function, names := ns, isGenerator := false, isCoroutine := false, more := [] }
theorem say {ns : List (Str × NameKind)} {L f cc cda : Addr} {m : Str → Option Value} {q : Str} {x t0 : Addr} {txt : Str} {n : Nat} {q1 q2 q3 q4 q5 q6 : Pos} {fd : FuncData} {of : Obj} {ar : Arg} {body : List Stmt} {Q : Flow → Shared → Prop}
    (T : ClsT prog K C) (X : K.In s.heap) (G : s.heap.Ns mainGlobals mg) (hs : mg "super" = none) (B : s.heap.Ns builtinsNs mb) (hb : mb "super" = some (.type "super"))
    (hl : s.heap.Ns L m) (hv : m ar.arg = some (.ref x)) (hx : s.heap.get? x = some (HandSPX.excO C t0)) (hnC : x ≠ C)
    (hf : s.heap.get? f = some of) (hfd : of.data = .func fd) (hp : (fd.params.posonlyargs ++ fd.params.args).head? = some ar)
    (hcode : ∃ ccl cdd vs ccs file tf, K.lookup cda = some ⟨ccl, cdd, .fields vs, ccs⟩ ∧ vs[2]? = some (.str file tf) ∧ ((prog.main.file : Str) == file) = true)
    (hcell : ∃ cl cld csl, K.lookup cc = some ⟨cl, cld, .cell (some (.ref C)), csl⟩)
    (hks : ns.lookup ("super" : Str) = some .globalImplicit) (hkc : ns.lookup ("__class__" : Str) = some .free) (hka : ns.lookup ar.arg = some .local)
    (hpos : (q3.endLine == q5.line) = true)
    (h : ∀ h' tk t1, (∀ b o, b ≠ x → s.heap.get? b = some o → h'.get? b = some o) → h'.get? x = some (HandSPX.excO C t1) → Q .next { s with heap := h', toks := tk }) :
    _root_.PySem.wpAt (model prog w) A (.func body (ksEnv q (scp ns) L f (.ref cda) cc)) (exec (sSay txt n q1 q2 q3 q4 q5 q6) (ksEnv q (scp ns) L f (.ref cda) cc)) Q E s := by
  obtain ⟨nm, N, qn, bs, bm, hdct, sn, sub, ab, col, dd, k0, k1, k2, k3, k5, hC, hT⟩ := excInit_of X T.ex
  obtain ⟨ccl, cdd, vs, ccs, file, tf, hc1, hc2, hc3⟩ := hcode
  obtain ⟨cl, cld, csl, hcc⟩ := hcell
  have I : InstAt s.heap x (HandSPX.excO C t0) C none := ⟨hx, rfl, rfl, trivial⟩
  obtain ⟨hp0, g, d, t, os⟩ := s
  unfold sSay
  refine ks_wpAt_Expr_any ?_
  refine ks_wpAt_MethodCall (pl := do return (← importBound (.Call (.Name "super" q1) [] [] q2) (ksEnv q (scp ns) L f (.ref cda) cc)).getD true) ?_ (by
    rw [arm_eval_Call]
    unfold methodCall methodCallPos calleeOf
    rw [show (methodCallForm ([Expr.Constant (Const.str txt) n q4].length + ([] : List Keyword).length) (backTo q5 (starEach [Expr.Constant (Const.str txt) n q4] (ksEnv q (scp ns) L f (.ref cda) cc))) (backToKw q5 (keywordEach [] (ksEnv q (scp ns) L f (.ref cda) cc)))) = true from rfl, hpos]
    simp only [Bool.not_true, Bool.false_or, if_true, pure_bind]
    rfl)
  refine ks_wpAt_super_base (env := ksEnv q (scp ns) L f (.ref cda) cc) hks hkc rfl rfl hf hfd hp rfl (X _ _ hc1) rfl hc2 hc3 T.file ?_
  refine ks_loadName_global rfl hks (loadGlobal_builtin (env := ksEnv q (scp ns) L f (.ref cda) cc) G hs B hb ⟨rfl, ?_⟩)
  refine wpAny_loadName_free rfl hkc rfl ⟨_, X _ _ hcc, rfl⟩ ?_
  refine wpAny_loadName_local rfl hka hl hv ?_
  refine ks_wpAny_isType_cls hC rfl ⟨rfl, ?_⟩
  refine ks_wpAny_call_super hC rfl hx rfl (fun c z => nomatch z) (looks_mroIn X T.mr) (fun h1 e1 k1 => ?_)
  have X1 : K.In h1 := X.keeps k1
  have I1 : InstAt h1 x (HandSPX.excO C t0) C none := ⟨k1 _ _ hx, rfl, rfl, trivial⟩
  have su := T.su
  unfold ks_superIn at su
  cases hc : clsIn K C with
  | none => rw [hc] at su; cases su
  | some cd =>
    rw [hc] at su
    refine PySem.ESX.getMethod_super e1 (looks_opaque X1 T.op) (l₀ := cd.mro) (fun A Q E s k z => wpAny_bind ((looks_clsIn X1 hc) A _ E s k (wpAny_pure z))) rfl X1 su hnC rfl (I1.type.andThen (looks_subIn X1 T.sE)) ?_
    refine PySem.ESX.callWith_bound (x := x) ?_
    show wpAny _ _ (spliced ((false, eval (.Constant (.str txt) n q4) (ksEnv q (scp ns) L f (.ref cda) cc)) :: [])) _ _ _
    refine spliced_cons (Constant_str (spliced_nil ⟨Heap.get?_push_size h1 rfl, ?_⟩))
    have kb : ∀ b o, hp0.get? b = some o → (h1.push (ESX.bw x)).get? b = some o := fun b o z => Heap.get?_push_of_some _ (k1 b o z)
    refine PySem.ESX.call_bw (C := C) (e := x) (kb _ _ hC) (kb _ _ hx) (Heap.get?_push_size h1 rfl) (by rw [sizeLine_eq]; exact (by decide : 1 ≤ 16777216)) fun h' t1 kk hx' => ?_
    exact h h' _ t1 (fun b o hb z => kk b o hb (kb b o z)) hx'

/-- self.f = v, the first field of an exception that has none -/
theorem keep {env : Env} {m : Str → Option Value} {f : Str} {x t0 : Addr} {v : Value} {q1 q2 q3 q4 : Pos} {Q : Flow → Shared → Prop}
    (T : ClsT prog K C) (X : K.In s.heap) (hno : findIn K (.ref C) f = some none) (hx : s.heap.get? x = some (HandSPX.excO C t0))
    (hl : s.heap.Ns env.locals m) (hf : m f = some v) (hs : m "self" = some (.ref x)) (hk : env.scope.kind = .function) (lf : env.kindOf f = some .local) (ls : env.kindOf "self" = some .local) (hd : (f == ("__debug__" : Str)) = false)
    (hsw : swapsWith (.Name f q3) (some (.Attribute (.Name "self" q1) f q2)) q4.line env = pure false)
    (h : ∀ h' tk dx, (∀ b o, b ≠ x → s.heap.get? b = some o → h'.get? b = some o) → s.heap.objs.size ≤ dx → dx ≠ x →
      h'.get? x = some { cls := .ref C, dict := some dx, data := .fields #[.ref t0, .none, .none, .none, .bool false, .none] } → h'.Ns1 dx (fun y => if y = f then some v else none) → Q .next { s with heap := h', toks := tk }) :
    wpAny (model prog w) A (exec (sKeep f q1 q2 q3 q4) env) Q E s := by
  unfold sKeep
  refine plainObj_wpAny_Assign_Attribute ?_ hsw
  refine wpAny_Name (wpAny_loadName_local hk lf hl hf ?_) hd
  refine wpAny_Name (wpAny_loadName_local hk ls hl hs ?_)
  refine set_plain X (ox := HandSPX.excO C t0) (od := none) ⟨hx, rfl, rfl, trivial⟩ T.sa ?_
  obtain ⟨cd, hc, hd'⟩ := any_some T.hd
  have ht : takerIn K C f = some none := by unfold takerIn; rw [hno] <;> rfl
  refine osa_openX (s := { s with toks := s.toks + 1 }) (od := none) F.store_Exception X ⟨hx, rfl, rfl, trivial⟩ T.ov ht fun b => ?_
  have hxs : x ≠ s.heap.objs.size := Nat.ne_of_lt (Heap.lt_size hx)
  refine wpAny_bind (wpAny_pure (wpAny_bind (instanceDict_exc (t := t0) (c2 := .none) hx (looks_clsIn X hc) hd' ?_)))
  show wpAny _ _ (storeInDict s.heap.objs.size (.str f s.toks) f v) _ _ _
  refine HandSPX.store_in_new ⟨_, #[], _, (Heap.get?_update_ne _ _ _ _ hxs.symm).trans (Heap.get?_push_size _ rfl), rfl, fun e he => absurd he (by simp), fun _ => rfl⟩ fun h' tk' hn' hs' => ?_
  have e1 : (s.heap.push (dictOf [] 0)).get? x = some (HandSPX.excO C t0) := Heap.get?_push_of_some _ hx
  refine h h' tk' s.heap.objs.size (fun b o hb ho => ?_) (Nat.le_refl _) hxs.symm ?_ hn'
  · exact (hs'.2 b (Nat.ne_of_lt (Heap.lt_size ho))).trans ((Heap.get?_update_ne _ _ _ _ hb).trans (Heap.get?_push_of_some _ ho))
  · exact (hs'.2 x hxs).trans (Heap.get?_update_self _ e1 rfl)
end
end PySem.EX

set_option Elab.async false
set_option linter.all false
set_option maxRecDepth 100000
set_option maxHeartbeats 4000000
/-! An own exception class called, by position and by name. -/
namespace PySem.EX
open PySem PySem.W PySem.Calls PyProof.Rows Builtin Builtin.ObjectAttr PySem.HandSPX
section
variable {prog : Program} {w : World} {M : Model} {A : Around} {E : Value → Shared → Prop} {R : Result → Shared → Prop} {h : Heap} {g : Array GenState} {d : Drawn} {t : Nat} {os : OsState}
variable {nm q : Str} {C N : Addr} {bs bm bmB : List Value} {hdct : Bool} {sn : List Str} {sub : List Value} {ab : Bool} {col : Option Bool} {dd : Option Addr} {k0 k1 k2 k3 k5 : Option Value} {B newId initId : String}

theorem chk_new (F : ExcBaseFacts B newId initId bmB) (hT : ∀ X : String, bm.contains (.type X) = bmB.contains (.type X)) {rest : List Value} {kw : List (Str × Value)} {Q : Unit → Shared → Prop}
    (hC : h.get? C = some (excClassObj nm q C N bs bm hdct sn sub ab col dd k0 k1 k2 k3 k5 newId)) (hq : Q () ⟨h, g, d, t, os⟩) : wpAny M A (checkBuiltinCall newId ⟨.ref C :: rest, kw⟩) Q E ⟨h, g, d, t, os⟩ := by
  have e1 : (Value.ref C :: bm).contains (.type B) = true := by rw [List.contains_cons, hT, F.hasB, Bool.or_true]
  have e2 := F.noStar
  simp only [checkBuiltinCall, F.newKind, F.newSplit, F.newRow]
  repeat (first
    | refine wpAny_loadPart_at hC ?_
    | (refine wpAny_isSubtype_exc hC ?_; rw [e1])
    | refine wpAny_staticBase_exc hC ?_
    | refine wpAny_madeBy_exc hC ?_
    | simp only [bne_self_eq_false, Bool.false_eq_true, if_false]
    | wp_step)
  all_goals exact hq

theorem mk_new (F : ExcBaseFacts B newId initId bmB) (hT : ∀ X : String, bm.contains (.type X) = bmB.contains (.type X)) {rest : List Value} {kw : List (Str × Value)} (hz : rest.length ≤ sizeLine)
    (hC : h.get? C = some (excClassObj nm q C N bs bm hdct sn sub ab col dd k0 k1 k2 k3 k5 newId))
    (hq : R (.ok (.ret (.ref (h.objs.size + 1)))) ⟨(h.push (kdv_tup rest)).push (excO C h.objs.size), g, d, t, os⟩) :
    codeAny (model prog w) A (.builtin newId ⟨.ref C :: rest, kw⟩) R ⟨h, g, d, t, os⟩ := by
  have e0 := F.ends
  have e1 : (Value.ref C :: bm).contains (.type B) = true := by rw [List.contains_cons, hT, F.hasB, Bool.or_true]
  have e2 : (Value.ref C :: bm).contains (.type "AttributeError") = false := by rw [List.contains_cons, hT, F.noAttr] <;> rfl
  have e3 : (Value.ref C :: bm).contains (.type "NameError") = false := by rw [List.contains_cons, hT, F.noName] <;> rfl
  refine codeAny_builtinAt F.entry (show _root_.PySem.wpAt _ _ _ (Builtin.«BaseException.__new__» _) _ _ _ from ?_)
  unfold Builtin.«BaseException.__new__»
  refine wpAt_bind (show _root_.PySem.wpAt _ _ _ (stack >>= _) _ _ _ from wpAt_bind (wpAt_stack fun _ _ => wpAt_of_wpAny ?_))
  wp_walk
  refine wpAt_of_wpAny ?_; rw [F.owner]
  repeat (first
    | with_reducible refine wpAny_madeHere_exc F.canon hC ?_
    | with_reducible refine wpAny_loadPart_at hC ?_
    | (with_reducible refine wpAny_isSubtype_exc hC ?_
       first | rw [e1] | rw [e2] | rw [e3])
    | wp_step)
  show R _ _; rw [Heap.size_push]; exact hq

theorem mk_type (F : ExcBaseFacts B newId initId bmB) (hT : ∀ X : String, bm.contains (.type X) = bmB.contains (.type X)) {rest : List Value} {kw : List (Str × Value)} {fI : Addr} {Q : Fin → Shared → Prop} (hz : rest.length ≤ sizeLine)
    (hC : h.get? C = some (excClassObj nm q C N bs bm hdct sn sub ab col dd k0 k1 k2 k3 k5 newId))
    (hi : W.Looks (model prog w) h (typeLookup (.ref C) "__init__") (some (.ref fI))) (hb : ∀ self, W.Looks (model prog w) h (bindSpecial (.ref fI) self) (.ref fI, [self]))
    (hq : codeAny (model prog w) A (.call (.ref fI) ⟨.ref (h.objs.size + 1) :: rest, kw⟩)
      (fun r s' => match r with | .ok (.ret v) => v = .none ∧ Q (.done (.ret (.ref (h.objs.size + 1)))) s' | .ok _ => False | .error e => E e s')
      ⟨(h.push (kdv_tup rest)).push (excO C h.objs.size), g, d, t, os⟩) :
    wpAny (model prog w) A (Builtin.«type.__call__» ⟨.ref C :: rest, kw⟩) Q E ⟨h, g, d, t, os⟩ := by
  repeat (first
    | with_reducible refine wpAny_loadPart_at hC ?_
    | with_reducible refine wpAny_madeBy_exc hC ?_
    | wp_step)
  refine codeAny_call_builtin_code (Code.quiet_builtin _ F.quiet) (chk_new F hT hC (mk_new F hT hz hC (show wpAny _ _ _ _ _ _ from ?_)))
  have kk : ∀ b o, h.get? b = some o → ((h.push (kdv_tup rest)).push (excO C h.objs.size)).get? b = some o := fun b o e => Heap.get?_push_of_some _ (Heap.get?_push_of_some _ e)
  have c1 := kk _ _ hC
  have c2 : ((h.push (kdv_tup rest)).push (excO C h.objs.size)).get? (h.objs.size + 1) = some (excO C h.objs.size) := by heap_get
  have c3 : (Value.ref C :: bm).contains (.ref C) = true := by simp
  unfold isInstance
  repeat (first
    | with_reducible refine wpAny_loadPart_at c2 ?_
    | (with_reducible refine wpAny_isSubtype_exc c1 ?_
       rw [c3])
    | wp_step)
  refine (show wpAny _ _ (typeLookup (.ref C) _) _ _ _ from (hi.keeps kk).at (wpAny_holding (wpAny_bind (((hb (.ref (h.objs.size + 1))).keeps kk).at ?_))))
  refine wpAny_bind (wpAny_call (codeAny_mono hq fun r s' z => ?_))
  cases r with
  | error e => exact z
  | ok fl =>
    cases fl with
    | ret v =>
      obtain ⟨rfl, z⟩ := z
      first | exact wpAny_pure (wpAny_pure z) | (wp_walk; exact z)
    | next => exact z.elim
    | brk => exact z.elim
    | cont => exact z.elim

theorem chk_type {rest : List Value} {kw : List (Str × Value)} {Q : Unit → Shared → Prop} (hC : h.get? C = some (excClassObj nm q C N bs bm hdct sn sub ab col dd k0 k1 k2 k3 k5 newId)) (hq : Q () ⟨h, g, d, t, os⟩) :
    wpAny M A (checkBuiltinCall "type.__call__" ⟨.ref C :: rest, kw⟩) Q E ⟨h, g, d, t, os⟩ := by
  have e1 := tc_sub
  have e2 : (⟨h, g, d, t, os⟩ : Shared).TypeIs (.ref C) "type" := ⟨_, hC, rfl⟩
  simp only [checkBuiltinCall, tc_kind, tc_split]
  repeat (any_goals (first
    | assumption
    | with_reducible refine wpAny_loadPart_at hC ?_
    | with_reducible refine wpAny_onRaise ?_
    | with_reducible refine wpAny_map ?_
    | wp_step))

theorem mk_call (F : ExcBaseFacts B newId initId bmB) (hT : ∀ X : String, bm.contains (.type X) = bmB.contains (.type X)) {rest : List Value} {kw : List (Str × Value)} {fI : Addr} (hz : rest.length ≤ sizeLine)
    (hC : h.get? C = some (excClassObj nm q C N bs bm hdct sn sub ab col dd k0 k1 k2 k3 k5 newId))
    (hi : W.Looks (model prog w) h (typeLookup (.ref C) "__init__") (some (.ref fI))) (hb : ∀ self, W.Looks (model prog w) h (bindSpecial (.ref fI) self) (.ref fI, [self]))
    (hq : codeAny (model prog w) (A.under (.builtin "type.__call__" ⟨.ref C :: rest, kw⟩)) (.call (.ref fI) ⟨.ref (h.objs.size + 1) :: rest, kw⟩) (W.InitBack (h.objs.size + 1) R)
      ⟨(h.push (kdv_tup rest)).push (excO C h.objs.size), g, d, t, os⟩) :
    codeAny (model prog w) A (.call (.ref C) ⟨rest, kw⟩) R ⟨h, g, d, t, os⟩ := by
  have e1 := tc_lookup
  have e2 := tc_bind (.ref C)
  have e3 : (⟨h, g, d, t, os⟩ : Shared).TypeIs (.ref C) "type" := ⟨_, hC, rfl⟩
  refine codeAny_of_tree (show wpAny _ _ (callAny (.ref C) _) _ _ _ from ?_)
  repeat (any_goals (first
    | assumption
    | with_reducible refine wpAny_loadPart_at hC ?_
    | wp_step))
  refine ⟨rfl, codeAny_call_builtin_at (Code.quiet_builtin _ (by decide +kernel)) entry_typeCall ?_⟩
  refine chk_type hC (mk_type F hT hz hC hi hb (codeAny_mono hq fun r s' z => ?_))
  cases r with
  | error e => exact z
  | ok fl => cases fl <;> exact z
end
end PySem.EX

set_option Elab.async false
set_option linter.all false
set_option maxRecDepth 100000
set_option maxHeartbeats 4000000
/-! An own exception made: what stands behind it. -/
namespace PySem.EX
open PySem PySem.W PySem.Calls PyProof.Rows Builtin Builtin.ObjectAttr PySem.HandSPX

/-- the names of a making with the parameter f, of one without -/
abbrev ns1 (f : Str) : List (Str × NameKind) := [("self", .local), (f, .local), ("__class__", .free), ("super", .globalImplicit)]
abbrev ns0 : List (Str × NameKind) := [("self", .local), ("__class__", .free), ("super", .globalImplicit)]
abbrev aA0 (p1 : Pos) : Arguments := { posonlyargs := [], args := [⟨"self", none, p1⟩], vararg := none, kwonlyargs := [], kw_defaults := [], kwarg := none, defaults := [] }
/-- the six names of parameters that the errors have -/
def fNames : List Str := ["thing", "number", "at", "pairing", "certificate", "place"]

/-- a made error with a field, one without -/
structure Made1 (h h' : Heap) (e C d : Addr) (f : Str) (v : Value) : Prop where
  keep : ∀ b o, h.get? b = some o → h'.get? b = some o
  new : h.objs.size ≤ e
  obj : ∃ t, h'.get? e = some { cls := .ref C, dict := some d, data := .fields #[.ref t, .none, .none, .none, .bool false, .none] }
  dbig : h.objs.size ≤ d
  dne : d ≠ e
  ns : h'.Ns1 d (fun y => if y = f then some v else none)
structure Made0 (h h' : Heap) (e C : Addr) : Prop where
  keep : ∀ b o, h.get? b = some o → h'.get? b = some o
  new : h.objs.size ≤ e
  obj : ∃ t, h'.get? e = some (excO C t)

/-- the making's def, as it stands behind the top -/
structure Fn1 (P : Program) (K : Frag) (C fI : Addr) (f : Str) : Prop where
  fi : findIn K (.ref C) "__init__" = some (some (.ref fI))
  ty : typeIn K (.ref fI) = some (.type "function")
  no : findIn K (.ref C) f = some none
  fn : ∃ (oc : Value) (od : Option Addr) (qual txt : Str) (doc pm : Value) (an : Option Addr) (cda : Addr) (ct : Value) (osl : Array (Option Value)) (cc : Addr) (p1 p2 q1 q2 q3 q4 q5 q6 r1 r2 r3 r4 : Pos),
    K.lookup fI = some ⟨oc, od, .func (ksFn "__init__" qual (aA f p1 p2) [sSay txt 0 q1 q2 q3 q4 q5 q6, sKeep f r1 r2 r3 r4] (scp (ns1 f)) .none .none doc pm an (.ref cda) ct cc), osl⟩ ∧ codeIn K (.ref cda) qual = true ∧ (q3.endLine == q5.line) = true ∧
    (∃ ccl cdd vs ccs file tf, K.lookup cda = some ⟨ccl, cdd, .fields vs, ccs⟩ ∧ vs[2]? = some (.str file tf) ∧ ((P.main.file : Str) == file) = true) ∧
    (∃ cl cld csl, K.lookup cc = some ⟨cl, cld, .cell (some (.ref C)), csl⟩)
structure Fn0 (P : Program) (K : Frag) (C fI : Addr) : Prop where
  fi : findIn K (.ref C) "__init__" = some (some (.ref fI))
  ty : typeIn K (.ref fI) = some (.type "function")
  fn : ∃ (oc : Value) (od : Option Addr) (qual txt : Str) (doc pm : Value) (an : Option Addr) (cda : Addr) (ct : Value) (osl : Array (Option Value)) (cc : Addr) (p1 q1 q2 q3 q4 q5 q6 : Pos),
    K.lookup fI = some ⟨oc, od, .func (ksFn "__init__" qual (aA0 p1) [sSay txt 0 q1 q2 q3 q4 q5 q6] (scp ns0) .none .none doc pm an (.ref cda) ct cc), osl⟩ ∧ codeIn K (.ref cda) qual = true ∧ (q3.endLine == q5.line) = true ∧
    (∃ ccl cdd vs ccs file tf, K.lookup cda = some ⟨ccl, cdd, .fields vs, ccs⟩ ∧ vs[2]? = some (.str file tf) ∧ ((P.main.file : Str) == file) = true) ∧
    (∃ cl cld csl, K.lookup cc = some ⟨cl, cld, .cell (some (.ref C)), csl⟩)

section
variable {prog : Program} {w : World} {A : Around} {R : Result → Shared → Prop} {s : Shared} {K : Frag} {mg mb : Str → Option Value} {C fI : Addr} {f : Str}

theorem init1 (T : ClsT prog K C) (F1 : Fn1 prog K C fI f) (hf : f ∈ fNames) {args : Args} {x t0 : Addr} {v : Value} (X : K.In s.heap) (hlim : s.heap.NoLimit) (G : s.heap.Ns mainGlobals mg) (hs : mg "super" = none) (B : s.heap.Ns builtinsNs mb) (hb : mb "super" = some (.type "super"))
    (ha : args = ⟨[.ref x, v], []⟩ ∨ args = ⟨[.ref x], [(f, v)]⟩) (hx : s.heap.get? x = some (excO C t0)) (hnx : K.lookup x = none) (hnC : x ≠ C) (hroom : A.depth < recursionLimit)
    (hq : ∀ h' tk dx t1, (∀ b o, b ≠ x → s.heap.get? b = some o → h'.get? b = some o) → s.heap.objs.size ≤ dx → dx ≠ x → h'.get? x = some { cls := .ref C, dict := some dx, data := .fields #[.ref t1, .none, .none, .none, .bool false, .none] } →
      h'.Ns1 dx (fun y => if y = f then some v else none) → R (.ok (.ret .none)) { s with heap := h', toks := tk }) :
    codeAny (model prog w) A (.call (.ref fI) args) R s := by
  obtain ⟨oc, od, qual, txt, doc, pm, an, cda, ct, osl, cc, p1, p2, q1, q2, q3, q4, q5, q6, r1, r2, r3, r4, ho, hcd, hpos, hcode, hcell⟩ := F1.fn
  have hfs : (("self" : Str) == f) = false ∧ (f == ("self" : Str)) = false ∧ (f == ("__debug__" : Str)) = false := by
    simp only [fNames, List.mem_cons, List.not_mem_nil, or_false] at hf
    rcases hf with rfl | rfl | rfl | rfl | rfl | rfl <;> decide +kernel
  have hbind : BindsTo s (ksFn "__init__" qual (aA f p1 p2) [sSay txt 0 q1 q2 q3 q4 q5 q6, sKeep f r1 r2 r3 r4] (scp (ns1 f)) .none .none doc pm an (.ref cda) ct cc) args [("self", .ref x), (f, v)] := by
    refine BindsTo.of_eq ?_
    simp only [fNames, List.mem_cons, List.not_mem_nil, or_false] at hf
    rcases ha with rfl | rfl <;> rcases hf with rfl | rfl | rfl | rfl | rfl | rfl <;> rfl
  have lf : (ns1 f).lookup f = some .local := by simp [ns1, List.lookup, hfs.2.1]
  have lk : (ns1 f).lookup ("super" : Str) = some .globalImplicit ∧ (ns1 f).lookup ("__class__" : Str) = some .free := by
    simp only [fNames, List.mem_cons, List.not_mem_nil, or_false] at hf
    rcases hf with rfl | rfl | rfl | rfl | rfl | rfl <;> exact ⟨rfl, rfl⟩
  refine ks_codeAny_call_defAt hroom (X _ _ ho) rfl hlim (codeRec_of X hcd) rfl hbind ?_ ?_ (fun h₁ hns hk₁ => ?_) rfl rfl rfl
  · intro y hy
    simp only [ns1, List.mem_cons, List.not_mem_nil, or_false] at hy
    rcases hy with rfl | rfl | rfl | rfl <;> exact fun z => nomatch z
  · intro y hy
    simp only [List.mem_cons, List.not_mem_nil, or_false] at hy
    rcases hy with rfl | rfl
    · rfl
    · exact lf
  have m1 : ([(("self" : Str), Value.ref x), (f, v)]).reverse.lookup ("self" : Str) = some (Value.ref x) := by simp [List.lookup, hfs.1]
  have m2 : ([(("self" : Str), Value.ref x), (f, v)]).reverse.lookup f = some v := by simp [List.lookup]
  show _root_.PySem.wpAt _ _ (.func _ (ksEnv qual (scp (ns1 f)) s.heap.objs.size fI (.ref cda) cc)) (execs _ (ksEnv qual (scp (ns1 f)) s.heap.objs.size fI (.ref cda) cc)) _ _ _
  refine ks_wpAt_execs_cons ?_
  have hL : s.heap.objs.size ≠ x := Nat.ne_of_gt (Heap.lt_size hx)
  refine say (s := { s with heap := h₁, toks := s.toks + 2 }) (ar := ⟨"self", none, p1⟩) T (X.keeps hk₁) (G.keeps hk₁) hs (B.keeps hk₁) hb hns m1 (hk₁ _ _ hx) hnC (hk₁ _ _ (X _ _ ho)) rfl rfl hcode hcell lk.1 lk.2 rfl hpos fun h₂ tk₂ t1 k2 hx2 => ?_
  have X2 : K.In h₂ := fun a o e => k2 a o (fun z => by rw [z, hnx] at e; cases e) (X.keeps hk₁ a o e)
  have hns2 : h₂.Ns s.heap.objs.size (fun y => ([(("self" : Str), Value.ref x), (f, v)]).reverse.lookup y) := by
    obtain ⟨o, es, ep, e, r⟩ := hns
    exact ⟨o, es, ep, k2 _ _ hL e, r⟩
  refine wpAt_of_wpAny (wpAny_execs_cons ?_)
  refine keep (s := { s with heap := h₂, toks := tk₂ }) (env := ksEnv qual (scp (ns1 f)) s.heap.objs.size fI (.ref cda) cc) T X2 F1.no hx2 hns2 m2 m1 rfl lf rfl hfs.2.2 ?_ fun h₃ tk₃ dx k3 dn dne hx3 hn3 => ?_
  · simp only [fNames, List.mem_cons, List.not_mem_nil, or_false] at hf
    rcases hf with rfl | rfl | rfl | rfl | rfl | rfl <;> rfl
  have z1 : s.heap.objs.size < h₂.objs.size := by
    obtain ⟨o, es, ep, e, r⟩ := hns2
    exact Heap.lt_size e
  exact wpAny_execs_nil (hq h₃ tk₃ dx t1 (fun b o hb e => k3 b o hb (k2 b o hb (hk₁ b o e))) (Nat.le_of_lt (Nat.lt_of_lt_of_le z1 dn)) dne hx3 hn3)

theorem init0 (T : ClsT prog K C) (F0 : Fn0 prog K C fI) {x t0 : Addr} (X : K.In s.heap) (hlim : s.heap.NoLimit) (G : s.heap.Ns mainGlobals mg) (hs : mg "super" = none) (B : s.heap.Ns builtinsNs mb) (hb : mb "super" = some (.type "super"))
    (hx : s.heap.get? x = some (excO C t0)) (hnC : x ≠ C) (hroom : A.depth < recursionLimit)
    (hq : ∀ h' tk t1, (∀ b o, b ≠ x → s.heap.get? b = some o → h'.get? b = some o) → h'.get? x = some (excO C t1) → R (.ok (.ret .none)) { s with heap := h', toks := tk }) :
    codeAny (model prog w) A (.call (.ref fI) ⟨[.ref x], []⟩) R s := by
  obtain ⟨oc, od, qual, txt, doc, pm, an, cda, ct, osl, cc, p1, q1, q2, q3, q4, q5, q6, ho, hcd, hpos, hcode, hcell⟩ := F0.fn
  refine ks_codeAny_call_defAt (binds := [("self", .ref x)]) hroom (X _ _ ho) rfl hlim (codeRec_of X hcd) rfl (BindsTo.of_eq rfl) (show ∀ y ∈ ns0, y.2 ≠ NameKind.cell by decide) ?_ (fun h₁ hns hk₁ => ?_) rfl rfl rfl
  · intro y hy
    simp only [List.mem_cons, List.not_mem_nil, or_false] at hy
    subst hy
    rfl
  show _root_.PySem.wpAt _ _ (.func _ (ksEnv qual (scp ns0) s.heap.objs.size fI (.ref cda) cc)) (execs _ (ksEnv qual (scp ns0) s.heap.objs.size fI (.ref cda) cc)) _ _ _
  refine ks_wpAt_execs_cons ?_
  refine say (s := { s with heap := h₁, toks := s.toks + 1 }) (ar := ⟨"self", none, p1⟩) T (X.keeps hk₁) (G.keeps hk₁) hs (B.keeps hk₁) hb hns (by rfl) (hk₁ _ _ hx) hnC (hk₁ _ _ (X _ _ ho)) rfl rfl hcode hcell rfl rfl rfl hpos fun h₂ tk₂ t1 k2 hx2 => ?_
  exact wpAt_of_wpAny (wpAny_execs_nil (hq h₂ tk₂ t1 (fun b o hb e => k2 b o hb (hk₁ b o e)) hx2))

theorem one_le (v : Value) : [v].length ≤ sizeLine := by rw [sizeLine_eq]; exact (by decide : 1 ≤ 16777216)

theorem made1 (T : ClsT prog K C) (F1 : Fn1 prog K C fI f) (hf : f ∈ fNames) {rest : List Value} {kw : List (Str × Value)} {v : Value} (X : K.In s.heap) (hlim : s.heap.NoLimit) (G : s.heap.Ns mainGlobals mg) (hs : mg "super" = none) (B : s.heap.Ns builtinsNs mb) (hb : mb "super" = some (.type "super"))
    (ha : (rest = [v] ∧ kw = []) ∨ (rest = [] ∧ kw = [(f, v)])) (hroom : A.depth + 1 < recursionLimit)
    (hq : ∀ h' tk e d, Made1 s.heap h' e C d f v → R (.ok (.ret (.ref e))) { s with heap := h', toks := tk }) : codeAny (model prog w) A (.call (.ref C) ⟨rest, kw⟩) R s := by
  obtain ⟨nm, N, qn, bs, bm, hdct, sn, sub, ab, col, dd, k0, k1, k2, k3, k5, hC, hT⟩ := excInit_of X T.ex
  obtain ⟨hp, g, dr, tk, os⟩ := s
  have kk : ∀ b o, hp.get? b = some o → ((hp.push (kdv_tup rest)).push (excO C hp.objs.size)).get? b = some o := fun b o e => Heap.get?_push_of_some _ (Heap.get?_push_of_some _ e)
  have hget : ((hp.push (kdv_tup rest)).push (excO C hp.objs.size)).get? (hp.objs.size + 1) = some (excO C hp.objs.size) := by heap_get
  have hnx : K.lookup (hp.objs.size + 1) = none := by
    cases e : K.lookup (hp.objs.size + 1) with
    | none => rfl
    | some o => exact absurd (Nat.lt_of_succ_lt (Heap.lt_size (show hp.get? (hp.objs.size + 1) = some o from X _ _ e))) (Nat.lt_irrefl _)
  have hnC : hp.objs.size + 1 ≠ C := fun z => absurd (Nat.lt_of_succ_lt (Heap.lt_size (show hp.get? (hp.objs.size + 1) = some _ from z ▸ hC))) (Nat.lt_irrefl _)
  have hz : rest.length ≤ sizeLine := by
    rcases ha with ⟨rfl, _⟩ | ⟨rfl, _⟩
    · exact one_le v
    · exact Nat.zero_le _
  refine mk_call F.excBase_Exception hT hz hC (looks_findIn X F1.fi) (fun self => bind_fn X self F1.ty) ?_
  refine init1 (s := ⟨(hp.push (kdv_tup rest)).push (excO C hp.objs.size), g, dr, tk, os⟩) T F1 hf (X.keeps kk) (hlim.keeps kk) (G.keeps kk) hs (B.keeps kk) hb (v := v) ?_ hget hnx hnC (show A.depth + 1 < recursionLimit from hroom) fun h' tk' dx t1 k' dn dne hx hns => ?_
  · rcases ha with ⟨rfl, rfl⟩ | ⟨rfl, rfl⟩
    · exact .inl rfl
    · exact .inr rfl
  · have z : hp.objs.size + 1 + 1 ≤ dx := by
      have q := dn
      dsimp only at q
      rw [Heap.size_push, Heap.size_push] at q
      exact q
    exact ⟨rfl, hq h' tk' (hp.objs.size + 1) dx ⟨fun b o e => k' b o (Nat.ne_of_lt (Nat.lt_succ_of_lt (Heap.lt_size e))) (kk b o e), Nat.le_succ _, ⟨t1, hx⟩, (show hp.objs.size ≤ dx by omega), dne, hns⟩⟩

theorem made0 (T : ClsT prog K C) (F0 : Fn0 prog K C fI) (X : K.In s.heap) (hlim : s.heap.NoLimit) (G : s.heap.Ns mainGlobals mg) (hs : mg "super" = none) (B : s.heap.Ns builtinsNs mb) (hb : mb "super" = some (.type "super"))
    (hroom : A.depth + 1 < recursionLimit) (hq : ∀ h' tk e, Made0 s.heap h' e C → R (.ok (.ret (.ref e))) { s with heap := h', toks := tk }) : codeAny (model prog w) A (.call (.ref C) ⟨[], []⟩) R s := by
  obtain ⟨nm, N, qn, bs, bm, hdct, sn, sub, ab, col, dd, k0, k1, k2, k3, k5, hC, hT⟩ := excInit_of X T.ex
  obtain ⟨hp, g, dr, tk, os⟩ := s
  have kk : ∀ b o, hp.get? b = some o → ((hp.push (kdv_tup [])).push (excO C hp.objs.size)).get? b = some o := fun b o e => Heap.get?_push_of_some _ (Heap.get?_push_of_some _ e)
  have hget : ((hp.push (kdv_tup [])).push (excO C hp.objs.size)).get? (hp.objs.size + 1) = some (excO C hp.objs.size) := by heap_get
  have hnC : hp.objs.size + 1 ≠ C := fun z => absurd (Nat.lt_of_succ_lt (Heap.lt_size (show hp.get? (hp.objs.size + 1) = some _ from z ▸ hC))) (Nat.lt_irrefl _)
  refine mk_call F.excBase_Exception hT (Nat.zero_le _) hC (looks_findIn X F0.fi) (fun self => bind_fn X self F0.ty) ?_
  refine init0 (s := ⟨(hp.push (kdv_tup [])).push (excO C hp.objs.size), g, dr, tk, os⟩) T F0 (X.keeps kk) (hlim.keeps kk) (G.keeps kk) hs (B.keeps kk) hb hget hnC (show A.depth + 1 < recursionLimit from hroom) fun h' tk' t1 k' hx => ?_
  exact ⟨rfl, hq h' tk' (hp.objs.size + 1) ⟨fun b o e => k' b o (Nat.ne_of_lt (Nat.lt_succ_of_lt (Heap.lt_size e))) (kk b o e), Nat.le_succ _, ⟨t1, hx⟩⟩⟩
end
end PySem.EX

set_option Elab.async false
set_option linter.all false
set_option maxRecDepth 100000
set_option maxHeartbeats 4000000
/-! Own errors over the tracked heap: made, read, asked for their class, raised. -/
namespace K0
open PySem PySem.Spec L2
open PyProof.Rows hiding St

abbrev exOb (C : Addr) (d : Option Addr) (t : Addr) : Obj := { cls := .ref C, dict := d, data := .fields #[.ref t, .none, .none, .none, .bool false, .none] }
/-- an error as a value: its class at C, its own dict d -/
def ExV (C : Addr) (d : Option Addr) (a : Addr) : HO := .ext fun h => ∃ t, h.get? a = some (exOb C d t)
theorem exv_ok {P : Program} {w : World} {H : Hp} {h : Heap} {a C t : Addr} {d : Option Addr} (e : h.get? a = some (exOb C d t)) : ObjOk P w H h a (ExV C d a) :=
  ⟨⟨t, e⟩, ⟨_, e⟩, fun _ _ ⟨t, q⟩ k => ⟨t, k _ q⟩⟩

/-- what the written part says of an own error's class -/
structure ErrC (P : Program) (K : PySem.W.Frag) (C : Addr) : Prop where
  cl : PySem.EX.ClsT P K C
  ga : PySem.W.findIn K (.ref C) "__getattribute__" = some (some (.builtin "BaseException.__getattribute__"))
  gg : PySem.W.findIn K (.ref C) "__getattr__" = some none
  eB : PySem.W.subIn K (.ref C) (.type "BaseException") = some true
  tC : PySem.W.typeIn K (.ref C) = some (.type "type")
  ha : PySem.W.findIn K (.ref C) "__class__" = some (some (.builtin "object.__class__"))
  hn : PySem.W.specialIn K (.builtin "object.__class__") "__get__" = some (some (.builtin "getset_descriptor.__get__"))
  ht : PySem.W.takesIn K (.builtin "object.__class__") = some true
  hm : PySem.W.mroIn K C (.type "object") = some true
theorem ErrC.xf {P : Program} {K : PySem.W.Frag} {C : Addr} (E : ErrC P K C) : XfC K C := ⟨E.ga, E.gg, E.eB, E.cl.hd⟩

section
variable {X : Cx} {C fI : Addr} {f x : Str} {k : Nat}
/-- the call of the class by position or by name, at the machine -/
theorem run_made1 {pins : List (Addr × Obj)} {σ : St} {H1 : Hp} {s1 : Shared} {v : V} {u : Value} {us : List Value} {kw : List (Str × Value)} {R : Value → Shared → Prop} (T : ErrC X.prog X.K C) (F1 : PySem.EX.Fn1 X.prog X.K C fI f) (hf : f ∈ PySem.EX.fNames) (hs : X.mg "super" = none) (hr : Room k X.A)
    (I1 : Inv X pins σ H1 s1) (rv : RelV v u) (ha : (us = [u] ∧ kw = []) ∨ (us = [] ∧ kw = [(f, u)]))
    (h : ∀ (a d t : Addr) (G : Heap) (h' : Heap) (tk : Nat), H1 a = none → H1 d = none → d ≠ a → Inv X pins σ (upd H1 d (.xd [(f, v)])) { s1 with heap := G, toks := tk } → (∀ b o, G.get? b = some o → h'.get? b = some o) → G.get? a = none → h'.get? a = some (exOb C (some d) t) → R (.ref a) { s1 with heap := h', toks := tk }) :
    wpAny (model X.prog X.w) X.A (call (.ref C) us kw) R X.xe s1 := by
  have hlim := I1.nolimit
  have hX := I1.kIn
  have hG : s1.heap.Ns mainGlobals X.mg := I1.mod.glob.keeps I1.bk
  obtain ⟨mb, hB, hBB⟩ := I1.mod.blt
  have hb : mb "super" = some (.type "super") := (hBB _ (by decide)).trans (by decide +kernel)
  have hB' : s1.heap.Ns builtinsNs mb := hB.keeps I1.bk
  refine wpAny_call (PySem.EX.made1 T.cl F1 hf hX hlim hG hs hB' hb ha (by have := hr.dp; omega) fun h' tk e d M => ?_)
  obtain ⟨t, ht⟩ := M.obj
  obtain ⟨G, g1, g2⟩ := restrict h' fun b => decide (b ≠ e)
  have gk : ∀ b, b ≠ e → G.get? b = h'.get? b := fun b hb => g1 b (decide_eq_true hb)
  have ge : G.get? e = none := g2 e (by simp)
  have old : ∀ b o, s1.heap.get? b = some o → G.get? b = some o := fun b o q => (gk b (Nat.ne_of_lt (Nat.lt_of_lt_of_le (Heap.lt_size q) M.new))).trans (M.keep b o q)
  have ob : ObjOk X.prog X.w (upd H1 d (.xd [(f, v)])) G d (.xd [(f, v)]) := ⟨_, M.ns.at (fun o q => (gk d M.dne).trans q), fun g => by
    by_cases hw : g = f
    · subst hw
      rw [if_pos rfl, show List.lookup g [(g, v)] = some v by simp [List.lookup]]
      exact rv
    · have qw : (g == f) = false := by simpa using hw
      rw [if_neg hw, show List.lookup g [(f, v)] = none by simp [List.lookup, qw]]
      trivial⟩
  have J : Inv X pins σ (upd H1 d (.xd [(f, v)])) { s1 with heap := G, toks := tk } := I1.laid (t' := tk) old M.dbig ob
  exact h e d t G h' tk (I1.hok.fresh M.new) (I1.hok.fresh M.dbig) M.dne J (fun b o q => by
    by_cases hb : b = e
    · rw [hb, ge] at q; cases q
    · exact (gk b hb).symm.trans q) ge ht

/-- X(e) -/
def tMk1 (C : Addr) (f : Str) (ta : TA) : TE := fun σ H Q => ta σ H fun vs H1 => ∃ v, vs = [v] ∧ ∀ a d, H1 a = none → H1 d = none → d ≠ a → Q (.ref a) (upd (upd H1 d (.xd [(f, v)])) a (ExV C (some d) a))
def tMkX1 (C : Addr) (f : Str) (ta : TA) : St → Hp → XK → Prop := fun σ H Q => ta σ H fun vs H1 => ∃ v, vs = [v] ∧ ∀ d, H1 d = none → Q (.ref C) (some d) (upd H1 d (.xd [(f, v)]))
theorem fin1 {pins : List (Addr × Obj)} {σ : St} {H1 : Hp} {s1 : Shared} {v : V} {Q : VK} {a d t : Addr} {G h' : Heap} {tk : Nat} (na : H1 a = none) (nd : d ≠ a) (J : Inv X pins σ (upd H1 d (.xd [(f, v)])) { s1 with heap := G, toks := tk })
    (k : ∀ b o, G.get? b = some o → h'.get? b = some o) (ga : G.get? a = none) (ha : h'.get? a = some (exOb C (some d) t)) (q : Q (.ref a) (upd (upd H1 d (.xd [(f, v)])) a (ExV C (some d) a))) : EP X pins σ Q (.ref a) { s1 with heap := h', toks := tk } :=
  ⟨.ref a, _, J.laidN (t' := tk) k ga (by rw [upd_ne nd.symm]; exact na) (exv_ok ha), rfl, q⟩
theorem finX {pins : List (Addr × Obj)} {σ : St} {H1 : Hp} {s1 : Shared} {v : V} {Q : XK} {a d t : Addr} {G h' : Heap} {tk : Nat} (T : ErrC X.prog X.K C) (bare : AllBare s1.gens) (na : H1 a = none) (nd : d ≠ a) (J : Inv X pins σ (upd H1 d (.xd [(f, v)])) { s1 with heap := G, toks := tk })
    (k : ∀ b o, G.get? b = some o → h'.get? b = some o) (ga : G.get? a = none) (ha : h'.get? a = some (exOb C (some d) t)) (q : Q (.ref C) (some d) (upd H1 d (.xd [(f, v)]))) : MkP X pins σ Q (.ref a) { s1 with heap := h', toks := tk } :=
  ⟨a, _, _, { s1 with heap := G, toks := tk }, _, .ref C, some d, rfl, J, k, ga, ha, ⟨rfl, rfl⟩, rfl, rfl, by rw [upd_ne nd.symm]; exact na, rfl, bare, raises_own T.eB T.tC, q⟩

section
variable {e : Expr} {ta : TA} {p pos : Pos} (T : ErrC X.prog X.K C) (F1 : PySem.EX.Fn1 X.prog X.K C fI f) (hf : f ∈ PySem.EX.fNames) (hs : X.mg "super" = none) (hr : Room k X.A) (hm : X.mg x = some (.ref C))
include T F1 hf hs hr hm
theorem pe_mk1 (ha : PA X [e] ta) (hg : Gl X x := by rfl) (he : starEach [e] X.env = (false, eval e X.env) :: starEach [] X.env := by rfl) (hpl : (backTo pos (starEach [] X.env)).any (·.1) = false := by rfl) (hdb : (x == ("__debug__" : Str)) = false := by decide) :
    PE X (.Call (.Name x p) [e] [] pos) (tMk1 C f ta) := by
  refine ⟨fun pins s σ H Q I h => ?_⟩
  refine wpAny_Call_Name_kw (ld_glob I hg hm ?_ hdb)
  refine PySem.W.callWith_K (h₀ := X.base) I.ok.mod.kin T.cl.kp (thn (ha.run pos pins s σ H _ I h) fun us s1 hh => ?_) he hpl
  obtain ⟨vs, H1, I1, r1, v, rfl, q1⟩ := hh
  obtain ⟨u, rfl, ru⟩ := vals1 r1
  exact ⟨I1.kIn, run_made1 T F1 hf hs hr I1 ru (.inl ⟨rfl, rfl⟩) fun a d t G h' tk na nd dne J k ga ha' => fin1 na dne J k ga ha' (q1 a d na nd dne)⟩
theorem pmk1 (ha : PA X [e] ta) (hg : Gl X x := by rfl) (he : starEach [e] X.env = (false, eval e X.env) :: starEach [] X.env := by rfl) (hpl : (backTo pos (starEach [] X.env)).any (·.1) = false := by rfl) (hdb : (x == ("__debug__" : Str)) = false := by decide) :
    PMk X (.Call (.Name x p) [e] [] pos) (tMkX1 C f ta) := by
  intro pins s σ H Q I h
  refine wpAny_Call_Name_kw (ld_glob I hg hm ?_ hdb)
  refine PySem.W.callWith_K (h₀ := X.base) I.ok.mod.kin T.cl.kp (thn (ha.run pos pins s σ H _ I h) fun us s1 hh => ?_) he hpl
  obtain ⟨vs, H1, I1, r1, v, rfl, q1⟩ := hh
  obtain ⟨u, rfl, ru⟩ := vals1 r1
  exact ⟨I1.kIn, run_made1 T F1 hf hs hr I1 ru (.inl ⟨rfl, rfl⟩) fun a d t G h' tk na nd dne J k ga ha' => finX T I1.bare na dne J k ga ha' (q1 d nd)⟩
theorem pe_mkK {kws : List Keyword} (ha : PK X kws ta) (hks : (backToKw pos (keywordEach kws X.env)).filterMap (·.1) = [f] := by rfl) (hall : (backToKw pos (keywordEach kws X.env)).all (·.1.isSome) = true := by rfl) (hg : Gl X x := by rfl)
    (hpl : ((backTo pos (starEach [] X.env)).any (·.1) || (backToKw pos (keywordEach kws X.env)).any (·.1.isNone)) = false := by rfl) (hdb : (x == ("__debug__" : Str)) = false := by decide) :
    PE X (.Call (.Name x p) [] kws pos) (tMk1 C f ta) := by
  refine ⟨fun pins s σ H Q I h => ?_⟩
  refine wpAny_Call_Name_kw (ld_glob I hg hm ?_ hdb)
  refine PySem.W.callWith_KW0 (h₀ := X.base) I.ok.mod.kin T.cl.kp hall (thn (ha.run pos pins s σ H _ I h) fun us s1 hh => ?_) hpl
  obtain ⟨vs, H1, I1, r1, v, rfl, q1⟩ := hh
  obtain ⟨u, rfl, ru⟩ := vals1 r1
  rw [hks]
  exact ⟨I1.kIn, run_made1 T F1 hf hs hr I1 ru (.inr ⟨rfl, rfl⟩) fun a d t G h' tk na nd dne J k ga ha' => fin1 na dne J k ga ha' (q1 a d na nd dne)⟩
theorem pmkK {kws : List Keyword} (ha : PK X kws ta) (hks : (backToKw pos (keywordEach kws X.env)).filterMap (·.1) = [f] := by rfl) (hall : (backToKw pos (keywordEach kws X.env)).all (·.1.isSome) = true := by rfl) (hg : Gl X x := by rfl)
    (hpl : ((backTo pos (starEach [] X.env)).any (·.1) || (backToKw pos (keywordEach kws X.env)).any (·.1.isNone)) = false := by rfl) (hdb : (x == ("__debug__" : Str)) = false := by decide) :
    PMk X (.Call (.Name x p) [] kws pos) (tMkX1 C f ta) := by
  intro pins s σ H Q I h
  refine wpAny_Call_Name_kw (ld_glob I hg hm ?_ hdb)
  refine PySem.W.callWith_KW0 (h₀ := X.base) I.ok.mod.kin T.cl.kp hall (thn (ha.run pos pins s σ H _ I h) fun us s1 hh => ?_) hpl
  obtain ⟨vs, H1, I1, r1, v, rfl, q1⟩ := hh
  obtain ⟨u, rfl, ru⟩ := vals1 r1
  rw [hks]
  exact ⟨I1.kIn, run_made1 T F1 hf hs hr I1 ru (.inr ⟨rfl, rfl⟩) fun a d t G h' tk na nd dne J k ga ha' => finX T I1.bare na dne J k ga ha' (q1 d nd)⟩
end
end
end K0

set_option Elab.async false
set_option linter.all false
set_option maxRecDepth 100000
set_option maxHeartbeats 8000000
/-! The program's looks at webs. -/
namespace K0
open PySem PySem.Spec L2
open PyProof.Rows hiding St
open KR (TupX)
abbrev pWhole : Stmt := top 11
abbrev pBelow : Stmt := top 12
abbrev pPair2 : Stmt := top 13
abbrev pTie : Stmt := top 15
abbrev pWeb : Stmt := top 16
abbrev pCheckWeb : Stmt := top 17
/-- what kind of value stands here -/
inductive VT (H : Hp) : V → String → Prop
  | non : VT H .non "NoneType"
  | bl (b : Bool) : VT H (.bl b) "bool"
  | int (i : Int) : VT H (.int i) "int"
  | str (x : Str) : VT H (.str x) "str"
  | lst {a : Addr} {xs : List V} (e : H a = some (.lst xs)) : VT H (.ref a) "list"
  | tup {a : Addr} {xs : List V} (e : TT H a xs) : VT H (.ref a) "tuple"
  | dct {a : Addr} {kvs : List (Key × V)} (e : H a = some (.dK kvs)) : VT H (.ref a) "dict"
theorem VT.ty {K : PySem.W.Frag} {H : Hp} {v : V} {t : String} (h : VT H v t) : TyX K H v (.type t) := by
  cases h with
  | non => exact .base .non
  | bl b => exact .base (.bl b)
  | int i => exact .base (.int i)
  | str x => exact .base (.str x)
  | lst e => exact .base (.lst e)
  | tup e => exact e.elim (fun e => .base (.tup e)) fun ⟨_, e⟩ => .fTuple e
  | dct e => exact .base (.dK e)
theorem VT.mono {H H' : Hp} {v : V} {t : String} (h : VT H v t) (s : Same H H') : VT H' v t := by
  cases h with
  | non => exact .non
  | bl b => exact .bl b
  | int i => exact .int i
  | str x => exact .str x
  | lst e => exact .lst (s _ _ e)
  | tup e => exact .tup (e.keep fun o q => s _ _ q)
  | dct e => exact .dct (s _ _ e)
theorem VT.kit {K : PySem.W.Frag} {H : Hp} {v : V} {t : String} (h : VT H v t) : PySem.W.kitOne K (.type t) (.type "int") = some (decide (t = "int" ∨ t = "bool")) ∧ PySem.W.kitOne K (.type t) (.type "bool") = some (decide (t = "bool")) ∧ PySem.W.kitOne K (.type t) (.type "tuple") = some (decide (t = "tuple")) := by
  cases h <;> exact ⟨kit_ty (by decide +kernel), kit_ty (by decide +kernel), kit_ty (by decide +kernel)⟩
theorem DV.vt {H : Hp} {T : Addr → Prop} {v : V} {d : PyData} (D : DV H T v d) : ∃ t, VT H v t := by
  cases D with
  | non => exact ⟨_, .non⟩
  | bl b => exact ⟨_, .bl b⟩
  | int i => exact ⟨_, .int i⟩
  | str x => exact ⟨_, .str x⟩
  | lst _ e => exact ⟨_, .lst e⟩
  | tup _ e => exact ⟨_, .tup e⟩
  | dct _ e => exact ⟨_, .dct e⟩
def wholeV : V → Bool
  | .int _ => true
  | _ => false
theorem VT.whole {H : Hp} {v : V} {t : String} (h : VT H v t) : wholeV v = decide (t = "int") := by cases h <;> rfl
def belowV (v : V) (n : Int) : Bool := match v with
  | .int i => decide (0 ≤ i) && decide (i < n)
  | _ => false
/-- isinstance(x, T) -/
theorem isi_run {K : PySem.W.Frag} {H : Hp} {v : V} {t T : String} {b : Bool} {Q : VK} (h : VT H v t) (k : PySem.W.kitOne K (.type t) (.type T) = some b) (q : Q (.bl b) H) : rIsi K [v, .ty T] H Q := ⟨v, .ty T, .type t, .type T, b, rfl, .ty T, h.ty, k, q⟩
def spWhole : Sp := fun vs H Q _ => ∃ (v : V) (t : String), vs = [v] ∧ VT H v t ∧ Q (.bl (wholeV v)) H
def spBelow : Sp := fun vs H Q _ => ∃ (v : V) (t : String) (n : Int), vs = [v, .int n] ∧ VT H v t ∧ Q (.bl (belowV v n)) H
def spIsPair : Sp := fun vs H Q _ => ∃ (a : Addr) (x y : V), vs = [.ref a] ∧ H a = some (.tup [x, y]) ∧ Q (.bl true) H
def spIsTie : Sp := fun vs H Q _ => ∃ (a : Addr) (q : Int × Int) (n : Int), vs = [.ref a, .int n] ∧ H a = some (.tup [.int q.1, .int q.2]) ∧ (0 ≤ q.1 ∧ q.1 < q.2 ∧ q.2 < n) ∧ Q (.bl true) H
/-- a web that is one -/
structure GW (H : Hp) (w : Addr) (n : Nat) (L : List (Int × Int)) : Prop where
  web : Web H w n L
  n1 : 1 ≤ n
  n2 : n ≤ 12
  bel : Bel n L
  srt : Srt L
  few : L.length ≤ 40
theorem GW.same {H H' : Hp} {w : Addr} {n : Nat} {L : List (Int × Int)} (g : GW H w n L) (s : Same H H') : GW H' w n L := ⟨g.web.same s, g.n1, g.n2, g.bel, g.srt, g.few⟩
def spIsWeb : Sp := fun vs H Q _ => ∃ (w : Addr) (n : Nat) (L : List (Int × Int)), vs = [.ref w] ∧ GW H w n L ∧ ∀ H', Same H H' → Q (.bl true) H'
def spCheckWeb : Sp := fun vs H Q _ => ∃ (w : Addr) (n : Nat) (L : List (Int × Int)), vs = [.ref w] ∧ GW H w n L ∧ ∀ H', Same H H' → Q .non H'
theorem cd_inj {n : Int} {a b : Int × Int} (ha : 0 ≤ a.1 ∧ a.1 < a.2 ∧ a.2 < n) (hb : 0 ≤ b.1 ∧ b.1 < b.2 ∧ b.2 < n) (hn : n ≤ 12) (e : cd a = cd b) : a = b := by
  obtain ⟨a1, a2⟩ := a
  obtain ⟨b1, b2⟩ := b
  unfold cd at e
  dsimp only at ha hb e
  have h1 : a1 = b1 := by omega
  have h2 : a2 = b2 := by omega
  rw [h1, h2]
/-- what is sorted in one order is one row -/
theorem srt_uniq {n : Int} (hn : n ≤ 12) : ∀ {L M : List (Int × Int)}, L.Perm M → Bel n L → Srt L → Srt M → L = M
  | [], M, p, _, _, _ => (List.nil_perm.mp p).symm
  | a :: L, [], p, _, _, _ => absurd (List.perm_nil.mp p) (by simp)
  | a :: L, b :: M, p, hb, s1, s2 => by
    obtain ⟨s1a, s1b⟩ := List.pairwise_cons.mp s1
    obtain ⟨s2a, s2b⟩ := List.pairwise_cons.mp s2
    have ab : a = b := by
      have ha : a ∈ b :: M := p.mem_iff.mp (List.mem_cons_self ..)
      have hb' : b ∈ a :: L := p.mem_iff.mpr (List.mem_cons_self ..)
      refine cd_inj (hb a (List.mem_cons_self ..)) (hb b hb') hn ?_
      have h1 : cd b ≤ cd a := by
        rcases List.mem_cons.mp ha with e | e
        · rw [e]; exact Int.le_refl _
        · exact s2a _ e
      have h2 : cd a ≤ cd b := by
        rcases List.mem_cons.mp hb' with e | e
        · rw [e]; exact Int.le_refl _
        · exact s1a _ e
      omega
    subst ab
    rw [srt_uniq hn ((List.perm_cons a).mp p) (fun q z => hb q (List.mem_cons_of_mem _ z)) s1b s2b]
section
variable {P : Program} {w : World} {K : PySem.W.Frag} {mg : Str → Option Value} {base : Heap}
theorem scpWhole : FnScope ["thing"] ["thing"] (defScope pWhole) := ⟨rfl, rfl, rfl, by decide +kernel, rfl, by decide +kernel, by decide +kernel⟩
theorem ok_whole {f : Addr} {fd : FuncData} (F : Fun K "is_whole" "is_whole" pWhole f fd) (T : Bj mg) : FnOk P w K mg base CX0 1 f fd ["thing"] spWhole := by
  refine F.ok scpWhole (fun vs H Q E h => ?_) (fun cdv A outer s H vs Q E hr h => ?_)
  · obtain ⟨v, t, rfl, _⟩ := h
    rfl
  · obtain ⟨v, t, rfl, hv, k⟩ := h
    refine ⟨_, pss_one (ps_ret (pe_and (pe_callB call_isi (by rfl) T.isi (by decide +kernel) (pa_cons (pv 0) (pa_cons (pe_bltn (v := .ty "int") (u := .type "int") (by rfl) T.int (by decide +kernel) rfl) pa_nil)))
      (pe_one (pe_not (pe_callB call_isi (by rfl) T.isi (by decide +kernel) (pa_cons (pv 0) (pa_cons (pe_bltn (v := .ty "bool") (u := .type "bool") (by rfl) T.bool (by decide +kernel) rfl) pa_nil))))))), ?_⟩
    obtain ⟨k1, k2, _⟩ := hv.kit (K := K)
    have hw := hv.whole
    refine ⟨_, rfl, v, .ty "int", .type t, .type "int", _, rfl, .ty "int", hv.ty, k1, _, rfl, ?_⟩
    by_cases h1 : t = "int" ∨ t = "bool"
    · rw [if_pos (decide_eq_true h1)]
      refine ⟨_, rfl, v, .ty "bool", .type t, .type "bool", _, rfl, .ty "bool", hv.ty, k2, _, rfl, ?_⟩
      have e : (!decide (t = "bool")) = wholeV v := by
        rw [hw]
        rcases h1 with rfl | rfl <;> decide
      rw [e]
      exact k
    · rw [if_neg (by rw [decide_eq_false h1]; exact Bool.false_ne_true)]
      have e : false = wholeV v := by rw [hw, decide_eq_false (fun z => h1 (.inl z))]
      rw [e]
      exact k
theorem scpBelow : FnScope ["thing", "bound"] ["thing", "bound"] (defScope pBelow) := ⟨rfl, rfl, rfl, by decide +kernel, rfl, by decide +kernel, by decide +kernel⟩
theorem ok_below {f fW : Addr} {fd fdW : FuncData} (F : Fun K "is_below" "is_below" pBelow f fd) (GW : Dn P w K mg base "is_whole" 1 ["thing"] spWhole fW fdW) : FnOk P w K mg base CX0 2 f fd ["thing", "bound"] spBelow := by
  refine F.ok scpBelow (fun vs H Q E h => ?_) (fun cdv A outer s H vs Q E hr h => ?_)
  · obtain ⟨v, t, n, rfl, _⟩ := h
    rfl
  · obtain ⟨v, t, n, rfl, hv, k⟩ := h
    refine ⟨_, pss_one (ps_ret (pe_and (pe_call GW.ok hr rfl GW.g GW.kp GW.b .nil pass0 (pa_cons (pv 0) pa_nil)) (pe_one (pe_chain op_le op_lt pe_int (pv 0) (pv 1))))), ?_⟩
    refine ⟨_, rfl, v, t, rfl, hv, _, rfl, ?_⟩
    cases hv with
    | int i =>
      refine ⟨_, rfl, _, _, rfl, rfl, _, rfl, ?_⟩
      have kk : Q (.bl (decide (0 ≤ i) && decide (i < n))) H := k
      by_cases h0 : (0 : Int) ≤ i
      · rw [if_pos (decide_eq_true h0)]
        rw [decide_eq_true h0, Bool.true_and] at kk
        exact ⟨_, rfl, _, _, rfl, rfl, kk⟩
      · rw [if_neg (by rw [decide_eq_false h0]; exact Bool.false_ne_true)]
        rw [decide_eq_false h0, Bool.false_and] at kk
        exact kk
    | _ => exact k
theorem scpPair2 : FnScope ["thing"] ["thing"] (defScope pPair2) := ⟨rfl, rfl, rfl, by decide +kernel, rfl, by decide +kernel, by decide +kernel⟩
theorem ok_isPair {f : Addr} {fd : FuncData} (F : Fun K "is_pair" "is_pair" pPair2 f fd) (T : Bj mg) : FnOk P w K mg base CX0 1 f fd ["thing"] spIsPair := by
  refine F.ok scpPair2 (fun vs H Q E h => ?_) (fun cdv A outer s H vs Q E hr h => ?_)
  · obtain ⟨a, x, y, rfl, _⟩ := h
    rfl
  · obtain ⟨a, x, y, rfl, ha, k⟩ := h
    refine ⟨_, pss_one (ps_ret (pe_and (pe_callB call_isi (by rfl) T.isi (by decide +kernel) (pa_cons (pv 0) (pa_cons (pe_bltn (v := .ty "tuple") (u := .type "tuple") (by rfl) T.tuple (by decide +kernel) rfl) pa_nil)))
      (pe_one (pe_cmpR op_eq (pe_callB call_len_seq (by rfl) T.len PySem.boot_len (pa_cons (pv 0) pa_nil)) pe_int (nomark _))))), ?_⟩
    have hv : VT H (.ref a) "tuple" := .tup (.inl ha)
    refine ⟨_, rfl, .ref a, .ty "tuple", .type "tuple", .type "tuple", _, rfl, .ty "tuple", hv.ty, hv.kit.2.2, _, rfl, ?_⟩
    refine iteT ⟨_, rfl, a, _, rfl, .inr (SqT.of ha), rfl, k⟩
theorem scpTie : FnScope ["thing", "places"] ["thing", "places"] (defScope pTie) := ⟨rfl, rfl, rfl, by decide +kernel, rfl, by decide +kernel, by decide +kernel⟩
theorem ok_isTie {f fP fB : Addr} {fd fdP fdB : FuncData} (F : Fun K "is_tie" "is_tie" pTie f fd) (GP : Dn P w K mg base "is_pair" 1 ["thing"] spIsPair fP fdP) (GB : Dn P w K mg base "is_below" 2 ["thing", "bound"] spBelow fB fdB) :
    FnOk P w K mg base CX0 3 f fd ["thing", "places"] spIsTie := by
  refine F.ok scpTie (fun vs H Q E h => ?_) (fun cdv A outer s H vs Q E hr h => ?_)
  · obtain ⟨a, q, n, rfl, _⟩ := h
    rfl
  · obtain ⟨a, q, n, rfl, ha, hq, k⟩ := h
    have hr1 : Room 1 _ := hr.mono (by decide)
    refine ⟨_, pss_one (ps_ret (pe_and (pe_call GP.ok hr1 rfl GP.g GP.kp GP.b .nil pass0 (pa_cons (pv 0) pa_nil))
      (pe_and (pe_call GB.ok hr rfl GB.g GB.kp GB.b .nil pass0 (pa_cons (pe_ix ix_tup (pv 0) pe_int (fun _ _ => rfl)) (pa_cons (pv 1) pa_nil)))
        (pe_one (pe_call GB.ok hr rfl GB.g GB.kp GB.b .nil pass0 (pa_cons (pe_ix ix_tup (pv 0) pe_int (fun _ _ => rfl)) (pa_cons (pe_ix ix_tup (pv 0) pe_int (fun _ _ => rfl)) pa_nil))))))), ?_⟩
    have b2 : belowV (.int q.2) n = true := by show (decide _ && decide _) = true; rw [decide_eq_true (by omega), decide_eq_true (by omega)] <;> rfl
    have b1 : belowV (.int q.1) q.2 = true := by show (decide _ && decide _) = true; rw [decide_eq_true (by omega), decide_eq_true (by omega)] <;> rfl
    refine ⟨_, rfl, a, _, _, rfl, ha, _, rfl, iteT ⟨_, rfl, a, _, _, _, rfl, rfl, SqT.of ha, atI_nat (j := 1) rfl, _, rfl, _, "int", n, rfl, .int _, _, rfl, ?_⟩⟩
    rw [b2]
    refine iteT ⟨_, rfl, a, _, _, _, rfl, rfl, SqT.of ha, atI_nat (j := 0) rfl, _, rfl, a, _, _, _, rfl, rfl, SqT.of ha, atI_nat (j := 1) rfl, _, "int", q.2, rfl, .int _, ?_⟩
    rw [b1]
    exact k
end
end K0

set_option Elab.async false
set_option linter.all false
set_option maxRecDepth 100000
set_option maxHeartbeats 8000000
/-! A web is told as one. -/
namespace K0
open PySem PySem.Spec L2
open PyProof.Rows hiding St
/-- what the program's own names hold -/
structure Bk (mg : Str → Option Value) : Prop extends Bj mg where
  most : ∃ t, mg "MOST_PLACES" = some (.int 12 t)
  sup : mg "super" = none
theorem pd_eqv (L : List (Int × Int)) : PyData.eqv (.list (L.map pd)) (.list (L.map pd)) = true := SeqAt.eqv_refl _ (by
  have h := pd_shaped L
  unfold SeqAt.shaped at h
  rw [Bool.and_eq_true] at h
  exact h.1)
section
variable {P : Program} {w : World} {K : PySem.W.Frag} {mg : Str → Option Value} {base : Heap}
abbrev nIsWeb : List Str := ["thing", "places", "ties", "tie"]
theorem scIsWeb : FnScope nIsWeb ["thing"] (defScope pWeb) := ⟨rfl, rfl, rfl, by decide +kernel, rfl, by decide +kernel, by decide +kernel⟩
theorem ok_isWeb {f fP fW fT : Addr} {fd fdP fdW fdT : FuncData} (F : Fun K "is_web" "is_web" pWeb f fd) (T : Bk mg) (GP : Dn P w K mg base "is_pair" 1 ["thing"] spIsPair fP fdP) (GW' : Dn P w K mg base "is_whole" 1 ["thing"] spWhole fW fdW)
    (GT : Dn P w K mg base "is_tie" 3 ["thing", "places"] spIsTie fT fdT) : FnOk P w K mg base CX0 4 f fd ["thing"] spIsWeb := by
  refine F.ok scIsWeb (fun vs H Q E h => ?_) (fun cdv A outer s H vs Q E hr h => ?_)
  · obtain ⟨w, n, L, rfl, _⟩ := h
    rfl
  · obtain ⟨w, n, L, rfl, G, k⟩ := h
    have hr1 : Room 1 _ := hr.mono (by decide)
    have hu6 : A.units + 3 + 64 < cLine := by have := hr.un; have e : (A.deeper (envOfC "is_web" (defScope pWeb) s.heap.objs.size f cdv)).units = A.units + 3 := rfl; omega
    obtain ⟨tk, hmost⟩ := T.most
    refine ⟨_, pss_cons (ps_if (pt_not (pt_val (pe_call GP.ok hr1 rfl GP.g GP.kp GP.b .nil pass0 (pa_cons (pv 0) pa_nil)))) (pss_one (ps_ret pe_bl)) pss_nil)
      <| pss_cons (ps_asg (pv 0) (pg_tup rfl (pgs_cons (pg_name (i := 1) scIsWeb.nd rfl (.inr rfl)) (pgs_cons (pg_name (i := 2) scIsWeb.nd rfl (.inl rfl)) pgs_nil))))
      <| pss_cons (ps_if (PW.pt (pw_or (pt_not (pt_val (pe_call GW'.ok hr1 rfl GW'.g GW'.kp GW'.b .nil pass0 (pa_cons (pv 1) pa_nil))))
          (pw_or (pt_not (pt_chain op_le op_le pe_int (pv 1) (pe_glob rfl hmost (show RelV (.int 12) _ from ⟨_, rfl⟩))))
            (pw_or1 (pt_not (pt_val (pe_callB call_isi (by rfl) T.isi (by decide +kernel) (pa_cons (pv 2) (pa_cons (pe_bltn (v := .ty "tuple") (u := .type "tuple") (by rfl) T.tuple (by decide +kernel) rfl) pa_nil)))))))))
          (pss_one (ps_ret pe_bl)) pss_nil)
      <| pss_one (ps_ret (pe_and (pe_callB (cr_all rfl) (by rfl) T.all (by decide +kernel) (pa_cons (pe_lc (own := [("tie", 3)]) (g := gName 3) (tt := tYes) rfl scIsWeb.nd (pi_tup (pv 2)) (blkOk_by (N := nIsWeb) (sc := defScope pWeb) (by decide +kernel))
            (fun _ _ _ _ _ => pg_name (i := 3) scIsWeb.nd rfl (Or.inl rfl)) (fun _ _ _ _ _ => pts_nil) (fun _ _ _ _ _ => pe_call GT.ok hr rfl GT.g GT.kp GT.b .nil pass0 (pa_cons (pv 3) (pa_cons (pv 1) pa_nil)))) pa_nil))
          (pe_one (pe_cmpR (op_eqD hu6) (pe_callTy call_list_of (by rfl) T.list (by decide +kernel) (pa_cons (pv 2) pa_nil)) (pe_callB (KR.cr_sortTT (d := 2) (B := 64) (by decide)) (by rfl) T.sorted (by decide +kernel) (pa_cons (pv 2) pa_nil)) (nomark _))))), ?_⟩
    obtain ⟨t, vs, e1, e2, e3⟩ := G.web.ex
    have n1 := G.n1
    have n2 := G.n2
    have few := G.few
    have len := e3.len
    refine ⟨_, rfl, w, _, _, rfl, e1, _, rfl, ?_⟩
    refine ⟨_, rfl, w, _, rfl, SqT.of e1, rfl, _, _, rfl, _, _, rfl, rfl, ?_⟩
    have htup : VT H (.ref t) "tuple" := .tup (.inl e2)
    have c1 : decide ((1 : Int) ≤ n) = true := decide_eq_true (by omega)
    have c2 : decide ((n : Int) ≤ 12) = true := decide_eq_true (by omega)
    refine ⟨_, rfl, _, "int", rfl, .int _, _, rfl, _, rfl, _, _, rfl, rfl, _, rfl, ?_⟩
    rw [if_pos c1]
    refine ⟨_, _, rfl, rfl, ?_⟩
    refine ⟨_, rfl, iteNS (c := (n : Int) ≤ 12) (by omega) ?_⟩
    refine ⟨_, rfl, .ref t, .ty "tuple", .type "tuple", .type "tuple", _, rfl, .ty "tuple", htup.ty, htup.kit.2.2, _, rfl, iteNS (c := "tuple" = "tuple") rfl ?_⟩
    refine ⟨_, rfl, t, rfl, ⟨_, SqT.of e2⟩, fun Da hD => ?_⟩
    refine lc_it (walk_tup (xs := vs)) (fun i M => M Da = some (.lst (List.replicate i (.bl true))) ∧ Same H M) ⟨upd_same, same_new hD⟩ (fun i M _ g => SqT.of (g.2 _ _ e2)) ?_ ?_
    · rintro i x M M' hi ⟨g1, g2⟩ ⟨rfl, hx⟩
      obtain ⟨a, q, rfl, hq, ha⟩ := e3.get hx
      refine ⟨rfl, ?_⟩
      unfold tYes
      refine iteT ?_
      refine ⟨_, rfl, _, rfl, a, q, n, rfl, g2 _ _ ha, G.bel q (List.mem_of_getElem? hq), _, g1, by rw [List.length_replicate, sizeLine_eq]; omega, by rw [upd_same, List.replicate_succ'], fun b o e => by rw [upd_ne (ne_of_none e hD)]; exact g2 _ _ e⟩
    · rintro M ⟨g1, g2⟩
      have all1 : ∀ m : Nat, (List.replicate m true).all id = true := fun m => by
        induction m with
        | zero => rfl
        | succ m ih => rw [List.replicate_succ, List.all_cons, ih] <;> rfl
      refine ⟨Da, List.replicate vs.length true, rfl, SqL.of (by rw [g1, List.map_replicate]), _, rfl, ?_⟩
      rw [all1]
      refine iteT ?_
      refine ⟨_, rfl, t, vs, rfl, .inr (SqT.of (g2 _ _ e2)), fun l hl => ?_⟩
      have s1 : Same H (upd M l (.lst vs)) := g2.trans (same_new hl)
      refine ⟨_, rfl, t, vs, rfl, SqT.of (s1 _ _ e2), by omega, (e3.mono (same_tup s1)).tups G.bel (by omega), fun ys p pm pw hp => ?_⟩
      obtain ⟨M2, pm2, pr⟩ := Prs.perm pm (e3.mono (same_tup s1))
      have eM : M2 = L := (srt_uniq (n := n) (by omega) pm2.symm G.bel G.srt (pr.srt pw)).symm
      subst eM
      have s2 : Same H (upd (upd M l (.lst vs)) p (.lst ys)) := s1.trans (same_new hp)
      refine ⟨.list (M2.map pd), .list (M2.map pd), .lst (SqL.of (by rw [upd_ne (ne_of_none upd_same hp)]; exact upd_same)) (e3.mono (same_tup s2)).dp, .lst (SqL.of upd_same) (pr.mono (new_tup hp)).dp, pd_shaped M2, pd_shaped M2, ?_⟩
      rw [pd_eqv]
      exact k _ s2
theorem scCheckWeb : FnScope ["thing"] ["thing"] (defScope pCheckWeb) := ⟨rfl, rfl, rfl, by decide +kernel, rfl, by decide +kernel, by decide +kernel⟩
theorem ok_checkWeb {f fW : Addr} {fd fdW : FuncData} (F : Fun K "check_web" "check_web" pCheckWeb f fd) (GW' : Dn P w K mg base "is_web" 4 ["thing"] spIsWeb fW fdW) : FnOk P w K mg base CX0 5 f fd ["thing"] spCheckWeb := by
  refine F.ok scCheckWeb (fun vs H Q E h => ?_) (fun cdv A outer s H vs Q E hr h => ?_)
  · obtain ⟨w, n, L, rfl, _⟩ := h
    rfl
  · obtain ⟨w, n, L, rfl, G, k⟩ := h
    refine ⟨_, pss_one (ps_if (pt_not (pt_val (pe_call GW'.ok hr rfl GW'.g GW'.kp GW'.b .nil pass0 (pa_cons (pv 0) pa_nil)))) (pss_one ps_never) pss_nil), ?_⟩
    exact ⟨_, rfl, w, n, L, rfl, G, fun H' s1 => ⟨_, rfl, k H' s1⟩⟩
end
end K0

set_option Elab.async false
set_option linter.all false
set_option maxRecDepth 100000
set_option maxHeartbeats 8000000
/-! Lots: told, refused. -/
namespace K0
open PySem PySem.Spec L2
open PyProof.Rows hiding St
abbrev pIsLotOf : Stmt := top 18
abbrev pIsTieNo : Stmt := top 19
/-- a value that may be a lot: a tuple of such items, or none -/
inductive Th (H : Hp) : V → Option (List V) → Prop
  | tup {a : Addr} {xs : List V} (e : TT H a xs) (h : ∀ x ∈ xs, ∃ t, VT H x t) (l : xs.length ≤ 60) : Th H (.ref a) (some xs)
  | oth {v : V} {t : String} (h : VT H v t) (ne : t ≠ "tuple") : Th H v none
theorem Th.same {H H' : Hp} {v : V} {o : Option (List V)} (h : Th H v o) (s : Same H H') : Th H' v o := by
  cases h with
  | tup e h l => exact .tup (e.keep fun o q => s _ _ q) (fun x hx => let ⟨t, q⟩ := h x hx; ⟨t, q.mono s⟩) l
  | oth h ne => exact .oth (h.mono s) ne
def intV : V → Int
  | .int i => i
  | _ => 0
def lotD (n : Int) (xs : List V) : Bool := xs.all (belowV · n) && decide ((xs.map intV).Pairwise (· < ·))
def lotO (n : Int) : Option (List V) → Bool
  | some xs => lotD n xs
  | none => false
/-- a lot of the places below n -/
structure IsLot (n : Int) (ns : List Int) : Prop where
  bel : ∀ i ∈ ns, 0 ≤ i ∧ i < n
  inc : ns.Pairwise (· < ·)
theorem below_ints {n : Int} : ∀ {xs : List V}, xs.all (belowV · n) = true → xs = (xs.map intV).map V.int ∧ ∀ i ∈ xs.map intV, 0 ≤ i ∧ i < n
  | [], _ => ⟨rfl, fun _ z => nomatch z⟩
  | x :: xs, h => by
    rw [List.all_cons, Bool.and_eq_true] at h
    obtain ⟨h1, h2⟩ := h
    obtain ⟨e1, e2⟩ := below_ints h2
    cases x with
    | int i =>
      have h1 : (decide (0 ≤ i) && decide (i < n)) = true := h1
      rw [Bool.and_eq_true, decide_eq_true_eq, decide_eq_true_eq] at h1
      refine ⟨by rw [List.map_cons, List.map_cons, ← e1] <;> rfl, fun j hj => ?_⟩
      rw [List.map_cons] at hj
      rcases List.mem_cons.mp hj with rfl | z
      · exact h1
      · exact e2 j z
    | _ => cases h1
theorem lot_of {n : Int} {xs : List V} (h : lotD n xs = true) : xs = (xs.map intV).map V.int ∧ IsLot n (xs.map intV) := by
  unfold lotD at h
  rw [Bool.and_eq_true, decide_eq_true_eq] at h
  obtain ⟨e1, e2⟩ := below_ints h.1
  exact ⟨e1, e2, h.2⟩
theorem map_intV (ns : List Int) : (ns.map V.int).map intV = ns := by
  rw [List.map_map]
  exact (List.map_congr_left fun i _ => rfl).trans (List.map_id ns)
theorem of_lot {n : Int} {ns : List Int} (h : IsLot n ns) : lotD n (ns.map V.int) = true := by
  unfold lotD
  rw [map_intV, Bool.and_eq_true, decide_eq_true_eq]
  refine ⟨List.all_eq_true.mpr fun x hx => ?_, h.inc⟩
  obtain ⟨i, hi, rfl⟩ := List.mem_map.mp hx
  have := h.bel i hi
  show (decide _ && decide _) = true
  rw [decide_eq_true this.1, decide_eq_true this.2] <;> rfl
/-- rows that rise and have the same members are one -/
theorem inc_uniq : ∀ {a b : List Int}, a.Pairwise (· < ·) → b.Pairwise (· < ·) → (∀ k, k ∈ a ↔ k ∈ b) → a = b
  | [], [], _, _, _ => rfl
  | [], y :: b, _, _, h => absurd ((h y).mpr (List.mem_cons_self ..)) List.not_mem_nil
  | x :: a, [], _, _, h => absurd ((h x).mp (List.mem_cons_self ..)) List.not_mem_nil
  | x :: a, y :: b, ha, hb, h => by
    obtain ⟨a1, a2⟩ := List.pairwise_cons.mp ha
    obtain ⟨b1, b2⟩ := List.pairwise_cons.mp hb
    have e : x = y := by
      have hx := (h x).mp (List.mem_cons_self ..)
      have hy := (h y).mpr (List.mem_cons_self ..)
      rcases List.mem_cons.mp hx with e | z
      · exact e
      · rcases List.mem_cons.mp hy with e | z'
        · exact e.symm
        · have := b1 _ z
          have := a1 _ z'
          omega
    subst e
    rw [inc_uniq a2 b2 fun k => ⟨fun hk => ?_, fun hk => ?_⟩]
    · rcases List.mem_cons.mp ((h k).mp (List.mem_cons_of_mem _ hk)) with e | z
      · have := a1 _ hk; omega
      · exact z
    · rcases List.mem_cons.mp ((h k).mpr (List.mem_cons_of_mem _ hk)) with e | z
      · have := b1 _ hk; omega
      · exact z
theorem eqvAll_ints : ∀ a b : List Int, PyData.eqvAll (a.map PyData.int) (b.map PyData.int) = decide (a = b)
  | [], [] => by simp [PyData.eqvAll]
  | [], y :: b => by simp [PyData.eqvAll]
  | x :: a, [] => by simp [PyData.eqvAll]
  | x :: a, y :: b => by
    simp only [List.map_cons, PyData.eqvAll, PyData.eqv, eqvAll_ints a b, List.cons.injEq]
    by_cases h : x = y <;> by_cases g : a = b <;> simp [h, g]
theorem eqv_ints (a b : List Int) : PyData.eqv (.list (a.map PyData.int)) (.list (b.map PyData.int)) = decide (a = b) := by
  rw [← eqvAll_ints a b]
  simp only [PyData.eqv]
def spIsLotOf : Sp := fun vs H Q _ => ∃ (w : Addr) (n : Nat) (L : List (Int × Int)) (v : V) (o : Option (List V)), vs = [.ref w, v] ∧ GW H w n L ∧ Th H v o ∧ ∀ H', Same H H' → Q (.bl (lotO n o)) H'
/-- an error with a field -/
structure ErX (P : Program) (K : PySem.W.Frag) (mg : Str → Option Value) (nm : Str) (C fI : Addr) (f : Str) : Prop where
  er : ErrC P K C
  f1 : PySem.EX.Fn1 P K C fI f
  g : mg nm = some (.ref C)
/-- an error is raised that carries v -/
def Rz (C : Addr) (f : Str) (v : V) (H : Hp) (E : XK) : Prop := ∀ (d : Addr) (H' : Hp), Same H H' → H d = none → H' d = some (.xd [(f, v)]) → E (.ref C) (some d) H'
theorem Rz.same {C : Addr} {f : Str} {v : V} {H H1 : Hp} {E : XK} (r : Rz C f v H E) (s : Same H H1) : Rz C f v H1 E := fun d H' s' hd e => r d H' (s.trans s') (s.free hd) e
def spCheckLot (C : Addr) : Sp := fun vs H Q E => ∃ (w : Addr) (n : Nat) (L : List (Int × Int)) (v : V) (o : Option (List V)), vs = [.ref w, v] ∧ GW H w n L ∧ Th H v o ∧ (lotO n o = true → ∀ H', Same H H' → Q .non H') ∧ (lotO n o = false → Rz C "thing" v H E)
def spIsTieNo : Sp := fun vs H Q _ => ∃ (w : Addr) (n : Nat) (L : List (Int × Int)) (v : V) (t : String), vs = [.ref w, v] ∧ GW H w n L ∧ VT H v t ∧ Q (.bl (belowV v L.length)) H
def spCheckTie (C : Addr) : Sp := fun vs H Q E => ∃ (w : Addr) (n : Nat) (L : List (Int × Int)) (v : V) (t : String), vs = [.ref w, v] ∧ GW H w n L ∧ VT H v t ∧ (belowV v L.length = true → Q .non H) ∧ (belowV v L.length = false → Rz C "number" v H E)
section
variable {P : Program} {w0 : World} {K : PySem.W.Frag} {mg : Str → Option Value} {base : Heap}
abbrev nIsLotOf : List Str := ["web", "thing", "place"]
theorem scIsLotOf : FnScope nIsLotOf ["web", "thing"] (defScope pIsLotOf) := ⟨rfl, rfl, rfl, by decide +kernel, rfl, by decide +kernel, by decide +kernel⟩
theorem ok_isLotOf {f fB : Addr} {fd fdB : FuncData} (F : Fun K "is_lot_of" "is_lot_of" pIsLotOf f fd) (T : Bk mg) (GB : Dn P w0 K mg base "is_below" 2 ["thing", "bound"] spBelow fB fdB) : FnOk P w0 K mg base CX0 3 f fd ["web", "thing"] spIsLotOf := by
  refine F.ok scIsLotOf (fun vs H Q E h => ?_) (fun cdv A outer s H vs Q E hr h => ?_)
  · obtain ⟨w, n, L, v, o, rfl, _⟩ := h
    rfl
  · obtain ⟨w, n, L, v, o, rfl, G, th, k⟩ := h
    have hu6 : A.units + 3 + 64 < cLine := by have := hr.un; have e : (A.deeper (envOfC "is_lot_of" (defScope pIsLotOf) s.heap.objs.size f cdv)).units = A.units + 3 := rfl; omega
    refine ⟨_, pss_cons (ps_if (PW.pt (pw_or (pt_not (pt_val (pe_callB call_isi (by rfl) T.isi (by decide +kernel) (pa_cons (pv 1) (pa_cons (pe_bltn (v := .ty "tuple") (u := .type "tuple") (by rfl) T.tuple (by decide +kernel) rfl) pa_nil)))))
          (pw_or1 (pt_not (pt_val (pe_callB (cr_all rfl) (by rfl) T.all (by decide +kernel) (pa_cons (pe_lc (own := [("place", 2)]) (g := gName 2) (tt := tYes) rfl scIsLotOf.nd (pi_tup (pv 1)) (blkOk_by (N := nIsLotOf) (sc := defScope pIsLotOf) (by decide +kernel))
            (fun _ _ _ _ _ => pg_name (i := 2) scIsLotOf.nd rfl (Or.inl rfl)) (fun _ _ _ _ _ => pts_nil) (fun _ _ _ _ _ => pe_call GB.ok hr rfl GB.g GB.kp GB.b .nil pass0 (pa_cons (pv 2) (pa_cons (pe_ix (show IxR _ (rIxT K) from ix_tup) (pv 0) pe_int (fun _ _ => rfl)) pa_nil)))) pa_nil)))))))
          (pss_one (ps_ret pe_bl)) pss_nil)
      <| pss_one (ps_ret (pe_cmpR (op_eqD hu6) (pe_callTy call_list_of (by rfl) T.list (by decide +kernel) (pa_cons (pv 1) pa_nil)) (pe_callB (cr_sortedSet rfl) (by rfl) T.sorted (by decide +kernel) (pa_cons (pe_callTy (KR.cr_setTI rfl) (by rfl) T.set (by decide +kernel) (pa_cons (pv 1) pa_nil)) pa_nil)) (nomark _))), ?_⟩
    obtain ⟨t, vs, e1, e2, e3⟩ := G.web.ex
    cases th with
    | @oth v t h ne =>
      exact ⟨_, rfl, v, .ty "tuple", .type t, .type "tuple", _, rfl, .ty "tuple", h.ty, h.kit.2.2, _, rfl, by
        rw [decide_eq_false ne]
        exact k H (Same.refl H)⟩
    | @tup a xs e h l =>
      have hv : VT H (.ref a) "tuple" := .tup e
      refine ⟨_, rfl, .ref a, .ty "tuple", .type "tuple", .type "tuple", _, rfl, .ty "tuple", hv.ty, hv.kit.2.2, _, rfl, iteNS (c := "tuple" = "tuple") rfl ?_⟩
      refine ⟨_, rfl, a, rfl, ⟨_, e.sq⟩, fun Da hD => ?_⟩
      refine lc_it (walk_tup (xs := xs)) (fun i M => M Da = some (.lst (((xs.take i).map (belowV · n)).map V.bl)) ∧ Same H M) ⟨upd_same, same_new hD⟩ (fun i M _ g => (e.keep fun o q => g.2 _ _ q).sq) ?_ ?_
      · rintro i x M M' hi ⟨g1, g2⟩ ⟨rfl, hx⟩
        obtain ⟨t, ht⟩ := h x (List.mem_of_getElem? hx)
        refine ⟨rfl, ?_⟩
        unfold tYes
        refine iteT ?_
        refine ⟨_, rfl, _, rfl, w, _, _, _, rfl, rfl, SqT.of (g2 _ _ e1), atI_nat (j := 0) rfl, x, t, n, rfl, ht.mono g2, _, g1, by rw [List.length_map, List.length_map, List.length_take, sizeLine_eq]; omega, by rw [upd_same, List.take_add_one, hx] <;> simp, fun b o e => by rw [upd_ne (ne_of_none e hD)]; exact g2 _ _ e⟩
      · rintro M ⟨g1, g2⟩
        rw [List.take_length] at g1
        have ea : (xs.map (belowV · n)).all id = xs.all (belowV · n) := by rw [List.all_map] <;> rfl
        refine ⟨Da, _, rfl, SqL.of g1, _, rfl, ?_⟩
        rw [ea]
        by_cases hb : xs.all (belowV · n) = true
        · obtain ⟨x1, x2⟩ := below_ints hb
          rw [hb]
          generalize hns : xs.map intV = ns at x1 x2
          have hlen : ns.length ≤ 60 := by rw [← hns, List.length_map]; exact l
          have eM : TT M a (ns.map V.int) := x1 ▸ (e.keep fun o q => g2 _ _ q)
          refine ⟨_, rfl, a, _, rfl, .inr eM.sq, fun l1 hl1 => ⟨_, rfl, a, ns, rfl, ?_, by omega, fun b c hb1 hc => ⟨b, _, c, rfl, upd_same, by omega, fun ms p m1 m2 _ hp => ?_⟩⟩⟩
          · exact (eM.keep fun o q => by rw [upd_ne (ne_of_none q hl1)]; exact q).sq
          · have s3 : Same H (upd (upd (upd M l1 (.lst (ns.map V.int))) b (SetO w0 b (fun j => decide (j ∈ ns)) c)) p (.lst (ms.map V.int))) := ((g2.trans (same_new hl1)).trans (same_new hb1)).trans (same_new hp)
            have n1p : l1 ≠ b := ne_of_none upd_same hb1
            have n2p : l1 ≠ p := ne_of_none (H := upd (upd M l1 (.lst (ns.map V.int))) b (SetO w0 b (fun j => decide (j ∈ ns)) c)) (by rw [upd_ne n1p]; exact upd_same) hp
            refine ⟨.list (ns.map PyData.int), .list (ms.map PyData.int), .lst (SqL.of (by rw [upd_ne n2p, upd_ne n1p]; exact upd_same)) (ints_dp ns), .lst (SqL.of upd_same) (ints_dp ms), ints_shaped ns, ints_shaped ms, ?_⟩
            rw [eqv_ints]
            have ans : decide (ns = ms) = lotO n (some xs) := by
              show _ = lotD n xs
              unfold lotD
              rw [hb, Bool.true_and, hns]
              by_cases hp : ns.Pairwise (· < ·)
              · rw [decide_eq_true hp]
                exact decide_eq_true (inc_uniq hp m1 fun k => by rw [m2 k, decide_eq_true_eq])
              · rw [decide_eq_false hp]
                exact decide_eq_false fun e => hp (e ▸ m1)
            rw [ans]
            exact k _ s3
        · rw [Bool.eq_false_iff.mpr hb]
          have ans : false = lotO n (some xs) := by
            show _ = lotD n xs
            unfold lotD
            rw [Bool.eq_false_iff.mpr hb, Bool.false_and]
          show Q (.bl false) M
          rw [ans]
          exact k M g2
theorem scIsTieNo : FnScope ["web", "thing"] ["web", "thing"] (defScope pIsTieNo) := ⟨rfl, rfl, rfl, by decide +kernel, rfl, by decide +kernel, by decide +kernel⟩
theorem ok_isTieNo {f fB : Addr} {fd fdB : FuncData} (F : Fun K "is_tie_number" "is_tie_number" pIsTieNo f fd) (T : Bk mg) (GB : Dn P w0 K mg base "is_below" 2 ["thing", "bound"] spBelow fB fdB) : FnOk P w0 K mg base CX0 3 f fd ["web", "thing"] spIsTieNo := by
  refine F.ok scIsTieNo (fun vs H Q E h => ?_) (fun cdv A outer s H vs Q E hr h => ?_)
  · obtain ⟨w, n, L, v, t, rfl, _⟩ := h
    rfl
  · obtain ⟨w, n, L, v, t, rfl, G, ht, k⟩ := h
    refine ⟨_, pss_one (ps_ret (pe_call GB.ok hr rfl GB.g GB.kp GB.b .nil pass0 (pa_cons (pv 1) (pa_cons (pe_callB call_len_seq (by rfl) T.len PySem.boot_len (pa_cons (pe_ix ix_tup (pv 0) pe_int (fun _ _ => rfl)) pa_nil)) pa_nil)))), ?_⟩
    obtain ⟨ta, vs, e1, e2, e3⟩ := G.web.ex
    refine ⟨_, rfl, _, rfl, w, _, _, _, rfl, rfl, SqT.of e1, atI_nat (j := 1) rfl, ta, vs, rfl, .inr (SqT.of e2), v, t, _, rfl, ht, ?_⟩
    rw [e3.len]
    exact k
end
end K0

/-! Places as bits. -/
namespace K0
/-- a and b are tied -/
def Adj (L : List (Int × Int)) (a b : Nat) : Prop := ((a : Int), (b : Int)) ∈ L ∨ ((b : Int), (a : Int)) ∈ L
instance (L : List (Int × Int)) (a b : Nat) : Decidable (Adj L a b) := by unfold Adj; infer_instance
theorem Adj.symm {L : List (Int × Int)} {a b : Nat} (h : Adj L a b) : Adj L b a := Or.symm h
/-- the places that are joined with r within m -/
inductive Rch (L : List (Int × Int)) (m : Nat) (r : Nat) : Nat → Prop
  | refl (h : m.testBit r = true) : Rch L m r r
  | step {b c : Nat} (h : Rch L m r b) (a : Adj L b c) (k : m.testBit c = true) : Rch L m r c
theorem Rch.bit {L : List (Int × Int)} {m r i : Nat} (h : Rch L m r i) : m.testBit i = true := by
  cases h with
  | refl h => exact h
  | step _ _ k => exact k
theorem Rch.root {L : List (Int × Int)} {m r i : Nat} (h : Rch L m r i) : m.testBit r = true := by
  induction h with
  | refl h => exact h
  | step _ _ _ ih => exact ih
theorem Rch.mono {L : List (Int × Int)} {m m' r i : Nat} (h : Rch L m r i) (s : ∀ j, m.testBit j = true → m'.testBit j = true) : Rch L m' r i := by
  induction h with
  | refl h => exact .refl (s _ h)
  | step _ a k ih => exact .step ih a (s _ k)
/-- a set that is closed holds what is joined -/
theorem Rch.closed {L : List (Int × Int)} {m r i : Nat} (h : Rch L m r i) {S : Nat → Prop} (h0 : S r) (hs : ∀ b c, S b → Adj L b c → m.testBit c = true → S c) : S i := by
  induction h with
  | refl _ => exact h0
  | step _ a k ih => exact hs _ _ ih a k
theorem Rch.trans {L : List (Int × Int)} {m r i j : Nat} (h : Rch L m r i) (g : Rch L m i j) : Rch L m r j := g.closed h fun _ _ s a k => .step s a k
theorem Rch.symm {L : List (Int × Int)} {m r i : Nat} (h : Rch L m r i) : Rch L m i r := by
  induction h with
  | refl h => exact .refl h
  | step s a k ih => exact .trans (.step (.refl k) a.symm s.bit) ih
/-! ### bits -/
theorem sub_le {a b : Nat} (h : ∀ i, a.testBit i = true → b.testBit i = true) : a ≤ b := by
  have e : a &&& b = a := Nat.eq_of_testBit_eq fun i => by
    rw [Nat.testBit_and]
    cases z : a.testBit i with
    | false => rfl
    | true => rw [h i z] <;> rfl
  rw [← e]
  exact Nat.and_le_right
theorem bit_lt {a i n : Nat} (ha : a < 2 ^ n) (h : a.testBit i = true) : i < n := by
  rcases Nat.lt_or_ge i n with z | z
  · exact z
  · rw [Nat.testBit_lt_two_pow (Nat.lt_of_lt_of_le ha (Nat.pow_le_pow_right (by decide) z))] at h
    cases h
theorem or_grows {p f : Nat} (d : ∀ i, f.testBit i = true → p.testBit i = false) (h : f ≠ 0) : p < p ||| f := by
  have le : p ≤ p ||| f := sub_le fun i z => by rw [Nat.testBit_or, z, Bool.true_or]
  refine Nat.lt_of_le_of_ne le fun e => ?_
  obtain ⟨i, hi⟩ := Nat.exists_testBit_of_ne_zero h
  have := congrArg (·.testBit i) e
  simp only [Nat.testBit_or, hi, d i hi, Bool.or_true] at this
  cases this
theorem full_bit (n i : Nat) : (2 ^ n - 1).testBit i = decide (i < n) := Nat.testBit_two_pow_sub_one ..
/-- the places of a mask -/
def lotN (m : Nat) : List Nat := (List.range 12).filter m.testBit
theorem lotN_mem {m i : Nat} (h : m < 2 ^ 12) : i ∈ lotN m ↔ m.testBit i = true := by
  unfold lotN
  rw [List.mem_filter, List.mem_range]
  exact ⟨fun z => z.2, fun z => ⟨bit_lt h z, z⟩⟩
theorem lotN_inc (m : Nat) : (lotN m).Pairwise (· < ·) := List.pairwise_lt_range.filter _
/-! ### near places -/
/-- what stands in the list of near places -/
structure Near (L : List (Int × Int)) (n : Nat) (ms : List Nat) : Prop where
  len : ms.length = n
  bit : ∀ a b, a < n → (ms.getD a 0).testBit b = decide (Adj L a b)
theorem near_nil (n : Nat) : Near [] n (List.replicate n 0) := ⟨List.length_replicate, fun a b h => by
  have e : (List.replicate n 0).getD a 0 = 0 := by rw [List.getD_eq_getElem?_getD, List.getElem?_replicate]; split <;> rfl
  rw [e, Nat.zero_testBit]
  exact (decide_eq_false fun z => by unfold Adj at z; simp at z).symm⟩
theorem near_snoc {L : List (Int × Int)} {n : Nat} {ms : List Nat} (h : Near L n ms) {a b : Nat} (lt : a < b) (hb : b < n) :
    Near (L ++ [((a : Int), (b : Int))]) n ((ms.set a (ms.getD a 0 ||| 2 ^ b)).set b (((ms.set a (ms.getD a 0 ||| 2 ^ b)).getD b 0) ||| 2 ^ a)) := by
  have len := h.len
  refine ⟨by rw [List.length_set, List.length_set, len], fun x y hx => ?_⟩
  have e1 : (ms.set a (ms.getD a 0 ||| 2 ^ b)).getD b 0 = ms.getD b 0 := by
    rw [List.getD_eq_getElem?_getD, List.getElem?_set_ne (by omega), ← List.getD_eq_getElem?_getD]
  rw [e1]
  have adj : ∀ x y : Nat, Adj (L ++ [((a : Int), (b : Int))]) x y ↔ Adj L x y ∨ (x = a ∧ y = b) ∨ (x = b ∧ y = a) := fun x y => by
    unfold Adj
    simp only [List.mem_append, List.mem_singleton, Prod.mk.injEq, Int.natCast_inj]
    constructor
    · rintro ((z | z) | (z | z))
      · exact .inl (.inl z)
      · exact .inr (.inl z)
      · exact .inl (.inr z)
      · exact .inr (.inr ⟨z.2, z.1⟩)
    · rintro ((z | z) | z | z)
      · exact .inl (.inl z)
      · exact .inr (.inl z)
      · exact .inl (.inr z)
      · exact .inr (.inr ⟨z.2, z.1⟩)
  have key := h.bit x y hx
  by_cases hxb : x = b
  · subst hxb
    rw [List.getD_eq_getElem?_getD, List.getElem?_set_self (by rw [List.length_set]; omega)]
    show (ms.getD x 0 ||| 2 ^ a).testBit y = _
    rw [Nat.testBit_or, key, Nat.testBit_two_pow, ← Bool.decide_or]
    refine decide_eq_decide.mpr ?_
    rw [adj]
    constructor
    · rintro (z | z)
      · exact .inl z
      · exact .inr (.inr ⟨rfl, z.symm⟩)
    · rintro (z | z | z)
      · exact .inl z
      · omega
      · exact .inr z.2.symm
  · rw [List.getD_eq_getElem?_getD, List.getElem?_set_ne (fun z => hxb z.symm)]
    by_cases hxa : x = a
    · subst hxa
      rw [List.getElem?_set_self (by omega)]
      show (ms.getD x 0 ||| 2 ^ b).testBit y = _
      rw [Nat.testBit_or, key, Nat.testBit_two_pow, ← Bool.decide_or]
      refine decide_eq_decide.mpr ?_
      rw [adj]
      constructor
      · rintro (z | z)
        · exact .inl z
        · exact .inr (.inl ⟨rfl, z.symm⟩)
      · rintro (z | z | z)
        · exact .inl z
        · exact .inr z.2.symm
        · omega
    · rw [List.getElem?_set_ne (fun z => hxa z.symm), ← List.getD_eq_getElem?_getD, key]
      refine decide_eq_decide.mpr ?_
      rw [adj]
      constructor
      · exact .inl
      · rintro (z | z | z)
        · exact z
        · exact absurd z.1 hxa
        · exact absurd z.1 hxb
/-! ### parts -/
/-- p is the part of r within m -/
def IsPart (L : List (Int × Int)) (m r p : Nat) : Prop := ∀ i, p.testBit i = true ↔ Rch L m r i
/-- the state of the search -/
structure Flood (L : List (Int × Int)) (m r part fresh : Nat) : Prop where
  rch : ∀ i, part.testBit i = true → Rch L m r i
  root : part.testBit r = true
  fr : ∀ i, fresh.testBit i = true → part.testBit i = true
  cl : ∀ b c, part.testBit b = true → Adj L b c → m.testBit c = true → part.testBit c = true ∨ fresh.testBit b = true
theorem Flood.start {L : List (Int × Int)} {m r : Nat} (h : m.testBit r = true) : Flood L m r (2 ^ r) (2 ^ r) := by
  have e : ∀ i, (2 ^ r).testBit i = true ↔ r = i := fun i => by rw [Nat.testBit_two_pow, decide_eq_true_eq]
  refine ⟨fun i z => ?_, (e r).mpr rfl, fun _ z => z, fun b c z _ _ => .inr z⟩
  rw [← (e i).mp z]
  exact .refl h
theorem Flood.turn {L : List (Int × Int)} {m r part fresh met : Nat} (F : Flood L m r part fresh) (hm : ∀ c, met.testBit c = true ↔ ∃ b, fresh.testBit b = true ∧ Adj L b c) :
    Flood L m r (part ||| (met &&& (m ^^^ part))) (met &&& (m ^^^ part)) ∧ ∀ i, (met &&& (m ^^^ part)).testBit i = true → part.testBit i = false := by
  have mb : ∀ i, part.testBit i = true → m.testBit i = true := fun i z => (F.rch i z).bit
  have xb : ∀ i, (met &&& (m ^^^ part)).testBit i = true ↔ met.testBit i = true ∧ m.testBit i = true ∧ part.testBit i = false := fun i => by
    rw [Nat.testBit_and, Nat.testBit_xor]
    have := mb i
    cases h1 : met.testBit i <;> cases h2 : m.testBit i <;> cases h3 : part.testBit i <;> simp_all
  refine ⟨⟨fun i z => ?_, by rw [Nat.testBit_or, F.root, Bool.true_or], fun i z => by rw [Nat.testBit_or, z, Bool.or_true], fun b c z a k => ?_⟩, fun i z => ((xb i).mp z).2.2⟩
  · rw [Nat.testBit_or, Bool.or_eq_true] at z
    rcases z with z | z
    · exact F.rch i z
    · obtain ⟨h1, h2, _⟩ := (xb i).mp z
      obtain ⟨b, hb, ab⟩ := (hm i).mp h1
      exact .step (F.rch b (F.fr b hb)) ab h2
  · rw [Nat.testBit_or, Bool.or_eq_true] at z
    rw [Nat.testBit_or, Bool.or_eq_true]
    by_cases hc : part.testBit c = true
    · exact .inl (.inl hc)
    · have hc : part.testBit c = false := by cases q : part.testBit c <;> simp_all
      rcases z with z | z
      · rcases F.cl b c z a k with y | y
        · exact .inl (.inl y)
        · exact .inl (.inr ((xb c).mpr ⟨(hm c).mpr ⟨b, y, a⟩, k, hc⟩))
      · exact .inr z
theorem Flood.done {L : List (Int × Int)} {m r part : Nat} (F : Flood L m r part 0) : IsPart L m r part := fun i => ⟨F.rch i, fun h => h.closed F.root fun b c z a k => by
  rcases F.cl b c z a k with y | y
  · exact y
  · rw [Nat.zero_testBit] at y; cases y⟩
theorem Flood.lt {L : List (Int × Int)} {m r part fresh : Nat} (F : Flood L m r part fresh) (h : m < 4096) : part < 4096 ∧ fresh < 4096 := by
  have h1 : part ≤ m := sub_le fun i z => (F.rch i z).bit
  have h2 : fresh ≤ part := sub_le F.fr
  omega
/-- some parts, each with its least place, and what is left -/
structure Some_ (L : List (Int × Int)) (m left : Nat) (ps : List (Nat × Nat)) : Prop where
  sub : ∀ i, left.testBit i = true → m.testBit i = true
  cl : ∀ b c, m.testBit b = true → m.testBit c = true → Adj L b c → left.testBit b = left.testBit c
  part : ∀ q ∈ ps, m.testBit q.1 = true ∧ IsPart L m q.1 q.2 ∧ ∀ i, q.2.testBit i = true → q.1 ≤ i
  inc : ps.Pairwise fun a b => a.1 < b.1
  low : ∀ q ∈ ps, ∀ i, left.testBit i = true → q.1 < i
  all : ∀ i, m.testBit i = true → left.testBit i = true ∨ ∃ q ∈ ps, q.2.testBit i = true
theorem Some_.start (L : List (Int × Int)) (m : Nat) : Some_ L m m [] := ⟨fun _ z => z, fun b c hb hc _ => (by rw [hb, hc]), (fun _ z => nomatch z), .nil, (fun _ z => nomatch z), fun _ z => .inl z⟩
theorem Some_.turn {L : List (Int × Int)} {m left r p : Nat} {ps : List (Nat × Nat)} (S : Some_ L m left ps) (hr : left.testBit r = true) (lo : ∀ i, left.testBit i = true → r ≤ i) (hp : IsPart L left r p) :
    Some_ L m (left ^^^ p) (ps ++ [(r, p)]) ∧ left ^^^ p < left := by
  have pl : ∀ i, p.testBit i = true → left.testBit i = true := fun i z => ((hp i).mp z).bit
  have lb : ∀ i, (left ^^^ p).testBit i = true ↔ left.testBit i = true ∧ p.testBit i = false := fun i => by
    rw [Nat.testBit_xor]
    have := pl i
    cases h1 : left.testBit i <;> cases h2 : p.testBit i <;> simp_all
  have hp' : IsPart L m r p := fun i => ⟨fun z => ((hp i).mp z).mono S.sub, fun z => (hp i).mpr ?_⟩
  · refine ⟨⟨fun i z => S.sub i ((lb i).mp z).1, fun b c hb hc a => ?_, fun q hq => ?_, ?_, fun q hq i z => ?_, fun i z => ?_⟩, ?_⟩
    · rw [Nat.testBit_xor, Nat.testBit_xor, S.cl b c hb hc a]
      have e : p.testBit b = p.testBit c := by
        have h1 : ∀ b c, m.testBit b = true → m.testBit c = true → Adj L b c → p.testBit b = true → p.testBit c = true := fun b c hb hc a z => (hp c).mpr (.step ((hp b).mp z) a (by rw [← S.cl b c hb hc a]; exact pl b z))
        cases x : p.testBit b with
        | true => exact (h1 b c hb hc a x).symm
        | false =>
          cases y : p.testBit c with
          | false => rfl
          | true => rw [h1 c b hc hb a.symm y] at x; cases x
      rw [e]
    · rcases List.mem_append.mp hq with hq | hq
      · exact S.part q hq
      · rw [List.mem_singleton.mp hq]
        exact ⟨S.sub r hr, hp', fun i z => lo i (pl i z)⟩
    · refine List.pairwise_append.mpr ⟨S.inc, List.pairwise_singleton .., fun a ha b hb => ?_⟩
      rw [List.mem_singleton.mp hb]
      exact S.low a ha r hr
    · obtain ⟨z1, z2⟩ := (lb i).mp z
      rcases List.mem_append.mp hq with hq | hq
      · exact S.low q hq i z1
      · rw [List.mem_singleton.mp hq]
        refine Nat.lt_of_le_of_ne (lo i z1) fun e => ?_
        have e : r = i := e
        rw [← e, (hp r).mpr (.refl hr)] at z2
        cases z2
    · rcases S.all i z with y | ⟨q, hq, y⟩
      · cases x : p.testBit i with
        | true => exact .inr ⟨(r, p), List.mem_append_right _ (List.mem_singleton.mpr rfl), x⟩
        | false => exact .inl ((lb i).mpr ⟨y, x⟩)
      · exact .inr ⟨q, List.mem_append_left _ hq, y⟩
    · refine Nat.lt_of_le_of_ne (sub_le fun i z => ((lb i).mp z).1) fun e => ?_
      have := (lb r).mp (by rw [e]; exact hr)
      rw [(hp r).mpr (.refl hr)] at this
      cases this.2
  · refine z.closed (S := fun i => Rch L left r i) (.refl hr) fun b c s a k => .step s a ?_
    rw [← S.cl b c (S.sub b s.bit) k a]
    exact s.bit
/-- all parts of m -/
structure Parts (L : List (Int × Int)) (m : Nat) (ps : List (Nat × Nat)) : Prop where
  part : ∀ q ∈ ps, m.testBit q.1 = true ∧ IsPart L m q.1 q.2 ∧ ∀ i, q.2.testBit i = true → q.1 ≤ i
  inc : ps.Pairwise fun a b => a.1 < b.1
  all : ∀ i, m.testBit i = true → ∃ q ∈ ps, q.2.testBit i = true
theorem Some_.done {L : List (Int × Int)} {m : Nat} {ps : List (Nat × Nat)} (S : Some_ L m 0 ps) : Parts L m ps := ⟨S.part, S.inc, fun i z => (S.all i z).resolve_left fun y => by rw [Nat.zero_testBit] at y; cases y⟩
theorem inc_few : ∀ {ps : List (Nat × Nat)} {n k : Nat}, k ≤ n → (ps.Pairwise fun a b => a.1 < b.1) → (∀ q ∈ ps, k ≤ q.1 ∧ q.1 < n) → ps.length + k ≤ n
  | [], n, k, h, _, _ => by simpa using h
  | q :: ps, n, k, h, p, b => by
    obtain ⟨p1, p2⟩ := List.pairwise_cons.mp p
    have hq := b q (List.mem_cons_self ..)
    have := inc_few (k := q.1 + 1) hq.2 p2 fun r hr => ⟨p1 r hr, (b r (List.mem_cons_of_mem _ hr)).2⟩
    rw [List.length_cons]
    omega
end K0

/-! Rings of ties. -/
namespace K0
/-- the ends of the k-th tie -/
def tie (L : List (Int × Int)) (k : Nat) : Int × Int := L.getD k (0, 0)
def has (q : Int × Int) (p : Int) : Bool := decide (p = q.1) || decide (p = q.2)
def other (q : Int × Int) (p : Int) : Int := q.1 + q.2 - p
/-- the places that are met, the first one among them -/
def wk (L : List (Int × Int)) : Int → List Nat → List Int
  | s, [] => [s]
  | s, k :: r => s :: wk L (other (tie L k) s) r
def okW (L : List (Int × Int)) : Int → List Nat → Bool
  | _, [] => true
  | s, k :: r => has (tie L k) s && okW L (other (tie L k) s) r
/-- where it leads -/
def ed (L : List (Int × Int)) : Int → List Nat → Int
  | s, [] => s
  | s, k :: r => ed L (other (tie L k) s) r
section
variable {L : List (Int × Int)}
theorem has_iff {q : Int × Int} {p : Int} : has q p = true ↔ p = q.1 ∨ p = q.2 := by unfold has; simp
theorem other_has {q : Int × Int} {p : Int} (h : has q p = true) : has q (other q p) = true := by
  rw [has_iff] at h ⊢
  unfold other
  omega
theorem other_other (q : Int × Int) (p : Int) : other q (other q p) = p := by unfold other; omega
theorem wk_len : ∀ (ns : List Nat) (s : Int), (wk L s ns).length = ns.length + 1
  | [], _ => rfl
  | k :: r, s => by rw [wk, List.length_cons, wk_len r, List.length_cons]
theorem wk_head : ∀ (ns : List Nat) (s : Int), wk L s ns = s :: (wk L s ns).tail
  | [], _ => rfl
  | _ :: _, _ => rfl
theorem wk_app : ∀ (ns ms : List Nat) (s : Int), wk L s (ns ++ ms) = (wk L s ns).dropLast ++ wk L (ed L s ns) ms
  | [], _, _ => rfl
  | k :: r, ms, s => by
    rw [List.cons_append, wk, wk_app r, wk, ed]
    rw [wk_head r, List.dropLast_cons_cons, List.cons_append]
theorem wk_last : ∀ (ns : List Nat) (s : Int), wk L s ns = (wk L s ns).dropLast ++ [ed L s ns]
  | [], _ => rfl
  | k :: r, s => by
    rw [wk, ed]
    have h := wk_last r (other (tie L k) s)
    rw [wk_head r] at h ⊢
    rw [List.dropLast_cons_cons, List.cons_append, ← h]
theorem ok_app : ∀ (ns ms : List Nat) (s : Int), okW L s (ns ++ ms) = (okW L s ns && okW L (ed L s ns) ms)
  | [], _, _ => rfl
  | k :: r, ms, s => by rw [List.cons_append, okW, okW, ed, ok_app r, Bool.and_assoc]
theorem ed_app : ∀ (ns ms : List Nat) (s : Int), ed L s (ns ++ ms) = ed L (ed L s ns) ms
  | [], _, _ => rfl
  | k :: r, ms, s => by rw [List.cons_append, ed, ed, ed_app r]
/-- they lead round from s -/
structure Rnd (L : List (Int × Int)) (s : Int) (ns : List Nat) : Prop where
  ok : okW L s ns = true
  ed : ed L s ns = s
  nd : (wk L s ns).dropLast.Nodup
theorem Rnd.tail {s : Int} {k : Nat} {r : List Nat} (h : Rnd L s (k :: r)) : (wk L s (k :: r)).tail.Nodup := by
  have e := wk_last (L := L) r (other (tie L k) s)
  have nd := h.nd
  rw [wk, wk_head r, List.dropLast_cons_cons, ← wk_head r] at nd
  rw [wk, List.tail_cons, e, show K0.ed L (other (tie L k) s) r = s from h.ed]
  exact (List.perm_append_comm (l₁ := [s])).nodup_iff.mp nd
theorem Rnd.rot {s : Int} {k : Nat} {r : List Nat} (h : Rnd L s (k :: r)) : Rnd L (other (tie L k) s) (r ++ [k]) := by
  have hk := h.ok
  have he : K0.ed L (other (tie L k) s) r = s := h.ed
  rw [okW, Bool.and_eq_true] at hk
  refine ⟨?_, ?_, ?_⟩
  · rw [ok_app, hk.2, he, okW, hk.1] <;> rfl
  · rw [ed_app, he] <;> rfl
  · have e := wk_app (L := L) r [k] (other (tie L k) s)
    have w := wk_last (L := L) r (other (tie L k) s)
    rw [he] at e w
    rw [e, show wk L s [k] = [s, other (tie L k) s] from rfl, show (wk L (other (tie L k) s) r).dropLast ++ [s, other (tie L k) s] = ((wk L (other (tie L k) s) r).dropLast ++ [s]) ++ [other (tie L k) s] by rw [List.append_assoc] <;> rfl, List.dropLast_concat, ← w]
    exact h.tail
theorem rot_at {s : Int} {ns : List Nat} (h : Rnd L s ns) : ∀ i, i ≤ ns.length → ∃ t, Rnd L t (ns.drop i ++ ns.take i)
  | 0, _ => ⟨s, by simpa using h⟩
  | i + 1, hi => by
    obtain ⟨t, g⟩ := rot_at h i (by omega)
    rw [List.drop_eq_getElem_cons (by omega), List.cons_append] at g
    refine ⟨_, (?_ : ns.drop (i + 1) ++ ns.take i ++ [ns[i]] = _) ▸ g.rot⟩
    rw [List.append_assoc, List.take_add_one, List.getElem?_eq_getElem (by omega)] <;> rfl
theorem wk_rev : ∀ (ns : List Nat) (s : Int), okW L s ns = true → okW L (ed L s ns) ns.reverse = true ∧ wk L (ed L s ns) ns.reverse = (wk L s ns).reverse ∧ ed L (ed L s ns) ns.reverse = s
  | [], _, _ => ⟨rfl, rfl, rfl⟩
  | k :: r, s, h => by
    rw [okW, Bool.and_eq_true] at h
    obtain ⟨i1, i2, i3⟩ := wk_rev r _ h.2
    have oh := other_has h.1
    refine ⟨?_, ?_, ?_⟩
    · rw [List.reverse_cons, ed, ok_app, i1, i3, okW, oh] <;> rfl
    · have w := wk_last (L := L) r.reverse (ed L (other (tie L k) s) r)
      rw [i3] at w
      rw [List.reverse_cons, ed, wk_app, i3, show wk L s (k :: r) = s :: wk L (other (tie L k) s) r from rfl, List.reverse_cons, ← i2]
      rw [show wk L (other (tie L k) s) [k] = [other (tie L k) s, other (tie L k) (other (tie L k) s)] from rfl, other_other]
      conv => rhs; rw [w]
      rw [List.append_assoc] <;> rfl
    · rw [List.reverse_cons, ed, ed_app, i3]
      exact other_other _ _
theorem Rnd.rev {s : Int} {ns : List Nat} (h : Rnd L s ns) : Rnd L s ns.reverse := by
  obtain ⟨i1, i2, i3⟩ := wk_rev ns s h.ok
  rw [h.ed] at i1 i2 i3
  refine ⟨i1, i3, ?_⟩
  rw [i2]
  cases ns with
  | nil => exact .nil
  | cons k r =>
    have := h.tail
    rw [wk, List.tail_cons] at this
    rw [wk, List.reverse_cons, List.dropLast_concat]
    exact (List.reverse_perm _).nodup_iff.mpr this
/-- ties of a cut, along a way -/
def crB (mem : Int → Bool) (q : Int × Int) : Bool := mem q.1 != mem q.2
theorem cross (mem : Int → Bool) : ∀ (ns : List Nat) (s : Int), okW L s ns = true → (ns.filter fun k => crB mem (tie L k)).length % 2 = if mem s = mem (ed L s ns) then 0 else 1
  | [], s, _ => by simp [ed]
  | k :: r, s, h => by
    rw [okW, Bool.and_eq_true] at h
    have ih := cross mem r _ h.2
    have hs := has_iff.mp h.1
    have c : crB mem (tie L k) = (mem s != mem (other (tie L k) s)) := by
      unfold crB other
      rcases hs with e | e
      · rw [e, show (tie L k).1 + (tie L k).2 - (tie L k).1 = (tie L k).2 by omega]
      · rw [e, show (tie L k).1 + (tie L k).2 - (tie L k).2 = (tie L k).1 by omega]
        cases mem (tie L k).1 <;> cases mem (tie L k).2 <;> rfl
    rw [List.filter_cons, ed]
    cases x : mem s <;> cases y : mem (other (tie L k) s) <;> cases z : mem (ed L (other (tie L k) s) r) <;> simp only [c, x, y, z] at ih ⊢ <;> simp at ih ⊢ <;> omega
theorem Rnd.even {s : Int} {ns : List Nat} (h : Rnd L s ns) (mem : Int → Bool) : (ns.filter fun k => crB mem (tie L k)).length % 2 = 0 := by
  rw [cross mem ns s h.ok, h.ed, if_pos rfl]
theorem Rnd.col {s : Int} {ns : List Nat} (h : Rnd L s ns) {mem : Int → Bool} (c : ∀ k ∈ ns, crB mem (tie L k) = true) : ns.length % 2 = 0 := by
  have e := h.even mem
  rwa [List.filter_eq_self.mpr c] at e
/-! ### what is told of it -/
def rndB (L : List (Int × Int)) (s : Int) (ns : List Nat) : Bool := okW L s ns && decide (ed L s ns = s) && decide (wk L s ns).dropLast.Nodup
theorem rndB_iff {s : Int} {ns : List Nat} : rndB L s ns = true ↔ Rnd L s ns := by
  unfold rndB
  simp only [Bool.and_eq_true, decide_eq_true_eq]
  exact ⟨fun ⟨⟨a, b⟩, c⟩ => ⟨a, b, c⟩, fun ⟨a, b, c⟩ => ⟨⟨a, b⟩, c⟩⟩
def ringB (L : List (Int × Int)) (ns : List Nat) : Bool := decide (2 ≤ ns.length) && decide ns.Nodup && (rndB L (tie L (ns.getD 0 0)).1 ns || rndB L (tie L (ns.getD 0 0)).2 ns)
theorem ringB_of {s : Int} {ns : List Nat} (h : Rnd L s ns) (h2 : 2 ≤ ns.length) (nd : ns.Nodup) : ringB L ns = true := by
  unfold ringB
  rw [decide_eq_true h2, decide_eq_true nd]
  cases ns with
  | nil => simp at h2
  | cons k r =>
    have ok := h.ok
    rw [okW, Bool.and_eq_true] at ok
    show (true && true && (rndB L (tie L k).1 (k :: r) || rndB L (tie L k).2 (k :: r))) = true
    rcases has_iff.mp ok.1 with e | e
    · rw [← e, rndB_iff.mpr h] <;> rfl
    · rw [← e, rndB_iff.mpr h, Bool.or_true] <;> rfl
theorem of_ringB {ns : List Nat} (h : ringB L ns = true) : 2 ≤ ns.length ∧ ns.Nodup ∧ ∃ s, Rnd L s ns := by
  unfold ringB at h
  rw [Bool.and_eq_true, Bool.and_eq_true, decide_eq_true_eq, decide_eq_true_eq, Bool.or_eq_true] at h
  obtain ⟨⟨h1, h2⟩, h3⟩ := h
  exact ⟨h1, h2, h3.elim (fun z => ⟨_, rndB_iff.mp z⟩) fun z => ⟨_, rndB_iff.mp z⟩⟩
/-- a ring may be begun anywhere, and turned round -/
theorem ring_rot {ns : List Nat} (h : ringB L ns = true) {i : Nat} (hi : i ≤ ns.length) : ringB L (ns.drop i ++ ns.take i) = true := by
  obtain ⟨h1, h2, s, g⟩ := of_ringB h
  obtain ⟨t, g'⟩ := rot_at g i hi
  have p : (ns.drop i ++ ns.take i).Perm ns := List.perm_append_comm.trans (List.Perm.of_eq (List.take_append_drop i ns))
  exact ringB_of g' (by rw [p.length_eq]; exact h1) (p.nodup_iff.mpr h2)
theorem ring_rev {ns : List Nat} (h : ringB L ns = true) : ringB L ns.reverse = true := by
  obtain ⟨h1, h2, s, g⟩ := of_ringB h
  exact ringB_of g.rev (by rw [List.length_reverse]; exact h1) ((List.reverse_perm _).nodup_iff.mpr h2)
/-- ties are ties -/
def BelT (L : List (Int × Int)) : Prop := ∀ k, k < L.length → (tie L k).1 < (tie L k).2
theorem ring_two (B : BelT L) {i j : Nat} (hi : i < L.length) (hj : j < L.length) (ne : i ≠ j) : ringB L [i, j] = decide (tie L i = tie L j) := by
  have b1 := B i hi
  have b2 := B j hj
  have nd : [i, j].Nodup := by simp [ne]
  by_cases e : tie L i = tie L j
  · rw [decide_eq_true e]
    refine ringB_of (s := (tie L i).1) ⟨?_, ?_, ?_⟩ (Nat.le_refl 2) nd
    · simp only [okW, Bool.and_true, ← e, Bool.and_eq_true]
      exact ⟨has_iff.mpr (.inl rfl), other_has (has_iff.mpr (.inl rfl))⟩
    · simp only [ed, ← e]; exact other_other _ _
    · show [(tie L i).1, other (tie L i) (tie L i).1].Nodup
      unfold other
      simp only [List.nodup_cons, List.mem_singleton, List.not_mem_nil, not_false_eq_true, List.nodup_nil, and_true]
      omega
  · rw [decide_eq_false e]
    cases h : ringB L [i, j] with
    | false => rfl
    | true =>
      obtain ⟨_, _, s, ok, ed', _⟩ := of_ringB h
      simp only [okW, Bool.and_true, Bool.and_eq_true] at ok
      simp only [ed] at ed'
      have h1 := has_iff.mp ok.1
      have h2 := has_iff.mp ok.2
      unfold other at h2 ed'
      refine absurd (Prod.ext ?_ ?_) e <;> omega
/-- the program's look -/
def leadsP (L : List (Int × Int)) (start : Int) : Int → List Int → List Nat → Bool
  | p, _, [] => decide (p = start)
  | p, met, k :: r => if decide (p ∈ met) = true then false else if has (tie L k) p = true then leadsP L start (other (tie L k) p) (met ++ [p]) r else false
theorem leadsP_eq (start : Int) : ∀ (ns : List Nat) (p : Int) (met : List Int), met.Nodup → leadsP L start p met ns = (okW L p ns && decide (ed L p ns = start) && decide (met ++ (wk L p ns).dropLast).Nodup)
  | [], p, met, h => by
    rw [leadsP, okW, ed, wk, show ([p] : List Int).dropLast = [] from rfl, List.append_nil, decide_eq_true h, Bool.and_true, Bool.true_and]
  | k :: r, p, met, h => by
    rw [leadsP, okW, ed, wk, wk_head r, List.dropLast_cons_cons, ← wk_head r]
    by_cases hp : p ∈ met
    · rw [if_pos (decide_eq_true hp)]
      refine (Bool.and_eq_false_iff.mpr (.inr (decide_eq_false fun z => ?_))).symm
      exact (List.nodup_append.mp z).2.2 p hp p (List.mem_cons_self ..) rfl
    · rw [if_neg (by simpa using hp)]
      by_cases hh : has (tie L k) p = true
      · rw [if_pos hh, hh, leadsP_eq start r _ _ (List.nodup_append.mpr ⟨h, by simp, fun a ha b hb e => by rw [List.mem_singleton.mp hb] at e; exact hp (e ▸ ha)⟩), List.append_assoc, Bool.true_and] <;> rfl
      · rw [if_neg hh, show has (tie L k) p = false by cases q : has (tie L k) p <;> simp_all] <;> rfl
theorem leadsP_rnd (s : Int) (ns : List Nat) : leadsP L s s [] ns = rndB L s ns := by rw [leadsP_eq s ns s [] .nil, List.nil_append] <;> rfl
/-- the law's look: the place and what is met -/
def lawW (L : List (Int × Int)) : Int → List Int → List Nat → Int × List Int
  | p, met, [] => (p, met)
  | p, met, k :: r => if has (tie L k) p = true then lawW L (other (tie L k) p) (met ++ [other (tie L k) p]) r else lawW L p met r
theorem lawW_le : ∀ (ns : List Nat) (p : Int) (met : List Int), (lawW L p met ns).2.length ≤ met.length + ns.length
  | [], _, _ => Nat.le_refl _
  | k :: r, p, met => by
    rw [lawW]
    split
    · have := lawW_le r (other (tie L k) p) (met ++ [other (tie L k) p])
      rw [List.length_append, List.length_singleton] at this
      rw [List.length_cons]
      omega
    · have := lawW_le r p met
      rw [List.length_cons]
      omega
theorem lawW_ok : ∀ (ns : List Nat) (p : Int) (met : List Int), okW L p ns = true → lawW L p met ns = (ed L p ns, met ++ (wk L p ns).tail)
  | [], p, met, _ => by rw [lawW, ed, wk, List.tail_cons, List.append_nil]
  | k :: r, p, met, h => by
    rw [okW, Bool.and_eq_true] at h
    rw [lawW, if_pos h.1, lawW_ok r _ _ h.2, ed, wk, List.tail_cons]
    conv => rhs; rw [wk_head r]
    rw [List.append_assoc] <;> rfl
theorem lawW_no : ∀ (ns : List Nat) (p : Int) (met : List Int), okW L p ns = false → (lawW L p met ns).2.length < met.length + ns.length
  | [], _, _, h => by cases h
  | k :: r, p, met, h => by
    rw [lawW]
    by_cases hh : has (tie L k) p = true
    · rw [okW, hh, Bool.true_and] at h
      rw [if_pos hh]
      have := lawW_no r _ (met ++ [other (tie L k) p]) h
      rw [List.length_append, List.length_singleton] at this
      rw [List.length_cons]
      omega
    · rw [if_neg hh]
      have := lawW_le (L := L) r p met
      rw [List.length_cons]
      omega
theorem law_rnd {ns : List Nat} (s : Int) (h : ns ≠ []) : (decide ((lawW L s [] ns).1 = s) && (decide ((lawW L s [] ns).2.length = ns.length) && decide (lawW L s [] ns).2.Nodup)) = rndB L s ns := by
  cases ok : okW L s ns with
  | false =>
    have := lawW_no ns s [] ok
    simp only [List.length_nil, Nat.zero_add] at this
    unfold rndB
    rw [ok, decide_eq_false (p := (lawW L s [] ns).2.length = ns.length) (by omega)]
    simp
  | true =>
    rw [lawW_ok ns s [] ok, List.nil_append]
    unfold rndB
    rw [ok, Bool.true_and]
    have hl : (wk L s ns).tail.length = ns.length := by rw [List.length_tail, wk_len] <;> rfl
    rw [decide_eq_true hl, Bool.true_and]
    by_cases he : ed L s ns = s
    · rw [decide_eq_true he, Bool.true_and, Bool.true_and]
      refine decide_eq_decide.mpr ?_
      cases ns with
      | nil => exact absurd rfl h
      | cons k r =>
        have w := wk_last (L := L) r (other (tie L k) s)
        rw [show ed L (other (tie L k) s) r = s from he] at w
        have p : (wk L s (k :: r)).tail.Perm (wk L s (k :: r)).dropLast := by
          rw [wk, List.tail_cons]
          conv => rhs; rw [wk_head r, List.dropLast_cons_cons, ← wk_head r]
          conv => lhs; rw [w]
          exact List.perm_append_comm
        exact p.nodup_iff
    · rw [decide_eq_false he] <;> rfl
/-! ### a drawn walk -/
theorem wk_drop : ∀ (j : Nat) (ns : List Nat) (s : Int), j ≤ ns.length → okW L s ns = true → (wk L s ns).drop j = wk L (ed L s (ns.take j)) (ns.drop j) ∧ okW L (ed L s (ns.take j)) (ns.drop j) = true
  | 0, _, _, _, h => ⟨rfl, h⟩
  | j + 1, [], _, h, _ => by simp at h
  | j + 1, k :: r, s, h, ok => by
    rw [okW, Bool.and_eq_true] at ok
    rw [wk, List.drop_succ_cons, List.take_succ_cons, List.drop_succ_cons, ed]
    exact wk_drop j r _ (by simpa using h) ok.2
theorem walked_ring (B : BelT L) {p0 p : Int} {ns : List Nat} {ps : List Int} (ok : okW L p0 ns = true) (w : wk L p0 ns = ps ++ [p]) (nd : ps.Nodup) (nn : ns.Nodup) (lt : ∀ k ∈ ns, k < L.length) {j : Nat} (hj : ps[j]? = some p) : ringB L (ns.drop j) = true := by
  have len : ps.length = ns.length := by
    have := congrArg List.length w
    rw [wk_len, List.length_append, List.length_singleton] at this
    omega
  have jl : j < ps.length := (List.getElem?_eq_some_iff.mp hj).1
  obtain ⟨d1, d2⟩ := wk_drop j ns p0 (by omega) ok
  have d1' := d1
  rw [w, List.drop_append_of_le_length (by omega), List.drop_eq_getElem_cons jl] at d1
  have e : ps[j] = p := by rw [List.getElem?_eq_getElem jl] at hj; exact Option.some.inj hj
  rw [e] at d1
  have es : ed L p0 (ns.take j) = p := by
    rw [wk_head] at d1
    exact (List.cons.inj d1).1.symm
  rw [es] at d1 d2
  have wl := wk_last (L := L) (ns.drop j) p
  have r : Rnd L p (ns.drop j) := by
    have q : ps.drop j ++ [p] = (wk L p (ns.drop j)).dropLast ++ [ed L p (ns.drop j)] := by rw [← wl, ← d1, List.drop_eq_getElem_cons jl, e] 
    have q1 := List.append_inj' q rfl
    refine ⟨d2, (List.cons.inj q1.2).1.symm, ?_⟩
    rw [← q1.1]
    exact (List.drop_sublist j ps).nodup nd
  refine ringB_of r ?_ ((List.drop_sublist j ns).nodup nn)
  rw [List.length_drop]
  by_cases one : ns.length - j = 1
  · have : (ns.drop j).length = 1 := by rw [List.length_drop]; exact one
    obtain ⟨k, hk⟩ := List.length_eq_one_iff.mp this
    rw [hk] at r
    have kl : k < L.length := lt k (List.mem_of_mem_drop (by rw [hk]; exact List.mem_singleton.mpr rfl))
    have b := B k kl
    have o := r.ok
    have e := r.ed
    simp only [okW, Bool.and_true] at o
    simp only [ed] at e
    have := has_iff.mp o
    unfold other at e
    omega
  · omega
theorem wk_snoc {p0 p : Int} {ns : List Nat} {ps : List Int} (ok : okW L p0 ns = true) (w : wk L p0 ns = ps ++ [p]) {k : Nat} (h : has (tie L k) p = true) : okW L p0 (ns ++ [k]) = true ∧ wk L p0 (ns ++ [k]) = (ps ++ [p]) ++ [other (tie L k) p] := by
  have wl := wk_last (L := L) ns p0
  rw [w] at wl
  have q := List.append_inj' wl rfl
  have e : ed L p0 ns = p := (List.cons.inj q.2).1.symm
  refine ⟨by rw [ok_app, ok, e, okW, h] <;> rfl, ?_⟩
  rw [wk_app, e, show (wk L p0 ns).dropLast = ps by rw [w, List.dropLast_concat], List.append_assoc] <;> rfl
end
end K0

set_option Elab.async false
set_option linter.all false
set_option maxRecDepth 100000
set_option maxHeartbeats 8000000
/-! Plain webs, rests. -/
namespace K0
open PySem PySem.Spec L2
open PyProof.Rows hiding St
/-! ### members of a row of ints -/
theorem inV_ints (k : Int) (ns : List Int) : inV (.int k) (ns.map V.int) = decide (k ∈ ns) := by
  unfold inV
  rw [List.any_map]
  induction ns with
  | nil => rfl
  | cons n ns ih =>
    rw [List.any_cons, ih]
    show ((n == k) || decide (k ∈ ns)) = decide (k ∈ n :: ns)
    by_cases h : n = k
    · subst h
      simp
    · have h' : ¬ k = n := fun z => h z.symm
      simp [h, h', List.mem_cons]
theorem flat_ints (ns : List Int) : (ns.map V.int).all flatV = true := List.all_eq_true.mpr fun v hv => by
  obtain ⟨i, _, rfl⟩ := List.mem_map.mp hv
  rfl
/-- the places that are not in ns -/
def iota (n : Nat) : List Int := (List.range n).map fun i => ((i : Nat) : Int)
def restN (n : Nat) (ns : List Int) : List Int := (iota n).filter fun i => !decide (i ∈ ns)
theorem iota_succ (n : Nat) : iota (n + 1) = iota n ++ [(n : Int)] := by
  unfold iota
  rw [List.range_succ, List.map_append] <;> rfl
theorem rest_succ (n : Nat) (ns : List Int) : restN (n + 1) ns = if (!decide ((n : Int) ∈ ns)) = true then restN n ns ++ [(n : Int)] else restN n ns := by
  unfold restN
  rw [iota_succ, List.filter_append]
  by_cases h : (n : Int) ∈ ns
  · simp [h]
  · simp [h]
theorem iota_mem {n : Nat} {i : Int} : i ∈ iota n ↔ 0 ≤ i ∧ i < n := by
  unfold iota
  rw [List.mem_map]
  constructor
  · rintro ⟨k, hk, rfl⟩
    have := List.mem_range.mp hk
    omega
  · intro h
    exact ⟨i.toNat, List.mem_range.mpr (by omega), by omega⟩
theorem iota_inc (n : Nat) : (iota n).Pairwise (· < ·) := by
  unfold iota
  exact List.pairwise_map.mpr (List.pairwise_lt_range.imp fun {a b} z => by omega)
theorem rest_mem {n : Nat} {ns : List Int} {i : Int} : i ∈ restN n ns ↔ (0 ≤ i ∧ i < n) ∧ i ∉ ns := by
  unfold restN
  rw [List.mem_filter, iota_mem]
  simp
theorem rest_lot (n : Nat) (ns : List Int) : IsLot n (restN n ns) := ⟨fun i hi => (rest_mem.mp hi).1, (iota_inc n).filter _⟩
theorem rest_len (n : Nat) (ns : List Int) : (restN n ns).length ≤ n := by
  unfold restN iota
  refine Nat.le_trans (List.length_filter_le _ _) ?_
  rw [List.length_map, List.length_range]
  exact Nat.le_refl _
theorem inc_nd {ns : List Int} (h : ns.Pairwise (· < ·)) : ns.Nodup := h.imp fun {a b} z e => by omega
theorem nd_len : ∀ {α : Type} [DecidableEq α] {M L : List α}, M.Nodup → (∀ q ∈ M, q ∈ L) → M.length ≤ L.length
  | _, _, [], L, _, _ => Nat.zero_le _
  | _, _, q :: M, L, h, s => by
    obtain ⟨h1, h2⟩ := List.pairwise_cons.mp h
    have hq := s q (List.mem_cons_self ..)
    have := nd_len (M := M) (L := L.erase q) h2 fun r hr => (List.mem_erase_of_ne (fun e => h1 r hr e.symm)).mpr (s r (List.mem_cons_of_mem _ hr))
    rw [List.length_erase_of_mem hq] at this
    have pos := List.length_pos_of_mem hq
    rw [List.length_cons]
    omega
theorem lot_len {n : Nat} {ns : List Int} (h : IsLot n ns) : ns.length ≤ n := by
  have := nd_len (L := iota n) (inc_nd h.inc) fun i hi => iota_mem.mpr (h.bel i hi)
  rwa [iota, List.length_map, List.length_range] at this
/-! ### a web without doubled ties -/
structure IsPl (L M : List (Int × Int)) : Prop where
  nd : M.Nodup
  srt : Srt M
  mem : ∀ q, q ∈ M ↔ q ∈ L
theorem pl_uniq {n : Int} {L M M' : List (Int × Int)} (hn : n ≤ 12) (hB : Bel n L) (a : IsPl L M) (b : IsPl L M') : M = M' :=
  srt_uniq hn ((List.perm_ext_iff_of_nodup a.nd b.nd).mpr fun q => (a.mem q).trans (b.mem q).symm) (hB.sub fun q z => (a.mem q).mp z) a.srt b.srt
theorem pl_self {L M : List (Int × Int)} (a : IsPl L M) : IsPl M M := ⟨a.nd, a.srt, fun _ => Iff.rfl⟩
theorem pl_two {L M M' : List (Int × Int)} (a : IsPl L M) (b : IsPl M M') : IsPl L M' := ⟨b.nd, b.srt, fun q => (b.mem q).trans (a.mem q)⟩
theorem GW.pl {H : Hp} {w w' : Addr} {n : Nat} {L M : List (Int × Int)} (g : GW H w n L) (W : Web H w' n M) (p : IsPl L M) : GW H w' n M :=
  ⟨W, g.n1, g.n2, g.bel.sub fun q z => (p.mem q).mp z, p.srt, Nat.le_trans (nd_len p.nd fun q z => (p.mem q).mp z) g.few⟩
theorem Prs.ks {H : Hp} {vs : List V} {L : List (Int × Int)} (p : Prs H vs L) : ∃ ks : List (Addr × List Int), vs = ks.map (fun e => V.ref e.1) ∧ (∀ e ∈ ks, ∃ q ∈ L, e.2 = [q.1, q.2] ∧ H e.1 = some (.tup [.int q.1, .int q.2])) ∧ (∀ q ∈ L, ∃ e ∈ ks, e.2 = [q.1, q.2]) ∧ ks.length = L.length := by
  induction p with
  | nil => exact ⟨[], rfl, (fun _ z => nomatch z), (fun _ z => nomatch z), rfl⟩
  | @cons a r vs L h t ih =>
    obtain ⟨ks, e1, e2, e3, e4⟩ := ih
    refine ⟨(a, [r.1, r.2]) :: ks, by rw [e1] <;> rfl, fun e he => ?_, fun q hq => ?_, by rw [List.length_cons, List.length_cons, e4]⟩
    · rcases List.mem_cons.mp he with rfl | he
      · exact ⟨r, List.mem_cons_self .., rfl, h⟩
      · obtain ⟨q, q1, q2⟩ := e2 e he
        exact ⟨q, List.mem_cons_of_mem _ q1, q2⟩
    · rcases List.mem_cons.mp hq with rfl | hq
      · exact ⟨_, List.mem_cons_self .., rfl⟩
      · obtain ⟨e, e1, e2⟩ := e3 q hq
        exact ⟨e, List.mem_cons_of_mem _ e1, e2⟩
theorem ks_prs {H : Hp} {L : List (Int × Int)} : ∀ {ks : List (Addr × List Int)}, (∀ e ∈ ks, ∃ q ∈ L, e.2 = [q.1, q.2] ∧ H e.1 = some (.tup [.int q.1, .int q.2])) → ∃ M : List (Int × Int), Prs H (ks.map fun e => V.ref e.1) M ∧ ks.map (·.2) = M.map fun q => [q.1, q.2]
  | [], _ => ⟨[], .nil, rfl⟩
  | e :: ks, h => by
    obtain ⟨q, _, h1, h2⟩ := h e (List.mem_cons_self ..)
    obtain ⟨M, m1, m2⟩ := ks_prs (ks := ks) fun e z => h e (List.mem_cons_of_mem _ z)
    exact ⟨q :: M, .cons h2 m1, by rw [List.map_cons, List.map_cons, h1, m2]⟩
theorem pr_inj : ∀ {a b : Int × Int}, ([a.1, a.2] : List Int) = [b.1, b.2] → a = b := fun {a b} h => by
  obtain ⟨a1, a2⟩ := a
  obtain ⟨b1, b2⟩ := b
  simp only [List.cons.injEq, and_true] at h
  rw [h.1, h.2]
def spPlainOf : Sp := fun vs H Q _ => ∃ (w : Addr) (n : Nat) (L : List (Int × Int)), vs = [.ref w] ∧ GW H w n L ∧ ∀ (w' : Addr) (M : List (Int × Int)) (H' : Hp), Same H H' → H w' = none → Web H' w' n M → IsPl L M → Q (.ref w') H'
def spPlacesBut : Sp := fun vs H Q _ => ∃ (w a : Addr) (n : Nat) (L : List (Int × Int)) (ns : List Int), vs = [.ref w, .ref a] ∧ GW H w n L ∧ TT H a (ns.map V.int) ∧ ∀ (t : Addr) (H' : Hp), Same H H' → H t = none → H' t = some (.tup ((restN n ns).map V.int)) → Q (.ref t) H'
def spIsLot : Sp := fun vs H Q _ => ∃ (w : Addr) (n : Nat) (L : List (Int × Int)) (v : V) (o : Option (List V)), vs = [.ref w, v] ∧ GW H w n L ∧ Th H v o ∧ ∀ H', Same H H' → Q (.bl (lotO n o)) H'
/-- a def of a web and a lot, that refuses what is none -/
def spLot (C : Addr) (G : Hp → Addr → Nat → List (Int × Int) → List Int → VK → Prop) : Sp := fun vs H Q E => ∃ (w : Addr) (n : Nat) (L : List (Int × Int)) (v : V) (o : Option (List V)), vs = [.ref w, v] ∧ GW H w n L ∧ Th H v o ∧
  (∀ (a : Addr) (ns : List Int), v = .ref a → o = some (ns.map V.int) → IsLot n ns → TT H a (ns.map V.int) → G H a n L ns Q) ∧ (lotO n o = false → Rz C "thing" v H E)
def gRest : Hp → Addr → Nat → List (Int × Int) → List Int → VK → Prop := fun H _ n _ ns Q => ∀ (t : Addr) (H' : Hp), Same H H' → H t = none → H' t = some (.tup ((restN n ns).map V.int)) → Q (.ref t) H'
/-- it is a lot, or refused -/
theorem th_cases {H : Hp} {v : V} {o : Option (List V)} {n : Int} (h : Th H v o) : (lotO n o = true ∧ ∃ a ns, v = .ref a ∧ o = some (ns.map V.int) ∧ IsLot n ns ∧ TT H a (ns.map V.int)) ∨ lotO n o = false := by
  cases h with
  | oth _ _ => exact .inr rfl
  | @tup a xs e _ _ =>
    cases z : lotD n xs with
    | false => exact .inr z
    | true =>
      obtain ⟨e1, e2⟩ := lot_of z
      exact .inl ⟨z, a, _, rfl, congrArg some e1, e2, e1 ▸ e⟩
section
variable {P : Program} {w0 : World} {K : PySem.W.Frag} {mg : Str → Option Value} {base : Heap}
abbrev nPlacesBut : List Str := ["web", "lot", "place"]
end
end K0

set_option Elab.async false
set_option linter.all false
set_option maxRecDepth 100000
set_option maxHeartbeats 8000000
/-! Cuts, the web within a lot and without it, ends. -/
namespace K0
open PySem PySem.Spec L2
open PyProof.Rows hiding St
/-! ### cuts -/
def crs (L : List (Int × Int)) (ns : List Int) (i : Nat) : Bool := match L[i]? with
  | some q => decide (q.1 ∈ ns) != decide (q.2 ∈ ns)
  | none => false
def cutG (L : List (Int × Int)) (ns : List Int) (i : Nat) : List Int := ((List.range i).filter (crs L ns)).map fun i => ((i : Nat) : Int)
abbrev cutN (L : List (Int × Int)) (ns : List Int) : List Int := cutG L ns L.length
theorem cut_succ (L : List (Int × Int)) (ns : List Int) (i : Nat) : cutG L ns (i + 1) = if crs L ns i = true then cutG L ns i ++ [(i : Int)] else cutG L ns i := by
  unfold cutG
  rw [List.range_succ, List.filter_append]
  cases h : crs L ns i <;> simp [h]
theorem crs_at {L : List (Int × Int)} {ns : List Int} {i : Nat} {q : Int × Int} (h : L[i]? = some q) : crs L ns i = (decide (q.1 ∈ ns) != decide (q.2 ∈ ns)) := by
  unfold crs
  rw [h]
theorem cut_len (L : List (Int × Int)) (ns : List Int) (i : Nat) : (cutG L ns i).length ≤ i := by
  unfold cutG
  rw [List.length_map]
  refine Nat.le_trans (List.length_filter_le _ _) ?_
  rw [List.length_range]
  exact Nat.le_refl _
theorem ne_bl (a b : Bool) : (!decide (V.bl a = V.bl b)) = (a != b) := by cases a <;> cases b <;> decide
/-! ### the web within a lot -/
def idx (ns : List Int) (k : Int) : Int := ((ns.idxOf k : Nat) : Int)
def both (ns : List Int) (q : Int × Int) : Bool := decide (q.1 ∈ ns) && decide (q.2 ∈ ns)
def withinL (L : List (Int × Int)) (ns : List Int) : List (Int × Int) := (L.filter (both ns)).map fun q => (idx ns q.1, idx ns q.2)
theorem within_snoc (L : List (Int × Int)) (ns : List Int) (q : Int × Int) : withinL (L ++ [q]) ns = if both ns q = true then withinL L ns ++ [(idx ns q.1, idx ns q.2)] else withinL L ns := by
  unfold withinL
  rw [List.filter_append]
  cases h : both ns q <;> simp [h]
theorem within_len (L : List (Int × Int)) (ns : List Int) : (withinL L ns).length ≤ L.length := by
  unfold withinL
  rw [List.length_map]
  exact List.length_filter_le _ _
theorem take_snoc {α : Type} {L : List α} {i : Nat} {q : α} (h : L[i]? = some q) : L.take (i + 1) = L.take i ++ [q] := by rw [List.take_add_one, h] <;> rfl
theorem rest_len_eq {n : Nat} {ns : List Int} (h : IsLot n ns) : (restN n ns).length + ns.length = n := by
  have p : (restN n ns ++ ns).Perm (iota n) := by
    refine (List.perm_ext_iff_of_nodup ?_ (inc_nd (iota_inc n))).mpr fun i => ?_
    · refine List.nodup_append.mpr ⟨inc_nd (rest_lot n ns).inc, inc_nd h.inc, fun a ha b hb e => ?_⟩
      subst e
      exact (rest_mem.mp ha).2 hb
    · rw [List.mem_append, rest_mem, iota_mem]
      constructor
      · rintro (z | z)
        · exact z.1
        · exact h.bel i z
      · intro z
        by_cases m : i ∈ ns
        · exact .inr m
        · exact .inl ⟨z, m⟩
  have := p.length_eq
  rw [List.length_append, iota, List.length_map, List.length_range] at this
  exact this
/-- the dict of the places -/
def kvA : List Int → Int → List (Key × V)
  | [], _ => []
  | k :: r, s => (Sum.inl k, .int s) :: kvA r (s + 1)
theorem kv_len : ∀ (ns : List Int) (s : Int), (kvA ns s).length = ns.length
  | [], _ => rfl
  | k :: r, s => by rw [kvA, List.length_cons, List.length_cons, kv_len]
theorem kv_val (k : Int) : ∀ (ns : List Int) (s : Int), valV (kvA ns s) (Sum.inl k) = if k ∈ ns then some (.int (s + idx ns k)) else none
  | [], _ => rfl
  | j :: r, s => by
    by_cases h : j = k
    · subst h
      rw [if_pos (List.mem_cons_self ..)]
      show valV ((Sum.inl j, .int s) :: kvA r (s + 1)) (Sum.inl j) = _
      rw [valV_pos rfl]
      unfold idx
      rw [List.idxOf_cons_self]
      simp
    · show valV ((Sum.inl j, .int s) :: kvA r (s + 1)) (Sum.inl k) = _
      rw [valV_neg (fun z => h (Sum.inl.inj z)), kv_val k r (s + 1)]
      have h' : ¬ k = j := fun z => h z.symm
      have hb : (j == k) = false := by simpa using h
      by_cases g : k ∈ r
      · rw [if_pos g, if_pos (List.mem_cons_of_mem _ g)]
        unfold idx
        rw [List.idxOf_cons, hb]
        simp only [cond_false]
        congr 2
        omega
      · rw [if_neg g, if_neg (by rw [List.mem_cons]; exact fun z => z.elim h' g)]
theorem kv_put (k : Int) (ns : List Int) (h : k ∉ ns) : putK (kvA ns 0) (Sum.inl k) (.int (ns.length : Nat)) = kvA (ns ++ [k]) 0 := by
  rw [putK_new _ (by rw [kv_val, if_neg h])]
  have e : ∀ (ms : List Int) (s : Int), kvA ms s ++ [(Sum.inl k, V.int (s + (ms.length : Nat)))] = kvA (ms ++ [k]) s := fun ms => by
    induction ms with
    | nil => intro s; simp [kvA]
    | cons m ms ih =>
      intro s
      rw [List.cons_append, kvA, kvA, List.cons_append, ← ih (s + 1), show (s + (((m :: ms).length : Nat) : Int)) = (s + 1) + (ms.length : Nat) by rw [List.length_cons]; omega]
  have := e ns 0
  rw [Int.zero_add] at this
  exact this
theorem dc_it {J : It} {n : Nat} {G : Hp → Prop} {Y : Nat → Hp → V → Hp → Prop} (w : Walk J n G Y) {g : TG} {tt : L2.TT} {tk tv : TE} {vs : List Nat} {σ : St} {H1 : Hp} {D : Addr} {Qd : Hp → Prop} (Pv : Nat → Hp → Prop) (h0 : Pv 0 (upd H1 D (.dK []))) (hG : ∀ i H, i ≤ n → Pv i H → G H)
    (hs : ∀ i x H H', i < n → Pv i H → Y i H x H' → g x (wipe σ vs) H' fun σ2 H2 => wipe σ2 vs = wipe σ vs ∧ tt σ2 H2 fun b H3 =>
      if b = true then tk σ2 H3 fun y H4 => tv σ2 H4 fun z H5 => ∃ kvs k, y = kV k ∧ H5 D = some (.dK kvs) ∧ kvs.length < sizeLine ∧ Pv (i + 1) (upd H5 D (.dK (putK kvs k z))) else Pv (i + 1) H3) (hd : ∀ H, Pv n H → Qd H) :
    ∃ W : Nat → Nat → Hp → Prop, (∃ m, W 0 m (upd H1 D (.dK []))) ∧ ∀ i m H, W i m H →
      (J.stop i H ∧ Qd H) ∨ (J.go i H ∧ ∃ Nx : Hp → Prop, (∀ H', Nx H' → ∃ m', m' < m ∧ W (i + 1) m' H') ∧ ∀ x H', J.yld i H x H' → g x (wipe σ vs) H' fun σ2 H2 => wipe σ2 vs = wipe σ vs ∧ tt σ2 H2 fun b H3 =>
        if b = true then tk σ2 H3 fun y H4 => tv σ2 H4 fun z H5 => ∃ kvs k, y = kV k ∧ H5 D = some (.dK kvs) ∧ kvs.length < sizeLine ∧ Nx (upd H5 D (.dK (putK kvs k z))) else Nx H3) := by
  refine ⟨fun i m H => m = n - i ∧ i ≤ n ∧ Pv i H, ⟨n, by simp, Nat.zero_le _, h0⟩, ?_⟩
  rintro i m H ⟨rfl, hi, p⟩
  have q := hG i H hi p
  by_cases lt : i < n
  · exact .inr ⟨w.goes i H lt q, Pv (i + 1), fun H' p' => ⟨n - (i + 1), by omega, rfl, lt, p'⟩, fun x H' y => hs i x H H' lt p (w.yields i H x H' lt q y)⟩
  · have e : i = n := by omega
    subst e
    exact .inl ⟨w.stops H q, hd H p⟩
/-- a def of a web and a lot, that refuses what is none, and may refuse a lot too -/
def spLotX (C : Addr) (G : Hp → Addr → Nat → List (Int × Int) → List Int → VK → XK → Prop) : Sp := fun vs H Q E => ∃ (w : Addr) (n : Nat) (L : List (Int × Int)) (v : V) (o : Option (List V)), vs = [.ref w, v] ∧ GW H w n L ∧ Th H v o ∧
  (∀ (a : Addr) (ns : List Int), v = .ref a → o = some (ns.map V.int) → IsLot n ns → TT H a (ns.map V.int) → G H a n L ns Q E) ∧ (lotO n o = false → Rz C "thing" v H E)
def gCut : Hp → Addr → Nat → List (Int × Int) → List Int → VK → Prop := fun H _ _ L ns Q => ∀ (t : Addr) (H' : Hp), Same H H' → H t = none → H' t = some (.tup ((cutN L ns).map V.int)) → Q (.ref t) H'
def spCutTies : Sp := fun vs H Q _ => ∃ (w a : Addr) (n : Nat) (L : List (Int × Int)) (ns : List Int), vs = [.ref w, .ref a] ∧ GW H w n L ∧ TT H a (ns.map V.int) ∧ gCut H a n L ns Q
def gIn (H : Hp) (L : List (Int × Int)) (ns : List Int) (Q : VK) : Prop := ∀ (w' : Addr) (H' : Hp), Same H H' → H w' = none → Web H' w' ns.length (withinL L ns) → Q (.ref w') H'
def gWithin (C : Addr) : Hp → Addr → Nat → List (Int × Int) → List Int → VK → XK → Prop := fun H a _ L ns Q E => (ns ≠ [] → gIn H L ns Q) ∧ (ns = [] → Rz C "thing" (.ref a) H E)
def gWithout (C : Addr) : Hp → Addr → Nat → List (Int × Int) → List Int → VK → XK → Prop := fun H a n L ns Q E => (restN n ns ≠ [] → gIn H L (restN n ns) Q) ∧ (restN n ns = [] → Rz C "thing" (.ref a) H E)
def spWebOf : Sp := fun vs H Q _ => ∃ (w a : Addr) (n : Nat) (L : List (Int × Int)) (ns : List Int), vs = [.ref w, .ref a] ∧ GW H w n L ∧ TT H a (ns.map V.int) ∧ IsLot n ns ∧ gIn H L ns Q
def spEnds (C : Addr) : Sp := fun vs H Q E => ∃ (w : Addr) (n : Nat) (L : List (Int × Int)) (v : V) (t : String), vs = [.ref w, v] ∧ GW H w n L ∧ VT H v t ∧
  (∀ (i : Nat) (q : Int × Int), v = .int i → L[i]? = some q → ∀ (a : Addr) (H' : Hp), Same H H' → H' a = some (.tup [.int q.1, .int q.2]) → Q (.ref a) H') ∧ (belowV v L.length = false → Rz C "number" v H E)
section
variable {P : Program} {w0 : World} {K : PySem.W.Frag} {mg : Str → Option Value} {base : Heap}
abbrev nCutTies : List Str := ["web", "lot", "number", "a", "b"]
end
end K0

set_option Elab.async false
set_option linter.all false
set_option maxRecDepth 100000
set_option maxHeartbeats 4000000
/-! Rules: how many unlike ints, a tuple of ints sorted. -/
namespace KR
open PySem PySem.Spec L2
open PyProof.Rows hiding St
/-- rows with the same members -/
theorem nd_perm : ∀ {ks ns : List Int}, ks.Nodup → (∀ k ∈ ks, k ∈ ns) → ns.length ≤ ks.length → ks.Perm ns
  | [], ns, _, _, h => by
    have : ns = [] := List.length_eq_zero_iff.mp (Nat.le_zero.mp h)
    rw [this]
  | q :: M, ns, nd, s, h => by
    obtain ⟨n1, n2⟩ := List.nodup_cons.mp nd
    have hq := s q (List.mem_cons_self ..)
    have pe := List.perm_cons_erase hq
    have pos := List.length_pos_of_mem hq
    refine (List.Perm.cons q (nd_perm n2 (fun r hr => ?_) ?_)).trans pe.symm
    · exact (List.mem_erase_of_ne (fun e : r = q => n1 (e ▸ hr))).mpr (s r (List.mem_cons_of_mem _ hr))
    · rw [List.length_erase_of_mem hq]
      rw [List.length_cons] at h
      omega
theorem nd_le : ∀ {ks ns : List Int}, ks.Nodup → (∀ k ∈ ks, k ∈ ns) → ks.length ≤ ns.length
  | [], _, _, _ => Nat.zero_le _
  | q :: M, ns, nd, s => by
    obtain ⟨n1, n2⟩ := List.nodup_cons.mp nd
    have hq := s q (List.mem_cons_self ..)
    have pos := List.length_pos_of_mem hq
    have := nd_le (ks := M) (ns := ns.erase q) n2 fun r hr => (List.mem_erase_of_ne (fun e : r = q => n1 (e ▸ hr))).mpr (s r (List.mem_cons_of_mem _ hr))
    rw [List.length_erase_of_mem hq] at this
    rw [List.length_cons]
    omega
/-- how many there are tells whether there are equal ones -/
theorem nd_count {ks ns : List Int} (nd : ks.Nodup) (h : ∀ k, k ∈ ks ↔ k ∈ ns) : ks.length ≤ ns.length ∧ (ks.length = ns.length ↔ ns.Nodup) := by
  refine ⟨nd_le nd fun k z => (h k).mp z, fun e => ?_, fun z => ?_⟩
  · exact (nd_perm nd (fun k z => (h k).mp z) (by omega)).nodup_iff.mp nd
  · have a := nd_le nd fun k z => (h k).mp z
    have b := nd_le z fun k z => (h k).mpr z
    omega
theorem met_nd (val : Nat → Int) : ∀ i, (firstMet val i).Nodup ∧ ∀ k, k ∈ firstMet val i ↔ k ∈ (List.range i).map val
  | 0 => ⟨by rw [firstMet_zero]; exact .nil, fun k => by rw [firstMet_zero] <;> simp⟩
  | i + 1 => by
    obtain ⟨a, b⟩ := met_nd val i
    rw [firstMet_succ, List.range_succ, List.map_append]
    unfold step_dedup
    by_cases c : (firstMet val i).any (· == val i) = true
    · rw [if_pos c]
      have m : val i ∈ firstMet val i := by
        obtain ⟨x, hx, e⟩ := List.any_eq_true.mp c
        rw [beq_iff_eq] at e
        exact e ▸ hx
      refine ⟨a, fun k => ?_⟩
      rw [b k, List.mem_append]
      exact ⟨.inl, fun z => z.elim id fun z => by rw [List.mem_map] at z; obtain ⟨j, hj, e⟩ := z; rw [List.mem_singleton] at hj; subst hj; rw [← e]; exact (b _).mp m⟩
    · rw [if_neg c]
      refine ⟨List.nodup_append.mpr ⟨a, by simp, fun x hx y hy e => ?_⟩, fun k => ?_⟩
      · rw [List.mem_singleton.mp hy] at e
        subst e
        exact c (List.any_eq_true.mpr ⟨_, hx, beq_self_eq_true _⟩)
      · rw [List.mem_append, List.mem_append, b k]
        simp
section
variable {prog : Program} {w : World} {A : Around} {E : Value → Shared → Prop} {s : Shared} {l : Addr} {its : List Value} {ns : List Int} {Q : Value → Shared → Prop}
/-- sum(t), t a tuple of ints -/
theorem sum_rawT (hh : A.handled = none) (hl : s.heap.IsTuple l its.toArray) (hi : IntsAre its ns)
    (h : ∀ h' tk t', (∀ b o, s.heap.get? b = some o → h'.get? b = some o) → Q (.int ns.sum t') { s with heap := h', toks := tk }) : wpAny (model prog w) A (call (.builtin "sum") [.ref l]) Q E s := by
  obtain ⟨xs, e⟩ := hi.allInts.items
  have hn : numsOf (intItems xs).toList = ns := by rw [← e]; exact hi.numsOf
  rw [nums_intItems] at hn
  rw [e] at hl
  have hlt : l < s.heap.objs.size := by obtain ⟨_, e, _⟩ := hl; exact Heap.lt_size e
  refine call_sum_walkG (wpAny_pyIter_tuple hl ?_)
  refine ⟨_, [_, l], [_], _, _, _, numAt xs, rfl, Walks.tuple (A := A.in1) hh _ l (Nat.ne_of_lt hlt) (intItems xs), ⟨⟨_, Heap.get?_push_size _ rfl, rfl, rfl⟩, hl.push _⟩, fun c hc => ?_, (fun _ _ => intItems_at), fun h' tk t' hk => ?_⟩
  · show c < (s.heap.push _).objs.size
    rw [Heap.size_push]
    rcases List.mem_cons.mp hc with rfl | hc
    · exact Nat.lt_succ_self _
    · rcases List.mem_cons.mp hc with rfl | hc
      · exact Nat.lt_succ_of_lt hlt
      · cases hc
  · have hold : ∀ c o, s.heap.get? c = some o → h'.get? c = some o := fun c o e => by
      refine hk c o (fun hm => ?_) (Heap.get?_push_of_some _ e)
      rcases List.mem_cons.mp hm with e1 | hm
      · have := Heap.lt_size e
        rw [e1] at this
        exact Nat.lt_irrefl _ this
      · cases hm
    have := h h' tk t' hold
    have sz : (intItems xs).size = xs.size := by simp [intItems]
    rw [sz, preSum_eq, List.take_of_length_le (by simp), hn]
    exact this
end
section
variable {X : Cx}
def rSumT (K : PySem.W.Frag) : List V → Hp → VK → Prop := fun vs H Q => ∃ (a : Addr) (ns : List Int), vs = [V.ref a] ∧ SqT K H a (ns.map V.int) ∧ Q (.int ns.sum) H
theorem cr_sumT (hc : X.calm = true) : CallR X (.builtin "sum") (rSumT X.K) := by
  intro pins s σ H vs us Q I r h
  obtain ⟨a, ns, rfl, hs, q⟩ := h
  obtain ⟨its, rv, hl, _⟩ := I.tuple hs
  rw [Vals.ref1 r]
  exact sum_rawT (I.ok.hd hc) hl rv.ints fun h' tk t' hk => ⟨.int _, H, I.kept hk, ⟨_, rfl⟩, q⟩
/-- len of a set of ints -/
def rLenO (w : World) : List V → Hp → VK → Prop := fun xs H Q => ∃ (a : Addr) (S : Int → Bool) (n : Nat), xs = [V.ref a] ∧ H a = some (SetO w a S n) ∧ ∀ ks : List Int, ks.Nodup → (∀ k, S k = true ↔ k ∈ ks) → ks.length = n → Q (.int (n : Nat)) H
theorem call_len_setO : CallR X (.builtin "len") (rLenO X.w) := by
  intro pins s σ H xs us Q I r h
  obtain ⟨a, S, n, rfl, ha, q⟩ := h
  obtain ⟨o, es, ep, t, ho, hex, hd, g, nd, hm, hb, hf, hn, _⟩ := setO_get I ha
  rw [Vals.ref1 r]
  refine call_len_set ho hex hd hf (by unfold scanBound at hb; omega) ⟨.int es.size, H, I.tok _, ⟨_, rfl⟩, ?_⟩
  rw [hn]
  refine q (es.toList.map keyOf) nd hm ?_
  rw [List.length_map, Array.length_toList, hn]
/-- len(set(xs)), xs a list of ints -/
def tLenSetN (K : PySem.W.Frag) (ta : TE) : TE := fun σ H Q => ta σ H fun x H1 => ∃ (l : Addr) (ns : List Int), x = .ref l ∧ SqL K H1 l (ns.map V.int) ∧ ns.length ≤ 4000 ∧ ∀ c : Nat, c ≤ ns.length → (c = ns.length ↔ ns.Nodup) → Q (.int (c : Nat)) H1
theorem pe_lenSetN {a : Expr} {ta : TE} {p p2 q pos : Pos} (hg : Gl X "len") (hm : X.mg "len" = none) (hg2 : Gl X "set") (hm2 : X.mg "set" = none) (ha : PE X a ta) (hc : X.calm = true := by rfl)
    (na : starEach [a] X.env = (false, eval a X.env) :: starEach [] X.env := by rfl) : PE X (.Call (.Name "len" p) [.Call (.Name "set" p2) [a] [] q] [] pos) (tLenSetN X.K ta) := by
  refine ⟨fun pins s σ H Q I h => ?_⟩
  refine Call_ (ld_blt I hg hm boot_len ?_)
  refine PyProof.Rows.callWith_builtin1 (PyProof.Rows.args_cons ?_ rfl) rfl rfl
  refine Call_ (ld_blt I hg2 hm2 boot_set ?_)
  refine PyProof.Rows.callWith_type1 (PyProof.Rows.args_cons (thn (ha.run pins s σ H _ I h) fun v s1 ⟨x, H1, I1, r1, q1⟩ => PyProof.Rows.args_nil ?_) na) na rfl
  obtain ⟨l, ns, rfl, hq, hl, q1⟩ := q1
  cases r1
  obtain ⟨its, r, pl, hz⟩ := I1.list hq
  have hlen : its.toArray.size = ns.length := by rw [List.size_toArray, ← r.length, List.length_map]
  refine call_set_list (I1.ok.hd hc) pl.isList (by simpa using r.ints) (by rw [hlen]; unfold scanBound; omega) fun h' tk hS hk => ?_
  refine PyProof.Rows.args_nil ?_
  rw [hlen] at hS
  obtain ⟨o, es, ep, t, ho, hex, hd, _, _, _, hf, hn⟩ := hS
  have I2 : Inv X pins σ H1 { s1 with heap := h', toks := tk } := I1.kept fun b o e => hk b o (Heap.lt_size e) e
  obtain ⟨m1, m2⟩ := met_nd (fun i => ns.getD i 0) ns.length
  have e0 : (List.range ns.length).map (fun i => ns.getD i 0) = ns := by
    refine List.ext_getElem (by simp) fun i h1 h2 => ?_
    simp [List.getD_eq_getElem?_getD, h2]
  rw [e0] at m2
  obtain ⟨c1, c2⟩ := nd_count m1 m2
  refine call_len_set ho hex hd hf (by rw [hn]; omega) ⟨.int es.size, H1, I2.tok _, ⟨_, rfl⟩, ?_⟩
  rw [hn]
  exact q1 _ c1 c2
/-- sorted(t), t a tuple of ints -/
def rSortTI (K : PySem.W.Frag) : List V → Hp → VK → Prop := fun vs H Q => ∃ (a : Addr) (ns : List Int), vs = [V.ref a] ∧ SqT K H a (ns.map V.int) ∧ ∀ (ms : List Int) (p : Addr), ms.Perm ns → ms.Pairwise (· ≤ ·) → H p = none → Q (.ref p) (upd H p (.lst (ms.map V.int)))
theorem cr_sortTI : CallR X (.builtin "sorted") (rSortTI X.K) := by
  intro pins s σ H vs us Q I r h
  obtain ⟨a, ns, rfl, hs, q⟩ := h
  obtain ⟨its, rv, tp, hz⟩ := I.tuple hs
  rw [Vals.ref1 r]
  have hi := rv.ints
  have len : its.length = ns.length := by rw [← rv.length, List.length_map]
  rw [List.length_map] at hz
  obtain ⟨o, ho, hcl, n, hda⟩ := id tp
  refine Calls.call_function_entry kind_sorted plain_sorted entry_sorted (args_sorted1 _) ?_
  unfold Builtin.«sorted»
  refine wpAny_bind (m := checkCount "sorted" 1 1 _) (wpAny_pure ?_)
  refine wpAny_bind (gather_tup ho hcl hda (by show its.toArray.size ≤ sizeLine; rw [List.size_toArray, len]; exact hz) fun h1 k1 ge => ?_)
  refine wpAny_bind (wpAny_newList ?_ (by show its.length ≤ _; rw [len]; exact hz))
  have atL : (h1.push (seqObj "list" its.toArray 0)).get? h1.objs.size = some (seqObj "list" its.toArray 0) := Heap.get?_push_size _ rfl
  have keep : ∀ b u, s.heap.get? b = some u → (h1.push (seqObj "list" its.toArray 0)).get? b = some u := fun b u e => Heap.get?_push_of_some _ (k1 b u e)
  have atL' : (h1.push (seqObj "list" (its.toArray.toList.toArray) 0)).get? h1.objs.size = some (seqObj "list" its.toArray 0) := by simpa using atL
  have red : its.toArray.toList = its := by simp
  rw [red]
  refine wpAny_bind (wpAny_holding (wpAny_call_entry (s := { s with heap := h1.push (seqObj "list" its.toArray 0) }) PyProof.Rows.slot_list_sort ⟨_, atL, rfl⟩ PyProof.Rows.entry_list_sort
    (SrtO.list_sort_ord SrtO.swo_int atL (by rw [len]; exact hz) (fun h2 => SrtO.ints_sortable hi h2) fun out g1 g2 => ⟨.none, rfl, ?_⟩) (PyProof.Rows.args_list_sort _)))
  obtain ⟨j1, j2, j3⟩ := SrtO.ints_out hi g1 g2
  obtain ⟨c, hc⟩ := sortedHeap_at (vs := its) (out := out.toArray) atL
  have szs : ((out.map SrtO.iv).map V.int).length ≤ sizeLine := by rw [List.length_map, j2.length_eq]; exact hz
  have old : ∀ b u, s.heap.get? b = some u → (sortedHeap (h1.push (seqObj "list" its.toArray 0)) h1.objs.size its out.toArray).get? b = some u := fun b u e => by
    have lt := Heap.lt_size (k1 b u e)
    rw [sortedHeap_old (Nat.ne_of_lt lt) (by rw [size_push']; exact Nat.lt_succ_of_lt lt)]
    exact keep b u e
  exact wpAny_pure ⟨_, rfl, .ref h1.objs.size, upd H h1.objs.size (.lst ((out.map SrtO.iv).map V.int)), I.laid (t' := s.toks) old ge ⟨szs, out, c, vals_of_ints j1, hc⟩, rfl, q _ _ j2 j3 (I.hok.fresh ge)⟩
end
end KR

set_option Elab.async false
set_option linter.all false
set_option maxRecDepth 100000
set_option maxHeartbeats 8000000
/-! The web within a lot and without it, ends. -/
namespace K0
open PySem PySem.Spec L2
open PyProof.Rows hiding St
section
variable {P : Program} {w0 : World} {K : PySem.W.Frag} {mg : Str → Option Value} {base : Heap}
abbrev nWebOf : List Str := ["web", "lot", "names", "at", "place", "a", "b"]
end
end K0

set_option Elab.async false
set_option linter.all false
set_option maxRecDepth 100000
set_option maxHeartbeats 8000000
/-! The law's own looks. -/
namespace K0
open PySem PySem.Spec L2
open PyProof.Rows hiding St
open KR (TupX)
abbrev lLot : Stmt := top 38
abbrev lCut : Stmt := top 39
abbrev lWhole : Stmt := top 40
abbrev lIsLot : Stmt := top 41
/-! ### a list beside the empty one -/
section
variable {X : Cx}
def rEq0 (K : PySem.W.Frag) : R2 := fun x y H Q => ∃ a b xs, x = .ref a ∧ y = .ref b ∧ SqL K H a xs ∧ SqL K H b [] ∧ Q (.bl xs.isEmpty) H
def rNe0 (K : PySem.W.Frag) : R2 := fun x y H Q => ∃ a b xs, x = .ref a ∧ y = .ref b ∧ SqL K H a xs ∧ SqL K H b [] ∧ Q (.bl (!xs.isEmpty)) H
theorem op_eq0 (hu : X.A.units < cLine) : OpR X (compareOp .Eq) (rEq0 X.K) := by
  intro pins s σ H x y v u Q I rx ry h
  obtain ⟨a, b, xs, rfl, rfl, ha, hb, q⟩ := h
  cases rx
  cases ry
  obtain ⟨its, r1, p1, _⟩ := I.list ha
  obtain ⟨jts, r2, p2, _⟩ := I.list hb
  cases r2
  cases r1 with
  | nil => exact SeqAt.RcAt.lists (e := fun _ => true) p1.isList p2.isList rfl hu (fun j h1 => absurd h1 (Nat.not_lt_zero _)) X.prog X.w _ _ ⟨.bl true, H, I, rfl, q⟩
  | cons r rr => exact SeqAt.RcAt.lists_lengths p1.isList p2.isList (by simp) hu X.prog X.w _ _ ⟨.bl false, H, I, rfl, q⟩
theorem op_ne0 (hu : X.A.units < cLine) : OpR X (compareOp .NotEq) (rNe0 X.K) := by
  intro pins s σ H x y v u Q I rx ry h
  obtain ⟨a, b, xs, rfl, rfl, ha, hb, q⟩ := h
  cases rx
  cases ry
  obtain ⟨its, r1, p1, _⟩ := I.list ha
  obtain ⟨jts, r2, p2, _⟩ := I.list hb
  cases r2
  cases r1 with
  | nil => exact SeqAt.RcNeAt.lists (e := fun _ => true) p1.isList p2.isList rfl hu (fun j h1 => absurd h1 (Nat.not_lt_zero _)) X.prog X.w _ _ ⟨.bl false, H, I, rfl, q⟩
  | cons r rr => exact SeqAt.RcNeAt.lists_lengths p1.isList p2.isList (by simp) hu X.prog X.w _ _ ⟨.bl true, H, I, rfl, q⟩
end
/-! ### the lot of a number -/
def bitAt (x : Nat) (i : Nat) : Bool := decide (x / 2 ^ i % 2 = 1)
def bitsN (x : Nat) (i : Nat) : List Int := ((List.range i).filter (bitAt x)).map fun i => ((i : Nat) : Int)
theorem bits_succ (x i : Nat) : bitsN x (i + 1) = if bitAt x i = true then bitsN x i ++ [(i : Int)] else bitsN x i := by
  unfold bitsN
  rw [List.range_succ, List.filter_append]
  cases h : bitAt x i <;> simp [h]
theorem bits_len (x i : Nat) : (bitsN x i).length ≤ i := by
  unfold bitsN
  rw [List.length_map]
  refine Nat.le_trans (List.length_filter_le _ _) ?_
  rw [List.length_range]
  exact Nat.le_refl _
theorem bits_lot {x n : Nat} (h : x < 2 ^ n) (hn : n ≤ 12) : IsLot n (bitsN x 12) := by
  refine ⟨fun i hi => ?_, ?_⟩
  · unfold bitsN at hi
    obtain ⟨j, hj, rfl⟩ := List.mem_map.mp hi
    obtain ⟨_, h2⟩ := List.mem_filter.mp hj
    refine ⟨by omega, ?_⟩
    rcases Nat.lt_or_ge j n with z | z
    · omega
    · exfalso
      have h3 : x / 2 ^ j = 0 := Nat.div_eq_of_lt (Nat.lt_of_lt_of_le h (Nat.pow_le_pow_right (by decide) z))
      have h2' := of_decide_eq_true h2
      rw [h3] at h2'
      exact absurd h2' (by decide)
  · unfold bitsN
    exact List.pairwise_map.mpr ((List.pairwise_lt_range.filter _).imp fun {a b} z => by omega)
theorem bit_one (x i : Nat) : decide (Builtin.bitAnd ((x : Int) / 2 ^ ((0 : Int) + (i : Int)).toNat) 1 = 1) = bitAt x i := by
  have e : ((0 : Int) + (i : Int)).toNat = i := by omega
  rw [e]
  have p : (0 : Int) ≤ (x : Int) / 2 ^ i := Int.ediv_nonneg (by omega) (by exact_mod_cast Nat.zero_le _)
  have m := Bits.bitAnd_mask 1 p
  rw [show ((2 : Int) ^ 1 - 1) = 1 by decide, show ((2 : Int) ^ 1) = 2 by decide] at m
  rw [m]
  unfold bitAt
  have c : (x : Int) / 2 ^ i % 2 = ((x / 2 ^ i % 2 : Nat) : Int) := by simp
  rw [c]
  by_cases h : x / 2 ^ i % 2 = 1
  · rw [h]; rfl
  · rw [decide_eq_false h]
    exact decide_eq_false fun z => h (by omega)
def spLLot : Sp := fun vs H Q _ => ∃ (x : Nat), vs = [.int x] ∧ ∀ (t : Addr) (H' : Hp), Same H H' → H t = none → TupX H' t ((bitsN x 12).map V.int) → Q (.ref t) H'
def spLRest : Sp := fun vs H Q _ => ∃ (w a : Addr) (n : Nat) (L : List (Int × Int)) (ns : List Int), vs = [.ref w, .ref a] ∧ GW H w n L ∧ TT H a (ns.map V.int) ∧ ∀ (t : Addr) (H' : Hp), Same H H' → H t = none → TupX H' t ((restN n ns).map V.int) → Q (.ref t) H'
def spLCut : Sp := fun vs H Q _ => ∃ (w a : Addr) (n : Nat) (L : List (Int × Int)) (ns : List Int), vs = [.ref w, .ref a] ∧ GW H w n L ∧ TT H a (ns.map V.int) ∧ ∀ (t : Addr) (H' : Hp), Same H H' → H t = none → H' t = some (.tup ((cutN L ns).map V.int)) → Q (.ref t) H'
def spLWithin : Sp := fun vs H Q _ => ∃ (w a : Addr) (n : Nat) (L : List (Int × Int)) (ns : List Int), vs = [.ref w, .ref a] ∧ GW H w n L ∧ TupX H a (ns.map V.int) ∧ gIn H L ns Q
def spLIsLot : Sp := fun vs H Q _ => ∃ (n : Nat) (v : V) (o : Option (List V)), vs = [.int n, v] ∧ n ≤ 1000 ∧ Th H v o ∧ ∀ H', Same H H' → Q (.bl (lotO n o)) H'
section
variable {P : Program} {w0 : World} {K : PySem.W.Frag} {mg : Str → Option Value} {base : Heap}
abbrev nLLot : List Str := ["_law_number", "_law_at"]
theorem scLLot : FnScope nLLot ["_law_number"] (defScope lLot) := ⟨rfl, rfl, rfl, by decide +kernel, rfl, by decide +kernel, by decide +kernel⟩
theorem ok_lLot {f : Addr} {fd : FuncData} (F : Fun K "_law_lot" "_law_lot" lLot f fd) (T : Bk mg) : FnOk P w0 K mg base CX0 1 f fd ["_law_number"] spLLot := by
  refine F.ok scLLot (fun vs H Q E h => ?_) (fun cdv A outer s H vs Q E hr h => ?_)
  · obtain ⟨x, rfl, _⟩ := h
    rfl
  · obtain ⟨x, rfl, k⟩ := h
    refine ⟨_, pss_one (ps_ret (pe_callTy KR.call_tupF (by rfl) T.tuple (by decide +kernel) (pa_cons (pe_lc (own := [("_law_at", 1)]) (g := gName 1) rfl scLLot.nd (pi_range1 (by rfl) T.range (pa_cons pe_int pa_nil))
      (blkOk_by (N := nLLot) (sc := defScope lLot) (by decide +kernel)) (fun _ _ _ _ _ => pg_name (i := 1) scLLot.nd rfl (Or.inl rfl)) (fun _ _ _ _ _ => pts_one (pt_cmpR op_eq (pe_op op_and (pe_op op_shr (pv 0) (pv 1)) pe_int) pe_int (nomark _))) (fun _ _ _ _ _ => pv 1)) pa_nil))), ?_⟩
    refine ⟨_, rfl, by decide, by decide, fun Da hD => ?_⟩
    refine lc_range (lo := 0) (n := 12) (fun i M => M Da = some (.lst ((bitsN x i).map V.int)) ∧ Same H M) ⟨upd_same, same_new hD⟩ ?_ ?_
    · rintro i M hi ⟨g1, g2⟩
      have ec : decide (V.int (Builtin.bitAnd ((x : Int) / 2 ^ ((0 : Int) + (i : Int)).toNat) 1) = V.int 1) = bitAt x i := by
        rw [← bit_one]
        by_cases h : Builtin.bitAnd ((x : Int) / 2 ^ ((0 : Int) + (i : Int)).toNat) 1 = 1
        · rw [h]; rfl
        · rw [decide_eq_false h]; exact decide_eq_false fun z => h (V.int.inj z)
      refine ⟨rfl, _, rfl, _, rfl, _, _, rfl, rfl, by omega, _, _, rfl, rfl, rfl, _, rfl, ?_⟩
      rw [ec]
      have bs := bits_succ x i
      cases h : bitAt x i with
      | true =>
        rw [if_pos h] at bs
        exact iteT ⟨_, rfl, _, g1, by rw [List.length_map, sizeLine_eq]; have := bits_len x i; omega, by rw [upd_same, bs, List.map_append, Int.zero_add] <;> rfl, fun b o e => by rw [upd_ne (ne_of_none e hD)]; exact g2 _ _ e⟩
      | false =>
        rw [if_neg (by rw [h]; exact Bool.false_ne_true)] at bs
        exact iteF ⟨by rw [bs]; exact g1, g2⟩
    · rintro M ⟨g1, g2⟩
      exact ⟨Da, _, rfl, SqL.of g1, fun t us ht => k t _ (g2.trans (same_new ht)) (g2.free ht) .of⟩
abbrev nLRest : List Str := ["_law_web_here", "_law_lot_here", "_law_place"]
abbrev nLCut : List Str := ["_law_web_here", "_law_lot_here", "_law_at", "_law_tie"]
theorem scLCut : FnScope nLCut ["_law_web_here", "_law_lot_here"] (defScope lCut) := ⟨rfl, rfl, rfl, by decide +kernel, rfl, by decide +kernel, by decide +kernel⟩
theorem ok_lCut {f : Addr} {fd : FuncData} (F : Fun K "_law_cut" "_law_cut" lCut f fd) (T : Bk mg) : FnOk P w0 K mg base CX0 1 f fd ["_law_web_here", "_law_lot_here"] spLCut := by
  refine F.ok scLCut (fun vs H Q E h => ?_) (fun cdv A outer s H vs Q E hr h => ?_)
  · obtain ⟨w, a, n, L, ns, rfl, _⟩ := h
    rfl
  · obtain ⟨w, a, n, L, ns, rfl, G, tt, k⟩ := h
    refine ⟨_, pss_one (ps_ret (pe_callTy call_tuple_of (by rfl) T.tuple (by decide +kernel) (pa_cons (pe_lc (own := [("_law_at", 2), ("_law_tie", 3)]) (g := gTup K 2 (gCons (gName 2) (gCons (gName 3) gNil))) rfl scLCut.nd
          (KR.pi_enumT (by rfl) T.enu (pa_cons (pe_ix ix_tup (pv 0) pe_int (fun _ _ => rfl)) pa_nil)) (blkOk_by (N := nLCut) (sc := defScope lCut) (by decide +kernel))
          (fun _ _ _ _ _ => pg_tup rfl (pgs_cons (pg_name (i := 2) scLCut.nd rfl (.inl rfl) (.inr rfl)) (pgs_cons (pg_name (i := 3) scLCut.nd rfl (.inl rfl) (.inr rfl)) pgs_nil)))
          (fun _ _ _ _ _ => pts_one (pt_cmpR op_ne (pe_cmpR (show OpR _ (compareOp .In) (rIn K false) from op_in_seq) (pe_ix (show IxR _ (rIxT K) from ix_tup) (pv 3) pe_int (fun _ _ => rfl)) (pv 1) (by rfl))
            (pe_cmpR (show OpR _ (compareOp .In) (rIn K false) from op_in_seq) (pe_ix (show IxR _ (rIxT K) from ix_tup) (pv 3) pe_int (fun _ _ => rfl)) (pv 1) (by rfl)) (nomark _)))
          (fun _ _ _ _ _ => pv 2)) pa_nil))), ?_⟩
    obtain ⟨ta, vs, e1, e2, e3⟩ := G.web.ex
    have len := e3.len
    have few := G.few
    refine ⟨_, rfl, w, _, _, _, rfl, rfl, SqT.of e1, atI_nat (j := 1) rfl, ta, vs, rfl, SqT.of e2, fun Da hD => ?_⟩
    refine lc_it (KR.walk_enumT (xs := vs)) (fun i M => M Da = some (.lst ((cutG L ns i).map V.int)) ∧ Same H M) ⟨upd_same, same_new hD⟩ (fun i M _ g => SqT.of (g.2 _ _ e2)) ?_ ?_
    · rintro i x M M' hi ⟨g1, g2⟩ ⟨Tt, u, y, rfl, hT, rfl, e7, e8⟩
      cases e7
      obtain ⟨b, q, rfl, hq, hb⟩ := e3.get e8
      have sT : Same H (upd M Tt (.tup [.int (i : Nat), .ref b])) := g2.trans (same_new hT)
      have hls : TT (upd M Tt (.tup [.int (i : Nat), .ref b])) a (ns.map V.int) := tt.keep fun o q => sT _ _ q
      refine ⟨Tt, _, rfl, SqT.of upd_same, rfl, _, _, rfl, _, _, rfl, rfl, rfl, ?_⟩
      refine ⟨_, rfl, b, _, _, _, rfl, rfl, SqT.of (sT _ _ hb), atI_nat (j := 0) rfl, _, rfl, a, _, rfl, .inr hls.sq, rfl, flat_ints ns, _, rfl, b, _, _, _, rfl, rfl, SqT.of (sT _ _ hb), atI_nat (j := 1) rfl, _, rfl, a, _, rfl, .inr hls.sq, rfl, flat_ints ns, rfl, _, rfl, ?_⟩
      have ec : (!decide (V.bl (if false = true then !inV (V.int q.1) (ns.map V.int) else inV (V.int q.1) (ns.map V.int)) = V.bl (if false = true then !inV (V.int q.2) (ns.map V.int) else inV (V.int q.2) (ns.map V.int)))) = crs L ns i := by
        rw [if_neg Bool.false_ne_true, if_neg Bool.false_ne_true, inV_ints, inV_ints, ne_bl, crs_at hq]
      rw [ec]
      have cs := cut_succ L ns i
      have eD : (upd M Tt (.tup [.int (i : Nat), .ref b])) Da = some (.lst ((cutG L ns i).map V.int)) := by rw [upd_ne (ne_of_none g1 hT)]; exact g1
      cases h : crs L ns i with
      | true =>
        rw [if_pos h] at cs
        exact iteT ⟨_, rfl, _, eD, by rw [List.length_map, sizeLine_eq]; have := cut_len L ns i; omega, by rw [upd_same, cs, List.map_append] <;> rfl, fun b o e => by rw [upd_ne (ne_of_none e hD)]; exact sT _ _ e⟩
      | false =>
        rw [if_neg (by rw [h]; exact Bool.false_ne_true)] at cs
        exact iteF ⟨by rw [cs]; exact eD, sT⟩
    · rintro M ⟨g1, g2⟩
      rw [len] at g1
      exact ⟨Da, _, rfl, .inl ⟨SqL.of g1, fun t ht => k t _ (g2.trans (same_new ht)) (g2.free ht) upd_same⟩⟩
abbrev nLWithin : List Str := ["_law_web_here", "_law_lot_here", "_law_some", "_law_one", "_law_other"]
end
end K0

set_option Elab.async false
set_option linter.all false
set_option maxRecDepth 100000
set_option maxHeartbeats 8000000
/-! The law's own word on lots. -/
namespace K0
open PySem PySem.Spec L2
open PyProof.Rows hiding St
open KR (TupX tobj)
/-- (a, b, ..), known whole -/
def tTupF (t : TA) : TE := fun σ H Q => t σ H fun xs H1 => xs.length ≤ sizeLine ∧ ∀ p us, H1 p = none → Q (.ref p) (upd H1 p (.frz (tobj us) (.tup xs)))
theorem pe_tupF {X : Cx} {es : List Expr} {x1} {t : TA} {pos : Pos} (h : PA X es t) : PE X (.Tuple es x1 pos) (tTupF t) := by
  refine ⟨fun pins s σ H Q I hq => wpAny_Tuple_spliced (thn (h.run pos pins s σ H _ I hq) fun us s1 ⟨xs, H1, I1, r, z, q⟩ => ⟨by rw [← r.length]; exact z, ?_⟩)⟩
  have hf : H1 s1.heap.objs.size = none := I1.hok.fresh (Nat.le_refl _)
  exact ⟨.ref s1.heap.objs.size, _, I1.laid (t' := s1.toks) (fun b u e => Heap.get?_push_of_some _ e) (Nat.le_refl _) (KR.frz_ok (us := us) (Heap.get?_push_size _ rfl) r z), rfl, q _ us hf⟩
theorem whole_ints : ∀ {xs : List V}, xs.all wholeV = true → xs = (xs.map intV).map V.int
  | [], _ => rfl
  | x :: xs, h => by
    rw [List.all_cons, Bool.and_eq_true] at h
    cases x with
    | int i => rw [List.map_cons, List.map_cons, ← whole_ints h.2] <;> rfl
    | _ => cases h.1
theorem fl_empty {α : Type} (p : α → Bool) (xs : List α) : (xs.filter fun x => !p x).isEmpty = xs.all p := by
  induction xs with
  | nil => rfl
  | cons x xs ih => cases h : p x <;> simp [h] <;> simpa using ih
theorem below_whole {n : Int} {xs : List V} (h : xs.all wholeV = false) : xs.all (belowV · n) = false := by
  induction xs with
  | nil => cases h
  | cons x xs ih =>
    rw [List.all_cons] at h ⊢
    cases x with
    | int i =>
      have : xs.all wholeV = false := by simpa [wholeV] using h
      rw [ih this, Bool.and_false]
    | _ => rfl
def inR (n i : Int) : Bool := decide (0 ≤ i) && decide (i < n)
theorem all_inR (n : Int) (ns : List Int) : (ns.map V.int).all (belowV · n) = ns.all (inR n) := by
  rw [List.all_map]
  rfl
section
variable {P : Program} {w0 : World} {K : PySem.W.Frag} {mg : Str → Option Value} {base : Heap}
theorem scLWhole : FnScope ["_law_thing"] ["_law_thing"] (defScope lWhole) := ⟨rfl, rfl, rfl, by decide +kernel, rfl, by decide +kernel, by decide +kernel⟩
theorem ok_lWhole {f : Addr} {fd : FuncData} (F : Fun K "_law_is_whole" "_law_is_whole" lWhole f fd) (T : Bj mg) : FnOk P w0 K mg base CX0 1 f fd ["_law_thing"] spWhole := by
  refine F.ok scLWhole (fun vs H Q E h => ?_) (fun cdv A outer s H vs Q E hr h => ?_)
  · obtain ⟨v, t, rfl, _⟩ := h
    rfl
  · obtain ⟨v, t, rfl, hv, k⟩ := h
    refine ⟨_, pss_one (ps_ret (pe_and (pe_callB call_isi (by rfl) T.isi (by decide +kernel) (pa_cons (pv 0) (pa_cons (pe_bltn (v := .ty "int") (u := .type "int") (by rfl) T.int (by decide +kernel) rfl) pa_nil)))
      (pe_one (pe_not (pe_callB call_isi (by rfl) T.isi (by decide +kernel) (pa_cons (pv 0) (pa_cons (pe_bltn (v := .ty "bool") (u := .type "bool") (by rfl) T.bool (by decide +kernel) rfl) pa_nil))))))), ?_⟩
    obtain ⟨k1, k2, _⟩ := hv.kit (K := K)
    have hw := hv.whole
    refine ⟨_, rfl, v, .ty "int", .type t, .type "int", _, rfl, .ty "int", hv.ty, k1, _, rfl, ?_⟩
    by_cases h1 : t = "int" ∨ t = "bool"
    · rw [if_pos (decide_eq_true h1)]
      refine ⟨_, rfl, v, .ty "bool", .type t, .type "bool", _, rfl, .ty "bool", hv.ty, k2, _, rfl, ?_⟩
      have e : (!decide (t = "bool")) = wholeV v := by
        rw [hw]
        rcases h1 with rfl | rfl <;> decide
      rw [e]
      exact k
    · rw [if_neg (by rw [decide_eq_false h1]; exact Bool.false_ne_true)]
      have e : false = wholeV v := by rw [hw, decide_eq_false (fun z => h1 (.inl z))]
      rw [e]
      exact k
abbrev nLIsLot : List Str := ["_law_n", "_law_thing", "_law_it"]
theorem scLIsLot : FnScope nLIsLot ["_law_n", "_law_thing"] (defScope lIsLot) := ⟨rfl, rfl, rfl, by decide +kernel, rfl, by decide +kernel, by decide +kernel⟩
theorem ok_lIsLot {f fW : Addr} {fd fdW : FuncData} (F : Fun K "_law_is_lot" "_law_is_lot" lIsLot f fd) (T : Bk mg) (GW' : Dn P w0 K mg base "_law_is_whole" 1 ["_law_thing"] spWhole fW fdW) : FnOk P w0 K mg base CX0 2 f fd ["_law_n", "_law_thing"] spLIsLot := by
  refine F.ok scLIsLot (fun vs H Q E h => ?_) (fun cdv A outer s H vs Q E hr h => ?_)
  · obtain ⟨n, v, o, rfl, _⟩ := h
    rfl
  · obtain ⟨n, v, o, rfl, hn, th, k⟩ := h
    have hu0 := hr.units0
    have hu6 : A.units + 3 + 64 < cLine := by have := hr.un; have e : (A.deeper (envOfC "_law_is_lot" (defScope lIsLot) s.heap.objs.size f cdv)).units = A.units + 3 := rfl; omega
    refine ⟨_, pss_cons (ps_if (PW.pt (pw_or (pt_not (pt_val (pe_callB call_isi (by rfl) T.isi (by decide +kernel) (pa_cons (pv 1) (pa_cons (pe_bltn (v := .ty "tuple") (u := .type "tuple") (by rfl) T.tuple (by decide +kernel) rfl) pa_nil)))))
          (pw_or1 (pt_cmpR (op_ne0 hu0) (pe_lc (own := [("_law_it", 2)]) (g := gName 2) rfl scLIsLot.nd (pi_tup (pv 1)) (blkOk_by (N := nLIsLot) (sc := defScope lIsLot) (by decide +kernel))
            (fun _ _ _ _ _ => pg_name (i := 2) scLIsLot.nd rfl (Or.inl rfl)) (fun _ _ _ _ _ => pts_one (pt_not (pt_val (pe_call GW'.ok hr rfl GW'.g GW'.kp GW'.b .nil pass0 (pa_cons (pv 2) pa_nil))))) (fun _ _ _ _ _ => pv 2)) (pe_lst pa_nil) (nomark _)))))
          (pss_one (ps_ret pe_bl)) pss_nil)
      <| pss_one (ps_ret (pe_and (pe_cmpR (op_eq0 hu0) (pe_lc (own := [("_law_it", 2)]) (g := gName 2) rfl scLIsLot.nd (pi_tup (pv 1)) (blkOk_by (N := nLIsLot) (sc := defScope lIsLot) (by decide +kernel))
            (fun _ _ _ _ _ => pg_name (i := 2) scLIsLot.nd rfl (Or.inl rfl)) (fun _ _ _ _ _ => pts_one (PW.pt (pw_or (pt_cmpR op_lt (pv 2) pe_int (nomark _)) (pw_or1 (pt_cmpR op_ge (pv 2) (pv 0) (nomark _)))))) (fun _ _ _ _ _ => pv 2)) (pe_lst pa_nil) (nomark _))
          (pe_one (pe_cmpR (op_eqD hu6) (pe_callTy call_list_of (by rfl) T.list (by decide +kernel) (pa_cons (pv 1) pa_nil)) (pe_callB (cr_sortedSet rfl) (by rfl) T.sorted (by decide +kernel) (pa_cons (pe_callTy (KR.cr_setTI rfl) (by rfl) T.set (by decide +kernel) (pa_cons (pv 1) pa_nil)) pa_nil)) (nomark _))))), ?_⟩
    cases th with
    | @oth v t h ne =>
      exact ⟨_, rfl, v, .ty "tuple", .type t, .type "tuple", _, rfl, .ty "tuple", h.ty, h.kit.2.2, _, rfl, by
        rw [decide_eq_false ne]
        exact k H (Same.refl H)⟩
    | @tup a xs e h l =>
      have hv : VT H (.ref a) "tuple" := .tup e
      refine ⟨_, rfl, .ref a, .ty "tuple", .type "tuple", .type "tuple", _, rfl, .ty "tuple", hv.ty, hv.kit.2.2, _, rfl, iteNS (c := "tuple" = "tuple") rfl ?_⟩
      refine ⟨_, rfl, a, rfl, ⟨_, e.sq⟩, fun Da hD => ?_⟩
      refine lc_it (walk_tup (xs := xs)) (fun i M => M Da = some (.lst ((xs.take i).filter fun x => !wholeV x)) ∧ Same H M) ⟨upd_same, same_new hD⟩ (fun i M _ g => (e.keep fun o q => g.2 _ _ q).sq) ?_ ?_
      · rintro i x M M' hi ⟨g1, g2⟩ ⟨rfl, hx⟩
        obtain ⟨t, ht⟩ := h x (List.mem_of_getElem? hx)
        have fl : ((xs.take i).filter fun x => !wholeV x).length ≤ 60 := Nat.le_trans (List.length_filter_le _ _) (by rw [List.length_take]; omega)
        refine ⟨rfl, _, rfl, x, t, rfl, ht.mono g2, _, rfl, ?_⟩
        have tk : (xs.take (i + 1)).filter (fun x => !wholeV x) = (xs.take i).filter (fun x => !wholeV x) ++ [x].filter fun x => !wholeV x := by rw [take_snoc hx, List.filter_append]
        cases hw : wholeV x with
        | true =>
          refine iteF ⟨?_, g2⟩
          rw [tk, g1]
          simp [hw]
        | false =>
          refine iteT ⟨_, rfl, _, g1, by rw [sizeLine_eq]; omega, ?_, fun b o e => by rw [upd_ne (ne_of_none e hD)]; exact g2 _ _ e⟩
          rw [tk, upd_same]
          simp [hw]
      · rintro M ⟨g1, g2⟩
        rw [List.take_length] at g1
        refine ⟨by show 0 ≤ sizeLine; exact Nat.zero_le _, fun b0 hb0 => ?_⟩
        have s1 : Same H (upd M b0 (.lst [])) := g2.trans (same_new hb0)
        refine ⟨Da, b0, _, rfl, rfl, SqL.of (by rw [upd_ne (ne_of_none g1 hb0)]; exact g1), SqL.of upd_same, _, rfl, ?_⟩
        rw [fl_empty]
        cases ha : xs.all wholeV with
        | false =>
          have ans : false = lotO n (some xs) := by
            show _ = lotD n xs
            unfold lotD
            rw [below_whole ha, Bool.false_and]
          show Q (.bl false) _
          rw [ans]
          exact k _ s1
        | true =>
          have x1 := whole_ints ha
          generalize hns : xs.map intV = ns at x1
          have hlen : ns.length ≤ 60 := by rw [← hns, List.length_map]; exact l
          have eM : ∀ {M' : Hp}, Same H M' → TT M' a (ns.map V.int) := fun s => x1 ▸ (e.keep fun o q => s _ _ q)
          refine ⟨_, rfl, a, rfl, ⟨_, (eM s1).sq⟩, fun Db hb => ?_⟩
          have hDb := s1.free hb
          refine lc_it (walk_tup (xs := ns.map V.int)) (fun i M2 => M2 Db = some (.lst (((ns.take i).filter fun i => !inR n i).map V.int)) ∧ Same H M2) ⟨upd_same, s1.trans (same_new hb)⟩ (fun i M2 _ g => (eM g.2).sq) ?_ ?_
          · rintro i x M2 M3 hi ⟨f1, f2⟩ ⟨rfl, hx⟩
            rw [List.getElem?_map] at hx
            have hi' : i < ns.length := by rw [List.length_map] at hi; exact hi
            rw [List.getElem?_eq_getElem hi'] at hx
            cases hx
            have fl : (((ns.take i).filter fun i => !inR n i).map V.int).length ≤ 60 := by
              rw [List.length_map]
              exact Nat.le_trans (List.length_filter_le _ _) (by rw [List.length_take]; omega)
            have tk : (ns.take (i + 1)).filter (fun i => !inR n i) = (ns.take i).filter (fun i => !inR n i) ++ [ns[i]].filter fun i => !inR n i := by rw [take_snoc (List.getElem?_eq_getElem hi'), List.filter_append]
            have put : (!inR n ns[i]) = true → ∃ acc, M3 Db = some (.lst acc) ∧ acc.length < sizeLine ∧ (upd M3 Db (.lst (acc ++ [V.int ns[i]]))) Db = some (.lst (((ns.take (i + 1)).filter fun i => !inR n i).map V.int)) ∧ Same H (upd M3 Db (.lst (acc ++ [V.int ns[i]]))) := fun hz => by
              refine ⟨_, f1, by rw [sizeLine_eq]; omega, ?_, fun b o e => by rw [upd_ne (ne_of_none e hDb)]; exact f2 _ _ e⟩
              rw [tk, upd_same]
              simp [hz]
            have skip : (!inR n ns[i]) = false → M3 Db = some (.lst (((ns.take (i + 1)).filter fun i => !inR n i).map V.int)) ∧ Same H M3 := fun hz => by
              refine ⟨?_, f2⟩
              rw [tk, f1]
              simp [hz]
            refine ⟨rfl, _, rfl, _, _, rfl, rfl, _, rfl, ?_⟩
            by_cases h0 : ns[i] < 0
            · have hz : (!inR n ns[i]) = true := by unfold inR; rw [decide_eq_false (show ¬ (0 : Int) ≤ ns[i] by omega)] <;> rfl
              rw [decide_eq_true h0]
              exact iteT ⟨_, rfl, put hz⟩
            · rw [decide_eq_false h0]
              refine iteF ⟨_, rfl, _, rfl, _, _, rfl, rfl, _, rfl, ?_⟩
              by_cases h1 : ns[i] ≥ n
              · have hz : (!inR n ns[i]) = true := by unfold inR; rw [decide_eq_false (show ¬ ns[i] < (n : Int) by omega), Bool.and_false] <;> rfl
                rw [decide_eq_true h1]
                exact iteT ⟨_, rfl, put hz⟩
              · have hz : (!inR n ns[i]) = false := by unfold inR; rw [decide_eq_true (show (0 : Int) ≤ ns[i] by omega), decide_eq_true (show ns[i] < (n : Int) by omega)] <;> rfl
                rw [decide_eq_false h1]
                exact iteF (skip hz)
          · rintro M2 ⟨f1, f2⟩
            rw [List.length_map, List.take_length] at f1
            refine ⟨by show 0 ≤ sizeLine; exact Nat.zero_le _, fun b1 hb1 => ?_⟩
            have s2 : Same H (upd M2 b1 (.lst [])) := f2.trans (same_new hb1)
            refine ⟨Db, b1, _, rfl, rfl, SqL.of (by rw [upd_ne (ne_of_none f1 hb1)]; exact f1), SqL.of upd_same, _, rfl, ?_⟩
            rw [show ((ns.filter fun i => !inR n i).map V.int).isEmpty = ns.all (inR n) by rw [← fl_empty (inR n)]; cases ns.filter fun i => !inR n i <;> rfl]
            have lo : lotO n (some xs) = (ns.all (inR n) && decide (ns.Pairwise (· < ·))) := by
              show lotD n xs = _
              unfold lotD
              rw [hns, x1, all_inR]
            cases hR : ns.all (inR n) with
            | false =>
              rw [hR, Bool.false_and] at lo
              show Q (.bl false) _
              rw [← lo]
              exact k _ s2
            | true =>
              rw [hR, Bool.true_and] at lo
              refine ⟨_, rfl, a, _, rfl, .inr (eM s2).sq, fun l1 hl1 => ⟨_, rfl, a, ns, rfl, (eM (s2.trans (same_new hl1))).sq, by omega, fun b c hb2 hc => ⟨b, _, c, rfl, upd_same, by omega, fun ms p m1 m2 _ hp => ?_⟩⟩⟩
              have s3 := ((s2.trans (same_new (o := .lst (ns.map V.int)) hl1)).trans (same_new hb2)).trans (same_new (o := .lst (ms.map V.int)) hp)
              have n1p : l1 ≠ b := ne_of_none upd_same hb2
              have n2p : l1 ≠ p := ne_of_none (by rw [upd_ne n1p]; exact upd_same) hp
              refine ⟨.list (ns.map PyData.int), .list (ms.map PyData.int), .lst (SqL.of (by rw [upd_ne n2p, upd_ne n1p]; exact upd_same)) (ints_dp ns), .lst (SqL.of upd_same) (ints_dp ms), ints_shaped ns, ints_shaped ms, ?_⟩
              rw [eqv_ints]
              have ans : decide (ns = ms) = lotO n (some xs) := by
                rw [lo]
                by_cases hp : ns.Pairwise (· < ·)
                · rw [decide_eq_true hp]
                  exact decide_eq_true (inc_uniq hp m1 fun k => by rw [m2 k, decide_eq_true_eq])
                · rw [decide_eq_false hp]
                  exact decide_eq_false fun e => hp (e ▸ m1)
              rw [ans]
              exact k _ s3
end
end K0

set_option Elab.async false
set_option linter.all false
set_option maxRecDepth 100000
set_option maxHeartbeats 8000000
/-! The program's masks. -/
namespace K0
open PySem PySem.Spec L2
open PyProof.Rows hiding St
abbrev pLotOf : Stmt := top 4
abbrev pFull : Stmt := top 5
abbrev pNear : Stmt := top 6
abbrev pParts : Stmt := top 7
abbrev pPart : Stmt := top 8
abbrev pPartLots : Stmt := top 20
def natV (i : Nat) : V := .int (i : Int)
theorem natV_ints (l : List Nat) : l.map natV = (l.map fun i => ((i : Nat) : Int)).map V.int := by rw [List.map_map] <;> rfl
/-! ### bits of ints -/
theorem and_nat (a b : Nat) : Builtin.bitAnd (a : Int) (b : Int) = ((a &&& b : Nat) : Int) := by rw [bitAnd_pp (by omega) (by omega)] <;> rfl
theorem or_nat (a b : Nat) : Builtin.bitOr (a : Int) (b : Int) = ((a ||| b : Nat) : Int) := by rw [Bits.bitOr_pp (by omega) (by omega)] <;> rfl
theorem xor_nat (a b : Nat) : Builtin.bitXor (a : Int) (b : Int) = ((a ^^^ b : Nat) : Int) := by rw [Bits.bitXor_pp (by omega) (by omega)] <;> rfl
theorem xor_lt {a b n : Nat} (ha : a < 2 ^ n) (hb : b < 2 ^ n) : a ^^^ b < 2 ^ n := Nat.xor_lt_two_pow ha hb
def lotT (m : Nat) : Bool := decide (Builtin.Int.intBits (m : Int) ≤ 12) && decide ((List.range (Builtin.Int.intBits (m : Int))).filter m.testBit = lotN m)
theorem lot_tbl : (List.range 4096).all lotT = true := by decide +kernel
theorem lot_at {m : Nat} (h : m < 4096) : Builtin.Int.intBits (m : Int) ≤ 12 ∧ (List.range (Builtin.Int.intBits (m : Int))).filter m.testBit = lotN m := by
  have := List.all_eq_true.mp lot_tbl m (List.mem_range.mpr h)
  unfold lotT at this
  rwa [Bool.and_eq_true, decide_eq_true_eq, decide_eq_true_eq] at this
def lowT (m : Nat) : Bool := match lotN m with
  | [] => m == 0
  | r :: _ => decide (Builtin.bitAnd (m : Int) (-(m : Int)) = ((2 ^ r : Nat) : Int))
theorem low_tbl : (List.range 4096).all lowT = true := by decide +kernel
/-- the least bit -/
theorem low_at {m : Nat} (h : m < 4096) (h0 : m ≠ 0) : ∃ r, Builtin.bitAnd (m : Int) (-(m : Int)) = ((2 ^ r : Nat) : Int) ∧ m.testBit r = true ∧ (∀ i, m.testBit i = true → r ≤ i) ∧ r < 12 ∧ ∃ t, lotN m = r :: t := by
  have := List.all_eq_true.mp low_tbl m (List.mem_range.mpr h)
  unfold lowT at this
  have mem : ∀ i, i ∈ lotN m ↔ m.testBit i = true := fun i => lotN_mem h
  have inc := lotN_inc m
  split at this
  · rename_i e
    exact absurd (by simpa using this) h0
  · rename_i r t e
    rw [decide_eq_true_eq] at this
    rw [e] at inc
    have hr := (mem r).mp (by rw [e]; exact List.mem_cons_self ..)
    refine ⟨r, this, hr, fun i hi => ?_, bit_lt h hr, t, e⟩
    have := (mem i).mpr hi
    rw [e] at this
    rcases List.mem_cons.mp this with z | z
    · omega
    · exact Nat.le_of_lt ((List.pairwise_cons.mp inc).1 i z)
theorem odd_bit (m i : Nat) : ((((m / 2 ^ i) % 2 : Nat) : Int) != 0) = m.testBit i := by
  rw [Nat.testBit_eq_decide_div_mod_eq]
  rcases Nat.mod_two_eq_zero_or_one (m / 2 ^ i) with e | e <;> rw [e] <;> rfl
def rNN (f : Nat → Nat → Nat) : R2 := fun x y H Q => ∃ a b : Nat, x = .int (a : Int) ∧ y = .int (b : Int) ∧ Q (.int ((f a b : Nat) : Int)) H
section
variable {X : Cx}
theorem iop_orN : OpR X (inplaceOp .BitOr) (rNN (· ||| ·)) := fun pins s σ H x y v u Q I rx ry h => by
  obtain ⟨a, b, rfl, rfl, q⟩ := h
  exact iop_or pins s σ H _ _ v u Q I rx ry ⟨_, _, rfl, rfl, by show Q (.int (Builtin.bitOr (a : Int) (b : Int))) H; rw [or_nat]; exact q⟩
theorem iop_xorN : OpR X (inplaceOp .BitXor) (rNN (· ^^^ ·)) := fun pins s σ H x y v u Q I rx ry h => by
  obtain ⟨a, b, rfl, rfl, q⟩ := h
  exact iop_xor pins s σ H _ _ v u Q I rx ry ⟨_, _, rfl, rfl, by show Q (.int (Builtin.bitXor (a : Int) (b : Int))) H; rw [xor_nat]; exact q⟩
theorem op_xorN : OpR X (binaryOp .BitXor) (rNN (· ^^^ ·)) := fun pins s σ H x y v u Q I rx ry h => by
  obtain ⟨a, b, rfl, rfl, q⟩ := h
  exact op_xor pins s σ H _ _ v u Q I rx ry ⟨_, _, rfl, rfl, by show Q (.int (Builtin.bitXor (a : Int) (b : Int))) H; rw [xor_nat]; exact q⟩
theorem op_andN : OpR X (binaryOp .BitAnd) (rNN (· &&& ·)) := fun pins s σ H x y v u Q I rx ry h => by
  obtain ⟨a, b, rfl, rfl, q⟩ := h
  exact op_and pins s σ H _ _ v u Q I rx ry ⟨_, _, rfl, rfl, by show Q (.int (Builtin.bitAnd (a : Int) (b : Int))) H; rw [and_nat]; exact q⟩
/-- 1 << k -/
def rOneN : R2 := fun x y H Q => ∃ k : Nat, x = .int 1 ∧ y = .int (k : Int) ∧ k ≤ 1000 ∧ Q (.int ((2 ^ k : Nat) : Int)) H
theorem op_oneN : OpR X (binaryOp .LShift) rOneN := fun pins s σ H x y v u Q I rx ry h => by
  obtain ⟨k, rfl, rfl, hk, q⟩ := h
  exact op_oneShl pins s σ H _ _ v u Q I rx ry ⟨k, rfl, rfl, by omega, by show Q (.int ((2 : Int) ^ k)) H; rw [show (2 : Int) ^ k = ((2 ^ k : Nat) : Int) by rw [Int.natCast_pow] <;> rfl]; exact q⟩
/-- n & -n -/
def rLow : R2 := fun x y H Q => ∃ m : Nat, x = .int (m : Int) ∧ y = .int (-(m : Int)) ∧ m < 4096 ∧ m ≠ 0 ∧ ∀ r : Nat, m.testBit r = true → (∀ i, m.testBit i = true → r ≤ i) → r < 12 → (∃ t, lotN m = r :: t) → Q (.int ((2 ^ r : Nat) : Int)) H
theorem op_low : OpR X (binaryOp .BitAnd) rLow := fun pins s σ H x y v u Q I rx ry h => by
  obtain ⟨m, rfl, rfl, h1, h2, q⟩ := h
  obtain ⟨r, r1, r2, r3, r4, r5⟩ := low_at h1 h2
  exact op_and pins s σ H _ _ v u Q I rx ry ⟨_, _, rfl, rfl, by show Q (.int (Builtin.bitAnd (m : Int) (-(m : Int)))) H; rw [r1]; exact q r r2 r3 r4 r5⟩
end
/-- a truth, named -/
def tTru (K : PySem.W.Frag) (ta : TE) : L2.TT := fun σ H Q => ta σ H fun x H' => ∃ k, TruV K x H' k ∧ Q k H'
theorem pt_truthK {X : Cx} {a : Expr} {ta : TE} {K0 : PySem.W.Frag} (hK : X.K = K0) (ha : PE X a ta) (he : ∀ whole, isTrue a X.env whole = (do let v ← whole; standAt a.pos; holding [v] (truthy v))) : PT X a (tTru K0 ta) := hK ▸ pt_truth ha he
def spLotOf : Sp := fun vs H Q _ => ∃ m : Nat, vs = [.int (m : Int)] ∧ m < 4096 ∧ ∀ (t : Addr) (H' : Hp), Same H H' → H t = none → H' t = some (.tup ((lotN m).map natV)) → Q (.ref t) H'
def spFull : Sp := fun vs H Q _ => ∃ (w : Addr) (n : Nat) (L : List (Int × Int)), vs = [.ref w] ∧ GW H w n L ∧ Q (.int ((2 ^ n - 1 : Nat) : Int)) H
def spNear : Sp := fun vs H Q _ => ∃ (w : Addr) (n : Nat) (L : List (Int × Int)), vs = [.ref w] ∧ GW H w n L ∧ ∀ (l : Addr) (ms : List Nat) (H' : Hp), Same H H' → H l = none → H' l = some (.lst (ms.map natV)) → Near L n ms → Q (.ref l) H'
def spPart : Sp := fun vs H Q _ => ∃ (l : Addr) (m r n : Nat) (ms : List Nat) (L : List (Int × Int)), vs = [.ref l, .int (m : Int), .int ((2 ^ r : Nat) : Int)] ∧ H l = some (.lst (ms.map natV)) ∧ Near L n ms ∧ n ≤ 12 ∧ Bel n L ∧ m < 2 ^ n ∧ m.testBit r = true ∧ ∀ (p : Nat) (H' : Hp), Same H H' → IsPart L m r p → Q (.int (p : Int)) H'
def spParts : Sp := fun vs H Q _ => ∃ (l : Addr) (m n : Nat) (ms : List Nat) (L : List (Int × Int)), vs = [.ref l, .int (m : Int)] ∧ H l = some (.lst (ms.map natV)) ∧ Near L n ms ∧ n ≤ 12 ∧ Bel n L ∧ m < 2 ^ n ∧ ∀ (a : Addr) (ps : List (Nat × Nat)) (H' : Hp), Same H H' → H a = none → H' a = some (.lst (ps.map fun q => natV q.2)) → Parts L m ps → Q (.ref a) H'
section
variable {P : Program} {w0 : World} {K : PySem.W.Frag} {mg : Str → Option Value} {base : Heap}
abbrev nLotOf : List Str := ["mask", "place"]
theorem scLotOf : FnScope nLotOf ["mask"] (defScope pLotOf) := ⟨rfl, rfl, rfl, by decide +kernel, rfl, by decide +kernel, by decide +kernel⟩
theorem ok_lotOf {f : Addr} {fd : FuncData} (F : Fun K "lot_of" "lot_of" pLotOf f fd) (T : Bj mg) : FnOk P w0 K mg base CX0 1 f fd ["mask"] spLotOf := by
  refine F.ok scLotOf (fun vs H Q E h => ?_) (fun cdv A outer s H vs Q E hr h => ?_)
  · obtain ⟨m, rfl, _⟩ := h
    rfl
  · obtain ⟨m, rfl, hm, k⟩ := h
    refine ⟨_, pss_one (ps_ret (pe_callTy call_tuple_of (by rfl) T.tuple (by decide +kernel) (pa_cons (pe_lc (own := [("place", 1)]) (g := gName 1) rfl scLotOf.nd (pi_range1 (by rfl) T.range (pa_cons (pe_bits (pv 0)) pa_nil))
      (blkOk_by (N := nLotOf) (sc := defScope pLotOf) (by decide +kernel)) (fun _ _ _ _ _ => pg_name (i := 1) scLotOf.nd rfl (Or.inl rfl)) (fun _ _ _ _ _ => pts_one (pt_truthK (K0 := K) rfl (pe_op op_odd (pe_op op_shrN (pv 0) (pv 1)) pe_int) (by intro _; rfl))) (fun _ _ _ _ _ => pv 1)) pa_nil))), ?_⟩
    obtain ⟨hb, hf⟩ := lot_at hm
    refine ⟨_, rfl, _, rfl, _, rfl, by omega, by omega, fun Da hD => ?_⟩
    refine lc_range (lo := 0) (n := ((Builtin.Int.intBits (m : Int) : Nat) : Int).toNat) (fun i M => M Da = some (.lst (((List.range i).filter m.testBit).map natV)) ∧ Same H M) ⟨upd_same, same_new hD⟩ ?_ ?_
    · rintro i M hi ⟨g1, g2⟩
      refine ⟨rfl, _, rfl, _, rfl, (m : Int), i, rfl, by rw [Int.zero_add], m / 2 ^ i, by rw [Int.natCast_ediv, Int.natCast_pow] <;> rfl, rfl, _, rfl, ?_⟩
      rw [odd_bit]
      have rs : (List.range (i + 1)).filter m.testBit = if m.testBit i = true then (List.range i).filter m.testBit ++ [i] else (List.range i).filter m.testBit := by
        rw [List.range_succ, List.filter_append]
        cases h : m.testBit i <;> simp [h]
      cases h : m.testBit i with
      | true =>
        rw [if_pos h] at rs
        exact iteT ⟨_, rfl, _, g1, by rw [List.length_map, sizeLine_eq]; have := List.length_filter_le m.testBit (List.range i); rw [List.length_range] at this; omega, by rw [upd_same, rs, List.map_append, Int.zero_add] <;> rfl, fun b o e => by rw [upd_ne (ne_of_none e hD)]; exact g2 _ _ e⟩
      | false =>
        rw [if_neg (by rw [h]; exact Bool.false_ne_true)] at rs
        exact iteF ⟨by rw [rs]; exact g1, g2⟩
    · rintro M ⟨g1, g2⟩
      rw [Int.toNat_natCast, hf] at g1
      exact ⟨Da, _, rfl, .inl ⟨SqL.of g1, fun t ht => k t _ (g2.trans (same_new ht)) (g2.free ht) upd_same⟩⟩
theorem scFull : FnScope ["web"] ["web"] (defScope pFull) := ⟨rfl, rfl, rfl, by decide +kernel, rfl, by decide +kernel, by decide +kernel⟩
theorem ok_full {f : Addr} {fd : FuncData} (F : Fun K "full_mask" "full_mask" pFull f fd) : FnOk P w0 K mg base CX0 1 f fd ["web"] spFull := by
  refine F.ok scFull (fun vs H Q E h => ?_) (fun cdv A outer s H vs Q E hr h => ?_)
  · obtain ⟨w, n, L, rfl, _⟩ := h
    rfl
  · obtain ⟨w, n, L, rfl, G, k⟩ := h
    refine ⟨_, pss_one (ps_ret (pe_op op_sub (pe_op op_oneShl pe_int (pe_ix ix_tup (pv 0) pe_int (fun _ _ => rfl))) pe_int)), ?_⟩
    obtain ⟨ta, vs, e1, e2, e3⟩ := G.web.ex
    have n2 := G.n2
    refine ⟨_, rfl, w, _, _, _, rfl, rfl, SqT.of e1, atI_nat (j := 0) rfl, n, rfl, rfl, by omega, _, _, rfl, rfl, ?_⟩
    have e : (2 ^ n - 1 : Int) = ((2 ^ n - 1 : Nat) : Int) := by
      have := Nat.one_le_two_pow (n := n)
      rw [Int.natCast_sub this, Int.natCast_pow] <;> rfl
    show Q (.int ((2 : Int) ^ n - 1)) H
    rw [e]
    exact k
end
end K0

set_option Elab.async false
set_option linter.all false
set_option maxRecDepth 100000
set_option maxHeartbeats 8000000
/-! Near places, parts. -/
namespace K0
open PySem PySem.Spec L2
open PyProof.Rows hiding St
theorem ixN_n {n j : Nat} (hj : j < n) : ixN n (j : Int) = some j := by
  unfold ixN
  rw [if_pos (by omega), if_pos (by omega), Int.toNat_natCast]
theorem flat_zeros : ∀ n : Nat, (List.replicate n [V.int 0]).flatten = (List.replicate n 0).map natV
  | 0 => rfl
  | n + 1 => by rw [List.replicate_succ, List.flatten_cons, flat_zeros n, List.replicate_succ, List.map_cons] <;> rfl
theorem nat_get {ms : List Nat} {i : Nat} (h : i < ms.length) : (ms.map natV)[i]? = some (natV (ms.getD i 0)) := by
  rw [List.getElem?_map, List.getD_eq_getElem?_getD, List.getElem?_eq_getElem h] <;> rfl
theorem nat_set (ms : List Nat) (i x : Nat) : (ms.map natV).set i (natV x) = (ms.set i x).map natV := List.map_set.symm
theorem nat_set' (ms : List Nat) (i : Nat) (x : Nat) : some (HO.lst ((ms.map natV).set i (.int (x : Int)))) = some (.lst ((ms.set i x).map natV)) := congrArg (fun z => some (HO.lst z)) (nat_set ..)
theorem near_lt {L : List (Int × Int)} {n : Nat} {ms : List Nat} (h : Near L n ms) (hB : Bel n L) {a : Nat} (ha : a < n) : ms.getD a 0 < 2 ^ n := by
  refine Nat.lt_pow_two_of_testBit _ fun i hi => ?_
  rw [h.bit a i ha]
  refine decide_eq_false fun z => ?_
  unfold Adj at z
  rcases z with z | z
  · have := hB _ z
    dsimp only at this
    omega
  · have := hB _ z
    dsimp only at this
    omega
theorem while_ex {c : L2.TT} {tb : TS} {D : Ends} {σ : L2.St} {H : Hp} (Pv : L2.St → Hp → Prop) (μ : L2.St → Hp → Nat) (h0 : Pv σ H)
    (hs : ∀ σ H, Pv σ H → c σ H fun b H1 => if b = true then tb { D with nx := fun σ' H' => Pv σ' H' ∧ μ σ' H' < μ σ H, ct := fun σ' H' => Pv σ' H' ∧ μ σ' H' < μ σ H, bk := D.nx } σ H1 else D.nx σ H1)
    (mono : ∀ σ H Q Q', (∀ b H1, Q b H1 → Q' b H1) → c σ H Q → c σ H Q') : ∃ W : Nat → L2.St → Hp → Prop, (∃ m, W m σ H) ∧ ∀ m σ H, W m σ H →
      c σ H fun b H1 => if b = true then ∃ N : L2.St → Hp → Prop, (∀ σ' H', N σ' H' → ∃ m', m' < m ∧ W m' σ' H') ∧ tb { D with nx := N, ct := N, bk := D.nx } σ H1 else D.nx σ H1 := while_by Pv μ h0 hs mono
/-- lots at their places -/
inductive LotsAt (H : Hp) : List V → List (Nat × Nat) → Prop
  | nil : LotsAt H [] []
  | cons {a : Addr} {q : Nat × Nat} {vs : List V} {ps : List (Nat × Nat)} (h : H a = some (.tup ((lotN q.2).map natV))) (t : LotsAt H vs ps) : LotsAt H (.ref a :: vs) (q :: ps)
theorem LotsAt.mono {H H' : Hp} {vs : List V} {ps : List (Nat × Nat)} (p : LotsAt H vs ps) (s : ∀ a x, H a = some (.tup x) → H' a = some (.tup x)) : LotsAt H' vs ps := by
  induction p with
  | nil => exact .nil
  | cons h t ih => exact .cons (s _ _ h) ih
theorem LotsAt.app {H : Hp} {vs ws : List V} {ps qs : List (Nat × Nat)} (p : LotsAt H vs ps) (q : LotsAt H ws qs) : LotsAt H (vs ++ ws) (ps ++ qs) := by
  induction p with
  | nil => exact q
  | cons h t ih => exact .cons h ih
theorem LotsAt.len {H : Hp} {vs : List V} {ps : List (Nat × Nat)} (p : LotsAt H vs ps) : vs.length = ps.length := by
  induction p with
  | nil => rfl
  | cons h t ih => rw [List.length_cons, List.length_cons, ih]
theorem LotsAt.get {H : Hp} {vs : List V} {ps : List (Nat × Nat)} (p : LotsAt H vs ps) : ∀ {i : Nat} {v : V}, vs[i]? = some v → ∃ a q, v = .ref a ∧ ps[i]? = some q ∧ H a = some (.tup ((lotN q.2).map natV)) := by
  induction p with
  | nil => intro i v h; simp at h
  | @cons a q vs ps h t ih =>
    intro i v hv
    cases i with
    | zero =>
      simp only [List.getElem?_cons_zero, Option.some.injEq] at hv
      exact ⟨a, q, hv.symm, rfl, h⟩
    | succ i =>
      simp only [List.getElem?_cons_succ] at hv ⊢
      exact ih hv
def spPartLots : Sp := fun vs H Q _ => ∃ (w : Addr) (n : Nat) (L : List (Int × Int)), vs = [.ref w] ∧ GW H w n L ∧ ∀ (t : Addr) (us : List V) (ps : List (Nat × Nat)) (H' : Hp), Same H H' → H t = none → H' t = some (.tup us) → LotsAt H' us ps → Parts L (2 ^ n - 1) ps → Q (.ref t) H'
theorem set_same {H M : Hp} {a : Addr} {o : HO} (h : H a = none) (s : Same H M) : Same H (upd M a o) := fun b u e => by rw [upd_ne (ne_of_none e h)]; exact s _ _ e
section
variable {P : Program} {w0 : World} {K : PySem.W.Frag} {mg : Str → Option Value} {base : Heap}
abbrev nNear : List Str := ["web", "near", "a", "b"]
theorem scNear : FnScope nNear ["web"] (defScope pNear) := ⟨rfl, rfl, rfl, by decide +kernel, rfl, by decide +kernel, by decide +kernel⟩
theorem ok_near {f : Addr} {fd : FuncData} (F : Fun K "near_masks" "near_masks" pNear f fd) : FnOk P w0 K mg base CX0 1 f fd ["web"] spNear := by
  refine F.ok scNear (fun vs H Q E h => ?_) (fun cdv A outer s H vs Q E hr h => ?_)
  · obtain ⟨w, n, L, rfl, _⟩ := h
    rfl
  · obtain ⟨w, n, L, rfl, G, k⟩ := h
    refine ⟨_, pss_cons (ps_set (i := 1) scNear.nd rfl (.inl rfl) (pe_op op_rep (pe_lst (pa_cons pe_int pa_nil)) (pe_ix ix_tup (pv 0) pe_int (fun _ _ => rfl))))
      <| pss_cons (ps_for PassesOwn.never rfl (pi_tup (pe_ix ix_tup (pv 0) pe_int (fun _ _ => rfl))) (pg_tup rfl (pgs_cons (pg_name (i := 2) scNear.nd rfl (.inl rfl)) (pgs_cons (pg_name (i := 3) scNear.nd rfl (.inl rfl)) pgs_nil)))
          (pss_cons (ps_augS (pv 1) (pv 2) KR.get_list (pe_op op_oneN pe_int (pv 3)) iop_orN set_list) <| pss_one (ps_augS (pv 1) (pv 3) KR.get_list (pe_op op_oneN pe_int (pv 2)) iop_orN set_list)))
      <| pss_one (ps_ret (pv 1)), ?_⟩
    obtain ⟨ta, vs, e1, e2, e3⟩ := G.web.ex
    have n2 := G.n2
    have hB := G.bel
    refine ⟨by show 1 ≤ sizeLine; decide, fun l0 hl0 => ?_⟩
    have s0 : Same H (upd H l0 (.lst [.int 0])) := same_new hl0
    refine ⟨_, rfl, w, _, _, _, rfl, rfl, SqT.of (s0 _ _ e1), atI_nat (j := 0) rfl, l0, (n : Int), [.int 0], rfl, rfl, upd_same, by omega, by omega, by simp [sizeLine_eq]; omega, fun p hp => ?_⟩
    have hpH : H p = none := s0.free hp
    have s1 : Same H (upd (upd H l0 (.lst [.int 0])) p (.lst (List.replicate (n : Int).toNat [V.int 0]).flatten)) := s0.trans (same_new hp)
    refine ⟨_, rfl, w, _, _, _, rfl, rfl, SqT.of (s1 _ _ e1), atI_nat (j := 1) rfl, ta, rfl, ⟨_, SqT.of (s1 _ _ e2)⟩, ?_⟩
    refine for_tup (K := K) (a := ta) (xs := vs) (fun i σ M => ∃ (ms : List Nat) (o2 o3 : Option V), σ = [some (.ref w), some (.ref p), o2, o3] ∧ M p = some (.lst (ms.map natV)) ∧ Near (L.take i) n ms ∧ Same H M)
      ⟨List.replicate n 0, none, none, rfl, by rw [upd_same, Int.toNat_natCast, flat_zeros], near_nil n, s1⟩ (fun i σ M _ ⟨_, _, _, _, _, _, s⟩ => SqT.of (s _ _ e2)) ?_ ?_
    · rintro i x σ M hx ⟨ms, o2, o3, rfl, f1, f2, f3⟩
      obtain ⟨b, q, rfl, hq, hb⟩ := e3.get hx
      have bq := hB q (List.mem_of_getElem? hq)
      obtain ⟨q1, q2⟩ := q
      obtain ⟨a1, rfl⟩ : ∃ a1 : Nat, q1 = a1 := ⟨q1.toNat, by have := bq.1; dsimp only at this; omega⟩
      obtain ⟨a2, rfl⟩ : ∃ a2 : Nat, q2 = a2 := ⟨q2.toNat, by have := bq.1; have := bq.2.1; dsimp only at *; omega⟩
      dsimp only at bq
      have lt : a1 < a2 := by omega
      have l2 : a2 < n := by omega
      have len := f2.len
      have ts := take_snoc hq
      refine ⟨b, _, rfl, SqT.of (f3 _ _ hb), rfl, _, _, rfl, _, _, rfl, rfl, ?_⟩
      refine ⟨_, rfl, _, rfl, p, _, _, _, rfl, rfl, f1, by omega, by rw [Int.toNat_natCast]; exact nat_get (by omega), _, rfl, a2, rfl, rfl, by omega, _, _, rfl, rfl, ?_⟩
      refine ⟨p, _, _, a1, rfl, rfl, f1, ixN_n (by rw [List.length_map]; omega), ?_⟩
      have g1 : ∀ x : Nat, (upd M p (.lst ((ms.map natV).set a1 (.int (x : Int))))) p = some (.lst ((ms.set a1 x).map natV)) := fun x => by rw [upd_same, nat_set']
      refine ⟨_, rfl, _, rfl, p, (ms.set a1 (ms.getD a1 0 ||| 2 ^ a2)).map natV, _, _, rfl, rfl, g1 _, by omega, by rw [Int.toNat_natCast]; exact nat_get (by rw [List.length_set]; omega), _, rfl, a1, rfl, rfl, by omega, _, _, rfl, rfl, ?_⟩
      refine ⟨p, (ms.set a1 (ms.getD a1 0 ||| 2 ^ a2)).map natV, _, a2, rfl, rfl, g1 _, ixN_n (by rw [List.length_map, List.length_set]; omega), ?_⟩
      refine ⟨_, _, _, rfl, by rw [upd_same]; exact congrArg (fun z => some (HO.lst z)) (nat_set ..), by rw [ts]; exact near_snoc f2 lt l2, set_same hpH (set_same hpH f3)⟩
    · rintro σ M ⟨ms, o2, o3, rfl, f1, f2, f3⟩
      rw [e3.len, List.take_length] at f2
      exact ⟨_, rfl, k p ms M f3 hpH f1 f2⟩
abbrev nPart : List Str := ["near", "mask", "start", "part", "fresh", "met", "place"]
theorem scPart : FnScope nPart ["near", "mask", "start"] (defScope pPart) := ⟨rfl, rfl, rfl, by decide +kernel, rfl, by decide +kernel, by decide +kernel⟩
def muPart : L2.St → Hp → Nat := fun σ _ => match σ with
  | [_, _, _, some (.int p), some (.int f), _, _] => 2 * (4096 - p.toNat) + (if f = 0 then 0 else 1)
  | _ => 0
theorem ok_part {f fL : Addr} {fd fdL : FuncData} (F : Fun K "part_from" "part_from" pPart f fd) (GL : Dn P w0 K mg base "lot_of" 1 ["mask"] spLotOf fL fdL) : FnOk P w0 K mg base CX0 2 f fd ["near", "mask", "start"] spPart := by
  refine F.ok scPart (fun vs H Q E h => ?_) (fun cdv A outer s H vs Q E hr h => ?_)
  · obtain ⟨l, m, r, n, ms, L, rfl, _⟩ := h
    rfl
  · obtain ⟨l, m, r, n, ms, L, rfl, hl, nr, hn, hB, hm, hr0, k⟩ := h
    refine ⟨_, pss_cons (ps_set (i := 3) scPart.nd rfl (.inl rfl) (pv 2)) <| pss_cons (ps_set (i := 4) scPart.nd rfl (.inl rfl) (pv 2))
      <| pss_cons (ps_while PassesOwn.never (pt_truthK (K0 := K) rfl (pv 4) (by intro _; rfl))
          (pss_cons (ps_set (i := 5) scPart.nd rfl (.inl rfl) pe_int)
          <| pss_cons (ps_for PassesOwn.never rfl (pi_tup (pe_call GL.ok hr rfl GL.g GL.kp GL.b .nil pass0 (pa_cons (pv 4) pa_nil))) (pg_name (i := 6) scPart.nd rfl (.inl rfl)) (pss_one (ps_aug (i := 5) scPart.nd rfl (.inl rfl) (pe_ix ix_list (pv 0) (pv 6) (fun _ _ => rfl)) iop_orN)))
          <| pss_cons (ps_set (i := 4) scPart.nd rfl (.inl rfl) (pe_op op_andN (pv 5) (pe_op op_xorN (pv 1) (pv 3))))
          <| pss_one (ps_aug (i := 3) scPart.nd rfl (.inl rfl) (pv 4) iop_orN)))
      <| pss_one (ps_ret (pv 3)), ?_⟩
    have m12 : m < 4096 := Nat.lt_of_lt_of_le hm (Nat.pow_le_pow_right (by decide) hn)
    refine ⟨_, rfl, _, rfl, ?_⟩
    refine while_ex (fun σ M => ∃ (part fresh : Nat) (o5 o6 : Option V), σ = [some (.ref l), some (.int (m : Int)), some (.int ((2 ^ r : Nat) : Int)), some (.int (part : Int)), some (.int (fresh : Int)), o5, o6] ∧ Same H M ∧ Flood L m r part fresh) muPart ⟨_, _, none, none, rfl, Same.refl _, Flood.start hr0⟩ ?_ ?_
    · rintro σ M ⟨part, fresh, o5, o6, rfl, s1, fl⟩
      obtain ⟨lp, lf⟩ := fl.lt m12
      refine ⟨_, rfl, _, rfl, ?_⟩
      by_cases h0 : fresh = 0
      · subst h0
        exact ⟨_, rfl, k part M s1 fl.done⟩
      · have hz : ((fresh : Int) != 0) = true := by simp [h0]
        rw [hz]
        refine iteT ?_
        refine ⟨_, rfl, fresh, rfl, lf, fun t M1 s2 ht et => ⟨t, rfl, ⟨_, SqT.of et⟩, ?_⟩⟩
        have s12 := s1.trans s2
        have fb : ∀ i, i ∈ lotN fresh ↔ fresh.testBit i = true := fun i => lotN_mem lf
        refine for_tup (K := K) (a := t) (xs := (lotN fresh).map natV) (fun i σ N => ∃ (met : Nat) (o6 : Option V), σ = [some (.ref l), some (.int (m : Int)), some (.int ((2 ^ r : Nat) : Int)), some (.int (part : Int)), some (.int (fresh : Int)), some (.int (met : Int)), o6] ∧ N = M1 ∧ ∀ c, met.testBit c = true ↔ ∃ b ∈ (lotN fresh).take i, Adj L b c)
          ⟨0, o6, rfl, rfl, fun c => by simp⟩ (fun i σ N _ ⟨_, _, _, e, _⟩ => by rw [e]; exact SqT.of et) ?_ ?_
        · rintro i x σ N hx ⟨met, o6, rfl, rfl, hmet⟩
          rw [List.getElem?_map] at hx
          obtain ⟨b, hb, rfl⟩ := Option.map_eq_some_iff.mp hx
          have hbf : fresh.testBit b = true := (fb b).mp (List.mem_of_getElem? hb)
          have hbn : b < n := bit_lt hm ((fl.rch b (fl.fr b hbf)).bit)
          have len := nr.len
          refine ⟨_, rfl, _, rfl, _, rfl, l, _, _, _, rfl, rfl, SqL.of (s12 _ _ hl), atI_nat (nat_get (by omega)), _, _, rfl, rfl, ?_⟩
          refine ⟨_, _, rfl, rfl, fun c => ?_⟩
          rw [Nat.testBit_or, Bool.or_eq_true, hmet, nr.bit b c hbn, decide_eq_true_eq, take_snoc hb]
          constructor
          · rintro (⟨d, hd, ad⟩ | ad)
            · exact ⟨d, List.mem_append_left _ hd, ad⟩
            · exact ⟨b, List.mem_append_right _ (List.mem_singleton.mpr rfl), ad⟩
          · rintro ⟨d, hd, ad⟩
            rcases List.mem_append.mp hd with hd | hd
            · exact .inl ⟨d, hd, ad⟩
            · rw [List.mem_singleton.mp hd] at ad
              exact .inr ad
        · rintro σ N ⟨met, o6, rfl, rfl, hmet⟩
          rw [List.length_map, List.take_length] at hmet
          obtain ⟨f1, f2⟩ := fl.turn (met := met) fun c => (hmet c).trans ⟨fun ⟨b, hb, ab⟩ => ⟨b, (fb b).mp hb, ab⟩, fun ⟨b, hb, ab⟩ => ⟨b, (fb b).mpr hb, ab⟩⟩
          obtain ⟨g1, g2⟩ := f1.lt m12
          refine ⟨_, rfl, _, rfl, _, rfl, _, _, rfl, rfl, _, _, rfl, rfl, ?_⟩
          refine ⟨_, rfl, _, rfl, _, _, rfl, rfl, ?_⟩
          refine ⟨⟨_, _, _, _, rfl, s12, f1⟩, ?_⟩
          show 2 * (4096 - (((part ||| (met &&& (m ^^^ part)) : Nat) : Int)).toNat) + (if (((met &&& (m ^^^ part) : Nat) : Int)) = 0 then 0 else 1) < 2 * (4096 - ((part : Int)).toNat) + (if ((fresh : Int)) = 0 then 0 else 1)
          rw [Int.toNat_natCast, Int.toNat_natCast, if_neg (show ¬ (fresh : Int) = 0 by omega)]
          by_cases z : met &&& (m ^^^ part) = 0
          · rw [z, Nat.or_zero]
            simp
          · have := or_grows f2 z
            rw [if_neg (by omega)]
            omega
    · rintro σ M Q Q' h ⟨v, e, x, t, q⟩
      exact ⟨v, e, x, t, h _ _ q⟩
abbrev nParts : List Str := ["near", "mask", "parts", "left", "part"]
theorem scParts : FnScope nParts ["near", "mask"] (defScope pParts) := ⟨rfl, rfl, rfl, by decide +kernel, rfl, by decide +kernel, by decide +kernel⟩
def muParts : L2.St → Hp → Nat := fun σ _ => match σ with
  | [_, _, _, some (.int l), _] => l.toNat
  | _ => 0
theorem ok_parts {f fP : Addr} {fd fdP : FuncData} (F : Fun K "part_masks" "part_masks" pParts f fd) (GP : Dn P w0 K mg base "part_from" 2 ["near", "mask", "start"] spPart fP fdP) : FnOk P w0 K mg base CX0 3 f fd ["near", "mask"] spParts := by
  refine F.ok scParts (fun vs H Q E h => ?_) (fun cdv A outer s H vs Q E hr h => ?_)
  · obtain ⟨l, m, n, ms, L, rfl, _⟩ := h
    rfl
  · obtain ⟨l, m, n, ms, L, rfl, hl, nr, hn, hB, hm, k⟩ := h
    refine ⟨_, pss_cons (ps_set (i := 2) scParts.nd rfl (.inl rfl) (pe_lst pa_nil)) <| pss_cons (ps_set (i := 3) scParts.nd rfl (.inl rfl) (pv 1))
      <| pss_cons (ps_while PassesOwn.never (pt_truthK (K0 := K) rfl (pv 3) (by intro _; rfl))
          (pss_cons (ps_set (i := 4) scParts.nd rfl (.inl rfl) (pe_call GP.ok hr rfl GP.g GP.kp GP.b .nil pass0 (pa_cons (pv 0) (pa_cons (pv 3) (pa_cons (pe_op op_low (pv 3) (pe_un un_neg (pv 3))) pa_nil)))))
          <| pss_cons (ps_expr (pe_bm PySem.F.plainAttrs_list PySem.F.slot_list_append PySem.F.type_list_append mt_append (pv 2) (pa_cons (pv 4) pa_nil)))
          <| pss_one (ps_aug (i := 3) scParts.nd rfl (.inl rfl) (pv 4) iop_xorN)))
      <| pss_one (ps_ret (pv 2)), ?_⟩
    have p12 : 2 ^ n ≤ 4096 := Nat.pow_le_pow_right (n := 2) (by decide) hn
    refine ⟨by show 0 ≤ sizeLine; exact Nat.zero_le _, fun a ha => ?_⟩
    refine ⟨_, rfl, ?_⟩
    refine while_ex (fun σ M => ∃ (left : Nat) (ps : List (Nat × Nat)) (o4 : Option V), σ = [some (.ref l), some (.int (m : Int)), some (.ref a), some (.int (left : Int)), o4] ∧ M a = some (.lst (ps.map fun q => natV q.2)) ∧ Same H M ∧ Some_ L m left ps ∧ left < 2 ^ n) muParts ⟨m, [], none, rfl, upd_same, same_new ha, Some_.start L m, hm⟩ ?_ ?_
    · rintro σ M ⟨left, ps, o4, rfl, ea, s1, S, lt⟩
      refine ⟨_, rfl, _, rfl, ?_⟩
      by_cases h0 : left = 0
      · subst h0
        exact ⟨_, rfl, k a ps M s1 ha ea S.done⟩
      · have hz : ((left : Int) != 0) = true := by simp [h0]
        rw [hz]
        refine iteT ?_
        refine ⟨_, rfl, _, rfl, _, rfl, _, rfl, _, rfl, left, rfl, rfl, by omega, h0, fun r r2 r3 r4 _ => ?_⟩
        refine ⟨l, left, r, n, ms, L, rfl, s1 _ _ hl, nr, hn, hB, lt, r2, fun p M1 s2 ip => ?_⟩
        obtain ⟨S1, dec⟩ := S.turn r2 r3 ip
        have few := inc_few (n := n) (Nat.zero_le _) S.inc fun q hq => ⟨Nat.zero_le _, bit_lt hm (S.part q hq).1⟩
        refine ⟨_, rfl, .inl ⟨rfl, _, SqL.of (s2 _ _ ea)⟩, _, rfl, a, _, _, rfl, rfl, s2 _ _ ea, by rw [List.length_map, sizeLine_eq]; omega, ?_⟩
        refine ⟨_, rfl, _, rfl, _, _, rfl, rfl, ?_⟩
        refine ⟨⟨_, ps ++ [(r, p)], _, rfl, by rw [upd_same, List.map_append] <;> rfl, set_same ha (s1.trans s2), S1, by show left ^^^ p < 2 ^ n; omega⟩, ?_⟩
        show (((left ^^^ p : Nat) : Int)).toNat < ((left : Int)).toNat
        rw [Int.toNat_natCast, Int.toNat_natCast]
        exact dec
    · rintro σ M Q Q' h ⟨v, e, x, t, q⟩
      exact ⟨v, e, x, t, h _ _ q⟩
abbrev nPartLots : List Str := ["web", "part"]
theorem scPartLots : FnScope nPartLots ["web"] (defScope pPartLots) := ⟨rfl, rfl, rfl, by decide +kernel, rfl, by decide +kernel, by decide +kernel⟩
theorem ok_partLots {f fL fP fN fF : Addr} {fd fdL fdP fdN fdF : FuncData} (F : Fun K "part_lots" "part_lots" pPartLots f fd) (T : Bj mg) (GL : Dn P w0 K mg base "lot_of" 1 ["mask"] spLotOf fL fdL) (GP : Dn P w0 K mg base "part_masks" 3 ["near", "mask"] spParts fP fdP)
    (GN : Dn P w0 K mg base "near_masks" 1 ["web"] spNear fN fdN) (GF : Dn P w0 K mg base "full_mask" 1 ["web"] spFull fF fdF) : FnOk P w0 K mg base CX0 4 f fd ["web"] spPartLots := by
  refine F.ok scPartLots (fun vs H Q E h => ?_) (fun cdv A outer s H vs Q E hr h => ?_)
  · obtain ⟨w, n, L, rfl, _⟩ := h
    rfl
  · obtain ⟨w, n, L, rfl, G, k⟩ := h
    have hr1 : Room 1 _ := hr.mono (by decide)
    refine ⟨_, pss_one (ps_ret (pe_callTy call_tuple_of (by rfl) T.tuple (by decide +kernel) (pa_cons (pe_lc (own := [("part", 1)]) (g := gName 1) (tt := tYes) rfl scPartLots.nd
      (pi_list (pe_call GP.ok hr rfl GP.g GP.kp GP.b .nil pass0 (pa_cons (pe_call GN.ok hr1 rfl GN.g GN.kp GN.b .nil pass0 (pa_cons (pv 0) pa_nil)) (pa_cons (pe_call GF.ok hr1 rfl GF.g GF.kp GF.b .nil pass0 (pa_cons (pv 0) pa_nil)) pa_nil))))
      (blkOk_by (N := nPartLots) (sc := defScope pPartLots) (by decide +kernel)) (fun _ _ _ _ _ => pg_name (i := 1) scPartLots.nd rfl (Or.inl rfl)) (fun _ _ _ _ _ => pts_nil) (fun _ _ _ _ _ => pe_call GL.ok hr1 rfl GL.g GL.kp GL.b .nil pass0 (pa_cons (pv 1) pa_nil))) pa_nil))), ?_⟩
    have n2 := G.n2
    have p12 : 2 ^ n ≤ 4096 := Nat.pow_le_pow_right (n := 2) (by decide) n2
    have pos : 0 < 2 ^ n := Nat.two_pow_pos n
    refine ⟨_, rfl, w, n, L, rfl, G, fun l ms M s1 hl el nr => ?_⟩
    refine ⟨_, rfl, w, n, L, rfl, G.same s1, l, 2 ^ n - 1, n, ms, L, rfl, el, nr, n2, G.bel, by omega, fun a ps M1 s2 ha ea pt => ⟨a, rfl, ⟨_, SqL.of ea⟩, fun Da hD => ?_⟩⟩
    have s12 := s1.trans s2
    have few := inc_few (n := n) (Nat.zero_le _) pt.inc fun q hq => ⟨Nat.zero_le _, by have := (pt.part q hq).1; rw [full_bit, decide_eq_true_eq] at this; exact this⟩
    refine lc_list (K := K) (a := a) (xs := ps.map fun q => natV q.2) (fun i N => ∃ us, N Da = some (.lst us) ∧ LotsAt N us (ps.take i) ∧ N a = some (.lst (ps.map fun q => natV q.2)) ∧ Same M1 N) ⟨[], upd_same, .nil, by rw [upd_ne (ne_of_none ea hD)]; exact ea, same_new hD⟩ (fun i N _ ⟨_, _, _, e, _⟩ => SqL.of e) ?_ ?_
    · rintro i x N hx ⟨us, f1, f2, f3, f4⟩
      rw [List.getElem?_map] at hx
      obtain ⟨q, hq, rfl⟩ := Option.map_eq_some_iff.mp hx
      have hqp := pt.part q (List.mem_of_getElem? hq)
      have lq : q.2 < 4096 := by
        have : q.2 ≤ 2 ^ n - 1 := sub_le fun j z => ((hqp.2.1 j).mp z).bit
        omega
      have tl := f2.len
      rw [List.length_take] at tl
      refine ⟨rfl, ?_⟩
      unfold tYes
      refine iteT ⟨_, rfl, q.2, rfl, lq, fun t N1 s3 ht et => ⟨us, s3 _ _ f1, by rw [sizeLine_eq]; omega, _, upd_same, ?_, by rw [upd_ne (ne_of_none ea hD)]; exact s3 _ _ f3, set_same hD (f4.trans s3)⟩⟩
      rw [take_snoc hq]
      exact ((f2.mono (same_tup s3)).app (.cons et .nil)).mono (upd_tup (s3 _ _ f1))
    · rintro N ⟨us, f1, f2, f3, f4⟩
      rw [List.length_map, List.take_length] at f2
      exact ⟨Da, us, rfl, .inl ⟨SqL.of f1, fun t ht => k t us ps _ ((s12.trans f4).trans (same_new ht)) ((s12.trans f4).free ht) upd_same (f2.mono (new_tup ht)) pt⟩⟩
end
end K0

set_option Elab.async false
set_option linter.all false
set_option maxRecDepth 100000
set_option maxHeartbeats 8000000
/-! Ways from a place. -/
namespace K0
open PySem PySem.Spec L2
open PyProof.Rows hiding St
abbrev pWays : Stmt := top 22
def ky (i : Nat) : Key := .inl (i : Int)
theorem ky_inj {i j : Nat} (h : ky i = ky j) : i = j := by
  have := Sum.inl.inj h
  omega
def lefts (kvs : List (Key × V)) (n : Nat) : Nat := ((List.range n).filter fun i => (valV kvs (ky i)).isNone).length
theorem lefts_put {kvs : List (Key × V)} {n j : Nat} {v : V} (hj : j < n) (h : valV kvs (ky j) = none) : lefts (kvs ++ [(ky j, v)]) n + 1 = lefts kvs n := by
  unfold lefts
  have e : ∀ l : List Nat, l.Nodup → (l.filter fun i => (valV (kvs ++ [(ky j, v)]) (ky i)).isNone).length + (if j ∈ l then 1 else 0) = (l.filter fun i => (valV kvs (ky i)).isNone).length := fun l => by
    induction l with
    | nil => intro _; rfl
    | cons i l ih =>
      intro nd
      obtain ⟨n1, n2⟩ := List.nodup_cons.mp nd
      have := ih n2
      rw [List.filter_cons, List.filter_cons, valV_snoc _ _ _ _ h]
      by_cases ij : i = j
      · subst ij
        rw [if_pos rfl, h, if_pos (List.mem_cons_self ..)]
        rw [if_neg n1] at this
        simp only [Option.isNone_some, Option.isNone_none, if_true, Bool.false_eq_true, if_false, List.length_cons]
        omega
      · rw [if_neg (fun z => ij (ky_inj z))]
        have m : (j ∈ i :: l) ↔ j ∈ l := by rw [List.mem_cons]; exact ⟨fun z => z.resolve_left fun y => ij y.symm, .inr⟩
        have mm : (if j ∈ i :: l then 1 else 0) = if j ∈ l then 1 else 0 := by by_cases q : j ∈ l <;> simp [q, m]
        rw [mm]
        cases (valV kvs (ky i)).isNone
        · simpa using this
        · simp only [if_true, List.length_cons]
          omega
  have := e (List.range n) List.nodup_range
  rw [if_pos (List.mem_range.mpr hj)] at this
  exact this
/-- what is kept of a way: ints -/
structure WV (M : Hp) (n : Nat) (kvs : List (Key × V)) : Prop where
  mem : ∀ kv ∈ kvs, ∃ i : Nat, kv.1 = ky i ∧ i < n ∧ ∃ (t : Addr) (ns : List Int), kv.2 = .ref t ∧ M t = some (.tup (ns.map V.int)) ∧ ns.length ≤ kvs.length
  len : kvs.length + lefts kvs n ≤ n + 1
theorem valV_mem {kvs : List (Key × V)} {k : Key} {v : V} (h : valV kvs k = some v) : (k, v) ∈ kvs := by
  induction kvs with
  | nil => cases h
  | cons p r ih =>
    by_cases e : p.1 = k
    · rw [valV_pos e] at h
      cases h
      rw [← e]
      exact List.mem_cons_self ..
    · rw [valV_neg e] at h
      exact List.mem_cons_of_mem _ (ih h)
theorem WV.vals {M : Hp} {n : Nat} {kvs : List (Key × V)} (w : WV M n kvs) (k : Key) (v : V) (h : valV kvs k = some v) : ∃ i : Nat, k = ky i ∧ i < n ∧ ∃ (t : Addr) (ns : List Int), v = .ref t ∧ M t = some (.tup (ns.map V.int)) ∧ ns.length ≤ kvs.length := w.mem (k, v) (valV_mem h)
theorem WV.mono {M M' : Hp} {n : Nat} {kvs : List (Key × V)} (w : WV M n kvs) (s : ∀ a x, M a = some (.tup x) → M' a = some (.tup x)) : WV M' n kvs :=
  ⟨fun kv h => let ⟨i, e, l, t, ns, ev, et, ln⟩ := w.mem kv h; ⟨i, e, l, t, ns, ev, s _ _ et, ln⟩, w.len⟩
def isK (kvs : List (Key × V)) (i : Nat) : Prop := (valV kvs (ky i)).isSome = true
theorem WV.lt {M : Hp} {n : Nat} {kvs : List (Key × V)} (w : WV M n kvs) {i : Nat} (h : isK kvs i) : i < n := by
  obtain ⟨v, hv⟩ := Option.isSome_iff_exists.mp h
  obtain ⟨j, e, l, _⟩ := w.vals _ _ hv
  rw [ky_inj e]
  exact l
theorem WV.put {M : Hp} {n j : Nat} {kvs : List (Key × V)} {t : Addr} {ns : List Int} (w : WV M n kvs) (hj : j < n) (h : valV kvs (ky j) = none) (et : M t = some (.tup (ns.map V.int))) (ln : ns.length ≤ kvs.length + 1) : WV M n (kvs ++ [(ky j, .ref t)]) := by
  refine ⟨fun kv hv => ?_, ?_⟩
  · rcases List.mem_append.mp hv with hv | hv
    · obtain ⟨i, e, l, t, ns, ev, et, ln⟩ := w.mem kv hv
      exact ⟨i, e, l, t, ns, ev, et, by rw [List.length_append]; omega⟩
    · rw [List.mem_singleton.mp hv]
      exact ⟨j, rfl, hj, t, ns, rfl, et, by rw [List.length_append]; exact ln⟩
  · have := lefts_put (v := .ref t) hj h
    have := w.len
    rw [List.length_append, List.length_singleton]
    omega
theorem isK_put {kvs : List (Key × V)} {j i : Nat} {v : V} (h : valV kvs (ky j) = none) : isK (kvs ++ [(ky j, v)]) i ↔ isK kvs i ∨ i = j := by
  unfold isK
  rw [valV_snoc _ _ _ _ h]
  by_cases e : i = j
  · subst e
    simp
  · rw [if_neg fun z => e (ky_inj z)]
    simp [e]
/-- the ways that are found -/
structure WayOk (M : Hp) (L : List (Int × Int)) (n r : Nat) (kvs : List (Key × V)) : Prop where
  wv : WV M n kvs
  root : isK kvs r
  cl : ∀ i j, isK kvs i → Adj L i j → isK kvs j
/-- while they are sought -/
structure WayAt (L : List (Int × Int)) (n r : Nat) (kvs : List (Key × V)) (ws : List Nat) : Prop where
  root : isK kvs r
  sub : ∀ i ∈ ws, isK kvs i
  cl : ∀ i j, isK kvs i → Adj L i j → isK kvs j ∨ i ∈ ws
/-- while the ties of one place are looked at -/
structure WayIn (M : Hp) (L : List (Int × Int)) (n r pl i mu : Nat) (kvs : List (Key × V)) (ws : List Nat) : Prop where
  wv : WV M n kvs
  root : isK kvs r
  me : isK kvs pl
  sub : ∀ i ∈ ws, isK kvs i
  cl : ∀ i j, isK kvs i → Adj L i j → isK kvs j ∨ (i ∈ ws ∨ i = pl)
  here : ∀ j, Adj (L.take i) pl j → isK kvs j
  mu : 2 * lefts kvs n + ws.length ≤ mu
theorem WayIn.done {M : Hp} {L : List (Int × Int)} {n r pl mu : Nat} {kvs : List (Key × V)} {ws : List Nat} (w : WayIn M L n r pl L.length mu kvs ws) : WV M n kvs ∧ WayAt L n r kvs ws := by
  refine ⟨w.wv, w.root, w.sub, fun i j hi a => ?_⟩
  rcases w.cl i j hi a with z | z | z
  · exact .inl z
  · exact .inr z
  · subst z
    exact .inl (w.here j (by rw [List.take_length]; exact a))
theorem adj_snoc {L : List (Int × Int)} {q : Int × Int} {a b : Nat} : Adj (L ++ [q]) a b ↔ Adj L a b ∨ Adj [q] a b := by
  unfold Adj
  simp only [List.mem_append]
  constructor
  · rintro ((z | z) | (z | z))
    · exact .inl (.inl z)
    · exact .inr (.inl z)
    · exact .inl (.inr z)
    · exact .inr (.inr z)
  · rintro ((z | z) | (z | z))
    · exact .inl (.inl z)
    · exact .inr (.inl z)
    · exact .inl (.inr z)
    · exact .inr (.inr z)
theorem adj_one {a1 a2 pl j : Nat} (h : Adj [((a1 : Int), (a2 : Int))] pl j) : (pl : Int) ∈ ([(a1 : Int), (a2 : Int)] : List Int) ∧ ((a1 : Int) + a2 - pl) = j := by
  unfold Adj at h
  simp only [List.mem_singleton, Prod.mk.injEq] at h
  simp only [List.mem_cons, List.not_mem_nil, or_false]
  omega
theorem WayIn.skip {M : Hp} {L : List (Int × Int)} {n r pl i mu a1 a2 : Nat} {kvs : List (Key × V)} {ws : List Nat} (w : WayIn M L n r pl i mu kvs ws) (hq : L[i]? = some ((a1 : Int), (a2 : Int))) (h : ∀ j, Adj [((a1 : Int), (a2 : Int))] pl j → isK kvs j) : WayIn M L n r pl (i + 1) mu kvs ws :=
  ⟨w.wv, w.root, w.me, w.sub, w.cl, fun j z => by rw [take_snoc hq, adj_snoc] at z; exact z.elim (w.here j) (h j), w.mu⟩
theorem WayIn.put {M M' : Hp} {L : List (Int × Int)} {n r pl i mu a1 a2 j : Nat} {kvs : List (Key × V)} {ws : List Nat} {t : Addr} {ns : List Int} (w : WayIn M L n r pl i mu kvs ws) (hq : L[i]? = some ((a1 : Int), (a2 : Int))) (hj : ((a1 : Int) + a2 - pl) = j) (jn : j < n) (hv : valV kvs (ky j) = none)
    (s : ∀ a x, M a = some (.tup x) → M' a = some (.tup x)) (et : M' t = some (.tup (ns.map V.int))) (ln : ns.length ≤ kvs.length + 1) : WayIn M' L n r pl (i + 1) mu (kvs ++ [(ky j, .ref t)]) (ws ++ [j]) := by
  have up : ∀ i, isK kvs i → isK (kvs ++ [(ky j, .ref t)]) i := fun i h => (isK_put hv).mpr (.inl h)
  refine ⟨(w.wv.mono s).put jn hv et ln, up _ w.root, up _ w.me, fun i hi => ?_, fun i k hi a => ?_, fun k z => ?_, ?_⟩
  · rcases List.mem_append.mp hi with z | z
    · exact up i (w.sub i z)
    · exact (isK_put hv).mpr (.inr (List.mem_singleton.mp z))
  · rcases (isK_put hv).mp hi with z | z
    · rcases w.cl i k z a with y | y | y
      · exact .inl (up k y)
      · exact .inr (.inl (List.mem_append_left _ y))
      · exact .inr (.inr y)
    · exact .inr (.inl (List.mem_append_right _ (List.mem_singleton.mpr z)))
  · rw [take_snoc hq, adj_snoc] at z
    rcases z with z | z
    · exact up k (w.here k z)
    · have := (adj_one z).2
      exact (isK_put hv).mpr (.inr (by omega))
  · have := lefts_put (v := .ref t) jn hv
    have := w.mu
    rw [List.length_append, List.length_singleton]
    omega
def spWays : Sp := fun vs H Q _ => ∃ (w : Addr) (n r : Nat) (L : List (Int × Int)), vs = [.ref w, .int (r : Int)] ∧ GW H w n L ∧ r < n ∧ ∀ (d : Addr) (kvs : List (Key × V)) (H' : Hp), Same H H' → H d = none → H' d = some (.dK kvs) → WayOk H' L n r kvs → Q (.ref d) H'
def muWays (n : Nat) : L2.St → Hp → Nat := fun σ M => match σ with
  | [_, _, some (.ref d), some (.ref q), _, _, _, _] => match M d, M q with
    | some (.dK kvs), some (.lst ws) => 2 * lefts kvs n + ws.length
    | _, _ => 0
  | _ => 0
section
variable {P : Program} {w0 : World} {K : PySem.W.Frag} {mg : Str → Option Value} {base : Heap}
abbrev nWays : List Str := ["web", "root", "ways", "waiting", "place", "number", "a", "b"]
theorem scWays : FnScope nWays ["web", "root"] (defScope pWays) := ⟨rfl, rfl, rfl, by decide +kernel, rfl, by decide +kernel, by decide +kernel⟩
theorem ok_ways {f : Addr} {fd : FuncData} (F : Fun K "ways_from" "ways_from" pWays f fd) (T : Bj mg) : FnOk P w0 K mg base CX0 1 f fd ["web", "root"] spWays := by
  refine F.ok scWays (fun vs H Q E h => ?_) (fun cdv A outer s H vs Q E hr h => ?_)
  · obtain ⟨w, n, r, L, rfl, _⟩ := h
    rfl
  · obtain ⟨w, n, r, L, rfl, G, hrn, k⟩ := h
    have hu := hu_of hr
    refine ⟨_, pss_cons (ps_set (i := 2) scWays.nd rfl (.inl rfl) (pe_disp (pps_cons (pv 1) (pe_tup pa_nil) pps_nil) (by rfl) (by rfl) (fun z => by cases z) (by decide)))
      <| pss_cons (ps_set (i := 3) scWays.nd rfl (.inl rfl) (pe_lst (pa_cons (pv 1) pa_nil)))
      <| pss_cons (ps_while PassesOwn.never (pt_truthK (K0 := K) rfl (pv 3) (by intro _; rfl))
          (pss_cons (ps_set (i := 4) scWays.nd rfl (.inl rfl) (pe_bm0 PySem.F.plainAttrs_list PySem.F.slot_list_pop PySem.F.type_list_pop mt_pop (pv 3)))
          <| pss_one (ps_for PassesOwn.never rfl (KR.pi_enumT (by rfl) T.enu (pa_cons (pe_ix ix_tup (pv 0) pe_int (fun _ _ => rfl)) pa_nil))
              (pg_tup rfl (pgs_cons (pg_name (i := 5) scWays.nd rfl (.inl rfl)) (pgs_cons (pg_tup rfl (pgs_cons (pg_name (i := 6) scWays.nd rfl (.inl rfl)) (pgs_cons (pg_name (i := 7) scWays.nd rfl (.inl rfl)) pgs_nil))) pgs_nil)))
              (pss_one (ps_if (PW.pt (pw_and (pt_cmpR (show OpR _ (compareOp .In) (rIn K false) from op_in_seq) (pv 4) (pe_tup (pa_cons (pv 6) (pa_cons (pv 7) pa_nil))) (by rfl))
                    (pw_and1 (pt_cmp (pc_dnotin hu (pe_op op_sub (pe_op op_add (pv 6) (pv 7)) (pv 4)) (pv 2))))))
                  (pss_cons (ps_dput hu (pv 2) (pe_op op_sub (pe_op op_add (pv 6) (pv 7)) (pv 4)) (pe_op op_catA (pe_dget hu (pv 2) (pv 4) (fun _ _ => rfl)) (pe_tup (pa_cons (pv 5) pa_nil))) rfl)
                  <| pss_one (ps_expr (pe_bm PySem.F.plainAttrs_list PySem.F.slot_list_append PySem.F.type_list_append mt_append (pv 3) (pa_cons (pe_op op_sub (pe_op op_add (pv 6) (pv 7)) (pv 4)) pa_nil)))) pss_nil)))))
      <| pss_one (ps_ret (pv 2)), ?_⟩
    obtain ⟨ta, vs, e1, e2, e3⟩ := G.web.ex
    have n2 := G.n2
    have hB := G.bel
    have len := e3.len
    have few := G.few
    -- the dict
    refine fun d hd => ?_
    refine ⟨_, rfl, by show 0 ≤ sizeLine; exact Nat.zero_le _, fun t0 ht0 => ?_⟩
    refine ⟨by rw [upd_ne (ne_of_none upd_same ht0)]; exact upd_same, [(ky r, .ref t0)], rfl, by show 1 ≤ 15; decide, ?_⟩
    have nd0 : d ≠ t0 := ne_of_none upd_same ht0
    have hH2 : Same H (upd (upd H d (.dK [])) t0 (.tup [])) := (same_new hd).trans (same_new ht0)
    have em : mergeK [] [(ky r, V.ref t0)] = [(ky r, .ref t0)] := rfl
    rw [em]
    have hH3 : Same H (upd (upd (upd H d (.dK [])) t0 (.tup [])) d (.dK [(ky r, .ref t0)])) := set_same hd hH2
    have et0 : (upd (upd (upd H d (.dK [])) t0 (.tup [])) d (.dK [(ky r, .ref t0)])) t0 = some (.tup []) := by rw [upd_ne nd0.symm, upd_same]
    have ed0 : (upd (upd (upd H d (.dK [])) t0 (.tup [])) d (.dK [(ky r, .ref t0)])) d = some (.dK [(ky r, .ref t0)]) := upd_same
    generalize upd (upd (upd H d (.dK [])) t0 (.tup [])) d (.dK [(ky r, .ref t0)]) = M0 at hH3 et0 ed0 ⊢
    refine ⟨_, rfl, by show 1 ≤ sizeLine; decide, fun q hq => ?_⟩
    have hqH : H q = none := hH3.free hq
    have ndq : d ≠ q := ne_of_none ed0 hq
    have wv0 : WV (upd M0 q (.lst [natV r])) n [(ky r, .ref t0)] := by
      refine ⟨fun kv hv => ?_, ?_⟩
      · rw [List.mem_singleton.mp hv]
        exact ⟨r, rfl, hrn, t0, [], rfl, by rw [upd_ne (ne_of_none et0 hq)]; exact et0, Nat.zero_le _⟩
      · have : lefts [(ky r, V.ref t0)] n ≤ n := by
          unfold lefts
          refine Nat.le_trans (List.length_filter_le _ _) ?_
          rw [List.length_range]
          exact Nat.le_refl _
        rw [List.length_singleton]
        omega
    have isr : ∀ i, isK [(ky r, V.ref t0)] i ↔ i = r := fun i => by
      unfold isK
      by_cases e : i = r
      · subst e
        rw [valV_pos rfl]
        simp
      · rw [valV_neg (fun z => e (ky_inj z.symm))]
        simp [e, valV_nil]
    have mu25 : 2 * lefts [(ky r, V.ref t0)] n + [r].length ≤ 25 := by
      have : lefts [(ky r, V.ref t0)] n ≤ n := by
        unfold lefts
        refine Nat.le_trans (List.length_filter_le _ _) ?_
        rw [List.length_range]
        exact Nat.le_refl _
      rw [List.length_singleton]
      omega
    refine while_ex (fun σ M => ∃ (kvs : List (Key × V)) (ws : List Nat) (o4 o5 o6 o7 : Option V), σ = [some (.ref w), some (.int (r : Int)), some (.ref d), some (.ref q), o4, o5, o6, o7] ∧ M d = some (.dK kvs) ∧ M q = some (.lst (ws.map natV)) ∧ Same H M ∧ WV M n kvs ∧ WayAt L n r kvs ws ∧ 2 * lefts kvs n + ws.length ≤ 25) (muWays n)
      ⟨_, [r], none, none, none, none, rfl, by rw [upd_ne ndq]; exact ed0, upd_same, hH3.trans (same_new hq), wv0, ⟨(isr r).mpr rfl, fun i hi => (isr i).mpr (List.mem_singleton.mp hi), fun i j hi _ => .inr (List.mem_singleton.mpr ((isr i).mp hi))⟩, mu25⟩ ?_ ?_
    · rintro σ M ⟨kvs, ws, o4, o5, o6, o7, rfl, f1, f2, f3, f4, f5, f6⟩
      have mu0 : muWays n [some (.ref w), some (.int (r : Int)), some (.ref d), some (.ref q), o4, o5, o6, o7] M = 2 * lefts kvs n + ws.length := by
        show (match M d, M q with | some (.dK kvs), some (.lst ws) => 2 * lefts kvs n + ws.length | _, _ => 0) = _
        rw [f1, f2]
        show _ + (ws.map natV).length = _
        rw [List.length_map]
      rw [mu0]
      refine ⟨_, rfl, _, .inl ⟨_, SqL.of f2, rfl⟩, ?_⟩
      by_cases h0 : ws = []
      · subst h0
        exact ⟨_, rfl, k d kvs M f3 hd f1 ⟨f4, f5.root, fun i j hi a => (f5.cl i j hi a).resolve_right (fun z => nomatch z)⟩⟩
      · obtain ⟨ws', pl, rfl⟩ : ∃ ws' pl, ws = ws' ++ [pl] := ⟨ws.dropLast, ws.getLast h0, (List.dropLast_concat_getLast h0).symm⟩
        have hz : (!((ws' ++ [pl]).map natV).isEmpty) = true := by simp
        rw [hz]
        refine iteT ?_
        have hpl : isK kvs pl := f5.sub pl (List.mem_append_right _ (List.mem_singleton.mpr rfl))
        have hpn := f4.lt hpl
        refine ⟨_, rfl, .inl ⟨rfl, _, SqL.of f2⟩, q, _, natV pl, rfl, rfl, f2, by rw [List.map_append, List.length_append]; simp, ?_⟩
        have f2' : (upd M q (.lst ((ws' ++ [pl]).map natV).dropLast)) q = some (.lst (ws'.map natV)) := by rw [upd_same, List.map_append, List.map_singleton, List.dropLast_concat]
        have f1' : (upd M q (.lst ((ws' ++ [pl]).map natV).dropLast)) d = some (.dK kvs) := by rw [upd_ne ndq]; exact f1
        have f3' : Same H (upd M q (.lst ((ws' ++ [pl]).map natV).dropLast)) := set_same hqH f3
        have f4' : WV (upd M q (.lst ((ws' ++ [pl]).map natV).dropLast)) n kvs := f4.mono (upd_tup f2)
        have gW0 : 2 * lefts kvs n + ws'.length ≤ 1000 := by
          rw [List.length_append, List.length_singleton] at f6
          omega
        generalize upd M q (.lst ((ws' ++ [pl]).map natV).dropLast) = M1 at f1' f2' f3' f4' ⊢
        refine ⟨_, rfl, w, _, _, _, rfl, rfl, SqT.of (f3' _ _ e1), atI_nat (j := 1) rfl, ta, vs, rfl, SqT.of (f3' _ _ e2), ?_⟩
        refine for_it (KR.walk_enumT (xs := vs)) (fun i σ M => ∃ (kvs2 : List (Key × V)) (ws2 : List Nat) (o5 o6 o7 : Option V), σ = [some (.ref w), some (.int (r : Int)), some (.ref d), some (.ref q), some (natV pl), o5, o6, o7] ∧ M d = some (.dK kvs2) ∧ M q = some (.lst (ws2.map natV)) ∧ Same H M ∧ WayIn M L n r pl i (2 * lefts kvs n + ws'.length) kvs2 ws2)
          ⟨kvs, ws', o5, o6, o7, rfl, f1', f2', f3', ⟨f4', f5.root, hpl, fun i hi => f5.sub i (List.mem_append_left _ hi), fun i j hi a => (f5.cl i j hi a).imp id fun z => (List.mem_append.mp z).imp id List.mem_singleton.mp, fun j z => (by unfold Adj at z; simp at z), Nat.le_refl _⟩⟩ (fun i σ M _ ⟨_, _, _, _, _, _, _, _, s, _⟩ => SqT.of (s _ _ e2)) ?_ ?_
        · rintro i x σ M M' hi ⟨kvs2, ws2, o5, o6, o7, rfl, g1, g2, g3, gW⟩ ⟨Tt, u, y, rfl, hT, rfl, e7, e8⟩
          cases e7
          obtain ⟨b, qq, rfl, hq', hb⟩ := e3.get e8
          have bq := hB qq (List.mem_of_getElem? hq')
          obtain ⟨q1, q2⟩ := qq
          obtain ⟨a1, rfl⟩ : ∃ a1 : Nat, q1 = a1 := ⟨q1.toNat, by have := bq.1; dsimp only at this; omega⟩
          obtain ⟨a2, rfl⟩ : ∃ a2 : Nat, q2 = a2 := ⟨q2.toNat, by have := bq.1; have := bq.2.1; dsimp only at *; omega⟩
          dsimp only at bq hb
          have ts := take_snoc hq'
          have sT : Same M (upd M Tt (.tup [.int (i : Nat), .ref b])) := same_new hT
          have g1' := sT _ _ g1
          have g2' := sT _ _ g2
          have g3' := g3.trans sT
          have gW' : WayIn (upd M Tt (.tup [.int (i : Nat), .ref b])) L n r pl i (2 * lefts kvs n + ws'.length) kvs2 ws2 := { gW with wv := gW.wv.mono (same_tup sT) }
          refine ⟨Tt, _, rfl, SqT.of upd_same, rfl, _, _, rfl, _, _, rfl, b, _, rfl, SqT.of (g3' _ _ hb), rfl, _, _, rfl, _, _, rfl, rfl, rfl, ?_⟩
          generalize upd M Tt (.tup [.int (i : Nat), .ref b]) = M1 at g1' g2' g3' gW' ⊢
          clear sT g1 g2 g3 gW
          refine ⟨_, rfl, _, rfl, _, rfl, by show 2 ≤ sizeLine; decide, fun t1 ht1 => ?_⟩
          have sU : Same M1 (upd M1 t1 (.tup [.int (a1 : Nat), .int (a2 : Nat)])) := same_new ht1
          have k1 := sU _ _ g1'
          have k2 := sU _ _ g2'
          have k3 := g3'.trans sU
          have kW : WayIn (upd M1 t1 (.tup [.int (a1 : Nat), .int (a2 : Nat)])) L n r pl i (2 * lefts kvs n + ws'.length) kvs2 ws2 := { gW' with wv := gW'.wv.mono (same_tup sU) }
          have et1 : (upd M1 t1 (.tup [.int (a1 : Nat), .int (a2 : Nat)])) t1 = some (.tup (([(a1 : Int), (a2 : Int)] : List Int).map V.int)) := upd_same
          refine ⟨t1, ([(a1 : Int), (a2 : Int)] : List Int).map V.int, rfl, .inr (SqT.of et1), rfl, rfl, _, rfl, ?_⟩
          generalize upd M1 t1 (.tup [.int (a1 : Nat), .int (a2 : Nat)]) = M2 at k1 k2 k3 kW et1 ⊢
          clear g1' g2' g3' gW' sU
          have ei : inV (natV pl) (([(a1 : Int), (a2 : Int)] : List Int).map V.int) = decide ((pl : Int) ∈ ([(a1 : Int), (a2 : Int)] : List Int)) := inV_ints _ _
          rw [if_neg Bool.false_ne_true, ei]
          by_cases hm : (pl : Int) ∈ ([(a1 : Int), (a2 : Int)] : List Int)
          · rw [decide_eq_true hm]
            obtain ⟨j, hj, ad, jn⟩ : ∃ j : Nat, ((a1 : Int) + a2 - pl) = j ∧ Adj [((a1 : Int), (a2 : Int))] pl j ∧ j < n := by
              simp only [List.mem_cons, List.not_mem_nil, or_false] at hm
              rcases hm with e | e
              · exact ⟨a2, by omega, .inl (by rw [e]; exact List.mem_singleton.mpr rfl), by omega⟩
              · exact ⟨a1, by omega, .inr (by rw [e]; exact List.mem_singleton.mpr rfl), by omega⟩
            refine iteT ⟨_, rfl, _, rfl, _, _, rfl, rfl, _, rfl, _, _, rfl, rfl, _, rfl, d, valV kvs2 (ky j), rfl, (by show DGet M2 d (.int ((a1 : Int) + a2 - pl)) _; rw [hj]; exact DGet.k (k := ky j) k1), _, rfl, ?_⟩
            cases hv : valV kvs2 (ky j) with
            | some v0 =>
              exact iteF ⟨kvs2, ws2, _, _, _, rfl, k1, k2, k3, kW.skip hq' fun j' z => by
                have := (adj_one z).2
                rw [show j' = j by omega]
                exact Option.isSome_iff_exists.mpr ⟨v0, hv⟩⟩
            | none =>
              refine iteT ?_
              obtain ⟨v1, hv1⟩ := Option.isSome_iff_exists.mp kW.me
              obtain ⟨i1, ei1, _, t3, ns, rfl, et3, ln⟩ := kW.wv.vals _ _ hv1
              have kl := kW.wv.len
              refine ⟨_, rfl, _, rfl, d, .ref t3, rfl, by rw [← hv1]; exact DGet.k (k := ky pl) k1, _, rfl, by show 1 ≤ sizeLine; decide, fun t2 ht2 => ?_⟩
              have sV : Same M2 (upd M2 t2 (.tup [.int (i : Nat)])) := same_new ht2
              have l1 := sV _ _ k1
              have l2 := sV _ _ k2
              have l3 := k3.trans sV
              have et2 : (upd M2 t2 (.tup [.int (i : Nat)])) t2 = some (.tup (([(i : Int)] : List Int).map V.int)) := upd_same
              have et3' := sV _ _ et3
              have st := same_tup sV
              generalize upd M2 t2 (.tup [.int (i : Nat)]) = M3 at sV l1 l2 l3 et2 et3' st ⊢
              have fin : ∀ (M4 : Hp) (t : Addr) (ms : List Int), Same M3 M4 → M4 t = some (.tup (ms.map V.int)) → ms.length ≤ kvs2.length + 1 → ∀ o5 o6 o7 : Option V,
                  (∃ (kvs3 : List (Key × V)) (ws3 : List Nat) (p5 p6 p7 : Option V), [some (.ref w), some (.int (r : Int)), some (.ref d), some (.ref q), some (natV pl), o5, o6, o7] = [some (.ref w), some (.int (r : Int)), some (.ref d), some (.ref q), some (natV pl), p5, p6, p7] ∧
                    (upd (upd M4 d (.dK (putK kvs2 (ky j) (.ref t)))) q (.lst (ws2.map natV ++ [.int ((a1 : Int) + a2 - pl)]))) d = some (.dK kvs3) ∧ (upd (upd M4 d (.dK (putK kvs2 (ky j) (.ref t)))) q (.lst (ws2.map natV ++ [.int ((a1 : Int) + a2 - pl)]))) q = some (.lst (ws3.map natV)) ∧
                    Same H (upd (upd M4 d (.dK (putK kvs2 (ky j) (.ref t)))) q (.lst (ws2.map natV ++ [.int ((a1 : Int) + a2 - pl)]))) ∧ WayIn (upd (upd M4 d (.dK (putK kvs2 (ky j) (.ref t)))) q (.lst (ws2.map natV ++ [.int ((a1 : Int) + a2 - pl)]))) L n r pl (i + 1) (2 * lefts kvs n + ws'.length) kvs3 ws3) := fun M4 t ms s4 e4 l4 o5 o6 o7 => by
                have sx : ∀ a x, M4 a = some (.tup x) → (upd (upd M4 d (.dK (putK kvs2 (ky j) (.ref t)))) q (.lst (ws2.map natV ++ [.int ((a1 : Int) + a2 - pl)]))) a = some (.tup x) := fun a x e => by
                  rw [upd_ne (ne_of e (s4 _ _ l2) (by intro z; cases z)), upd_ne (ne_of e (s4 _ _ l1) (by intro z; cases z))]
                  exact e
                exact ⟨kvs2 ++ [(ky j, .ref t)], ws2 ++ [j], _, _, _, rfl, by rw [upd_ne ndq, upd_same, putK_new _ hv], by rw [upd_same, hj, List.map_append] <;> rfl, set_same hqH (set_same hd (l3.trans s4)), kW.put hq' hj jn hv (fun a x e => sx a x (s4 _ _ (st a x e))) (sx _ _ e4) l4⟩
              have dput : ∀ (M4 : Hp) (t : Addr), Same M3 M4 → DPut M4 d (.int ((a1 : Int) + a2 - pl)) (.ref t) (upd M4 d (.dK (putK kvs2 (ky j) (.ref t)))) := fun M4 t s4 => by
                rw [hj]
                exact DPut.k (k := ky j) (s4 _ _ l1) (by rw [sizeLine_eq]; omega)
              have few2 : (ws2.map natV).length < sizeLine := by
                have := gW0
                rw [List.length_map, sizeLine_eq]
                have := kW.mu
                omega
              refine ⟨t3, t2, ns.map V.int, ([(i : Int)] : List Int).map V.int, rfl, rfl, SqT.of et3', SqT.of et2, by rw [List.length_map, sizeLine_eq]; simp; omega, fun en => ?_, fun _ z => (by cases z), fun _ _ p hp => ?_⟩
              · refine ⟨_, rfl, _, rfl, _, rfl, _, _, rfl, rfl, _, rfl, _, _, rfl, rfl, d, _, rfl, dput M3 t2 (Same.refl _), ?_⟩
                have e5 : (upd M3 d (.dK (putK kvs2 (ky j) (.ref t2)))) q = some (.lst (ws2.map natV)) := by rw [upd_ne ndq.symm]; exact l2
                refine ⟨_, rfl, .inl ⟨rfl, _, SqL.of e5⟩, _, rfl, _, rfl, _, _, rfl, rfl, _, rfl, _, _, rfl, rfl, q, _, _, rfl, rfl, e5, few2, ?_⟩
                exact fin M3 t2 [(i : Int)] (Same.refl _) et2 (by simp) _ _ _
              · have sp : Same M3 (upd M3 p (.tup (ns.map V.int ++ ([(i : Int)] : List Int).map V.int))) := same_new hp
                refine ⟨_, rfl, _, rfl, _, rfl, _, _, rfl, rfl, _, rfl, _, _, rfl, rfl, d, _, rfl, dput _ p sp, ?_⟩
                have e5 : (upd (upd M3 p (.tup (ns.map V.int ++ ([(i : Int)] : List Int).map V.int))) d (.dK (putK kvs2 (ky j) (.ref p)))) q = some (.lst (ws2.map natV)) := by rw [upd_ne ndq.symm]; exact sp _ _ l2
                refine ⟨_, rfl, .inl ⟨rfl, _, SqL.of e5⟩, _, rfl, _, rfl, _, _, rfl, rfl, _, rfl, _, _, rfl, rfl, q, _, _, rfl, rfl, e5, few2, ?_⟩
                exact fin _ p (ns ++ [(i : Int)]) sp (by rw [upd_same, List.map_append]) (by rw [List.length_append, List.length_singleton]; omega) _ _ _
          · rw [decide_eq_false hm]
            exact iteF ⟨kvs2, ws2, _, _, _, rfl, k1, k2, k3, kW.skip hq' fun j' z => absurd (adj_one z).1 hm⟩
        · rintro σ M ⟨kvs2, ws2, o5, o6, o7, rfl, g1, g2, g3, gW⟩
          rw [len] at gW
          have hW := gW.done
          refine ⟨⟨kvs2, ws2, _, _, _, _, rfl, g1, g2, g3, hW.1, hW.2, by have := gW.mu; rw [List.length_append, List.length_singleton] at f6; omega⟩, ?_⟩
          show (match M d, M q with | some (.dK kvs), some (.lst ws) => 2 * lefts kvs n + ws.length | _, _ => 0) < _
          rw [g1, g2]
          show _ + (ws2.map natV).length < _
          have := gW.mu
          rw [List.length_map, List.length_append, List.length_singleton]
          omega
    · rintro σ M Q Q' h ⟨v, e, x, t, q⟩
      exact ⟨v, e, x, t, h _ _ q⟩
end
end K0

/-! Parts of webs, as lists of places. -/
namespace K0
/-! ### one more tie -/
theorem adj_snocN {L : List (Int × Int)} {a b x y : Nat} : Adj (L ++ [((a : Int), (b : Int))]) x y ↔ Adj L x y ∨ (x = a ∧ y = b) ∨ (x = b ∧ y = a) := by
  unfold Adj
  simp only [List.mem_append, List.mem_singleton, Prod.mk.injEq, Int.natCast_inj]
  constructor
  · rintro ((z | z) | (z | z))
    · exact .inl (.inl z)
    · exact .inr (.inl z)
    · exact .inl (.inr z)
    · exact .inr (.inr ⟨z.2, z.1⟩)
  · rintro ((z | z) | z | z)
    · exact .inl (.inl z)
    · exact .inr (.inl z)
    · exact .inl (.inr z)
    · exact .inr (.inr ⟨z.2, z.1⟩)
theorem Rch.ties {L M : List (Int × Int)} {m r i : Nat} (h : Rch L m r i) (s : ∀ x y, Adj L x y → Adj M x y) : Rch M m r i := by
  induction h with
  | refl h => exact .refl h
  | step _ a k ih => exact .step ih (s _ _ a) k
theorem rch_snoc {L : List (Int × Int)} {m r i a b : Nat} (ha : m.testBit a = true) (hb : m.testBit b = true) :
    Rch (L ++ [((a : Int), (b : Int))]) m r i ↔ Rch L m r i ∨ (Rch L m r a ∧ Rch L m b i) ∨ (Rch L m r b ∧ Rch L m a i) := by
  constructor
  · intro h
    refine h.closed (S := fun i => Rch L m r i ∨ (Rch L m r a ∧ Rch L m b i) ∨ (Rch L m r b ∧ Rch L m a i)) (.inl (.refl h.root)) fun x y s ad k => ?_
    rcases adj_snocN.mp ad with ad | ⟨rfl, rfl⟩ | ⟨rfl, rfl⟩
    · rcases s with s | ⟨s1, s2⟩ | ⟨s1, s2⟩
      · exact .inl (.step s ad k)
      · exact .inr (.inl ⟨s1, .step s2 ad k⟩)
      · exact .inr (.inr ⟨s1, .step s2 ad k⟩)
    · rcases s with s | ⟨s1, s2⟩ | ⟨s1, s2⟩
      · exact .inr (.inl ⟨s, .refl hb⟩)
      · exact .inr (.inl ⟨s1, .refl hb⟩)
      · exact .inl s1
    · rcases s with s | ⟨s1, s2⟩ | ⟨s1, s2⟩
      · exact .inr (.inr ⟨s, .refl ha⟩)
      · exact .inl s1
      · exact .inr (.inr ⟨s1, .refl ha⟩)
  · have up : ∀ {x y}, Rch L m x y → Rch (L ++ [((a : Int), (b : Int))]) m x y := fun h => h.ties fun x y z => adj_snocN.mpr (.inl z)
    rintro (h | ⟨h1, h2⟩ | ⟨h1, h2⟩)
    · exact up h
    · exact (Rch.step (up h1) (adj_snocN.mpr (.inr (.inl ⟨rfl, rfl⟩))) hb).trans (up h2)
    · exact (Rch.step (up h1) (adj_snocN.mpr (.inr (.inr ⟨rfl, rfl⟩))) ha).trans (up h2)
/-! ### lists that ascend -/
theorem inc_eq {α : Type} (f : α → Nat) : ∀ {l m : List α}, (l.Pairwise fun a b => f a < f b) → (m.Pairwise fun a b => f a < f b) → (∀ x, x ∈ l ↔ x ∈ m) → l = m
  | [], [], _, _, _ => rfl
  | [], y :: m, _, _, h => absurd ((h y).mpr (List.mem_cons_self ..)) (by simp)
  | x :: l, [], _, _, h => absurd ((h x).mp (List.mem_cons_self ..)) (by simp)
  | x :: l, y :: m, hl, hm, h => by
    obtain ⟨l1, l2⟩ := List.pairwise_cons.mp hl
    obtain ⟨m1, m2⟩ := List.pairwise_cons.mp hm
    have e : x = y := by
      rcases List.mem_cons.mp ((h x).mp (List.mem_cons_self ..)) with e | z1
      · exact e
      · rcases List.mem_cons.mp ((h y).mpr (List.mem_cons_self ..)) with e | z2
        · exact e.symm
        · have := m1 x z1
          have := l1 y z2
          omega
    subst e
    rw [inc_eq f l2 m2 fun z => ?_]
    constructor
    · intro hz
      rcases List.mem_cons.mp ((h z).mp (List.mem_cons_of_mem _ hz)) with e | y
      · have := l1 z hz
        rw [e] at this
        omega
      · exact y
    · intro hz
      rcases List.mem_cons.mp ((h z).mpr (List.mem_cons_of_mem _ hz)) with e | y
      · have := m1 z hz
        rw [e] at this
        omega
      · exact y
/-! ### classes -/
/-- xs are the classes of places, in some order -/
structure Cls (L : List (Int × Int)) (m : Nat) (xs : List (List Nat)) : Prop where
  inc : ∀ c ∈ xs, c.Pairwise (· < ·)
  cls : ∀ c ∈ xs, ∃ r, m.testBit r = true ∧ ∀ i, i ∈ c ↔ Rch L m r i
  all : ∀ i, m.testBit i = true → ∃ c ∈ xs, i ∈ c
  dis : xs.Pairwise fun a b => ∀ i, i ∈ a → i ∉ b
abbrev hd (c : List Nat) : Nat := c.headD 0
theorem Cls.ne {L : List (Int × Int)} {m : Nat} {xs : List (List Nat)} (C : Cls L m xs) {c : List Nat} (h : c ∈ xs) : c ≠ [] := by
  obtain ⟨r, hr, hc⟩ := C.cls c h
  intro e
  have := (hc r).mpr (.refl hr)
  rw [e] at this
  cases this
/-- a class is told by one of its places -/
theorem Cls.one {L : List (Int × Int)} {m : Nat} {xs : List (List Nat)} (C : Cls L m xs) {c : List Nat} (h : c ∈ xs) {r : Nat} (hr : r ∈ c) (i : Nat) : i ∈ c ↔ Rch L m r i := by
  obtain ⟨q, hq, hc⟩ := C.cls c h
  have z := (hc r).mp hr
  rw [hc i]
  exact ⟨fun y => z.symm.trans y, fun y => z.trans y⟩
theorem Cls.uniq {L : List (Int × Int)} {m : Nat} {xs ys : List (List Nat)} (C : Cls L m xs) (D : Cls L m ys) {c : List Nat} (h : c ∈ xs) : c ∈ ys := by
  obtain ⟨r, hr, hc⟩ := C.cls c h
  obtain ⟨d, hd, hrd⟩ := D.all r hr
  have e : c = d := inc_eq id (C.inc c h) (D.inc d hd) fun i => by rw [hc i, D.one hd hrd i]
  rw [e]
  exact hd
theorem Cls.eq {L : List (Int × Int)} {m : Nat} {xs ys : List (List Nat)} (C : Cls L m xs) (D : Cls L m ys) (h1 : xs.Pairwise fun a b => hd a < hd b) (h2 : ys.Pairwise fun a b => hd a < hd b) : xs = ys :=
  inc_eq hd h1 h2 fun _ => ⟨C.uniq D, D.uniq C⟩
theorem Cls.ties {L M : List (Int × Int)} {m : Nat} {xs : List (List Nat)} (C : Cls L m xs) (s : ∀ x y, Adj L x y ↔ Adj M x y) : Cls M m xs := by
  refine ⟨C.inc, fun c hc => ?_, C.all, C.dis⟩
  obtain ⟨r, hr, h⟩ := C.cls c hc
  exact ⟨r, hr, fun i => (h i).trans ⟨fun z => z.ties fun x y => (s x y).mp, fun z => z.ties fun x y => (s x y).mpr⟩⟩
theorem Cls.perm {L : List (Int × Int)} {m : Nat} {xs ys : List (List Nat)} (C : Cls L m xs) (p : ys.Perm xs) : Cls L m ys := by
  refine ⟨fun c hc => C.inc c (p.mem_iff.mp hc), fun c hc => C.cls c (p.mem_iff.mp hc), fun i hi => ?_, ?_⟩
  · obtain ⟨c, hc, h⟩ := C.all i hi
    exact ⟨c, p.mem_iff.mpr hc, h⟩
  · exact (p.symm.pairwise_iff (fun {a b} h i hb ha => h i ha hb)).mp C.dis
/-- at the beginning each place is its own class -/
theorem Cls.start (n : Nat) : Cls [] (2 ^ n - 1) ((List.range n).map fun i => [i]) := by
  have adj : ∀ x y, ¬ Adj [] x y := fun x y h => by unfold Adj at h; simp at h
  refine ⟨fun c hc => ?_, fun c hc => ?_, fun i hi => ?_, ?_⟩
  · obtain ⟨i, _, rfl⟩ := List.mem_map.mp hc
    exact List.pairwise_singleton ..
  · obtain ⟨i, hi, rfl⟩ := List.mem_map.mp hc
    have hb : (2 ^ n - 1).testBit i = true := by rw [full_bit]; exact decide_eq_true (List.mem_range.mp hi)
    refine ⟨i, hb, fun j => ⟨fun h => ?_, fun h => ?_⟩⟩
    · rw [List.mem_singleton.mp h]
      exact .refl hb
    · cases h with
      | refl _ => exact List.mem_singleton.mpr rfl
      | step _ a _ => exact absurd a (adj _ _)
  · rw [full_bit, decide_eq_true_eq] at hi
    exact ⟨[i], List.mem_map.mpr ⟨i, List.mem_range.mpr hi, rfl⟩, List.mem_singleton.mpr rfl⟩
  · rw [List.pairwise_map]
    refine List.pairwise_lt_range.imp fun {a b} h i ha hb => ?_
    rw [List.mem_singleton] at ha hb
    omega
/-- a class that holds neither end stays as it is -/
theorem Cls.far {L : List (Int × Int)} {m : Nat} {xs : List (List Nat)} (C : Cls L m xs) {a b : Nat} (ha : m.testBit a = true) (hb : m.testBit b = true) {c : List Nat} (h : c ∈ xs) (na : a ∉ c) (nb : b ∉ c) :
    ∃ r, m.testBit r = true ∧ ∀ i, i ∈ c ↔ Rch (L ++ [((a : Int), (b : Int))]) m r i := by
  obtain ⟨r, hr, hc⟩ := C.cls c h
  refine ⟨r, hr, fun i => ?_⟩
  rw [rch_snoc ha hb, hc i]
  exact ⟨.inl, fun z => z.resolve_right fun y => y.elim (fun y => na ((hc a).mpr y.1)) fun y => nb ((hc b).mpr y.1)⟩
/-- the tie lies within a class -/
theorem Cls.stay {L : List (Int × Int)} {m : Nat} {xs : List (List Nat)} (C : Cls L m xs) {a b : Nat} (ha : m.testBit a = true) (hb : m.testBit b = true) (h : Rch L m a b) : Cls (L ++ [((a : Int), (b : Int))]) m xs := by
  refine ⟨C.inc, fun c hc => ?_, C.all, C.dis⟩
  obtain ⟨r, hr, e⟩ := C.cls c hc
  refine ⟨r, hr, fun i => ?_⟩
  rw [rch_snoc ha hb, e i]
  refine ⟨.inl, fun z => ?_⟩
  rcases z with z | ⟨z1, z2⟩ | ⟨z1, z2⟩
  · exact z
  · exact (z1.trans h).trans z2
  · exact (z1.trans h.symm).trans z2
/-- .. or joins two of them -/
theorem Cls.join {L : List (Int × Int)} {m : Nat} {ys : List (List Nat)} {c d e : List Nat} (C : Cls L m (c :: d :: ys)) {a b : Nat} (ha : a ∈ c) (hb : b ∈ d) (he : e.Pairwise (· < ·)) (em : ∀ i, i ∈ e ↔ i ∈ c ∨ i ∈ d) :
    Cls (L ++ [((a : Int), (b : Int))]) m (ys ++ [e]) := by
  have hc : c ∈ c :: d :: ys := List.mem_cons_self ..
  have hd : d ∈ c :: d :: ys := List.mem_cons_of_mem _ (List.mem_cons_self ..)
  have ba : m.testBit a = true := ((C.one hc ha a).mp ha).bit
  have bb : m.testBit b = true := ((C.one hd hb b).mp hb).bit
  obtain ⟨d1, d2⟩ := List.pairwise_cons.mp C.dis
  obtain ⟨d3, d4⟩ := List.pairwise_cons.mp d2
  refine ⟨fun x hx => ?_, fun x hx => ?_, fun i hi => ?_, ?_⟩
  · rcases List.mem_append.mp hx with hx | hx
    · exact C.inc x (List.mem_cons_of_mem _ (List.mem_cons_of_mem _ hx))
    · rw [List.mem_singleton.mp hx]
      exact he
  · rcases List.mem_append.mp hx with hx | hx
    · exact C.far ba bb (List.mem_cons_of_mem _ (List.mem_cons_of_mem _ hx)) (d1 x (List.mem_cons_of_mem _ hx) a ha) (d3 x hx b hb)
    · rw [List.mem_singleton.mp hx]
      refine ⟨a, ba, fun i => ?_⟩
      rw [rch_snoc ba bb, em i, C.one hc ha i, C.one hd hb i]
      constructor
      · rintro (z | z)
        · exact .inl z
        · exact .inr (.inl ⟨.refl ba, z⟩)
      · rintro (z | ⟨_, z⟩ | ⟨_, z⟩)
        · exact .inl z
        · exact .inr z
        · exact .inl z
  · obtain ⟨x, hx, h⟩ := C.all i hi
    rcases List.mem_cons.mp hx with rfl | hx
    · exact ⟨e, List.mem_append_right _ (List.mem_singleton.mpr rfl), (em i).mpr (.inl h)⟩
    rcases List.mem_cons.mp hx with rfl | hx
    · exact ⟨e, List.mem_append_right _ (List.mem_singleton.mpr rfl), (em i).mpr (.inr h)⟩
    · exact ⟨x, List.mem_append_left _ hx, h⟩
  · refine List.pairwise_append.mpr ⟨d4, List.pairwise_singleton .., fun x hx y hy i hi => ?_⟩
    rw [List.mem_singleton.mp hy, em i]
    rintro (z | z)
    · exact d1 x (List.mem_cons_of_mem _ hx) i z hi
    · exact d3 x hx i z hi
/-- the program's parts -/
theorem Parts.cls {L : List (Int × Int)} {m : Nat} {ps : List (Nat × Nat)} (P : Parts L m ps) (hm : m < 2 ^ 12) : Cls L m (ps.map fun q => lotN q.2) ∧ (ps.map fun q => lotN q.2).Pairwise fun a b => hd a < hd b := by
  have lt : ∀ q ∈ ps, q.2 < 2 ^ 12 := fun q hq => Nat.lt_of_le_of_lt (sub_le fun i z => (((P.part q hq).2.1 i).mp z).bit) hm
  have mem : ∀ q ∈ ps, ∀ i, i ∈ lotN q.2 ↔ Rch L m q.1 i := fun q hq i => (lotN_mem (lt q hq)).trans ((P.part q hq).2.1 i)
  have hdq : ∀ q ∈ ps, hd (lotN q.2) = q.1 := fun q hq => by
    have h1 : q.1 ∈ lotN q.2 := (mem q hq _).mpr (.refl (P.part q hq).1)
    have h2 := lotN_inc q.2
    cases e : lotN q.2 with
    | nil => rw [e] at h1; cases h1
    | cons x t =>
      rw [e] at h1 h2
      have h3 : q.1 ≤ x := (P.part q hq).2.2 x ((lotN_mem (lt q hq)).mp (by rw [e]; exact List.mem_cons_self ..))
      show x = q.1
      rcases List.mem_cons.mp h1 with z | z
      · exact z.symm
      · have := (List.pairwise_cons.mp h2).1 _ z
        omega
  refine ⟨⟨fun c hc => ?_, fun c hc => ?_, fun i hi => ?_, ?_⟩, ?_⟩
  · obtain ⟨q, _, rfl⟩ := List.mem_map.mp hc
    exact lotN_inc _
  · obtain ⟨q, hq, rfl⟩ := List.mem_map.mp hc
    exact ⟨q.1, (P.part q hq).1, mem q hq⟩
  · obtain ⟨q, hq, h⟩ := P.all i hi
    exact ⟨_, List.mem_map.mpr ⟨q, hq, rfl⟩, (lotN_mem (lt q hq)).mpr h⟩
  · rw [List.pairwise_map]
    refine List.Pairwise.imp_of_mem (fun {p q} hp hq h i h1 h2 => ?_) P.inc
    have z1 := (mem p hp i).mp h1
    have z2 := (mem q hq i).mp h2
    have z3 := (P.part q hq).2.2 p.1 (((P.part q hq).2.1 p.1).mpr (z2.trans z1.symm))
    omega
  · rw [List.pairwise_map]
    refine List.Pairwise.imp_of_mem (fun {p q} hp hq h => ?_) P.inc
    show hd (lotN p.2) < hd (lotN q.2)
    rw [hdq p hp, hdq q hq]
    exact h
end K0

/-! Parts behind a renaming of some places; how many places they have; lots of parts. -/
namespace K0
/-! ### indices -/
theorem idxOf_ne {k a : Nat} (ks : List Nat) (h : k ≠ a) : (k :: ks).idxOf a = ks.idxOf a + 1 := by
  rw [List.idxOf_cons]
  have e : (k == a) = false := by simpa using h
  rw [e] <;> rfl
theorem idx_mono : ∀ {ks : List Nat}, ks.Pairwise (· < ·) → ∀ {i j : Nat}, i ∈ ks → j ∈ ks → i < j → ks.idxOf i < ks.idxOf j
  | [], _, _, _, h, _, _ => nomatch h
  | k :: ks, p, i, j, hi, hj, lt => by
    obtain ⟨p1, p2⟩ := List.pairwise_cons.mp p
    rcases List.mem_cons.mp hi with rfl | hi
    · rw [List.idxOf_cons_self]
      rcases List.mem_cons.mp hj with rfl | hj
      · omega
      · rw [idxOf_ne _ (fun z => by omega)]
        omega
    · have := p1 i hi
      rcases List.mem_cons.mp hj with rfl | hj
      · omega
      · rw [idxOf_ne _ (fun z => by omega), idxOf_ne _ (fun z => by omega)]
        have := idx_mono p2 hi hj lt
        omega
theorem idx_at {ks : List Nat} (p : ks.Pairwise (· < ·)) {x a : Nat} (h : ks[x]? = some a) : ks.idxOf a = x := by
  induction ks generalizing x with
  | nil => cases h
  | cons k ks ih =>
    obtain ⟨p1, p2⟩ := List.pairwise_cons.mp p
    cases x with
    | zero =>
      cases h
      exact List.idxOf_cons_self
    | succ x =>
      have h : ks[x]? = some a := h
      have := p1 a (List.mem_of_getElem? h)
      rw [idxOf_ne _ (fun z => by omega), ih p2 h]
theorem at_idx {ks : List Nat} {a : Nat} (h : a ∈ ks) : ks[ks.idxOf a]? = some a := by
  induction ks with
  | nil => cases h
  | cons k ks ih =>
    by_cases e : k = a
    · subst e
      rw [List.idxOf_cons_self] <;> rfl
    · rw [idxOf_ne _ e, List.getElem?_cons_succ]
      exact ih ((List.mem_cons.mp h).resolve_left fun z => e z.symm)
theorem idx_lt {ks : List Nat} {a : Nat} (h : a ∈ ks) : ks.idxOf a < ks.length := List.idxOf_lt_length_of_mem h
/-- L' is what L is within ks, its places called by their indices -/
def Ren (L M : List (Int × Int)) (ks : List Nat) : Prop := ∀ x y, Adj M x y ↔ ∃ a b, ks[x]? = some a ∧ ks[y]? = some b ∧ Adj L a b
section
variable {L M : List (Int × Int)} {ks : List Nat} {m : Nat}
theorem Ren.go (R : Ren L M ks) (hm : ∀ i, m.testBit i = true ↔ i ∈ ks) {a b : Nat} (h : Rch L m a b) : Rch M (2 ^ ks.length - 1) (ks.idxOf a) (ks.idxOf b) := by
  induction h with
  | refl h => exact .refl (by rw [full_bit]; exact decide_eq_true (idx_lt ((hm _).mp h)))
  | @step b c s a k ih => exact .step ih ((R _ _).mpr ⟨b, c, at_idx ((hm _).mp s.bit), at_idx ((hm _).mp k), a⟩) (by rw [full_bit]; exact decide_eq_true (idx_lt ((hm _).mp k)))
theorem Ren.back (p : ks.Pairwise (· < ·)) (R : Ren L M ks) (hm : ∀ i, m.testBit i = true ↔ i ∈ ks) {x y a : Nat} (h : Rch M (2 ^ ks.length - 1) x y) (ha : ks[x]? = some a) : ∃ b, ks[y]? = some b ∧ Rch L m a b := by
  refine h.closed (S := fun y => ∃ b, ks[y]? = some b ∧ Rch L m a b) ⟨a, ha, .refl ((hm a).mpr (List.mem_of_getElem? ha))⟩ ?_
  rintro u v ⟨b, hb, s⟩ ad _
  obtain ⟨b', c, e1, e2, al⟩ := (R u v).mp ad
  rw [hb] at e1
  cases e1
  exact ⟨c, e2, .step s al ((hm c).mpr (List.mem_of_getElem? e2))⟩
/-- the classes, renamed -/
theorem Cls.ren {xs : List (List Nat)} (C : Cls L m xs) (p : ks.Pairwise (· < ·)) (R : Ren L M ks) (hm : ∀ i, m.testBit i = true ↔ i ∈ ks) : Cls M (2 ^ ks.length - 1) (xs.map fun c => c.map ks.idxOf) := by
  have inK : ∀ c ∈ xs, ∀ i ∈ c, i ∈ ks := fun c hc i hi => by
    obtain ⟨r, _, h⟩ := C.cls c hc
    exact (hm i).mp ((h i).mp hi).bit
  have inj : ∀ i ∈ ks, ∀ j ∈ ks, ks.idxOf i = ks.idxOf j → i = j := fun i hi j hj e => by
    have h1 := at_idx hi
    rw [e, at_idx hj] at h1
    exact (Option.some.inj h1).symm
  refine ⟨fun c hc => ?_, fun c hc => ?_, fun i hi => ?_, ?_⟩
  · obtain ⟨d, hd, rfl⟩ := List.mem_map.mp hc
    rw [List.pairwise_map]
    exact List.Pairwise.imp_of_mem (fun {a b} ha hb h => idx_mono p (inK d hd a ha) (inK d hd b hb) h) (C.inc d hd)
  · obtain ⟨d, hd, rfl⟩ := List.mem_map.mp hc
    obtain ⟨r, hr, h⟩ := C.cls d hd
    have rk := (hm r).mp hr
    refine ⟨ks.idxOf r, by rw [full_bit]; exact decide_eq_true (idx_lt rk), fun i => ⟨fun z => ?_, fun z => ?_⟩⟩
    · obtain ⟨j, hj, rfl⟩ := List.mem_map.mp z
      exact R.go hm ((h j).mp hj)
    · obtain ⟨b, hb, s⟩ := R.back p hm z (at_idx rk)
      exact List.mem_map.mpr ⟨b, (h b).mpr s, idx_at p hb⟩
  · rw [full_bit, decide_eq_true_eq] at hi
    have e := List.getElem?_eq_getElem hi
    obtain ⟨c, hc, h⟩ := C.all _ ((hm _).mpr (List.getElem_mem hi))
    exact ⟨_, List.mem_map.mpr ⟨c, hc, rfl⟩, List.mem_map.mpr ⟨_, h, idx_at p e⟩⟩
  · rw [List.pairwise_map]
    refine List.Pairwise.imp_of_mem (fun {c d} hc hd h i h1 h2 => ?_) C.dis
    obtain ⟨j, hj, rfl⟩ := List.mem_map.mp h1
    obtain ⟨k, hk, e⟩ := List.mem_map.mp h2
    rw [inj k (inK d hd k hk) j (inK c hc j hj) e] at hk
    exact h j hj hk
theorem hd_map {c : List Nat} (h : c ≠ []) (f : Nat → Nat) : hd (c.map f) = f (hd c) := by
  cases c with
  | nil => exact absurd rfl h
  | cons x t => rfl
theorem hd_mem {c : List Nat} (h : c ≠ []) : hd c ∈ c := by
  cases c with
  | nil => exact absurd rfl h
  | cons x t => exact List.mem_cons_self ..
theorem Cls.ren_hd {xs : List (List Nat)} (C : Cls L m xs) (p : ks.Pairwise (· < ·)) (hm : ∀ i, m.testBit i = true ↔ i ∈ ks) (h : xs.Pairwise fun a b => hd a < hd b) : (xs.map fun c => c.map ks.idxOf).Pairwise fun a b => hd a < hd b := by
  have inK : ∀ c ∈ xs, ∀ i ∈ c, i ∈ ks := fun c hc i hi => by
    obtain ⟨r, _, h⟩ := C.cls c hc
    exact (hm i).mp ((h i).mp hi).bit
  rw [List.pairwise_map]
  refine List.Pairwise.imp_of_mem (fun {c d} hc hd' h => ?_) h
  rw [hd_map (C.ne hc), hd_map (C.ne hd')]
  exact idx_mono p (inK c hc _ (hd_mem (C.ne hc))) (inK d hd' _ (hd_mem (C.ne hd'))) h
/-- a class of the whole web alone -/
theorem Cls.alone {xs : List (List Nat)} (C : Cls L m xs) {c : List Nat} (hc : c ∈ xs) {k : Nat} (hk : ∀ i, k.testBit i = true ↔ i ∈ c) : Cls L k [c] := by
  obtain ⟨r, hr, h⟩ := C.cls c hc
  have sub : ∀ i, k.testBit i = true → m.testBit i = true := fun i z => ((h i).mp ((hk i).mp z)).bit
  refine ⟨fun x hx => by rw [List.mem_singleton.mp hx]; exact C.inc c hc, fun x hx => ?_, fun i hi => ⟨c, List.mem_singleton.mpr rfl, (hk i).mp hi⟩, List.pairwise_singleton ..⟩
  rw [List.mem_singleton.mp hx]
  have rc : r ∈ c := (h r).mpr (.refl hr)
  refine ⟨r, (hk r).mpr rc, fun i => ⟨fun z => ?_, fun z => (h i).mpr (z.mono sub)⟩⟩
  have z := (h i).mp z
  refine (z.closed (S := fun i => Rch L m r i ∧ Rch L k r i) ⟨.refl hr, .refl ((hk r).mpr rc)⟩ fun x y s a b => ?_).2
  have z2 : Rch L m r y := .step s.1 a b
  exact ⟨z2, .step s.2 a ((hk y).mpr ((h y).mpr z2))⟩
end
/-! ### how many -/
theorem len_le {α : Type} [DecidableEq α] : ∀ {l m : List α}, l.Nodup → (∀ x ∈ l, x ∈ m) → l.length ≤ m.length
  | [], m, _, _ => Nat.zero_le _
  | x :: l, m, nd, s => by
    obtain ⟨n1, n2⟩ := List.nodup_cons.mp nd
    have hx := s x (List.mem_cons_self ..)
    have := len_le (m := m.erase x) n2 fun y hy => (List.mem_erase_of_ne (fun e => n1 (by rw [← e]; exact hy))).mpr (s y (List.mem_cons_of_mem _ hy))
    rw [List.length_erase_of_mem hx] at this
    have : 0 < m.length := List.length_pos_of_mem hx
    rw [List.length_cons]
    omega
theorem inc_nodup {l : List Nat} (h : l.Pairwise (· < ·)) : l.Nodup := h.imp fun {a b} z e => by omega
theorem Cls.flat {L : List (Int × Int)} {m : Nat} {xs : List (List Nat)} (C : Cls L m xs) : xs.flatten.Nodup := by
  have i := C.inc
  have d := C.dis
  clear C
  induction xs with
  | nil => exact List.nodup_nil
  | cons c xs ih =>
    obtain ⟨d1, d2⟩ := List.pairwise_cons.mp d
    rw [List.flatten_cons]
    refine List.nodup_append.mpr ⟨inc_nodup (i c (List.mem_cons_self ..)), ih (fun y hy => i y (List.mem_cons_of_mem _ hy)) d2, fun x hx y hy e => ?_⟩
    obtain ⟨z, hz, h⟩ := List.mem_flatten.mp hy
    rw [e] at hx
    exact d1 z hz y hx h
theorem Cls.len {L : List (Int × Int)} {m : Nat} {xs : List (List Nat)} (C : Cls L m xs) {ks : List Nat} (nk : ks.Nodup) (hm : ∀ i, m.testBit i = true ↔ i ∈ ks) : (xs.map List.length).sum = ks.length := by
  rw [← List.length_flatten]
  refine Nat.le_antisymm (len_le C.flat fun x hx => ?_) (len_le nk fun x hx => ?_)
  · obtain ⟨c, hc, h⟩ := List.mem_flatten.mp hx
    obtain ⟨r, _, e⟩ := C.cls c hc
    exact (hm x).mp ((e x).mp h).bit
  · obtain ⟨c, hc, h⟩ := C.all x ((hm x).mpr hx)
    exact List.mem_flatten.mpr ⟨c, hc, h⟩
theorem odd_sum : ∀ xs : List (List Nat), (xs.map fun c => c.length % 2).sum = (xs.filter fun c => c.length % 2 == 1).length
  | [] => rfl
  | c :: xs => by
    rw [List.map_cons, List.sum_cons, odd_sum xs]
    rcases Nat.mod_two_eq_zero_or_one c.length with e | e
    · rw [List.filter_cons_of_neg (by rw [e]; decide), e]
      omega
    · rw [List.filter_cons_of_pos (by rw [e]; decide), e, List.length_cons]
      omega
theorem odd_mod : ∀ xs : List (List Nat), (xs.map fun c => c.length % 2).sum % 2 = (xs.map List.length).sum % 2
  | [] => rfl
  | c :: xs => by
    have := odd_mod xs
    simp only [List.map_cons, List.sum_cons]
    omega
/-! ### lots and parts -/
/-- a part that has places in the lot, and places that are not -/
def brk (ks c : List Nat) : Bool := decide (0 < (c.filter fun i => decide (i ∈ ks)).length) && decide ((c.filter fun i => decide (i ∈ ks)).length < c.length)
theorem brk_no {ks c : List Nat} : brk ks c = false ↔ (∀ i ∈ c, i ∉ ks) ∨ ∀ i ∈ c, i ∈ ks := by
  have h1 : (c.filter fun i => decide (i ∈ ks)).length ≤ c.length := List.length_filter_le ..
  have h2 : (c.filter fun i => decide (i ∈ ks)).length = c.length ↔ ∀ i ∈ c, i ∈ ks := by
    rw [List.length_filter_eq_length_iff]
    exact ⟨fun h i hi => of_decide_eq_true (h i hi), fun h i hi => decide_eq_true (h i hi)⟩
  have h3 : (c.filter fun i => decide (i ∈ ks)).length = 0 ↔ ∀ i ∈ c, i ∉ ks := by
    rw [List.length_eq_zero_iff, List.filter_eq_nil_iff]
    exact ⟨fun h i hi z => h i hi (decide_eq_true z), fun h i hi z => h i hi (of_decide_eq_true z)⟩
  unfold brk
  rw [Bool.and_eq_false_iff, decide_eq_false_iff_not, decide_eq_false_iff_not, ← h2, ← h3]
  omega
theorem Cls.brk {L : List (Int × Int)} {m : Nat} {xs : List (List Nat)} (C : Cls L m xs) (hm : ∀ x y, Adj L x y → m.testBit x = true ∧ m.testBit y = true) (ks : List Nat) :
    xs.filter (brk ks) = [] ↔ ∀ x y, Adj L x y → (x ∈ ks ↔ y ∈ ks) := by
  rw [List.filter_eq_nil_iff]
  constructor
  · intro h x y a
    obtain ⟨hx, hy⟩ := hm x y a
    obtain ⟨c, hc, xc⟩ := C.all x hx
    have yc : y ∈ c := (C.one hc xc y).mpr (.step (.refl hx) a hy)
    have z : K0.brk ks c = false := by
      cases q : K0.brk ks c with
      | false => rfl
      | true => exact absurd q (h c hc)
    rcases brk_no.mp z with z | z
    · exact ⟨fun q => absurd q (z x xc), fun q => absurd q (z y yc)⟩
    · exact ⟨fun _ => z y yc, fun _ => z x xc⟩
  · intro h c hc q
    obtain ⟨r, hr, e⟩ := C.cls c hc
    have go : ∀ i ∈ c, (r ∈ ks ↔ i ∈ ks) := fun i hi => ((e i).mp hi).closed (S := fun i => r ∈ ks ↔ i ∈ ks) Iff.rfl fun x y s a _ => s.trans (h x y a)
    have z : K0.brk ks c = false := by
      rw [brk_no]
      by_cases hr : r ∈ ks
      · exact .inr fun i hi => (go i hi).mp hr
      · exact .inl fun i hi z => hr ((go i hi).mpr z)
    rw [z] at q
    cases q
/-! ### masks of lots -/
theorem add_or : ∀ (n x y : Nat), x < 2 ^ n → (∀ i, x.testBit i = true → y.testBit i = false) → x + y = x ||| y
  | 0, x, y, h, _ => by
    have : x = 0 := by omega
    subst this
    rw [Nat.zero_add, Nat.zero_or]
  | n + 1, x, y, h, d => by
    have ih := add_or n (x / 2) (y / 2) (by rw [Nat.pow_succ] at h; omega) fun i hi => by
      rw [Nat.testBit_div_two] at hi ⊢
      exact d _ hi
    have e : (x ||| y) / 2 = x / 2 ||| y / 2 := Nat.or_div_two
    have b0 : (x ||| y) % 2 = x % 2 + y % 2 := by
      have h0 := d 0
      have z : (x ||| y).testBit 0 = (x.testBit 0 || y.testBit 0) := Nat.testBit_or ..
      rw [Nat.testBit_zero, Nat.testBit_zero] at h0
      rw [Nat.testBit_zero, Nat.testBit_zero, Nat.testBit_zero] at z
      simp only [decide_eq_true_eq, decide_eq_false_iff_not] at h0
      rcases Nat.mod_two_eq_zero_or_one x with hx | hx <;> rcases Nat.mod_two_eq_zero_or_one y with hy | hy <;> rw [hx, hy] at z ⊢ <;> rcases Nat.mod_two_eq_zero_or_one (x ||| y) with hz | hz <;> rw [hz] at z ⊢ <;> simp_all
    have q1 := Nat.div_add_mod x 2
    have q2 := Nat.div_add_mod y 2
    have q3 := Nat.div_add_mod (x ||| y) 2
    rw [e, ← ih, b0] at q3
    omega
/-- the mask of places -/
def maskN (ks : List Nat) : Nat := (ks.map fun i => 2 ^ i).sum
theorem mask_bit : ∀ {ks : List Nat}, ks.Nodup → ∀ i, (maskN ks).testBit i = true ↔ i ∈ ks
  | [], _, i => by
    show (0 : Nat).testBit i = true ↔ _
    rw [Nat.zero_testBit]
    simp
  | k :: ks, nd, i => by
    obtain ⟨n1, n2⟩ := List.nodup_cons.mp nd
    have ih := mask_bit n2
    have e : maskN (k :: ks) = 2 ^ k ||| maskN ks := by
      show 2 ^ k + maskN ks = _
      refine add_or (k + 1) _ _ (Nat.pow_lt_pow_right (by decide) (by omega)) fun j hj => ?_
      rw [Nat.testBit_two_pow, decide_eq_true_eq] at hj
      subst hj
      cases q : (maskN ks).testBit k with
      | false => rfl
      | true => exact absurd ((ih k).mp q) n1
    rw [e, Nat.testBit_or, Bool.or_eq_true, ih i, Nat.testBit_two_pow, decide_eq_true_eq, List.mem_cons]
    exact or_congr_left ⟨fun z => z.symm, fun z => z.symm⟩
theorem mask_lt {ks : List Nat} (nd : ks.Nodup) {n : Nat} (h : ∀ i ∈ ks, i < n) : maskN ks < 2 ^ n := by
  refine Nat.lt_of_le_of_lt (sub_le (b := 2 ^ n - 1) fun i hi => ?_) (Nat.sub_lt (Nat.two_pow_pos n) (by decide))
  rw [full_bit]
  exact decide_eq_true (h i ((mask_bit nd i).mp hi))
theorem mask_sum : ∀ xs : List (List Nat), (xs.map maskN).sum = maskN xs.flatten
  | [] => rfl
  | c :: xs => by
    rw [List.map_cons, List.sum_cons, mask_sum xs, List.flatten_cons]
    unfold maskN
    rw [List.map_append, List.sum_append]
end K0

/-! Ways that make a tree, and the ring that a tie more closes. -/
namespace K0
section
variable {L : List (Int × Int)}
theorem wk_map : ∀ (ns : List Nat) (s : Int), wk L s ns = (List.range (ns.length + 1)).map fun j => ed L s (ns.take j)
  | [], _ => rfl
  | k :: r, s => by
    rw [wk, wk_map r]
    conv => rhs; rw [List.length_cons, List.range_succ_eq_map, List.map_cons, List.map_map]
    rfl
theorem wk_at (ns : List Nat) (s : Int) {j : Nat} (h : j ≤ ns.length) : (wk L s ns)[j]? = some (ed L s (ns.take j)) := by
  rw [wk_map, List.getElem?_map, List.getElem?_range (by omega)] <;> rfl
/-- the ends of a tie of a way -/
theorem okW_at : ∀ {ns : List Nat} {s : Int} {i k : Nat}, okW L s ns = true → ns[i]? = some k → has (tie L k) (ed L s (ns.take i)) = true ∧ ed L s (ns.take (i + 1)) = other (tie L k) (ed L s (ns.take i))
  | [], _, _, _, _, h => by simp at h
  | t :: r, s, 0, k, ok, h => by
    cases h
    rw [okW, Bool.and_eq_true] at ok
    exact ⟨ok.1, rfl⟩
  | t :: r, s, i + 1, k, ok, h => by
    rw [okW, Bool.and_eq_true] at ok
    have := okW_at (i := i) ok.2 (by simpa using h)
    rw [List.take_succ_cons, List.take_succ_cons, ed, ed]
    exact this
/-- a ring of three ties and more has no tie twice -/
theorem Rnd.nodup {s : Int} {ns : List Nat} (h : Rnd L s ns) (h3 : 3 ≤ ns.length) : ns.Nodup := by
  have pl : ∀ {i j : Nat}, i < ns.length → j < ns.length → K0.ed L s (ns.take i) = K0.ed L s (ns.take j) → i = j := fun {i j} hi hj e => by
    have len : (wk L s ns).dropLast.length = ns.length := by rw [List.length_dropLast, wk_len]; omega
    have at_ : ∀ {i : Nat}, i < ns.length → (wk L s ns).dropLast[i]? = some (K0.ed L s (ns.take i)) := fun {i} hi => by
      rw [List.getElem?_dropLast, if_pos (by rw [wk_len]; omega)]
      exact wk_at ns s (by omega)
    have := (List.getElem?_inj (by rw [len]; exact hi) h.nd).mp ((at_ hi).trans ((congrArg some e).trans (at_ hj).symm))
    exact this
  have full : K0.ed L s (ns.take ns.length) = s := by rw [List.take_length]; exact h.ed
  have zero : K0.ed L s (ns.take 0) = s := rfl
  have key : ∀ {i j k : Nat}, i < j → ns[i]? = some k → ns[j]? = some k → False := fun {i j k} lt hi hj => by
    have li := (List.getElem?_eq_some_iff.mp hi).1
    have lj := (List.getElem?_eq_some_iff.mp hj).1
    obtain ⟨a1, a2⟩ := okW_at h.ok hi
    obtain ⟨b1, b2⟩ := okW_at h.ok hj
    have ne : K0.ed L s (ns.take i) ≠ K0.ed L s (ns.take j) := fun e => by have := pl li lj e; omega
    have x := has_iff.mp a1
    have y := has_iff.mp b1
    have o1 : K0.ed L s (ns.take (j + 1)) = K0.ed L s (ns.take i) := by rw [b2]; unfold other; omega
    have o2 : K0.ed L s (ns.take (i + 1)) = K0.ed L s (ns.take j) := by rw [a2]; unfold other; omega
    have i1 : i + 1 = j := pl (by omega) lj o2
    rcases Nat.lt_or_ge (j + 1) ns.length with z | z
    · have := pl z li o1
      omega
    · have e : j + 1 = ns.length := by omega
      rw [e, full, ← zero] at o1
      have := pl (by omega) li o1
      omega
  rw [List.nodup_iff_pairwise_ne, List.pairwise_iff_getElem]
  intro i j hi hj lt e
  exact key lt (List.getElem?_eq_getElem hi) (by rw [e]; exact List.getElem?_eq_getElem hj)
/-- ways from r, one for each place that they reach, each a way and a tie more -/
structure Tree (L : List (Int × Int)) (r : Int) (T : List Nat → Prop) : Prop where
  ok : ∀ x, T x → okW L r x = true
  pre : ∀ x k, T (x ++ [k]) → T x
  inj : ∀ x y, T x → T y → ed L r x = ed L r y → x = y
theorem Tree.app {r : Int} {T : List Nat → Prop} (W : Tree L r T) : ∀ {z x : List Nat}, T (x ++ z) → T x := fun {z} => by
  have : ∀ (m : Nat) (z x : List Nat), z.length = m → T (x ++ z) → T x := fun m => by
    induction m with
    | zero =>
      intro z x e h
      rw [List.length_eq_zero_iff.mp e, List.append_nil] at h
      exact h
    | succ m ih =>
      intro z x e h
      have ne : z ≠ [] := fun q => by rw [q] at e; cases e
      rw [← List.dropLast_concat_getLast ne, ← List.append_assoc] at h
      exact ih z.dropLast x (by rw [List.length_dropLast, e]; omega) (W.pre _ _ h)
  exact fun {x} h => this z.length z x rfl h
theorem Tree.take {r : Int} {T : List Nat → Prop} (W : Tree L r T) {x : List Nat} (h : T x) (j : Nat) : T (x.take j) := W.app (z := x.drop j) (by rw [List.take_append_drop]; exact h)
/-- the ring that a tie between two of its places closes -/
theorem Tree.ring {r : Int} {T : List Nat → Prop} (W : Tree L r T) {c x y : List Nat} {k : Nat} (hx : T (c ++ x)) (hy : T (c ++ y)) (hd : ∀ u s t, x = u :: s → y ≠ u :: t) (hk : has (tie L k) (ed L r (c ++ x)) = true) (ho : other (tie L k) (ed L r (c ++ x)) = ed L r (c ++ y))
    (ne : ed L r (c ++ x) ≠ ed L r (c ++ y)) (par : (c ++ x).length % 2 = (c ++ y).length % 2) : ringB L (x ++ (k :: y.reverse)) = true ∧ (x ++ (k :: y.reverse)).length % 2 = 1 := by
  have ox := W.ok _ hx
  have oy := W.ok _ hy
  rw [ok_app, Bool.and_eq_true] at ox oy
  rw [ed_app] at hk ho ne
  rw [ed_app] at ho ne
  have tx : ∀ i, T (c ++ x.take i) := fun i => W.app (z := x.drop i) (by rw [List.append_assoc, List.take_append_drop]; exact hx)
  have ty : ∀ i, T (c ++ y.take i) := fun i => W.app (z := y.drop i) (by rw [List.append_assoc, List.take_append_drop]; exact hy)
  generalize hs : ed L r c = s at ox oy hk ho ne
  have es : ∀ z, ed L r (c ++ z) = ed L s z := fun z => by rw [ed_app, hs]
  obtain ⟨v1, v2, v3⟩ := wk_rev y s oy.2
  have ew : wk L s (x ++ (k :: y.reverse)) = wk L s x ++ (wk L s y).reverse := by
    rw [wk_app, wk, ho, v2]
    conv => rhs; rw [wk_last x s]
    rw [List.append_assoc] <;> rfl
  have dx : (wk L s x).Nodup := by
    rw [wk_map]
    refine List.pairwise_map.mpr (List.Pairwise.imp_of_mem (fun {i j} hi hj lt e => ?_) List.nodup_range)
    rw [List.mem_range] at hi hj
    have := W.inj _ _ (tx i) (tx j) (by rw [es, es]; exact e)
    have := congrArg List.length (List.append_cancel_left this)
    rw [List.length_take, List.length_take] at this
    exact lt (by omega)
  have dy : (wk L s y).Nodup := by
    rw [wk_map]
    refine List.pairwise_map.mpr (List.Pairwise.imp_of_mem (fun {i j} hi hj lt e => ?_) List.nodup_range)
    rw [List.mem_range] at hi hj
    have := W.inj _ _ (ty i) (ty j) (by rw [es, es]; exact e)
    have := congrArg List.length (List.append_cancel_left this)
    rw [List.length_take, List.length_take] at this
    exact lt (by omega)
  have dis : ∀ p ∈ wk L s x, p ∉ (wk L s y).tail := fun p hp hq => by
    rw [wk_map, List.range_succ_eq_map, List.map_cons, List.tail_cons, List.map_map] at hq
    rw [wk_map] at hp
    obtain ⟨i, hi, rfl⟩ := List.mem_map.mp hp
    obtain ⟨j, hj, e⟩ := List.mem_map.mp hq
    rw [List.mem_range] at hi hj
    have e : ed L s (y.take (j + 1)) = ed L s (x.take i) := e
    have e2 := List.append_cancel_left (W.inj _ _ (ty (j + 1)) (tx i) (by rw [es, es]; exact e))
    cases y with
    | nil => simp at hj
    | cons u t =>
      cases x with
      | nil => simp at e2
      | cons v s' =>
        cases i with
        | zero => simp at e2
        | succ i =>
          rw [List.take_succ_cons, List.take_succ_cons] at e2
          exact hd v s' t rfl (by rw [(List.cons.inj e2).1])
  have rnd : Rnd L s (x ++ (k :: y.reverse)) := by
    refine ⟨?_, ?_, ?_⟩
    · rw [ok_app, ox.2, okW, hk, ho, v1] <;> rfl
    · rw [ed_app, ed, ho, v3]
    · rw [ew, wk_head y, List.reverse_cons, ← List.append_assoc, List.dropLast_concat]
      refine List.nodup_append.mpr ⟨dx, ?_, fun a ha b hb e => ?_⟩
      · rw [wk_head y] at dy
        exact (List.reverse_perm _).nodup_iff.mpr (List.nodup_cons.mp dy).2
      · subst e
        exact dis a ha (List.mem_reverse.mp hb)
  have len : (x ++ (k :: y.reverse)).length = x.length + y.length + 1 := by rw [List.length_append, List.length_cons, List.length_reverse]; omega
  rw [List.length_append, List.length_append] at par
  have pos : x.length + y.length ≠ 0 := fun z => by
    have hx0 : x = [] := List.length_eq_zero_iff.mp (by omega)
    have hy0 : y = [] := List.length_eq_zero_iff.mp (by omega)
    rw [hx0, hy0] at ne
    exact ne rfl
  refine ⟨ringB_of rnd (by rw [len]; omega) (rnd.nodup (by rw [len]; omega)), by rw [len]; omega⟩
end
end K0

/-! The ways that are found from a place, told exactly. -/
namespace K0
/-- ways, each with the place that it leads to, as they are found; and the places that wait -/
abbrev WS := List (Nat × List Nat) × List Nat
def wayOf (ws : List (Nat × List Nat)) (p : Nat) : Option (List Nat) := ws.lookup p
section
variable {L : List (Int × Int)}
/-- one tie looked at from pl -/
def lookAt (L : List (Int × Int)) (pl i : Nat) (s : WS) : WS :=
  if has (tie L i) pl = true ∧ wayOf s.1 (other (tie L i) pl).toNat = none then
    (s.1 ++ [((other (tie L i) pl).toNat, (wayOf s.1 pl).getD [] ++ [i])], s.2 ++ [(other (tie L i) pl).toNat])
  else s
/-- the first i ties looked at -/
def scanN (L : List (Int × Int)) (pl : Nat) : Nat → WS → WS
  | 0, s => s
  | i + 1, s => lookAt L pl i (scanN L pl i s)
/-- the last one that waits taken -/
def turnW (L : List (Int × Int)) (s : WS) : WS := scanN L (s.2.getLastD 0) L.length (s.1, s.2.dropLast)
def runW (L : List (Int × Int)) : Nat → WS → WS
  | 0, s => s
  | k + 1, s => if s.2 = [] then s else runW L k (turnW L s)
/-- what holds all the time -/
structure Grow (L : List (Int × Int)) (n r : Nat) (s : WS) : Prop where
  ok : ∀ p x, (p, x) ∈ s.1 → okW L (r : Int) x = true ∧ ed L (r : Int) x = (p : Int) ∧ p < n
  keys : (s.1.map Prod.fst).Nodup
  pre : ∀ p x, (p, x) ∈ s.1 → x = [] ∨ ∃ q y k, x = y ++ [k] ∧ (q, y) ∈ s.1
  lt : ∀ p x, (p, x) ∈ s.1 → ∀ k ∈ x, k < L.length
  wait : ∀ p ∈ s.2, p ∈ s.1.map Prod.fst
theorem way_mem {ws : List (Nat × List Nat)} {p : Nat} {x : List Nat} (h : wayOf ws p = some x) : (p, x) ∈ ws := by
  unfold wayOf at h
  induction ws with
  | nil => cases h
  | cons q ws ih =>
    rw [List.lookup_cons] at h
    split at h
    · rename_i e
      cases h
      have e : p = q.1 := by simpa using e
      rw [e]
      exact List.mem_cons_self ..
    · exact List.mem_cons_of_mem _ (ih h)
theorem way_of_mem {ws : List (Nat × List Nat)} (nd : (ws.map Prod.fst).Nodup) {p : Nat} {x : List Nat} (h : (p, x) ∈ ws) : wayOf ws p = some x := by
  unfold wayOf
  induction ws with
  | nil => cases h
  | cons q ws ih =>
    rw [List.map_cons] at nd
    obtain ⟨n1, n2⟩ := List.nodup_cons.mp nd
    rw [List.lookup_cons]
    rcases List.mem_cons.mp h with e | h
    · subst e
      simp
    · have : (p == q.1) = false := by
        refine beq_false_of_ne fun e => n1 ?_
        rw [← e]
        exact List.mem_map.mpr ⟨_, h, rfl⟩
      rw [this]
      exact ih n2 h
theorem way_none {ws : List (Nat × List Nat)} {p : Nat} : wayOf ws p = none ↔ p ∉ ws.map Prod.fst := by
  unfold wayOf
  induction ws with
  | nil => simp
  | cons q ws ih =>
    rw [List.lookup_cons, List.map_cons, List.mem_cons]
    by_cases e : p = q.1
    · subst e
      simp
    · have : (p == q.1) = false := beq_false_of_ne e
      rw [this]
      simp [e, ih]
theorem way_some {ws : List (Nat × List Nat)} {p : Nat} (h : p ∈ ws.map Prod.fst) : ∃ x, wayOf ws p = some x := by
  cases q : wayOf ws p with
  | some x => exact ⟨x, rfl⟩
  | none => exact absurd h (way_none.mp q)
/-- ties lie between places -/
def BelN (L : List (Int × Int)) (n : Nat) : Prop := ∀ i, i < L.length → 0 ≤ (tie L i).1 ∧ (tie L i).1 < (tie L i).2 ∧ (tie L i).2 < (n : Int)
theorem other_nat {n i p : Nat} (B : BelN L n) (hi : i < L.length) (h : has (tie L i) (p : Int) = true) : ∃ j : Nat, other (tie L i) (p : Int) = (j : Int) ∧ j < n ∧ (other (tie L i) (p : Int)).toNat = j := by
  have := B i hi
  have := has_iff.mp h
  have o : other (tie L i) (p : Int) = (tie L i).1 + (tie L i).2 - p := rfl
  refine ⟨(other (tie L i) (p : Int)).toNat, by omega, by omega, rfl⟩
theorem Grow.start {n r : Nat} (h : r < n) : Grow L n r ([(r, [])], [r]) := by
  refine ⟨fun p x hm => ?_, by simp, fun p x hm => ?_, fun p x hm k hk => ?_, fun p hp => ?_⟩
  · rw [List.mem_singleton] at hm
    cases hm
    exact ⟨rfl, rfl, h⟩
  · rw [List.mem_singleton] at hm
    cases hm
    exact .inl rfl
  · rw [List.mem_singleton] at hm
    cases hm
    cases hk
  · simpa using hp
theorem Grow.look {n r pl i : Nat} {s : WS} (B : BelN L n) (G : Grow L n r s) (hi : i < L.length) (hp : pl ∈ s.1.map Prod.fst) : Grow L n r (lookAt L pl i s) := by
  unfold lookAt
  split
  · rename_i c
    obtain ⟨c1, c2⟩ := c
    obtain ⟨x, hx⟩ := way_some hp
    obtain ⟨j, e1, e2, e3⟩ := other_nat B hi c1
    have mx := way_mem hx
    obtain ⟨o1, o2, _⟩ := G.ok pl x mx
    rw [e3] at c2 ⊢
    rw [hx]
    show Grow L n r (s.1 ++ [(j, x ++ [i])], s.2 ++ [j])
    refine ⟨fun p y hm => ?_, ?_, fun p y hm => ?_, fun p y hm k hk => ?_, fun p hp => ?_⟩
    · rcases List.mem_append.mp hm with hm | hm
      · exact G.ok p y hm
      · rw [List.mem_singleton] at hm
        cases hm
        refine ⟨by rw [ok_app, o1, o2, okW, c1] <;> rfl, by rw [ed_app, o2]; exact e1, e2⟩
    · rw [List.map_append]
      refine List.nodup_append.mpr ⟨G.keys, by simp, fun a ha b hb e => ?_⟩
      subst e
      have : a = j := by simpa using hb
      rw [this] at ha
      exact way_none.mp c2 ha
    · rcases List.mem_append.mp hm with hm | hm
      · rcases G.pre p y hm with z | ⟨q, u, k, z1, z2⟩
        · exact .inl z
        · exact .inr ⟨q, u, k, z1, List.mem_append_left _ z2⟩
      · rw [List.mem_singleton] at hm
        cases hm
        exact .inr ⟨pl, x, i, rfl, List.mem_append_left _ mx⟩
    · rcases List.mem_append.mp hm with hm | hm
      · exact G.lt p y hm k hk
      · rw [List.mem_singleton] at hm
        cases hm
        rcases List.mem_append.mp hk with hk | hk
        · exact G.lt pl x mx k hk
        · rw [List.mem_singleton.mp hk]
          exact hi
    · rw [List.map_append]
      rcases List.mem_append.mp hp with hp | hp
      · exact List.mem_append_left _ (G.wait p hp)
      · exact List.mem_append_right _ (by simpa using hp)
  · exact G
/-- ways are only added -/
theorem look_sub {pl i : Nat} {s : WS} {q : Nat × List Nat} (h : q ∈ s.1) : q ∈ (lookAt L pl i s).1 := by
  unfold lookAt
  split
  · exact List.mem_append_left _ h
  · exact h
theorem scan_sub {pl : Nat} : ∀ {i : Nat} {s : WS} {q : Nat × List Nat}, q ∈ s.1 → q ∈ (scanN L pl i s).1
  | 0, _, _, h => h
  | _ + 1, _, _, h => look_sub (scan_sub h)
theorem scan_keys {pl i : Nat} {s : WS} {p : Nat} (h : p ∈ s.1.map Prod.fst) : p ∈ (scanN L pl i s).1.map Prod.fst := by
  obtain ⟨q, hq, rfl⟩ := List.mem_map.mp h
  exact List.mem_map.mpr ⟨q, scan_sub hq, rfl⟩
theorem Grow.scan {n r pl : Nat} (B : BelN L n) : ∀ {i : Nat} {s : WS}, Grow L n r s → i ≤ L.length → pl ∈ s.1.map Prod.fst → Grow L n r (scanN L pl i s)
  | 0, _, G, _, _ => G
  | i + 1, _, G, hi, hp => (Grow.scan B G (by omega) hp).look B (by omega) (scan_keys hp)
theorem Grow.turn {n r : Nat} {s : WS} (B : BelN L n) (G : Grow L n r s) (h : s.2 ≠ []) : Grow L n r (turnW L s) := by
  have m : s.2.getLastD 0 ∈ s.2 := by
    rw [List.getLastD_eq_getLast?, List.getLast?_eq_some_getLast h]
    exact List.getLast_mem h
  refine Grow.scan B ⟨G.ok, G.keys, G.pre, G.lt, fun p hp => G.wait p (List.dropLast_subset _ hp)⟩ (Nat.le_refl _) (G.wait _ m)
theorem Grow.run {n r : Nat} (B : BelN L n) : ∀ {k : Nat} {s : WS}, Grow L n r s → Grow L n r (runW L k s)
  | 0, _, G => G
  | k + 1, s, G => by
    rw [runW]
    split
    · exact G
    · rename_i h
      exact (G.turn B h).run B
/-- they make a tree -/
theorem Grow.tree {n r : Nat} {s : WS} (G : Grow L n r s) : Tree L (r : Int) fun x => ∃ p, (p, x) ∈ s.1 := by
  refine ⟨fun x ⟨p, h⟩ => (G.ok p x h).1, fun x k ⟨p, h⟩ => ?_, fun x y ⟨p, hp⟩ ⟨q, hq⟩ e => ?_⟩
  · rcases G.pre p _ h with z | ⟨q, y, j, z1, z2⟩
    · exact absurd z (by simp)
    · have := List.append_inj_left' z1 rfl
      rw [this]
      exact ⟨q, z2⟩
  · have e1 := (G.ok p x hp).2.1
    have e2 := (G.ok q y hq).2.1
    have pq : p = q := by omega
    subst pq
    have := way_of_mem G.keys hp
    rw [way_of_mem G.keys hq] at this
    exact (Option.some.inj this).symm
end
end K0

/-! The ways from a place: they end, and reach all that is joined. -/
namespace K0
section
variable {L : List (Int × Int)}
def muW (n : Nat) (s : WS) : Nat := 2 * (n - s.1.length) + s.2.length
theorem Grow.few {n r : Nat} {s : WS} (G : Grow L n r s) : s.1.length ≤ n := by
  have := len_le G.keys (m := List.range n) fun p hp => by
    obtain ⟨⟨q, x⟩, hq, rfl⟩ := List.mem_map.mp hp
    exact List.mem_range.mpr (G.ok q x hq).2.2
  rwa [List.length_map, List.length_range] at this
theorem mu_look {n r pl i : Nat} {s : WS} (B : BelN L n) (G : Grow L n r s) (hi : i < L.length) (hp : pl ∈ s.1.map Prod.fst) : muW n (lookAt L pl i s) ≤ muW n s := by
  have few := (G.look B hi hp).few
  unfold lookAt at few ⊢
  split at few
  · rename_i c
    rw [if_pos c]
    unfold muW
    simp only [List.length_append, List.length_singleton] at few ⊢
    omega
  · rename_i c
    rw [if_neg c]
    exact Nat.le_refl _
theorem mu_scan {n r pl : Nat} (B : BelN L n) : ∀ {i : Nat} {s : WS}, Grow L n r s → i ≤ L.length → pl ∈ s.1.map Prod.fst → muW n (scanN L pl i s) ≤ muW n s
  | 0, _, _, _, _ => Nat.le_refl _
  | i + 1, _, G, hi, hp => Nat.le_trans (mu_look B (Grow.scan B G (by omega) hp) (by omega) (scan_keys hp)) (mu_scan B G (by omega) hp)
theorem mu_turn {n r : Nat} {s : WS} (B : BelN L n) (G : Grow L n r s) (h : s.2 ≠ []) : muW n (turnW L s) < muW n s := by
  have m : s.2.getLastD 0 ∈ s.2 := by
    rw [List.getLastD_eq_getLast?, List.getLast?_eq_some_getLast h]
    exact List.getLast_mem h
  have G1 : Grow L n r (s.1, s.2.dropLast) := ⟨G.ok, G.keys, G.pre, G.lt, fun p hp => G.wait p (List.dropLast_subset _ hp)⟩
  have := mu_scan (pl := s.2.getLastD 0) B G1 (Nat.le_refl _) (G.wait _ m)
  have : 0 < s.2.length := List.length_pos_iff.mpr h
  unfold turnW
  refine Nat.lt_of_le_of_lt ‹muW n (scanN L (s.2.getLastD 0) L.length (s.1, s.2.dropLast)) ≤ _› ?_
  unfold muW
  simp only [List.length_dropLast]
  omega
/-- nothing waits at the end -/
theorem run_end {n r : Nat} (B : BelN L n) : ∀ {k : Nat} {s : WS}, Grow L n r s → muW n s ≤ k → (runW L k s).2 = []
  | 0, s, G, h => by
    unfold muW at h
    exact List.length_eq_zero_iff.mp (by show s.2.length = 0; omega)
  | k + 1, s, G, h => by
    rw [runW]
    split
    · assumption
    · rename_i ne
      exact run_end B (G.turn B ne) (by have := mu_turn B G ne; omega)
/-- what is closed but for those that wait -/
def Cl (L : List (Int × Int)) (s : WS) : Prop := ∀ p ∈ s.1.map Prod.fst, p ∈ s.2 ∨ ∀ q, Adj L p q → q ∈ s.1.map Prod.fst
theorem adj_tie {p q : Nat} (a : Adj L p q) : ∃ i, i < L.length ∧ has (tie L i) (p : Int) = true ∧ other (tie L i) (p : Int) = (q : Int) := by
  rcases a with a | a
  · obtain ⟨i, hi⟩ := List.getElem?_of_mem a
    have e : tie L i = ((p : Int), (q : Int)) := by unfold tie; rw [List.getD_eq_getElem?_getD, hi] <;> rfl
    refine ⟨i, (List.getElem?_eq_some_iff.mp hi).1, ?_, ?_⟩
    · rw [e]; exact has_iff.mpr (.inl rfl)
    · rw [e]; show (p : Int) + q - p = q; omega
  · obtain ⟨i, hi⟩ := List.getElem?_of_mem a
    have e : tie L i = ((q : Int), (p : Int)) := by unfold tie; rw [List.getD_eq_getElem?_getD, hi] <;> rfl
    refine ⟨i, (List.getElem?_eq_some_iff.mp hi).1, ?_, ?_⟩
    · rw [e]; exact has_iff.mpr (.inr rfl)
    · rw [e]; show (q : Int) + p - p = q; omega
theorem look_has {pl i : Nat} {s : WS} (h : has (tie L i) (pl : Int) = true) : (other (tie L i) (pl : Int)).toNat ∈ (lookAt L pl i s).1.map Prod.fst := by
  unfold lookAt
  by_cases c : wayOf s.1 (other (tie L i) (pl : Int)).toNat = none
  · rw [if_pos ⟨h, c⟩, List.map_append]
    exact List.mem_append_right _ (by simp)
  · rw [if_neg fun z => c z.2]
    cases q : wayOf s.1 (other (tie L i) (pl : Int)).toNat with
    | none => exact absurd q c
    | some x => exact List.mem_map.mpr ⟨_, way_mem q, rfl⟩
theorem scan_has {pl j : Nat} : ∀ {i : Nat} {s : WS}, j < i → has (tie L j) (pl : Int) = true → (other (tie L j) (pl : Int)).toNat ∈ (scanN L pl i s).1.map Prod.fst
  | 0, _, h, _ => absurd h (Nat.not_lt_zero _)
  | i + 1, s, h, hh => by
    rcases Nat.lt_or_ge j i with z | z
    · obtain ⟨q, hq, e⟩ := List.mem_map.mp (scan_has (s := s) z hh)
      exact List.mem_map.mpr ⟨q, look_sub hq, e⟩
    · have : j = i := by omega
      subst this
      exact look_has hh
/-- a new place waits -/
theorem look_new {pl i p : Nat} {s : WS} (h : p ∈ (lookAt L pl i s).1.map Prod.fst) : p ∈ s.1.map Prod.fst ∨ p ∈ (lookAt L pl i s).2 := by
  unfold lookAt at h ⊢
  split at h
  · rename_i c
    rw [if_pos c]
    rw [List.map_append] at h
    rcases List.mem_append.mp h with h | h
    · exact .inl h
    · exact .inr (List.mem_append_right _ (by simpa using h))
  · exact .inl h
theorem look_wait {pl i p : Nat} {s : WS} (h : p ∈ s.2) : p ∈ (lookAt L pl i s).2 := by
  unfold lookAt
  split
  · exact List.mem_append_left _ h
  · exact h
theorem scan_wait {pl p : Nat} : ∀ {i : Nat} {s : WS}, p ∈ s.2 → p ∈ (scanN L pl i s).2
  | 0, _, h => h
  | _ + 1, _, h => look_wait (scan_wait h)
theorem scan_new {pl p : Nat} : ∀ {i : Nat} {s : WS}, p ∈ (scanN L pl i s).1.map Prod.fst → p ∈ s.1.map Prod.fst ∨ p ∈ (scanN L pl i s).2
  | 0, _, h => .inl h
  | i + 1, s, h => by
    rcases look_new h with z | z
    · rcases scan_new (i := i) z with y | y
      · exact .inl y
      · exact .inr (look_wait y)
    · exact .inr z
theorem Cl.turn {s : WS} (h : Cl L s) (ne : s.2 ≠ []) : Cl L (turnW L s) := by
  have e : s.2 = s.2.dropLast ++ [s.2.getLastD 0] := by
    rw [List.getLastD_eq_getLast?, List.getLast?_eq_some_getLast ne]
    exact (List.dropLast_concat_getLast ne).symm
  intro p hp
  unfold turnW at hp ⊢
  rcases scan_new hp with z | z
  · by_cases pe : p = s.2.getLastD 0
    · subst pe
      refine .inr fun q a => ?_
      obtain ⟨i, hi, h1, h2⟩ := adj_tie a
      have := scan_has (i := L.length) (s := (s.1, s.2.dropLast)) hi h1
      rw [h2] at this
      exact this
    · rcases h p z with y | y
      · rw [e] at y
        rcases List.mem_append.mp y with y | y
        · exact .inl (scan_wait (s := (s.1, s.2.dropLast)) y)
        · exact absurd (List.mem_singleton.mp y) pe
      · exact .inr fun q a => scan_keys (s := (s.1, s.2.dropLast)) (y q a)
  · exact .inl z
theorem Cl.run : ∀ {k : Nat} {s : WS}, Cl L s → Cl L (runW L k s)
  | 0, _, h => h
  | k + 1, s, h => by
    rw [runW]
    split
    · exact h
    · rename_i ne
      exact (h.turn ne).run
/-- the ways from r -/
def waysN (L : List (Int × Int)) (r : Nat) : List (Nat × List Nat) := (runW L 40 ([(r, [])], [r])).1
theorem run_sub : ∀ {k : Nat} {s : WS} {q : Nat × List Nat}, q ∈ s.1 → q ∈ (runW L k s).1
  | 0, _, _, h => h
  | k + 1, s, q, h => by
    rw [runW]
    split
    · exact h
    · exact run_sub (scan_sub (s := (s.1, s.2.dropLast)) h)
/-- they reach just what is joined with r -/
theorem ways_reach {n r : Nat} (B : BelN L n) (hn : n ≤ 12) (hr : r < n) (hL : ∀ x y, Adj L x y → x < n ∧ y < n) (p : Nat) : p ∈ (waysN L r).map Prod.fst ↔ Rch L (2 ^ n - 1) r p := by
  have G0 : Grow L n r ([(r, [])], [r]) := Grow.start hr
  have G := G0.run (k := 40) B
  have en := run_end (k := 40) B G0 (by unfold muW; simp; omega)
  have cl : Cl L (runW L 40 ([(r, [])], [r])) := Cl.run fun p hp => .inl (by simpa using hp)
  have c2 : ∀ p ∈ (waysN L r).map Prod.fst, ∀ q, Adj L p q → q ∈ (waysN L r).map Prod.fst := fun p hp => (cl p hp).resolve_left (by rw [en]; simp)
  have rt : r ∈ (waysN L r).map Prod.fst := List.mem_map.mpr ⟨(r, []), run_sub (by simp), rfl⟩
  constructor
  · intro h
    obtain ⟨⟨q, x⟩, hq, rfl⟩ := List.mem_map.mp h
    have go : ∀ (m : Nat) (x : List Nat) (q : Nat), x.length = m → (q, x) ∈ waysN L r → Rch L (2 ^ n - 1) r q := fun m => by
      induction m with
      | zero =>
        intro x q e hq
        have := (G.ok q x hq).2.1
        rw [List.length_eq_zero_iff.mp e] at this
        have : q = r := by simp only [ed] at this; omega
        rw [this]
        exact .refl (by rw [full_bit]; exact decide_eq_true hr)
      | succ m ih =>
        intro x q e hq
        rcases G.pre q x hq with z | ⟨u, y, k, z1, z2⟩
        · rw [z] at e; cases e
        · subst z1
          rw [List.length_append, List.length_singleton] at e
          have hu := ih y u (by omega) z2
          obtain ⟨o1, o2, o3⟩ := G.ok q _ hq
          obtain ⟨_, u2, _⟩ := G.ok u y z2
          rw [ok_app, Bool.and_eq_true, u2, okW, Bool.and_eq_true] at o1
          rw [ed_app, u2] at o2
          have o2 : other (tie L k) (u : Int) = (q : Int) := o2
          have kl := G.lt q _ hq k (List.mem_append_right _ (List.mem_singleton.mpr rfl))
          have mt : tie L k ∈ L := by
            have := List.getElem?_eq_getElem kl
            unfold tie
            rw [List.getD_eq_getElem?_getD, this]
            exact List.getElem_mem kl
          have hh := has_iff.mp o1.2.1
          unfold other at o2
          refine .step hu ?_ (by rw [full_bit]; exact decide_eq_true o3)
          rcases hh with e | e
          · refine .inl ?_
            have : tie L k = ((u : Int), (q : Int)) := Prod.ext (by show _ = (u : Int); omega) (by show _ = (q : Int); omega)
            rw [← this]; exact mt
          · refine .inr ?_
            have : tie L k = ((q : Int), (u : Int)) := Prod.ext (by show _ = (q : Int); omega) (by show _ = (u : Int); omega)
            rw [← this]; exact mt
    exact go _ x q rfl hq
  · intro h
    exact h.closed (S := fun p => p ∈ (waysN L r).map Prod.fst) rt fun b c s a _ => c2 b s c a
end
end K0

/-! Two sides, or a ring of odd length. -/
namespace K0
/-- how far two ways agree -/
def lcp : List Nat → List Nat → Nat
  | x :: xs, y :: ys => if x = y then lcp xs ys + 1 else 0
  | _, _ => 0
theorem lcp_le : ∀ x y : List Nat, lcp x y ≤ x.length ∧ lcp x y ≤ y.length
  | [], _ => ⟨Nat.le_refl _, Nat.zero_le _⟩
  | _ :: _, [] => ⟨Nat.zero_le _, Nat.le_refl _⟩
  | x :: xs, y :: ys => by
    rw [lcp]
    have := lcp_le xs ys
    split
    · simp only [List.length_cons]; omega
    · exact ⟨Nat.zero_le _, Nat.zero_le _⟩
theorem lcp_take : ∀ x y : List Nat, x.take (lcp x y) = y.take (lcp x y)
  | [], _ => by simp [lcp]
  | _ :: _, [] => by simp [lcp]
  | x :: xs, y :: ys => by
    rw [lcp]
    split
    · rename_i e
      rw [List.take_succ_cons, List.take_succ_cons, e, lcp_take xs ys]
    · rfl
theorem lcp_drop : ∀ (x y : List Nat) (u : Nat) (s t : List Nat), x.drop (lcp x y) = u :: s → y.drop (lcp x y) ≠ u :: t
  | [], _, u, s, t, h => by simp at h
  | _ :: _, [], u, s, t, h => by simp
  | x :: xs, y :: ys, u, s, t, h => by
    rw [lcp] at h ⊢
    split at h
    · rename_i e
      rw [if_pos e]
      rw [List.drop_succ_cons] at h ⊢
      exact lcp_drop xs ys u s t h
    · rename_i e
      rw [if_neg e]
      intro z
      exact e ((List.cons.inj h).1.trans (List.cons.inj z).1.symm)
/-- what closed_ring tells -/
def ringOf (x : List Nat) (k : Nat) (y : List Nat) : List Nat := x.drop (lcp x y) ++ (k :: (y.drop (lcp x y)).reverse)
theorem Tree.ringOf {L : List (Int × Int)} {r : Int} {T : List Nat → Prop} (W : Tree L r T) {x y : List Nat} {k : Nat} (hx : T x) (hy : T y) (hk : has (tie L k) (ed L r x) = true) (ho : other (tie L k) (ed L r x) = ed L r y) (ne : ed L r x ≠ ed L r y) (par : x.length % 2 = y.length % 2) :
    ringB L (ringOf x k y) = true ∧ (K0.ringOf x k y).length % 2 = 1 := by
  have e1 : x.take (lcp x y) ++ x.drop (lcp x y) = x := List.take_append_drop ..
  have e2 : x.take (lcp x y) ++ y.drop (lcp x y) = y := by rw [lcp_take]; exact List.take_append_drop ..
  exact W.ring (c := x.take (lcp x y)) (x := x.drop (lcp x y)) (y := y.drop (lcp x y)) (by rw [e1]; exact hx) (by rw [e2]; exact hy) (lcp_drop x y) (by rw [e1]; exact hk) (by rw [e1, e2]; exact ho) (by rw [e1, e2]; exact ne) (by rw [e1, e2]; exact par)
/-- the way of a place, from the first place of its part -/
def wayP (L : List (Int × Int)) (ys : List (List Nat)) (p : Nat) : List Nat := match ys.find? fun c => decide (p ∈ c) with
  | some c => (wayOf (waysN L (hd c)) p).getD []
  | none => []
section
variable {L : List (Int × Int)} {n : Nat} {ys : List (List Nat)}
theorem bel_adj (B : BelN L n) {x y : Nat} (a : Adj L x y) : x < n ∧ y < n := by
  obtain ⟨i, hi, h1, h2⟩ := adj_tie a
  have := B i hi
  have := has_iff.mp h1
  unfold other at h2
  omega
theorem find_class (C : Cls L (2 ^ n - 1) ys) {p : Nat} {c : List Nat} (hc : c ∈ ys) (hp : p ∈ c) : ys.find? (fun c => decide (p ∈ c)) = some c := by
  cases q : ys.find? fun c => decide (p ∈ c) with
  | none =>
    have := List.find?_eq_none.mp q c hc
    exact absurd (decide_eq_true hp) this
  | some e =>
    have he := List.mem_of_find?_eq_some q
    have hpe : p ∈ e := by have := List.find?_some (p := fun c => decide (p ∈ c)) q; exact of_decide_eq_true this
    have : c = e := by
      obtain ⟨r, _, h1⟩ := C.cls c hc
      exact inc_eq id (C.inc c hc) (C.inc e he) fun i => by rw [C.one hc hp i, C.one he hpe i]
    rw [this]
/-- each place has its way -/
theorem wayP_in (C : Cls L (2 ^ n - 1) ys) (B : BelN L n) (hn : n ≤ 12) {c : List Nat} (hc : c ∈ ys) {p : Nat} (hp : p ∈ c) : (p, wayP L ys p) ∈ waysN L (hd c) := by
  have hh := hd_mem (C.ne hc)
  have hl : hd c < n := by
    have := ((C.one hc hh (hd c)).mp hh).bit
    rwa [full_bit, decide_eq_true_eq] at this
  have m := (ways_reach B hn hl (fun x y a => bel_adj B a) p).mpr ((C.one hc hh p).mp hp)
  obtain ⟨x, hx⟩ := way_some m
  have e : wayP L ys p = x := by
    unfold wayP
    rw [find_class C hc hp]
    show (wayOf (waysN L (hd c)) p).getD [] = x
    rw [hx] <;> rfl
  rw [e]
  exact way_mem hx
/-- a tie between places alike in parity closes an odd ring -/
theorem odd_ring (C : Cls L (2 ^ n - 1) ys) (B : BelN L n) (hn : n ≤ 12) {i a b : Nat} (hi : i < L.length) (ht : tie L i = ((a : Int), (b : Int))) (par : (wayP L ys a).length % 2 = (wayP L ys b).length % 2) :
    ringB L (ringOf (wayP L ys a) i (wayP L ys b)) = true ∧ (ringOf (wayP L ys a) i (wayP L ys b)).length % 2 = 1 := by
  have bi := B i hi
  rw [ht] at bi
  dsimp only at bi
  have adj : Adj L a b := by
    refine .inl ?_
    rw [← ht]
    unfold tie
    rw [List.getD_eq_getElem?_getD, List.getElem?_eq_getElem hi]
    exact List.getElem_mem hi
  have ba : (2 ^ n - 1).testBit a = true := by rw [full_bit]; exact decide_eq_true (by omega)
  have bb : (2 ^ n - 1).testBit b = true := by rw [full_bit]; exact decide_eq_true (by omega)
  obtain ⟨c, hc, ac⟩ := C.all a ba
  have bc : b ∈ c := (C.one hc ac b).mpr (.step (.refl ba) adj bb)
  have ma := wayP_in C B hn hc ac
  have mb := wayP_in C B hn hc bc
  have hh := hd_mem (C.ne hc)
  have hl : hd c < n := by
    have := ((C.one hc hh (hd c)).mp hh).bit
    rwa [full_bit, decide_eq_true_eq] at this
  have G := (Grow.start hl).run (k := 40) B
  have ea := (G.ok a _ ma).2.1
  have eb := (G.ok b _ mb).2.1
  refine G.tree.ringOf ⟨a, ma⟩ ⟨b, mb⟩ ?_ ?_ ?_ par
  · rw [ea, ht]; exact has_iff.mpr (.inl rfl)
  · rw [ea, eb, ht]; show (a : Int) + b - a = b; omega
  · rw [ea, eb]; omega
/-- ties of an odd ring: no two sides -/
theorem no_sides {ns : List Nat} (h : ringB L ns = true) (odd : ns.length % 2 = 1) (mem : Int → Bool) : ¬ ∀ k ∈ ns, crB mem (tie L k) = true := fun c => by
  obtain ⟨_, _, s, g⟩ := of_ringB h
  have := g.col c
  omega
end
end K0

set_option Elab.async false
set_option linter.all false
set_option maxRecDepth 100000
set_option maxHeartbeats 8000000
/-! The ways from a place, exactly. -/
namespace K0
open PySem PySem.Spec L2
open PyProof.Rows hiding St
/-- the dict of these ways -/
inductive WaysAt (M : Hp) : List (Key × V) → List (Nat × List Nat) → Prop
  | nil : WaysAt M [] []
  | cons {p : Nat} {x : List Nat} {t : Addr} {kvs : List (Key × V)} {ws : List (Nat × List Nat)} (h : M t = some (.tup (x.map natV))) (q : WaysAt M kvs ws) : WaysAt M ((ky p, .ref t) :: kvs) ((p, x) :: ws)
theorem WaysAt.mono {M M' : Hp} {kvs : List (Key × V)} {ws : List (Nat × List Nat)} (w : WaysAt M kvs ws) (s : ∀ a x, M a = some (.tup x) → M' a = some (.tup x)) : WaysAt M' kvs ws := by
  induction w with
  | nil => exact .nil
  | cons h _ ih => exact .cons (s _ _ h) ih
theorem WaysAt.snoc {M : Hp} {kvs : List (Key × V)} {ws : List (Nat × List Nat)} (w : WaysAt M kvs ws) {p : Nat} {x : List Nat} {t : Addr} (h : M t = some (.tup (x.map natV))) : WaysAt M (kvs ++ [(ky p, .ref t)]) (ws ++ [(p, x)]) := by
  induction w with
  | nil => exact .cons h .nil
  | cons g _ ih => exact .cons g ih
theorem WaysAt.val {M : Hp} {kvs : List (Key × V)} {ws : List (Nat × List Nat)} (w : WaysAt M kvs ws) (p : Nat) : (valV kvs (ky p) = none ∧ wayOf ws p = none) ∨ ∃ t x, valV kvs (ky p) = some (.ref t) ∧ wayOf ws p = some x ∧ M t = some (.tup (x.map natV)) := by
  unfold wayOf
  induction w with
  | nil => exact .inl ⟨valV_nil, rfl⟩
  | @cons q x t kvs ws h _ ih =>
    rw [List.lookup_cons]
    by_cases e : p = q
    · subst e
      exact .inr ⟨t, x, valV_pos rfl, by simp, h⟩
    · rw [valV_neg fun z => e (ky_inj z).symm]
      have : (p == q) = false := beq_false_of_ne e
      rw [this]
      exact ih
theorem belN_of {n : Nat} {L : List (Int × Int)} (hB : Bel n L) : BelN L n := fun i hi => by
  have h := List.getElem?_eq_getElem hi
  have := hB _ (List.getElem_mem hi)
  unfold tie
  rw [List.getD_eq_getElem?_getD, h]
  exact this
theorem tie_get {L : List (Int × Int)} {i : Nat} {q : Int × Int} (h : L[i]? = some q) : tie L i = q := by
  unfold tie
  rw [List.getD_eq_getElem?_getD, h] <;> rfl
/-- the state of the search, as the function has it -/
def XW (M : Hp) (kvs : List (Key × V)) (ws : List Nat) (n r : Nat) (L : List (Int × Int)) : Prop := ∃ (s : WS) (kk : Nat), WaysAt M kvs s.1 ∧ ws = s.2 ∧ Grow L n r s ∧ runW L kk s = runW L 40 ([(r, [])], [r]) ∧ muW n s ≤ kk
def XI (M : Hp) (kvs : List (Key × V)) (ws : List Nat) (L : List (Int × Int)) (pl i : Nat) (s0 : WS) : Prop := ∃ s : WS, s = scanN L pl i s0 ∧ WaysAt M kvs s.1 ∧ ws = s.2
def spWaysX : Sp := fun vs H Q _ => ∃ (w : Addr) (n r : Nat) (L : List (Int × Int)), vs = [.ref w, .int (r : Int)] ∧ GW H w n L ∧ r < n ∧ ∀ (d : Addr) (kvs : List (Key × V)) (H' : Hp), Same H H' → H d = none → H' d = some (.dK kvs) → WaysAt H' kvs (waysN L r) → Q (.ref d) H'
section
variable {P : Program} {w0 : World} {K : PySem.W.Frag} {mg : Str → Option Value} {base : Heap}
theorem ok_waysX {f : Addr} {fd : FuncData} (F : Fun K "ways_from" "ways_from" pWays f fd) (T : Bj mg) : FnOk P w0 K mg base CX0 1 f fd ["web", "root"] spWaysX := by
  refine F.ok scWays (fun vs H Q E h => ?_) (fun cdv A outer s H vs Q E hr h => ?_)
  · obtain ⟨w, n, r, L, rfl, _⟩ := h
    rfl
  · obtain ⟨w, n, r, L, rfl, G, hrn, k⟩ := h
    have hu := hu_of hr
    refine ⟨_, pss_cons (ps_set (i := 2) scWays.nd rfl (.inl rfl) (pe_disp (pps_cons (pv 1) (pe_tup pa_nil) pps_nil) (by rfl) (by rfl) (fun z => by cases z) (by decide)))
      <| pss_cons (ps_set (i := 3) scWays.nd rfl (.inl rfl) (pe_lst (pa_cons (pv 1) pa_nil)))
      <| pss_cons (ps_while PassesOwn.never (pt_truthK (K0 := K) rfl (pv 3) (by intro _; rfl))
          (pss_cons (ps_set (i := 4) scWays.nd rfl (.inl rfl) (pe_bm0 PySem.F.plainAttrs_list PySem.F.slot_list_pop PySem.F.type_list_pop mt_pop (pv 3)))
          <| pss_one (ps_for PassesOwn.never rfl (KR.pi_enumT (by rfl) T.enu (pa_cons (pe_ix ix_tup (pv 0) pe_int (fun _ _ => rfl)) pa_nil))
              (pg_tup rfl (pgs_cons (pg_name (i := 5) scWays.nd rfl (.inl rfl)) (pgs_cons (pg_tup rfl (pgs_cons (pg_name (i := 6) scWays.nd rfl (.inl rfl)) (pgs_cons (pg_name (i := 7) scWays.nd rfl (.inl rfl)) pgs_nil))) pgs_nil)))
              (pss_one (ps_if (PW.pt (pw_and (pt_cmpR (show OpR _ (compareOp .In) (rIn K false) from op_in_seq) (pv 4) (pe_tup (pa_cons (pv 6) (pa_cons (pv 7) pa_nil))) (by rfl))
                    (pw_and1 (pt_cmp (pc_dnotin hu (pe_op op_sub (pe_op op_add (pv 6) (pv 7)) (pv 4)) (pv 2))))))
                  (pss_cons (ps_dput hu (pv 2) (pe_op op_sub (pe_op op_add (pv 6) (pv 7)) (pv 4)) (pe_op op_catA (pe_dget hu (pv 2) (pv 4) (fun _ _ => rfl)) (pe_tup (pa_cons (pv 5) pa_nil))) rfl)
                  <| pss_one (ps_expr (pe_bm PySem.F.plainAttrs_list PySem.F.slot_list_append PySem.F.type_list_append mt_append (pv 3) (pa_cons (pe_op op_sub (pe_op op_add (pv 6) (pv 7)) (pv 4)) pa_nil)))) pss_nil)))))
      <| pss_one (ps_ret (pv 2)), ?_⟩
    obtain ⟨ta, vs, e1, e2, e3⟩ := G.web.ex
    have n2 := G.n2
    have hB := G.bel
    have len := e3.len
    have few := G.few
    -- the dict
    refine fun d hd => ?_
    refine ⟨_, rfl, by show 0 ≤ sizeLine; exact Nat.zero_le _, fun t0 ht0 => ?_⟩
    refine ⟨by rw [upd_ne (ne_of_none upd_same ht0)]; exact upd_same, [(ky r, .ref t0)], rfl, by show 1 ≤ 15; decide, ?_⟩
    have nd0 : d ≠ t0 := ne_of_none upd_same ht0
    have hH2 : Same H (upd (upd H d (.dK [])) t0 (.tup [])) := (same_new hd).trans (same_new ht0)
    have em : mergeK [] [(ky r, V.ref t0)] = [(ky r, .ref t0)] := rfl
    rw [em]
    have hH3 : Same H (upd (upd (upd H d (.dK [])) t0 (.tup [])) d (.dK [(ky r, .ref t0)])) := set_same hd hH2
    have et0 : (upd (upd (upd H d (.dK [])) t0 (.tup [])) d (.dK [(ky r, .ref t0)])) t0 = some (.tup []) := by rw [upd_ne nd0.symm, upd_same]
    have ed0 : (upd (upd (upd H d (.dK [])) t0 (.tup [])) d (.dK [(ky r, .ref t0)])) d = some (.dK [(ky r, .ref t0)]) := upd_same
    generalize upd (upd (upd H d (.dK [])) t0 (.tup [])) d (.dK [(ky r, .ref t0)]) = M0 at hH3 et0 ed0 ⊢
    refine ⟨_, rfl, by show 1 ≤ sizeLine; decide, fun q hq => ?_⟩
    have hqH : H q = none := hH3.free hq
    have ndq : d ≠ q := ne_of_none ed0 hq
    have wv0 : WV (upd M0 q (.lst [natV r])) n [(ky r, .ref t0)] := by
      refine ⟨fun kv hv => ?_, ?_⟩
      · rw [List.mem_singleton.mp hv]
        exact ⟨r, rfl, hrn, t0, [], rfl, by rw [upd_ne (ne_of_none et0 hq)]; exact et0, Nat.zero_le _⟩
      · have : lefts [(ky r, V.ref t0)] n ≤ n := by
          unfold lefts
          refine Nat.le_trans (List.length_filter_le _ _) ?_
          rw [List.length_range]
          exact Nat.le_refl _
        rw [List.length_singleton]
        omega
    have isr : ∀ i, isK [(ky r, V.ref t0)] i ↔ i = r := fun i => by
      unfold isK
      by_cases e : i = r
      · subst e
        rw [valV_pos rfl]
        simp
      · rw [valV_neg (fun z => e (ky_inj z.symm))]
        simp [e, valV_nil]
    have mu25 : 2 * lefts [(ky r, V.ref t0)] n + [r].length ≤ 25 := by
      have : lefts [(ky r, V.ref t0)] n ≤ n := by
        unfold lefts
        refine Nat.le_trans (List.length_filter_le _ _) ?_
        rw [List.length_range]
        exact Nat.le_refl _
      rw [List.length_singleton]
      omega
    refine while_ex (fun σ M => ∃ (kvs : List (Key × V)) (ws : List Nat) (o4 o5 o6 o7 : Option V), σ = [some (.ref w), some (.int (r : Int)), some (.ref d), some (.ref q), o4, o5, o6, o7] ∧ M d = some (.dK kvs) ∧ M q = some (.lst (ws.map natV)) ∧ Same H M ∧ WV M n kvs ∧ WayAt L n r kvs ws ∧ 2 * lefts kvs n + ws.length ≤ 25 ∧ XW M kvs ws n r L) (muWays n)
      ⟨_, [r], none, none, none, none, rfl, by rw [upd_ne ndq]; exact ed0, upd_same, hH3.trans (same_new hq), wv0, ⟨(isr r).mpr rfl, fun i hi => (isr i).mpr (List.mem_singleton.mp hi), fun i j hi _ => .inr (List.mem_singleton.mpr ((isr i).mp hi))⟩, mu25, ⟨([(r, [])], [r]), 40, .cons (x := []) (by rw [upd_ne (ne_of_none et0 hq)]; exact et0) .nil, rfl, Grow.start hrn, rfl, by unfold muW; simp; omega⟩⟩ ?_ ?_
    · rintro σ M ⟨kvs, ws, o4, o5, o6, o7, rfl, f1, f2, f3, f4, f5, f6, s, kk, w1, w2, w3, w4, w5⟩
      have mu0 : muWays n [some (.ref w), some (.int (r : Int)), some (.ref d), some (.ref q), o4, o5, o6, o7] M = 2 * lefts kvs n + ws.length := by
        show (match M d, M q with | some (.dK kvs), some (.lst ws) => 2 * lefts kvs n + ws.length | _, _ => 0) = _
        rw [f1, f2]
        show _ + (ws.map natV).length = _
        rw [List.length_map]
      rw [mu0]
      refine ⟨_, rfl, _, .inl ⟨_, SqL.of f2, rfl⟩, ?_⟩
      by_cases h0 : ws = []
      · subst h0
        have ek : runW L kk s = s := by
          cases kk with
          | zero => rfl
          | succ kk => rw [runW, if_pos w2.symm]
        rw [ek] at w4
        refine ⟨_, rfl, k d kvs M f3 hd f1 ?_⟩
        unfold waysN
        rw [← w4]
        exact w1
      · obtain ⟨ws', pl, rfl⟩ : ∃ ws' pl, ws = ws' ++ [pl] := ⟨ws.dropLast, ws.getLast h0, (List.dropLast_concat_getLast h0).symm⟩
        have hz : (!((ws' ++ [pl]).map natV).isEmpty) = true := by simp
        rw [hz]
        refine iteT ?_
        have hpl : isK kvs pl := f5.sub pl (List.mem_append_right _ (List.mem_singleton.mpr rfl))
        have hpn := f4.lt hpl
        refine ⟨_, rfl, .inl ⟨rfl, _, SqL.of f2⟩, q, _, natV pl, rfl, rfl, f2, by rw [List.map_append, List.length_append]; simp, ?_⟩
        have f2' : (upd M q (.lst ((ws' ++ [pl]).map natV).dropLast)) q = some (.lst (ws'.map natV)) := by rw [upd_same, List.map_append, List.map_singleton, List.dropLast_concat]
        have f1' : (upd M q (.lst ((ws' ++ [pl]).map natV).dropLast)) d = some (.dK kvs) := by rw [upd_ne ndq]; exact f1
        have f3' : Same H (upd M q (.lst ((ws' ++ [pl]).map natV).dropLast)) := set_same hqH f3
        have f4' : WV (upd M q (.lst ((ws' ++ [pl]).map natV).dropLast)) n kvs := f4.mono (upd_tup f2)
        have w1' : WaysAt (upd M q (.lst ((ws' ++ [pl]).map natV).dropLast)) kvs s.1 := w1.mono (upd_tup f2)
        have gW0 : 2 * lefts kvs n + ws'.length ≤ 1000 := by
          rw [List.length_append, List.length_singleton] at f6
          omega
        generalize upd M q (.lst ((ws' ++ [pl]).map natV).dropLast) = M1 at f1' f2' f3' f4' w1' ⊢
        refine ⟨_, rfl, w, _, _, _, rfl, rfl, SqT.of (f3' _ _ e1), atI_nat (j := 1) rfl, ta, vs, rfl, SqT.of (f3' _ _ e2), ?_⟩
        refine for_it (KR.walk_enumT (xs := vs)) (fun i σ M => ∃ (kvs2 : List (Key × V)) (ws2 : List Nat) (o5 o6 o7 : Option V), σ = [some (.ref w), some (.int (r : Int)), some (.ref d), some (.ref q), some (natV pl), o5, o6, o7] ∧ M d = some (.dK kvs2) ∧ M q = some (.lst (ws2.map natV)) ∧ Same H M ∧ WayIn M L n r pl i (2 * lefts kvs n + ws'.length) kvs2 ws2 ∧ XI M kvs2 ws2 L pl i (s.1, ws'))
          ⟨kvs, ws', o5, o6, o7, rfl, f1', f2', f3', ⟨f4', f5.root, hpl, fun i hi => f5.sub i (List.mem_append_left _ hi), fun i j hi a => (f5.cl i j hi a).imp id fun z => (List.mem_append.mp z).imp id List.mem_singleton.mp, fun j z => (by unfold Adj at z; simp at z), Nat.le_refl _⟩, ⟨_, rfl, w1', rfl⟩⟩ (fun i σ M _ ⟨_, _, _, _, _, _, _, _, s, _⟩ => SqT.of (s _ _ e2)) ?_ ?_
        · rintro i x σ M M' hi ⟨kvs2, ws2, o5, o6, o7, rfl, g1, g2, g3, gW, s2, x1, x2, x3⟩ ⟨Tt, u, y, rfl, hT, rfl, e7, e8⟩
          cases e7
          obtain ⟨b, qq, rfl, hq', hb⟩ := e3.get e8
          have bq := hB qq (List.mem_of_getElem? hq')
          obtain ⟨q1, q2⟩ := qq
          obtain ⟨a1, rfl⟩ : ∃ a1 : Nat, q1 = a1 := ⟨q1.toNat, by have := bq.1; dsimp only at this; omega⟩
          obtain ⟨a2, rfl⟩ : ∃ a2 : Nat, q2 = a2 := ⟨q2.toNat, by have := bq.1; have := bq.2.1; dsimp only at *; omega⟩
          dsimp only at bq hb
          have ts := take_snoc hq'
          have sT : Same M (upd M Tt (.tup [.int (i : Nat), .ref b])) := same_new hT
          have g1' := sT _ _ g1
          have g2' := sT _ _ g2
          have g3' := g3.trans sT
          have x2' : WaysAt (upd M Tt (.tup [.int (i : Nat), .ref b])) kvs2 s2.1 := x2.mono (same_tup sT)
          have gW' : WayIn (upd M Tt (.tup [.int (i : Nat), .ref b])) L n r pl i (2 * lefts kvs n + ws'.length) kvs2 ws2 := { gW with wv := gW.wv.mono (same_tup sT) }
          refine ⟨Tt, _, rfl, SqT.of upd_same, rfl, _, _, rfl, _, _, rfl, b, _, rfl, SqT.of (g3' _ _ hb), rfl, _, _, rfl, _, _, rfl, rfl, rfl, ?_⟩
          generalize upd M Tt (.tup [.int (i : Nat), .ref b]) = M1 at g1' g2' g3' gW' x2' ⊢
          clear sT g1 g2 g3 gW x2
          refine ⟨_, rfl, _, rfl, _, rfl, by show 2 ≤ sizeLine; decide, fun t1 ht1 => ?_⟩
          have sU : Same M1 (upd M1 t1 (.tup [.int (a1 : Nat), .int (a2 : Nat)])) := same_new ht1
          have k1 := sU _ _ g1'
          have k2 := sU _ _ g2'
          have k3 := g3'.trans sU
          have kW : WayIn (upd M1 t1 (.tup [.int (a1 : Nat), .int (a2 : Nat)])) L n r pl i (2 * lefts kvs n + ws'.length) kvs2 ws2 := { gW' with wv := gW'.wv.mono (same_tup sU) }
          have y2 : WaysAt (upd M1 t1 (.tup [.int (a1 : Nat), .int (a2 : Nat)])) kvs2 s2.1 := x2'.mono (same_tup sU)
          have et1 : (upd M1 t1 (.tup [.int (a1 : Nat), .int (a2 : Nat)])) t1 = some (.tup (([(a1 : Int), (a2 : Int)] : List Int).map V.int)) := upd_same
          refine ⟨t1, ([(a1 : Int), (a2 : Int)] : List Int).map V.int, rfl, .inr (SqT.of et1), rfl, rfl, _, rfl, ?_⟩
          generalize upd M1 t1 (.tup [.int (a1 : Nat), .int (a2 : Nat)]) = M2 at k1 k2 k3 kW et1 y2 ⊢
          clear g1' g2' g3' gW' sU x2'
          have eti : tie L i = ((a1 : Int), (a2 : Int)) := tie_get hq'
          have exS : scanN L pl (i + 1) (s.1, ws') = lookAt L pl i s2 := by rw [scanN, ← x1]
          have ei : inV (natV pl) (([(a1 : Int), (a2 : Int)] : List Int).map V.int) = decide ((pl : Int) ∈ ([(a1 : Int), (a2 : Int)] : List Int)) := inV_ints _ _
          rw [if_neg Bool.false_ne_true, ei]
          by_cases hm : (pl : Int) ∈ ([(a1 : Int), (a2 : Int)] : List Int)
          · rw [decide_eq_true hm]
            obtain ⟨j, hj, ad, jn⟩ : ∃ j : Nat, ((a1 : Int) + a2 - pl) = j ∧ Adj [((a1 : Int), (a2 : Int))] pl j ∧ j < n := by
              simp only [List.mem_cons, List.not_mem_nil, or_false] at hm
              rcases hm with e | e
              · exact ⟨a2, by omega, .inl (by rw [e]; exact List.mem_singleton.mpr rfl), by omega⟩
              · exact ⟨a1, by omega, .inr (by rw [e]; exact List.mem_singleton.mpr rfl), by omega⟩
            have eo : (other (tie L i) (pl : Int)).toNat = j := by rw [eti]; show ((a1 : Int) + a2 - pl).toNat = j; omega
            have ehas : has (tie L i) (pl : Int) = true := by
              rw [eti, has_iff]
              simpa using hm
            refine iteT ⟨_, rfl, _, rfl, _, _, rfl, rfl, _, rfl, _, _, rfl, rfl, _, rfl, d, valV kvs2 (ky j), rfl, (by show DGet M2 d (.int ((a1 : Int) + a2 - pl)) _; rw [hj]; exact DGet.k (k := ky j) k1), _, rfl, ?_⟩
            cases hv : valV kvs2 (ky j) with
            | some v0 =>
              exact iteF ⟨kvs2, ws2, _, _, _, rfl, k1, k2, k3, kW.skip hq' fun j' z => by
                have := (adj_one z).2
                rw [show j' = j by omega]
                exact Option.isSome_iff_exists.mpr ⟨v0, hv⟩, ⟨s2, (by
                  rw [exS]
                  unfold lookAt
                  refine (if_neg fun c => ?_).symm
                  have z := c.2
                  rw [eo] at z
                  rcases y2.val j with ⟨y, _⟩ | ⟨_, _, _, y, _⟩
                  · rw [hv] at y; cases y
                  · rw [z] at y; cases y), y2, x3⟩⟩
            | none =>
              refine iteT ?_
              obtain ⟨v1, hv1⟩ := Option.isSome_iff_exists.mp kW.me
              obtain ⟨i1, ei1, _, t3, ns, rfl, et3, ln⟩ := kW.wv.vals _ _ hv1
              have kl := kW.wv.len
              obtain ⟨xw, ex1, ex2⟩ : ∃ xw, wayOf s2.1 pl = some xw ∧ ns = xw.map fun i => ((i : Nat) : Int) := by
                rcases y2.val pl with ⟨y, _⟩ | ⟨t', xw, y, z, e'⟩
                · rw [hv1] at y; cases y
                · rw [hv1] at y
                  cases y
                  rw [et3] at e'
                  refine ⟨xw, z, ?_⟩
                  have e'' := HO.tup.inj (Option.some.inj e')
                  rw [natV_ints] at e''
                  have := congrArg (List.map intV) e''
                  rw [List.map_map, List.map_map] at this
                  have idI : ∀ l : List Int, l.map (intV ∘ V.int) = l := fun l => (List.map_congr_left fun _ _ => rfl).trans (List.map_id l)
                  rwa [idI, idI] at this
              have vn : wayOf s2.1 j = none := by
                rcases y2.val j with ⟨_, y⟩ | ⟨_, _, y, _⟩
                · exact y
                · rw [hv] at y; cases y
              have exL : lookAt L pl i s2 = (s2.1 ++ [(j, xw ++ [i])], s2.2 ++ [j]) := by
                unfold lookAt
                rw [if_pos ⟨ehas, by rw [eo]; exact vn⟩, eo, ex1] <;> rfl
              refine ⟨_, rfl, _, rfl, d, .ref t3, rfl, by rw [← hv1]; exact DGet.k (k := ky pl) k1, _, rfl, by show 1 ≤ sizeLine; decide, fun t2 ht2 => ?_⟩
              have sV : Same M2 (upd M2 t2 (.tup [.int (i : Nat)])) := same_new ht2
              have l1 := sV _ _ k1
              have l2 := sV _ _ k2
              have l3 := k3.trans sV
              have et2 : (upd M2 t2 (.tup [.int (i : Nat)])) t2 = some (.tup (([(i : Int)] : List Int).map V.int)) := upd_same
              have et3' := sV _ _ et3
              have st := same_tup sV
              have z2 : WaysAt (upd M2 t2 (.tup [.int (i : Nat)])) kvs2 s2.1 := y2.mono st
              generalize upd M2 t2 (.tup [.int (i : Nat)]) = M3 at sV l1 l2 l3 et2 et3' st z2 ⊢
              have fin : ∀ (M4 : Hp) (t : Addr) (ms : List Int), Same M3 M4 → M4 t = some (.tup (ms.map V.int)) → ms.length ≤ kvs2.length + 1 → ms = (xw ++ [i]).map (fun i => ((i : Nat) : Int)) → ∀ o5 o6 o7 : Option V,
                  (∃ (kvs3 : List (Key × V)) (ws3 : List Nat) (p5 p6 p7 : Option V), [some (.ref w), some (.int (r : Int)), some (.ref d), some (.ref q), some (natV pl), o5, o6, o7] = [some (.ref w), some (.int (r : Int)), some (.ref d), some (.ref q), some (natV pl), p5, p6, p7] ∧
                    (upd (upd M4 d (.dK (putK kvs2 (ky j) (.ref t)))) q (.lst (ws2.map natV ++ [.int ((a1 : Int) + a2 - pl)]))) d = some (.dK kvs3) ∧ (upd (upd M4 d (.dK (putK kvs2 (ky j) (.ref t)))) q (.lst (ws2.map natV ++ [.int ((a1 : Int) + a2 - pl)]))) q = some (.lst (ws3.map natV)) ∧
                    Same H (upd (upd M4 d (.dK (putK kvs2 (ky j) (.ref t)))) q (.lst (ws2.map natV ++ [.int ((a1 : Int) + a2 - pl)]))) ∧ WayIn (upd (upd M4 d (.dK (putK kvs2 (ky j) (.ref t)))) q (.lst (ws2.map natV ++ [.int ((a1 : Int) + a2 - pl)]))) L n r pl (i + 1) (2 * lefts kvs n + ws'.length) kvs3 ws3 ∧ XI (upd (upd M4 d (.dK (putK kvs2 (ky j) (.ref t)))) q (.lst (ws2.map natV ++ [.int ((a1 : Int) + a2 - pl)]))) kvs3 ws3 L pl (i + 1) (s.1, ws')) := fun M4 t ms s4 e4 l4 hms o5 o6 o7 => by
                have sx : ∀ a x, M4 a = some (.tup x) → (upd (upd M4 d (.dK (putK kvs2 (ky j) (.ref t)))) q (.lst (ws2.map natV ++ [.int ((a1 : Int) + a2 - pl)]))) a = some (.tup x) := fun a x e => by
                  rw [upd_ne (ne_of e (s4 _ _ l2) (by intro z; cases z)), upd_ne (ne_of e (s4 _ _ l1) (by intro z; cases z))]
                  exact e
                exact ⟨kvs2 ++ [(ky j, .ref t)], ws2 ++ [j], _, _, _, rfl, by rw [upd_ne ndq, upd_same, putK_new _ hv], by rw [upd_same, hj, List.map_append] <;> rfl, set_same hqH (set_same hd (l3.trans s4)), kW.put hq' hj jn hv (fun a x e => sx a x (s4 _ _ (st a x e))) (sx _ _ e4) l4, ⟨_, rfl, by rw [exS, exL]; exact (z2.mono fun a x e => sx a x (s4 _ _ e)).snoc (by
                  have e9 : ms.map V.int = (xw ++ [i]).map natV := by rw [hms, ← natV_ints]
                  rw [← e9]
                  exact sx _ _ e4), by rw [exS, exL, x3]⟩⟩
              have dput : ∀ (M4 : Hp) (t : Addr), Same M3 M4 → DPut M4 d (.int ((a1 : Int) + a2 - pl)) (.ref t) (upd M4 d (.dK (putK kvs2 (ky j) (.ref t)))) := fun M4 t s4 => by
                rw [hj]
                exact DPut.k (k := ky j) (s4 _ _ l1) (by rw [sizeLine_eq]; omega)
              have few2 : (ws2.map natV).length < sizeLine := by
                have := gW0
                rw [List.length_map, sizeLine_eq]
                have := kW.mu
                omega
              refine ⟨t3, t2, ns.map V.int, ([(i : Int)] : List Int).map V.int, rfl, rfl, SqT.of et3', SqT.of et2, by rw [List.length_map, sizeLine_eq]; simp; omega, fun en => ?_, fun _ z => (by cases z), fun _ _ p hp => ?_⟩
              · refine ⟨_, rfl, _, rfl, _, rfl, _, _, rfl, rfl, _, rfl, _, _, rfl, rfl, d, _, rfl, dput M3 t2 (Same.refl _), ?_⟩
                have e5 : (upd M3 d (.dK (putK kvs2 (ky j) (.ref t2)))) q = some (.lst (ws2.map natV)) := by rw [upd_ne ndq.symm]; exact l2
                refine ⟨_, rfl, .inl ⟨rfl, _, SqL.of e5⟩, _, rfl, _, rfl, _, _, rfl, rfl, _, rfl, _, _, rfl, rfl, q, _, _, rfl, rfl, e5, few2, ?_⟩
                exact fin M3 t2 [(i : Int)] (Same.refl _) et2 (by simp) (by
                  have n0 : ns = [] := List.map_eq_nil_iff.mp en
                  rw [n0] at ex2
                  have x0 : xw = [] := List.map_eq_nil_iff.mp ex2.symm
                  rw [x0] <;> rfl) _ _ _
              · have sp : Same M3 (upd M3 p (.tup (ns.map V.int ++ ([(i : Int)] : List Int).map V.int))) := same_new hp
                refine ⟨_, rfl, _, rfl, _, rfl, _, _, rfl, rfl, _, rfl, _, _, rfl, rfl, d, _, rfl, dput _ p sp, ?_⟩
                have e5 : (upd (upd M3 p (.tup (ns.map V.int ++ ([(i : Int)] : List Int).map V.int))) d (.dK (putK kvs2 (ky j) (.ref p)))) q = some (.lst (ws2.map natV)) := by rw [upd_ne ndq.symm]; exact sp _ _ l2
                refine ⟨_, rfl, .inl ⟨rfl, _, SqL.of e5⟩, _, rfl, _, rfl, _, _, rfl, rfl, _, rfl, _, _, rfl, rfl, q, _, _, rfl, rfl, e5, few2, ?_⟩
                exact fin _ p (ns ++ [(i : Int)]) sp (by rw [upd_same, List.map_append]) (by rw [List.length_append, List.length_singleton]; omega) (by rw [ex2, List.map_append] <;> rfl) _ _ _
          · rw [decide_eq_false hm]
            exact iteF ⟨kvs2, ws2, _, _, _, rfl, k1, k2, k3, kW.skip hq' (fun j' z => absurd (adj_one z).1 hm), ⟨s2, (by
              rw [exS]
              unfold lookAt
              refine (if_neg fun c => ?_).symm
              have z := c.1
              rw [eti, has_iff] at z
              exact hm (by simpa using z)), y2, x3⟩⟩
        · rintro σ M ⟨kvs2, ws2, o5, o6, o7, rfl, g1, g2, g3, gW, s2, x1, x2, x3⟩
          rw [len] at gW x1
          have B := belN_of hB
          have ne : s.2 ≠ [] := by rw [← w2]; simp
          have et : turnW L s = s2 := by
            unfold turnW
            rw [x1, ← w2, List.dropLast_concat]
            simp
          have mt := mu_turn B w3 ne
          obtain ⟨k', rfl⟩ : ∃ k', kk = k' + 1 := ⟨kk - 1, by omega⟩
          rw [runW, if_neg ne, et] at w4
          have gt := w3.turn B ne
          rw [et] at gt mt
          have hW := gW.done
          refine ⟨⟨kvs2, ws2, _, _, _, _, rfl, g1, g2, g3, hW.1, hW.2, by have := gW.mu; rw [List.length_append, List.length_singleton] at f6; omega, ⟨s2, k', x2, x3, gt, w4, by omega⟩⟩, ?_⟩
          show (match M d, M q with | some (.dK kvs), some (.lst ws) => 2 * lefts kvs n + ws.length | _, _ => 0) < _
          rw [g1, g2]
          show _ + (ws2.map natV).length < _
          have := gW.mu
          rw [List.length_map, List.length_append, List.length_singleton]
          omega
    · rintro σ M Q Q' h ⟨v, e, x, t, q⟩
      exact ⟨v, e, x, t, h _ _ q⟩
end
end K0

set_option Elab.async false
set_option linter.all false
set_option maxRecDepth 100000
set_option maxHeartbeats 8000000
/-! Closed rings; sides. -/
namespace K0
open PySem PySem.Spec L2
open PyProof.Rows hiding St
abbrev pClosed : Stmt := top 23
abbrev pSides : Stmt := top 24
/-! ### tuples put together, by what they hold -/
theorem cut_all (xs : List V) {lo hi : Option Int} (h : HT.sIx xs.length 0 lo = 0 ∧ HT.sIx xs.length xs.length hi = xs.length) : cutV xs lo hi = xs := by
  unfold cutV
  rw [h.1, h.2, List.drop_zero, Nat.sub_zero, List.take_length]
def rCatX : R2 := fun x y H Q => ∃ a b xs ys, x = .ref a ∧ y = .ref b ∧ H a = some (.tup xs) ∧ H b = some (.tup ys) ∧ xs.length + ys.length ≤ sizeLine ∧ ∀ (p : Addr) (H' : Hp), Same H H' → H' p = some (.tup (xs ++ ys)) → Q (.ref p) H'
def rSlX' : V → Option Int → Option Int → Hp → VK → Prop := fun x lo hi H Q => ∃ a xs, x = .ref a ∧ H a = some (.tup xs) ∧ ∀ (p : Addr) (H' : Hp), Same H H' → H' p = some (.tup (cutV xs lo hi)) → Q (.ref p) H'
section
variable {X : Cx}
theorem op_catX : OpR X (binaryOp .Add) rCatX := fun pins s σ H x y v u Q I rx ry h => by
  obtain ⟨a, b, xs, ys, rfl, rfl, ha, hb, hl, q⟩ := h
  refine op_catA pins s σ H _ _ v u Q I rx ry ⟨a, b, xs, ys, rfl, rfl, SqT.of ha, SqT.of hb, hl, fun e => ?_, fun _ e => ?_, fun _ _ p hp => ?_⟩
  · subst e; exact q b H (Same.refl _) hb
  · subst e; exact q a H (Same.refl _) (by rw [List.append_nil]; exact ha)
  · exact q p _ (same_new hp) upd_same
theorem sl_X : SlR X rSlX' := fun pins s σ H x v vl vu lo hi sl Q I rx hs pl pu h => by
  obtain ⟨a, xs, rfl, ha, q⟩ := h
  refine sl_tupA pins s σ H _ v vl vu lo hi sl Q I rx hs pl pu ⟨a, xs, rfl, SqT.of ha, fun e => ?_, fun _ p hp => ?_⟩
  · exact q a H (Same.refl _) (by rw [cut_all xs e]; exact ha)
  · exact q p _ (same_new hp) upd_same
end
theorem cut_ints (ns : List Int) (lo hi : Option Int) : ∃ ms : List Int, cutV (ns.map V.int) lo hi = ms.map V.int ∧ ms.length ≤ ns.length := by
  refine ⟨(ns.drop (HT.sIx (ns.map V.int).length 0 lo)).take (HT.sIx (ns.map V.int).length (ns.map V.int).length hi - HT.sIx (ns.map V.int).length 0 lo), ?_, ?_⟩
  · unfold cutV
    rw [List.map_take, List.map_drop]
  · rw [List.length_take, List.length_drop]
    omega
def spClosed : Sp := fun vs H Q _ => ∃ (a b : Addr) (i : Int) (ns ms : List Int), vs = [.ref a, .int i, .ref b] ∧ H a = some (.tup (ns.map V.int)) ∧ H b = some (.tup (ms.map V.int)) ∧ ns.length ≤ 1000 ∧ ms.length ≤ 1000 ∧ ∀ (p : Addr) (ks : List Int) (H' : Hp), Same H H' → H' p = some (.tup (ks.map V.int)) → Q (.ref p) H'
section
variable {P : Program} {w0 : World} {K : PySem.W.Frag} {mg : Str → Option Value} {base : Heap}
abbrev nClosed : List Str := ["near", "number", "far", "same"]
theorem scClosed : FnScope nClosed ["near", "number", "far"] (defScope pClosed) := ⟨rfl, rfl, rfl, by decide +kernel, rfl, by decide +kernel, by decide +kernel⟩
theorem ok_closed {f : Addr} {fd : FuncData} (F : Fun K "closed_ring" "closed_ring" pClosed f fd) (T : Bj mg) : FnOk P w0 K mg base CX0 1 f fd ["near", "number", "far"] spClosed := by
  refine F.ok scClosed (fun vs H Q E h => ?_) (fun cdv A outer s H vs Q E hr h => ?_)
  · obtain ⟨a, b, i, ns, ms, rfl, _⟩ := h
    rfl
  · obtain ⟨a, b, i, ns, ms, rfl, ha, hb, l1, l2, k⟩ := h
    refine ⟨_, pss_cons (ps_set (i := 3) scClosed.nd rfl (.inl rfl) pe_int)
      <| pss_cons (ps_while PassesOwn.never (PW.pt (pw_and (pt_cmpR op_lt (pv 3) (pe_callB (call_min2 rfl) (by rfl) T.min (by decide +kernel) (pa_cons (pe_callB call_len_seq (by rfl) T.len PySem.boot_len (pa_cons (pv 0) pa_nil)) (pa_cons (pe_callB call_len_seq (by rfl) T.len PySem.boot_len (pa_cons (pv 2) pa_nil)) pa_nil))) (nomark _))
            (pw_and1 (pt_cmpR op_eq (pe_ix ix_tup (pv 0) (pv 3) (fun _ _ => rfl)) (pe_ix ix_tup (pv 2) (pv 3) (fun _ _ => rfl)) (nomark _)))))
          (pss_one (ps_aug (i := 3) scClosed.nd rfl (.inl rfl) pe_int ip_add)))
      <| pss_one (ps_ret (pe_op op_catX (pe_op op_catX (pe_slice sl_X (pv 0) (po_some (pv 3)) po_none) (pe_tup (pa_cons (pv 1) pa_nil))) (KR.pe_revT (pe_slice sl_X (pv 2) (po_some (pv 3)) po_none)))), ?_⟩
    refine ⟨fun m σ M => M = H ∧ ∃ s : Nat, σ = [some (.ref a), some (.int i), some (.ref b), some (.int (s : Int))] ∧ m = ns.length - s, ⟨_, rfl, 0, rfl, rfl⟩, ?_⟩
    rintro m σ M ⟨rfl, s, rfl, rfl⟩
    have fin : ∀ D : Ends, D.rt = Q → tRet (tOp rCatX (tOp rCatX (tSl rSlX' (tVar 0) (tPart (tVar 3)) tNoPart) (tTup (tCons (tVar 1) tNil))) (KR.tRevT K (tSl rSlX' (tVar 2) (tPart (tVar 3)) tNoPart))) D [some (.ref a), some (.int i), some (.ref b), some (.int (s : Int))] M := fun D eD => by
      obtain ⟨n1, e1, m1⟩ := cut_ints ns (some (s : Int)) none
      obtain ⟨n2, e2, m2⟩ := cut_ints ms (some (s : Int)) none
      have sz : ∀ x y z : Nat, x ≤ 1000 → y ≤ 1 → z ≤ 1000 → x + y + z ≤ sizeLine := fun x y z h1 h2 h3 => by rw [sizeLine_eq]; omega
      refine ⟨_, rfl, _, rfl, _, rfl, a, _, rfl, ha, fun p1 H1 s1 q1 => ?_⟩
      rw [e1] at q1
      refine ⟨_, rfl, by show 1 ≤ sizeLine; decide, fun t ht => ⟨p1, t, _, _, rfl, rfl, same_new ht _ _ q1, upd_same, by rw [List.length_map]; have := sz n1.length 1 0 (by omega) (by omega) (by omega); simpa using this, fun p2 H2 s2 q2 => ?_⟩⟩
      have s02 := (s1.trans (same_new ht)).trans s2
      refine ⟨_, rfl, _, rfl, _, rfl, b, _, rfl, s02 _ _ hb, fun p3 H3 s3 q3 => ?_⟩
      rw [e2] at q3
      refine ⟨p3, _, rfl, SqT.of q3, fun p4 hp4 => ?_⟩
      refine ⟨p2, p4, _, _, rfl, rfl, same_new hp4 _ _ (s3 _ _ q2), upd_same, ?_, fun p5 H5 s5 q5 => ?_⟩
      · have := sz n1.length 1 n2.length (by omega) (by omega) (by omega)
        simpa using this
      · rw [eD]
        refine k p5 (n1 ++ [i] ++ n2.reverse) H5 (((s02.trans s3).trans (same_new hp4)).trans s5) ?_
        rw [q5]
        simp [List.map_append, List.map_reverse]
    refine ⟨_, rfl, _, rfl, a, _, rfl, .inr (SqT.of ha), _, rfl, b, _, rfl, .inr (SqT.of hb), _, _, rfl, _, _, rfl, rfl, _, rfl, ?_⟩
    rw [List.length_map, List.length_map]
    generalize hcc : decide ((s : Int) < if ((ms.length : Nat) : Int) < ((ns.length : Nat) : Int) then ((ms.length : Nat) : Int) else ((ns.length : Nat) : Int)) = cc
    cases cc with
    | false => exact iteF (iteF (fin _ rfl))
    | true =>
      have hs : s < ns.length ∧ s < ms.length := by
        have := of_decide_eq_true hcc
        split at this <;> omega
      have g1 : (ns.map V.int)[s]? = some (.int ns[s]) := by rw [List.getElem?_map, List.getElem?_eq_getElem hs.1] <;> rfl
      have g2 : (ms.map V.int)[s]? = some (.int ms[s]) := by rw [List.getElem?_map, List.getElem?_eq_getElem hs.2] <;> rfl
      refine iteT ⟨_, rfl, _, rfl, a, _, _, _, rfl, rfl, SqT.of ha, atI_nat g1, _, rfl, _, rfl, b, _, _, _, rfl, rfl, SqT.of hb, atI_nat g2, rfl, _, rfl, ite2 (fun _ => ?_) fun _ => fin _ rfl⟩
      refine ⟨fun σ' M' => M' = M ∧ σ' = [some (.ref a), some (.int i), some (.ref b), some (.int ((s + 1 : Nat) : Int))], fun σ' M' z => ⟨ns.length - (s + 1), by omega, z.1, s + 1, z.2, rfl⟩, ?_⟩
      refine ⟨_, rfl, _, _, rfl, rfl, rfl, rfl⟩
end
end K0

set_option Elab.async false
set_option linter.all false
set_option maxRecDepth 100000
set_option maxHeartbeats 8000000
/-! The ring that a tie closes, exactly. -/
namespace K0
open PySem PySem.Spec L2
open PyProof.Rows hiding St
theorem lcp_go : ∀ {x y : List Nat} {s v : Nat}, s ≤ lcp x y → x[s]? = some v → y[s]? = some v → s + 1 ≤ lcp x y
  | [], _, _, _, _, h, _ => by simp at h
  | _ :: _, [], _, _, _, _, h => by simp at h
  | a :: x, b :: y, 0, v, _, h1, h2 => by
    cases h1
    cases h2
    rw [lcp, if_pos rfl]
    omega
  | a :: x, b :: y, s + 1, v, h, h1, h2 => by
    rw [lcp] at h ⊢
    split at h
    · rename_i e
      rw [if_pos e]
      have := lcp_go (x := x) (y := y) (s := s) (by omega) (by simpa using h1) (by simpa using h2)
      omega
    · omega
theorem lcp_same {x y : List Nat} {s : Nat} (h : s < lcp x y) : x[s]? = y[s]? := by
  have := congrArg (·[s]?) (lcp_take x y)
  simpa [List.getElem?_take, h] using this
def spClosedX : Sp := fun vs H Q _ => ∃ (a b : Addr) (i : Nat) (x y : List Nat), vs = [.ref a, .int (i : Int), .ref b] ∧ H a = some (.tup (x.map natV)) ∧ H b = some (.tup (y.map natV)) ∧ x.length ≤ 1000 ∧ y.length ≤ 1000 ∧ ∀ (p : Addr) (H' : Hp), Same H H' → H' p = some (.tup ((ringOf x i y).map natV)) → Q (.ref p) H'
section
variable {P : Program} {w0 : World} {K : PySem.W.Frag} {mg : Str → Option Value} {base : Heap}
theorem ok_closedX {f : Addr} {fd : FuncData} (F : Fun K "closed_ring" "closed_ring" pClosed f fd) (T : Bj mg) : FnOk P w0 K mg base CX0 1 f fd ["near", "number", "far"] spClosedX := by
  refine F.ok scClosed (fun vs H Q E h => ?_) (fun cdv A outer s H vs Q E hr h => ?_)
  · obtain ⟨a, b, i, x, y, rfl, _⟩ := h
    rfl
  · obtain ⟨a, b, i, x, y, rfl, ha, hb, l1, l2, k⟩ := h
    refine ⟨_, pss_cons (ps_set (i := 3) scClosed.nd rfl (.inl rfl) pe_int)
      <| pss_cons (ps_while PassesOwn.never (PW.pt (pw_and (pt_cmpR op_lt (pv 3) (pe_callB (call_min2 rfl) (by rfl) T.min (by decide +kernel) (pa_cons (pe_callB call_len_seq (by rfl) T.len PySem.boot_len (pa_cons (pv 0) pa_nil)) (pa_cons (pe_callB call_len_seq (by rfl) T.len PySem.boot_len (pa_cons (pv 2) pa_nil)) pa_nil))) (nomark _))
            (pw_and1 (pt_cmpR op_eq (pe_ix ix_tup (pv 0) (pv 3) (fun _ _ => rfl)) (pe_ix ix_tup (pv 2) (pv 3) (fun _ _ => rfl)) (nomark _)))))
          (pss_one (ps_aug (i := 3) scClosed.nd rfl (.inl rfl) pe_int ip_add)))
      <| pss_one (ps_ret (pe_op op_catX (pe_op op_catX (pe_slice sl_X (pv 0) (po_some (pv 3)) po_none) (pe_tup (pa_cons (pv 1) pa_nil))) (KR.pe_revT (pe_slice sl_X (pv 2) (po_some (pv 3)) po_none)))), ?_⟩
    refine ⟨fun m σ M => M = H ∧ ∃ s : Nat, σ = [some (.ref a), some (.int (i : Int)), some (.ref b), some (.int (s : Int))] ∧ m = x.length - s ∧ s ≤ lcp x y, ⟨_, rfl, 0, rfl, rfl, Nat.zero_le _⟩, ?_⟩
    rintro m σ M ⟨rfl, s, rfl, rfl, hle⟩
    have cutx : ∀ z : List Nat, cutV (z.map natV) (some (s : Int)) none = (z.drop s).map natV := fun z => by
      unfold cutV
      rw [HT.sIx_nat, HT.sIx_none, List.length_map, ← List.map_drop]
      by_cases hz : s ≤ z.length
      · rw [Nat.min_eq_left hz, List.take_of_length_le]
        rw [List.length_map, List.length_drop]
        exact Nat.le_refl _
      · rw [Nat.min_eq_right (by omega), Nat.sub_self, List.take_zero, List.drop_of_length_le (by omega)] <;> rfl
    have fin : lcp x y ≤ s → ∀ D : Ends, D.rt = Q → tRet (tOp rCatX (tOp rCatX (tSl rSlX' (tVar 0) (tPart (tVar 3)) tNoPart) (tTup (tCons (tVar 1) tNil))) (KR.tRevT K (tSl rSlX' (tVar 2) (tPart (tVar 3)) tNoPart))) D [some (.ref a), some (.int (i : Int)), some (.ref b), some (.int (s : Int))] M := fun hge D eD => by
      have es : s = lcp x y := by omega
      have sz : ∀ x y z : Nat, x ≤ 1000 → y ≤ 1 → z ≤ 1000 → x + y + z ≤ sizeLine := fun x y z h1 h2 h3 => by rw [sizeLine_eq]; omega
      have d1 : (x.drop s).length ≤ 1000 := by rw [List.length_drop]; omega
      have d2 : (y.drop s).length ≤ 1000 := by rw [List.length_drop]; omega
      refine ⟨_, rfl, _, rfl, _, rfl, a, _, rfl, ha, fun p1 H1 s1 q1 => ?_⟩
      rw [cutx] at q1
      refine ⟨_, rfl, by show 1 ≤ sizeLine; decide, fun t ht => ⟨p1, t, _, _, rfl, rfl, same_new ht _ _ q1, upd_same, by rw [List.length_map]; have := sz (x.drop s).length 1 0 d1 (by omega) (by omega); simpa using this, fun p2 H2 s2 q2 => ?_⟩⟩
      have s02 := (s1.trans (same_new ht)).trans s2
      refine ⟨_, rfl, _, rfl, _, rfl, b, _, rfl, s02 _ _ hb, fun p3 H3 s3 q3 => ?_⟩
      rw [cutx] at q3
      refine ⟨p3, _, rfl, SqT.of q3, fun p4 hp4 => ?_⟩
      refine ⟨p2, p4, _, _, rfl, rfl, same_new hp4 _ _ (s3 _ _ q2), upd_same, ?_, fun p5 H5 s5 q5 => ?_⟩
      · have := sz (x.drop s).length 1 (y.drop s).length d1 (by omega) d2
        simpa using this
      · rw [eD]
        refine k p5 H5 (((s02.trans s3).trans (same_new hp4)).trans s5) ?_
        rw [q5]
        unfold ringOf
        rw [← es]
        simp [List.map_append, List.map_reverse, natV]
    refine ⟨_, rfl, _, rfl, a, _, rfl, .inr (SqT.of ha), _, rfl, b, _, rfl, .inr (SqT.of hb), _, _, rfl, _, _, rfl, rfl, _, rfl, ?_⟩
    rw [List.length_map, List.length_map]
    generalize hcc : decide ((s : Int) < if ((y.length : Nat) : Int) < ((x.length : Nat) : Int) then ((y.length : Nat) : Int) else ((x.length : Nat) : Int)) = cc
    cases cc with
    | false =>
      have hge : lcp x y ≤ s := by
        have := of_decide_eq_false hcc
        have := lcp_le x y
        split at * <;> omega
      exact iteF (iteF (fin hge _ rfl))
    | true =>
      have hs : s < x.length ∧ s < y.length := by
        have := of_decide_eq_true hcc
        split at this <;> omega
      have g1 : (x.map natV)[s]? = some (.int ((x[s] : Nat) : Int)) := by rw [List.getElem?_map, List.getElem?_eq_getElem hs.1] <;> rfl
      have g2 : (y.map natV)[s]? = some (.int ((y[s] : Nat) : Int)) := by rw [List.getElem?_map, List.getElem?_eq_getElem hs.2] <;> rfl
      refine iteT ⟨_, rfl, _, rfl, a, _, _, _, rfl, rfl, SqT.of ha, atI_nat g1, _, rfl, _, rfl, b, _, _, _, rfl, rfl, SqT.of hb, atI_nat g2, rfl, _, rfl, ite2 (fun he => ?_) fun he => fin ?_ _ rfl⟩
      rotate_left
      · rcases Nat.lt_or_ge s (lcp x y) with z | z
        · have := lcp_same z
          rw [List.getElem?_eq_getElem hs.1, List.getElem?_eq_getElem hs.2] at this
          exact absurd (decide_eq_true (congrArg (fun n : Nat => V.int (n : Int)) (Option.some.inj this))) he
        · exact z
      have exy : x[s] = y[s] := by
        have := of_decide_eq_true he
        injection this with this
        omega
      have hnext := lcp_go hle (List.getElem?_eq_getElem hs.1) (by rw [exy]; exact List.getElem?_eq_getElem hs.2)
      refine ⟨fun σ' M' => M' = M ∧ σ' = [some (.ref a), some (.int (i : Int)), some (.ref b), some (.int ((s + 1 : Nat) : Int))], fun σ' M' z => ⟨x.length - (s + 1), by omega, z.1, s + 1, z.2, rfl, hnext⟩, ?_⟩
      refine ⟨_, rfl, _, _, rfl, rfl, rfl, rfl⟩
end
end K0

set_option Elab.async false
set_option linter.all false
set_option maxRecDepth 100000
set_option maxHeartbeats 8000000
/-! Sides. -/
namespace K0
open PySem PySem.Spec L2
open PyProof.Rows hiding St
theorem put_mem {kvs : List (Key × V)} {k : Key} {v : V} {kv : Key × V} (h : kv ∈ putK kvs k v) : kv ∈ kvs ∨ kv = (k, v) := by
  unfold putK at h
  split at h
  · obtain ⟨p, hp, e⟩ := List.mem_map.mp h
    by_cases c : p.1 = k
    · rw [if_pos c] at e
      exact .inr (by rw [← e, c])
    · rw [if_neg c] at e
      exact .inl (e ▸ hp)
  · rcases List.mem_append.mp h with z | z
    · exact .inl z
    · exact .inr (List.mem_singleton.mp z)
theorem merge_mem : ∀ {more kvs : List (Key × V)} {kv : Key × V}, kv ∈ mergeK kvs more → kv ∈ kvs ∨ kv ∈ more
  | [], _, _, h => .inl h
  | p :: r, kvs, kv, h => by
    rcases merge_mem (more := r) (kvs := putK kvs p.1 p.2) h with z | z
    · rcases put_mem z with y | y
      · exact .inl y
      · exact .inr (by rw [y]; exact List.mem_cons_self ..)
    · exact .inr (List.mem_cons_of_mem _ z)
theorem merge_isK : ∀ {more kvs : List (Key × V)} {i : Nat}, isK kvs i ∨ isK more i → isK (mergeK kvs more) i
  | [], _, _, h => h.elim id fun z => by unfold isK at z; rw [valV_nil] at z; cases z
  | p :: r, kvs, i, h => by
    refine merge_isK (more := r) (kvs := putK kvs p.1 p.2) ?_
    unfold isK at h ⊢
    rw [valV_put]
    by_cases e : ky i = p.1
    · rw [if_pos e]
      exact .inl rfl
    · rw [if_neg e]
      rw [valV_neg fun z => e z.symm] at h
      exact h
/-- a dict of ways -/
structure WD (M : Hp) (n : Nat) (kvs : List (Key × V)) : Prop where
  mem : ∀ kv ∈ kvs, ∃ i : Nat, kv.1 = ky i ∧ i < n ∧ ∃ (t : Addr) (ns : List Int), kv.2 = .ref t ∧ M t = some (.tup (ns.map V.int)) ∧ ns.length ≤ 13
theorem WD.mono {M M' : Hp} {n : Nat} {kvs : List (Key × V)} (w : WD M n kvs) (s : ∀ a x, M a = some (.tup x) → M' a = some (.tup x)) : WD M' n kvs :=
  ⟨fun kv h => let ⟨i, e, l, t, ns, ev, et, ln⟩ := w.mem kv h; ⟨i, e, l, t, ns, ev, s _ _ et, ln⟩⟩
theorem WD.val {M : Hp} {n : Nat} {kvs : List (Key × V)} (w : WD M n kvs) {i : Nat} (h : isK kvs i) : ∃ (t : Addr) (ns : List Int), valV kvs (ky i) = some (.ref t) ∧ M t = some (.tup (ns.map V.int)) ∧ ns.length ≤ 13 := by
  obtain ⟨v, hv⟩ := Option.isSome_iff_exists.mp h
  obtain ⟨_, _, _, t, ns, e, et, l⟩ := w.mem _ (valV_mem hv)
  exact ⟨t, ns, by rw [hv]; exact congrArg some e, et, l⟩
/-- how long a way is -/
def wl (M : Hp) (kvs : List (Key × V)) (p : Int) : Nat := match valV kvs (.inl p) with
  | some (.ref t) => (match M t with | some (.tup xs) => xs.length | _ => 0)
  | _ => 0
theorem wl_at {M : Hp} {kvs : List (Key × V)} {i : Nat} {t : Addr} {xs : List V} (h : valV kvs (ky i) = some (.ref t)) (e : M t = some (.tup xs)) : wl M kvs (i : Int) = xs.length := by
  unfold wl
  rw [show valV kvs (.inl (i : Int)) = some (.ref t) from h]
  show (match M t with | some (.tup xs) => xs.length | _ => 0) = _
  rw [e]
def spSides : Sp := fun vs H Q _ => ∃ (w : Addr) (n : Nat) (L : List (Int × Int)), vs = [.ref w] ∧ GW H w n L ∧ (∀ (t v : Addr) (H' : Hp), Same H H' → H t = none → H' t = some (.tup [.str "ring", .ref v]) → Q (.ref t) H') ∧
  (∀ (t v : Addr) (H' : Hp) (mem : Int → Bool), Same H H' → H t = none → H' t = some (.tup [.str "sides", .ref v]) → (∀ q ∈ L, crB mem q = true) → Q (.ref t) H')
section
variable {P : Program} {w0 : World} {K : PySem.W.Frag} {mg : Str → Option Value} {base : Heap}
abbrev nSides : List Str := ["web", "ways", "part", "number", "a", "b", "place"]
theorem scSides : FnScope nSides ["web"] (defScope pSides) := ⟨rfl, rfl, rfl, by decide +kernel, rfl, by decide +kernel, by decide +kernel⟩
theorem ok_sides {f fC fP fW fR : Addr} {fd fdC fdP fdW fdR : FuncData} (F : Fun K "judge_sides" "judge_sides" pSides f fd) (T : Bj mg) (GC : Dn P w0 K mg base "check_web" 5 ["thing"] spCheckWeb fC fdC) (GP : Dn P w0 K mg base "part_lots" 4 ["web"] spPartLots fP fdP)
    (GW' : Dn P w0 K mg base "ways_from" 1 ["web", "root"] spWays fW fdW) (GR : Dn P w0 K mg base "closed_ring" 1 ["near", "number", "far"] spClosed fR fdR) : FnOk P w0 K mg base CX0 6 f fd ["web"] spSides := by
  refine F.ok scSides (fun vs H Q E h => ?_) (fun cdv A outer s H vs Q E hr h => ?_)
  · obtain ⟨w, n, L, rfl, _⟩ := h
    rfl
  · obtain ⟨w, n, L, rfl, G, kr, ks⟩ := h
    have hu := hu_of hr
    have hr4 : Room 4 _ := hr.mono (by decide)
    have hr1 : Room 1 _ := hr.mono (by decide)
    refine ⟨_, pss_cons (ps_expr (pe_call GC.ok hr rfl GC.g GC.kp GC.b .nil pass0 (pa_cons (pv 0) pa_nil)))
      <| pss_cons (ps_set (i := 1) scSides.nd rfl (.inr rfl) pe_dnewK)
      <| pss_cons (ps_for PassesOwn.never rfl (pi_tup (pe_call GP.ok hr4 rfl GP.g GP.kp GP.b .nil pass0 (pa_cons (pv 0) pa_nil))) (pg_name (i := 2) scSides.nd rfl (.inl rfl))
          (pss_one (ps_expr (KR.pe_dupd (pv 1) (pe_call GW'.ok hr1 rfl GW'.g GW'.kp GW'.b .nil pass0 (pa_cons (pv 0) (pa_cons (pe_ix ix_tup (pv 2) pe_int (fun _ _ => rfl)) pa_nil))) ⟨by rfl, by rfl, by rfl, by rfl⟩))))
      <| pss_cons (ps_for PassesOwn.never rfl (KR.pi_enumT (by rfl) T.enu (pa_cons (pe_ix ix_tup (pv 0) pe_int (fun _ _ => rfl)) pa_nil))
          (pg_tup rfl (pgs_cons (pg_name (i := 3) scSides.nd rfl (.inl rfl)) (pgs_cons (pg_tup rfl (pgs_cons (pg_name (i := 4) scSides.nd rfl (.inl rfl)) (pgs_cons (pg_name (i := 5) scSides.nd rfl (.inl rfl)) pgs_nil))) pgs_nil)))
          (pss_one (ps_if (pt_cmpR op_eq (pe_op op_modN (pe_callB call_len_seq (by rfl) T.len PySem.boot_len (pa_cons (pe_dget hu (pv 1) (pv 4) (fun _ _ => rfl)) pa_nil)) pe_int)
                (pe_op op_modN (pe_callB call_len_seq (by rfl) T.len PySem.boot_len (pa_cons (pe_dget hu (pv 1) (pv 5) (fun _ _ => rfl)) pa_nil)) pe_int) (nomark _))
              (pss_one (ps_ret (pe_tup (pa_cons pe_str (pa_cons (pe_call GR.ok hr1 rfl GR.g GR.kp GR.b .nil pass0 (pa_cons (pe_dget hu (pv 1) (pv 4) (fun _ _ => rfl)) (pa_cons (pv 3) (pa_cons (pe_dget hu (pv 1) (pv 5) (fun _ _ => rfl)) pa_nil)))) pa_nil))))) pss_nil)))
      <| pss_one (ps_ret (pe_tup (pa_cons pe_str (pa_cons (pe_callTy call_tuple_of (by rfl) T.tuple (by decide +kernel) (pa_cons (pe_lc (own := [("place", 6)]) (g := gName 6) rfl scSides.nd (pi_range1 (by rfl) T.range (pa_cons (pe_ix ix_tup (pv 0) pe_int (fun _ _ => rfl)) pa_nil))
          (blkOk_by (N := nSides) (sc := defScope pSides) (by decide +kernel)) (fun _ _ _ _ _ => pg_name (i := 6) scSides.nd rfl (Or.inl rfl))
          (fun _ _ _ _ _ => pts_one (pt_cmpR op_eq (pe_op op_modN (pe_callB (show CallR _ (.builtin "len") (fun xs H Q => ∃ p ys, xs = [V.ref p] ∧ (SqL K H p ys ∨ SqT K H p ys) ∧ Q (.int ys.length) H) from call_len_seq) (by rfl) T.len PySem.boot_len (pa_cons (pe_dget hu (pv 1) (pv 6) (fun _ _ => rfl)) pa_nil)) pe_int) pe_int (nomark _)))
          (fun _ _ _ _ _ => pv 6)) pa_nil)) pa_nil)))), ?_⟩
    refine ⟨_, rfl, w, n, L, rfl, G, fun H1 s1 d hd => ?_⟩
    have hdH : H d = none := s1.free hd
    have G1 := (G.same s1).same (same_new (o := .dK []) hd)
    have n2 := G.n2
    have hB := G.bel
    have few := G.few
    refine ⟨_, rfl, w, n, L, rfl, G1, fun t us ps H2 s2 ht et la pt => ⟨t, rfl, ⟨_, SqT.of et⟩, ?_⟩⟩
    have s12 : Same H H2 := (s1.trans (same_new hd)).trans s2
    have d2 : H2 d = some (.dK []) := s2 _ _ upd_same
    have psn : ps.length ≤ n := by
      have := inc_few (n := n) (Nat.zero_le _) pt.inc fun q hq => ⟨Nat.zero_le _, by have := (pt.part q hq).1; rw [full_bit, decide_eq_true_eq] at this; exact this⟩
      omega
    have lal := la.len
    refine for_tup (K := K) (a := t) (xs := us) (fun i σ M => ∃ (kvs : List (Key × V)) (o2 : Option V), σ = [some (.ref w), some (.ref d), o2, none, none, none, none] ∧ M d = some (.dK kvs) ∧ Same H M ∧ M t = some (.tup us) ∧ LotsAt M us ps ∧ WD M n kvs ∧ kvs.length ≤ 14 * i ∧ ∀ q ∈ ps.take i, ∀ j, q.2.testBit j = true → isK kvs j)
      ⟨[], none, rfl, d2, s12, et, la, ⟨fun _ z => nomatch z⟩, Nat.zero_le _, fun _ z => by simp at z⟩ (fun i σ M _ ⟨_, _, _, _, _, e, _⟩ => SqT.of e) ?_ ?_
    · rintro i x σ M hx ⟨kvs, o2, rfl, f1, f2, f3, f4, f5, f6, f7⟩
      obtain ⟨a, q, rfl, hq, ha⟩ := f4.get hx
      obtain ⟨p1, p2, p3⟩ := pt.part q (List.mem_of_getElem? hq)
      have qs : ∀ j, q.2.testBit j = true → j < n := fun j z => by
        have := ((p2 j).mp z).bit
        rw [full_bit, decide_eq_true_eq] at this
        exact this
      have q12 : q.2 < 4096 := by
        have : q.2 ≤ 2 ^ n - 1 := sub_le fun j z => ((p2 j).mp z).bit
        have := Nat.pow_le_pow_right (n := 2) (by decide) n2
        have := Nat.two_pow_pos n
        omega
      have q0 : q.2 ≠ 0 := fun z => by
        have := (p2 q.1).mpr (.refl p1)
        rw [z, Nat.zero_testBit] at this
        cases this
      obtain ⟨r, _, r2, _, _, tl, e⟩ := low_at q12 q0
      rw [e, List.map_cons] at ha
      have il : i < us.length := (List.getElem?_eq_some_iff.mp hx).1
      refine ⟨_, rfl, d, rfl, .inl ⟨kvs, .inl f1⟩, _, rfl, _, rfl, a, _, _, _, rfl, rfl, SqT.of ha, atI_nat (j := 0) rfl, w, n, r, L, rfl, G.same f2, qs r r2, fun d2 more M2 s3 hd2 ed2 wo => ?_⟩
      have nd : d ≠ d2 := ne_of_none f1 hd2
      have ml : more.length ≤ 13 := by have := wo.wv.len; omega
      refine ⟨d2, kvs, more, rfl, s3 _ _ f1, ed2, nd, by rw [sizeLine_eq]; omega, ?_⟩
      have st : ∀ a x, M2 a = some (.tup x) → (upd M2 d (.dK (mergeK kvs more))) a = some (.tup x) := fun a x e => by
        rw [upd_ne (ne_of e (s3 _ _ f1) (by intro z; cases z))]
        exact e
      refine ⟨_, _, rfl, upd_same, set_same hdH (f2.trans s3), st _ _ (s3 _ _ f3), (f4.mono (same_tup s3)).mono st, ⟨fun kv h => ?_⟩, ?_, fun q' hq' j hj => ?_⟩
      · rcases merge_mem h with z | z
        · exact ((f5.mono (same_tup s3)).mono st).mem kv z
        · obtain ⟨i, e, l, t, ns, ev, et, ln⟩ := wo.wv.mem kv z
          exact ⟨i, e, l, t, ns, ev, st _ _ et, by omega⟩
      · have := length_mergeK more kvs
        omega
      · rw [take_snoc hq] at hq'
        rcases List.mem_append.mp hq' with z | z
        · exact merge_isK (.inl (f7 q' z j hj))
        · rw [List.mem_singleton.mp z] at hj
          refine merge_isK (.inr ?_)
          have h1 := ((p2 r).mp r2).symm
          exact (h1.trans ((p2 j).mp hj)).closed wo.root fun b c s a _ => wo.cl b c s a
    rintro σ M ⟨kvs, o2, rfl, f1, f2, f3, f4, f5, f6, f7⟩
    rw [lal, List.take_length] at f7
    have ev : ∀ j : Nat, j < n → isK kvs j := fun j hj => by
      obtain ⟨q, hq, z⟩ := pt.all j (by rw [full_bit, decide_eq_true_eq]; exact hj)
      exact f7 q hq j z
    obtain ⟨ta, vs, e1, e2, e3⟩ := (G.same f2).web.ex
    have len := e3.len
    refine ⟨_, rfl, w, _, _, _, rfl, rfl, SqT.of e1, atI_nat (j := 1) rfl, ta, vs, rfl, SqT.of e2, ?_⟩
    have two : ∀ k : Nat, ((k : Int)).fmod 2 = ((k % 2 : Nat) : Int) := fun k => by rw [Int.fmod_eq_emod_of_nonneg _ (by omega)]; omega
    refine for_it (KR.walk_enumT (xs := vs)) (fun i σ N => ∃ (o3 o4 o5 : Option V), σ = [some (.ref w), some (.ref d), o2, o3, o4, o5, none] ∧ Same M N ∧ ∀ q ∈ L.take i, crB (fun p => decide (wl M kvs p % 2 = 0)) q = true)
      ⟨none, none, none, rfl, Same.refl _, fun _ z => by simp at z⟩ (fun i σ N _ ⟨_, _, _, _, s, _⟩ => SqT.of (s _ _ e2)) ?_ ?_
    · rintro i x σ N N' hi ⟨o3, o4, o5, rfl, g1, g2⟩ ⟨Tt, u, y, rfl, hT, rfl, e7, e8⟩
      cases e7
      obtain ⟨b, qq, rfl, hq', hb⟩ := e3.get e8
      have bq := hB qq (List.mem_of_getElem? hq')
      obtain ⟨q1, q2⟩ := qq
      obtain ⟨a1, rfl⟩ : ∃ a1 : Nat, q1 = a1 := ⟨q1.toNat, by have := bq.1; dsimp only at this; omega⟩
      obtain ⟨a2, rfl⟩ : ∃ a2 : Nat, q2 = a2 := ⟨q2.toNat, by have := bq.1; have := bq.2.1; dsimp only at *; omega⟩
      dsimp only at bq hb
      have g1' : Same M (upd N Tt (.tup [.int (i : Nat), .ref b])) := g1.trans (same_new hT)
      refine ⟨Tt, _, rfl, SqT.of upd_same, rfl, _, _, rfl, _, _, rfl, b, _, rfl, SqT.of (g1' _ _ hb), rfl, _, _, rfl, _, _, rfl, rfl, rfl, ?_⟩
      generalize upd N Tt (.tup [.int (i : Nat), .ref b]) = N1 at g1' ⊢
      obtain ⟨t1, n1, v1, w1, l1⟩ := f5.val (ev a1 (by omega))
      obtain ⟨t2, n2', v2, w2, l2⟩ := f5.val (ev a2 (by omega))
      have dg1 : DGet N1 d (.int (a1 : Int)) (some (.ref t1)) := v1 ▸ DGet.k (k := ky a1) (g1' _ _ f1)
      have dg2 : DGet N1 d (.int (a2 : Int)) (some (.ref t2)) := v2 ▸ DGet.k (k := ky a2) (g1' _ _ f1)
      refine ⟨_, rfl, _, rfl, d, _, rfl, dg1, t1, _, rfl, .inr (SqT.of (g1' _ _ w1)), _, _, rfl, rfl, (show (2 : Int) ≠ 0 by decide), _, rfl, _, rfl, d, _, rfl, dg2, t2, _, rfl, .inr (SqT.of (g1' _ _ w2)), _, _, rfl, rfl, (show (2 : Int) ≠ 0 by decide), rfl, _, rfl, ite2 (fun h => ?_) fun h => ?_⟩
      · refine ⟨_, rfl, _, rfl, d, _, rfl, dg1, _, rfl, _, rfl, _, rfl, d, _, rfl, dg2, t1, t2, (i : Int), n1, n2', rfl, g1' _ _ w1, g1' _ _ w2, by omega, by omega, fun p ks N2 s5 ep => ⟨by show 2 ≤ sizeLine; decide, fun tt htt => ?_⟩⟩
        have sf := ((f2.trans g1').trans s5)
        exact kr tt p _ (sf.trans (same_new htt)) (sf.free htt) upd_same
      · refine ⟨_, _, _, rfl, g1', fun q hq => ?_⟩
        rw [take_snoc hq'] at hq
        rcases List.mem_append.mp hq with z | z
        · exact g2 q z
        · rw [List.mem_singleton.mp z]
          unfold crB
          dsimp only
          rw [wl_at v1 w1, wl_at v2 w2]
          have h' : (n1.map V.int).length % 2 ≠ (n2'.map V.int).length % 2 := fun z => h (decide_eq_true (by
            show V.int ((((n1.map V.int).length : Nat) : Int).fmod 2) = V.int ((((n2'.map V.int).length : Nat) : Int).fmod 2)
            rw [two, two, z]))
          rcases Nat.mod_two_eq_zero_or_one (n1.map V.int).length with e1 | e1 <;> rcases Nat.mod_two_eq_zero_or_one (n2'.map V.int).length with e2 | e2
          · exact absurd (e1.trans e2.symm) h'
          · rw [e1, e2] <;> rfl
          · rw [e1, e2] <;> rfl
          · exact absurd (e1.trans e2.symm) h'
    rintro σ N ⟨o3, o4, o5, rfl, g1, g2⟩
    rw [len, List.take_length] at g2
    have sN := f2.trans g1
    refine ⟨_, rfl, w, _, _, _, rfl, rfl, SqT.of (g1 _ _ e1), atI_nat (j := 0) rfl, _, rfl, by omega, by omega, fun Da hD => ?_⟩
    refine lc_range (lo := 0) (n := (n : Int).toNat) (fun i M' => (∃ xs : List V, M' Da = some (.lst xs) ∧ xs.length ≤ i) ∧ Same N M') ⟨⟨[], upd_same, Nat.zero_le _⟩, same_new hD⟩ ?_ ?_
    · rintro i M' hi ⟨⟨xs, x1, x2⟩, x3⟩
      have hin : i < n := by omega
      obtain ⟨t1, n1, v1, w1, l1⟩ := f5.val (ev i hin)
      have dg1 : DGet M' d (.int (0 + (i : Int))) (some (.ref t1)) := by
        rw [Int.zero_add]
        exact v1 ▸ DGet.k (k := ky i) (x3 _ _ (g1 _ _ f1))
      refine ⟨rfl, _, rfl, _, rfl, d, _, rfl, dg1, t1, _, rfl, .inr (SqT.of (x3 _ _ (g1 _ _ w1))), _, _, rfl, rfl, (show (2 : Int) ≠ 0 by decide), rfl, _, rfl, ite2 (fun _ => ?_) fun _ => ⟨⟨xs, x1, by omega⟩, x3⟩⟩
      exact ⟨_, rfl, xs, x1, by rw [sizeLine_eq]; omega, ⟨_, upd_same, by rw [List.length_append, List.length_singleton]; omega⟩, set_same hD x3⟩
    · rintro M' ⟨⟨xs, x1, x2⟩, x3⟩
      refine ⟨Da, xs, rfl, .inl ⟨SqL.of x1, fun tt htt => ⟨by show 2 ≤ sizeLine; decide, fun t3 ht3 => ?_⟩⟩⟩
      have sf := (sN.trans x3).trans (same_new (o := .tup xs) htt)
      exact ks t3 tt _ _ (sf.trans (same_new ht3)) (sf.free ht3) upd_same g2
end
end K0

set_option Elab.async false
set_option linter.all false
set_option maxRecDepth 100000
set_option maxHeartbeats 8000000
/-! Dicts of ways put together. -/
namespace K0
open PySem PySem.Spec L2
open PyProof.Rows hiding St
theorem valV_merge : ∀ {more kvs : List (Key × V)} {k : Key}, (more.map Prod.fst).Nodup → valV (mergeK kvs more) k = (valV more k).or (valV kvs k)
  | [], kvs, k, _ => by rw [valV_nil]; rfl
  | p :: r, kvs, k, nd => by
    rw [List.map_cons] at nd
    obtain ⟨n1, n2⟩ := List.nodup_cons.mp nd
    have ih := valV_merge (more := r) (kvs := putK kvs p.1 p.2) (k := k) n2
    show valV (mergeK (putK kvs p.1 p.2) r) k = _
    rw [ih, valV_put]
    by_cases e : k = p.1
    · subst e
      rw [if_pos rfl, valV_pos rfl]
      have : valV r p.1 = none := by
        cases q : valV r p.1 with
        | none => rfl
        | some v => exact absurd (List.mem_map.mpr ⟨_, valV_mem q, rfl⟩) n1
      rw [this] <;> rfl
    · rw [if_neg e, valV_neg fun z => e z.symm]
theorem WaysAt.keys {M : Hp} {kvs : List (Key × V)} {ws : List (Nat × List Nat)} (w : WaysAt M kvs ws) : kvs.map Prod.fst = (ws.map Prod.fst).map ky := by
  induction w with
  | nil => rfl
  | cons _ _ ih => rw [List.map_cons, List.map_cons, List.map_cons, ih]
theorem WaysAt.nodup {M : Hp} {kvs : List (Key × V)} {ws : List (Nat × List Nat)} (w : WaysAt M kvs ws) (h : (ws.map Prod.fst).Nodup) : (kvs.map Prod.fst).Nodup := by
  rw [w.keys]
  exact List.pairwise_map.mpr (h.imp fun {a b} ne e => ne (ky_inj e))
/-- the dict has the way of each of these places -/
def HasWays (M : Hp) (kvs : List (Key × V)) (L : List (Int × Int)) (ys : List (List Nat)) (p : Nat) : Prop := ∃ t, valV kvs (ky p) = some (.ref t) ∧ M t = some (.tup ((wayP L ys p).map natV))
end K0

set_option Elab.async false
set_option linter.all false
set_option maxRecDepth 100000
set_option maxHeartbeats 8000000
/-! judge_sides, exactly. -/
namespace K0
open PySem PySem.Spec L2
open PyProof.Rows hiding St
/-- the k-th tie's ends are alike in parity -/
def oddT (L : List (Int × Int)) (ys : List (List Nat)) (k : Nat) : Bool := decide ((wayP L ys (tie L k).1.toNat).length % 2 = (wayP L ys (tie L k).2.toNat).length % 2)
theorem way_len {L : List (Int × Int)} {n r : Nat} {s : WS} (G : Grow L n r s) {p : Nat} {x : List Nat} (h : (p, x) ∈ s.1) : x.length < n := by
  have few := G.few
  have := len_le (l := (List.range (x.length + 1)).map fun j => x.take j) (m := s.1.map Prod.snd) (by
    refine List.pairwise_map.mpr (List.Pairwise.imp_of_mem (fun {i j} hi hj lt e => ?_) List.nodup_range)
    rw [List.mem_range] at hi hj
    have := congrArg List.length e
    rw [List.length_take, List.length_take] at this
    exact lt (by omega)) fun y hy => by
      obtain ⟨j, _, rfl⟩ := List.mem_map.mp hy
      obtain ⟨q, hq⟩ := G.tree.take ⟨p, h⟩ j
      exact List.mem_map.mpr ⟨_, hq, rfl⟩
  rw [List.length_map, List.length_map, List.length_range] at this
  omega
def spSidesX : Sp := fun vs H Q _ => ∃ (w : Addr) (n : Nat) (L : List (Int × Int)), vs = [.ref w] ∧ GW H w n L ∧ ∀ ys, Cls L (2 ^ n - 1) ys → (ys.Pairwise fun a b => hd a < hd b) →
  (∀ (i a b : Nat), i < L.length → tie L i = ((a : Int), (b : Int)) → oddT L ys i = true → (∀ k, k < i → oddT L ys k = false) → ∀ (t v : Addr) (H' : Hp), Same H H' → H t = none → H' t = some (.tup [.str "ring", .ref v]) → H' v = some (.tup ((ringOf (wayP L ys a) i (wayP L ys b)).map natV)) → Q (.ref t) H') ∧
  ((∀ k, k < L.length → oddT L ys k = false) → ∀ (t v : Addr) (H' : Hp), Same H H' → H t = none → H' t = some (.tup [.str "sides", .ref v]) → H' v = some (.tup (((List.range n).filter fun p => decide ((wayP L ys p).length % 2 = 0)).map natV)) → Q (.ref t) H')
section
variable {P : Program} {w0 : World} {K : PySem.W.Frag} {mg : Str → Option Value} {base : Heap}
theorem ok_sidesX {f fC fP fW fR : Addr} {fd fdC fdP fdW fdR : FuncData} (F : Fun K "judge_sides" "judge_sides" pSides f fd) (T : Bj mg) (GC : Dn P w0 K mg base "check_web" 5 ["thing"] spCheckWeb fC fdC) (GP : Dn P w0 K mg base "part_lots" 4 ["web"] spPartLots fP fdP)
    (GW' : Dn P w0 K mg base "ways_from" 1 ["web", "root"] spWaysX fW fdW) (GR : Dn P w0 K mg base "closed_ring" 1 ["near", "number", "far"] spClosedX fR fdR) : FnOk P w0 K mg base CX0 6 f fd ["web"] spSidesX := by
  refine F.ok scSides (fun vs H Q E h => ?_) (fun cdv A outer s H vs Q E hr h => ?_)
  · obtain ⟨w, n, L, rfl, _⟩ := h
    rfl
  · obtain ⟨w, n, L, rfl, G, kall⟩ := h
    have hu := hu_of hr
    have hr4 : Room 4 _ := hr.mono (by decide)
    have hr1 : Room 1 _ := hr.mono (by decide)
    refine ⟨_, pss_cons (ps_expr (pe_call GC.ok hr rfl GC.g GC.kp GC.b .nil pass0 (pa_cons (pv 0) pa_nil)))
      <| pss_cons (ps_set (i := 1) scSides.nd rfl (.inr rfl) pe_dnewK)
      <| pss_cons (ps_for PassesOwn.never rfl (pi_tup (pe_call GP.ok hr4 rfl GP.g GP.kp GP.b .nil pass0 (pa_cons (pv 0) pa_nil))) (pg_name (i := 2) scSides.nd rfl (.inl rfl))
          (pss_one (ps_expr (KR.pe_dupd (pv 1) (pe_call GW'.ok hr1 rfl GW'.g GW'.kp GW'.b .nil pass0 (pa_cons (pv 0) (pa_cons (pe_ix ix_tup (pv 2) pe_int (fun _ _ => rfl)) pa_nil))) ⟨by rfl, by rfl, by rfl, by rfl⟩))))
      <| pss_cons (ps_for PassesOwn.never rfl (KR.pi_enumT (by rfl) T.enu (pa_cons (pe_ix ix_tup (pv 0) pe_int (fun _ _ => rfl)) pa_nil))
          (pg_tup rfl (pgs_cons (pg_name (i := 3) scSides.nd rfl (.inl rfl)) (pgs_cons (pg_tup rfl (pgs_cons (pg_name (i := 4) scSides.nd rfl (.inl rfl)) (pgs_cons (pg_name (i := 5) scSides.nd rfl (.inl rfl)) pgs_nil))) pgs_nil)))
          (pss_one (ps_if (pt_cmpR op_eq (pe_op op_modN (pe_callB call_len_seq (by rfl) T.len PySem.boot_len (pa_cons (pe_dget hu (pv 1) (pv 4) (fun _ _ => rfl)) pa_nil)) pe_int)
                (pe_op op_modN (pe_callB call_len_seq (by rfl) T.len PySem.boot_len (pa_cons (pe_dget hu (pv 1) (pv 5) (fun _ _ => rfl)) pa_nil)) pe_int) (nomark _))
              (pss_one (ps_ret (pe_tup (pa_cons pe_str (pa_cons (pe_call GR.ok hr1 rfl GR.g GR.kp GR.b .nil pass0 (pa_cons (pe_dget hu (pv 1) (pv 4) (fun _ _ => rfl)) (pa_cons (pv 3) (pa_cons (pe_dget hu (pv 1) (pv 5) (fun _ _ => rfl)) pa_nil)))) pa_nil))))) pss_nil)))
      <| pss_one (ps_ret (pe_tup (pa_cons pe_str (pa_cons (pe_callTy call_tuple_of (by rfl) T.tuple (by decide +kernel) (pa_cons (pe_lc (own := [("place", 6)]) (g := gName 6) rfl scSides.nd (pi_range1 (by rfl) T.range (pa_cons (pe_ix ix_tup (pv 0) pe_int (fun _ _ => rfl)) pa_nil))
          (blkOk_by (N := nSides) (sc := defScope pSides) (by decide +kernel)) (fun _ _ _ _ _ => pg_name (i := 6) scSides.nd rfl (Or.inl rfl))
          (fun _ _ _ _ _ => pts_one (pt_cmpR op_eq (pe_op op_modN (pe_callB (show CallR _ (.builtin "len") (fun xs H Q => ∃ p ys, xs = [V.ref p] ∧ (SqL K H p ys ∨ SqT K H p ys) ∧ Q (.int ys.length) H) from call_len_seq) (by rfl) T.len PySem.boot_len (pa_cons (pe_dget hu (pv 1) (pv 6) (fun _ _ => rfl)) pa_nil)) pe_int) pe_int (nomark _)))
          (fun _ _ _ _ _ => pv 6)) pa_nil)) pa_nil)))), ?_⟩
    refine ⟨_, rfl, w, n, L, rfl, G, fun H1 s1 d hd0 => ?_⟩
    have hdH : H d = none := s1.free hd0
    have G1 := (G.same s1).same (same_new (o := .dK []) hd0)
    have n2 := G.n2
    have hB := G.bel
    have few := G.few
    have B := belN_of hB
    refine ⟨_, rfl, w, n, L, rfl, G1, fun t us ps H2 s2 ht et la pt => ⟨t, rfl, ⟨_, SqT.of et⟩, ?_⟩⟩
    have s12 : Same H H2 := (s1.trans (same_new hd0)).trans s2
    have d2 : H2 d = some (.dK []) := s2 _ _ upd_same
    have psn : ps.length ≤ n := by
      have := inc_few (n := n) (Nat.zero_le _) pt.inc fun q hq => ⟨Nat.zero_le _, by have := (pt.part q hq).1; rw [full_bit, decide_eq_true_eq] at this; exact this⟩
      omega
    have lal := la.len
    have p12 : 2 ^ n ≤ 2 ^ 12 := Nat.pow_le_pow_right (n := 2) (by decide) n2
    have ppos : 0 < 2 ^ n := Nat.two_pow_pos n
    obtain ⟨ys, eys⟩ : ∃ ys, ys = ps.map fun q => lotN q.2 := ⟨_, rfl⟩
    have ip : Cls L (2 ^ n - 1) ys ∧ ys.Pairwise fun a b => hd a < hd b := by rw [eys]; exact pt.cls (by omega)
    have C := ip.1
    obtain ⟨kr, ks⟩ := kall ys C ip.2
    have memq : ∀ q ∈ ps, ∀ i, i ∈ lotN q.2 ↔ q.2.testBit i = true := fun q hq i => lotN_mem (by
      have : q.2 ≤ 2 ^ n - 1 := sub_le fun j z => (((pt.part q hq).2.1 j).mp z).bit
      omega)
    refine for_tup (K := K) (a := t) (xs := us) (fun i σ M => ∃ (kvs : List (Key × V)) (o2 : Option V), σ = [some (.ref w), some (.ref d), o2, none, none, none, none] ∧ M d = some (.dK kvs) ∧ Same H M ∧ M t = some (.tup us) ∧ LotsAt M us ps ∧ kvs.length ≤ 14 * i ∧ ∀ q ∈ ps.take i, ∀ j, q.2.testBit j = true → HasWays M kvs L ys j)
      ⟨[], none, rfl, d2, s12, et, la, Nat.zero_le _, fun _ z => by simp at z⟩ (fun i σ M _ ⟨_, _, _, _, _, e, _⟩ => SqT.of e) ?_ ?_
    · rintro i x σ M hx ⟨kvs, o2, rfl, f1, f2, f3, f4, f6, f7⟩
      obtain ⟨a, q, rfl, hq, ha⟩ := f4.get hx
      have qm := List.mem_of_getElem? hq
      obtain ⟨p1, p2, p3⟩ := pt.part q qm
      have cm : lotN q.2 ∈ ys := by rw [eys]; exact List.mem_map.mpr ⟨q, qm, rfl⟩
      have cne := C.ne cm
      obtain ⟨r, tl, e⟩ : ∃ r tl, lotN q.2 = r :: tl := by
        cases z : lotN q.2 with
        | nil => exact absurd z cne
        | cons r tl => exact ⟨r, tl, rfl⟩
      have hdr : hd (lotN q.2) = r := by rw [e] <;> rfl
      have rin : r ∈ lotN q.2 := by rw [e]; exact List.mem_cons_self ..
      have rn : r < n := by
        have := ((p2 r).mp ((memq q qm r).mp rin)).bit
        rwa [full_bit, decide_eq_true_eq] at this
      rw [e, List.map_cons] at ha
      have il : i < us.length := (List.getElem?_eq_some_iff.mp hx).1
      have GR' := (Grow.start (L := L) rn).run (k := 40) B
      refine ⟨_, rfl, d, rfl, .inl ⟨kvs, .inl f1⟩, _, rfl, _, rfl, a, _, _, _, rfl, rfl, SqT.of ha, atI_nat (j := 0) rfl, w, n, r, L, rfl, G.same f2, rn, fun d2 more M2 s3 hd2 ed2 wo => ?_⟩
      have nd : d ≠ d2 := ne_of_none f1 hd2
      have wnd : ((waysN L r).map Prod.fst).Nodup := GR'.keys
      have lk := congrArg List.length wo.keys
      rw [List.length_map, List.length_map, List.length_map] at lk
      have wf : (waysN L r).length ≤ n := GR'.few
      have ml : more.length ≤ 13 := by omega
      refine ⟨d2, kvs, more, rfl, s3 _ _ f1, ed2, nd, by rw [sizeLine_eq]; omega, ?_⟩
      have st : ∀ a x, M2 a = some (.tup x) → (upd M2 d (.dK (mergeK kvs more))) a = some (.tup x) := fun a x e => by
        rw [upd_ne (ne_of e (s3 _ _ f1) (by intro z; cases z))]
        exact e
      refine ⟨_, _, rfl, upd_same, set_same hdH (f2.trans s3), st _ _ (s3 _ _ f3), (f4.mono (same_tup s3)).mono st, ?_, fun q' hq' j hj => ?_⟩
      · have := length_mergeK more kvs
        omega
      · have inc : ∀ x, wayOf (waysN L r) j = some x → x = wayP L ys j := fun x hx => by
          have jr := (ways_reach B n2 rn (fun x y a => bel_adj B a) j).mp (List.mem_map.mpr ⟨_, way_mem hx, rfl⟩)
          have jc : j ∈ lotN q.2 := (C.one cm rin j).mpr jr
          have := wayP_in C B n2 cm jc
          rw [hdr] at this
          rw [way_of_mem wnd this] at hx
          exact (Option.some.inj hx).symm
        unfold HasWays
        rw [valV_merge (wo.nodup wnd)]
        rcases wo.val j with ⟨y1, y2⟩ | ⟨t', x, y1, y2, y3⟩
        · rw [y1]
          rw [take_snoc hq] at hq'
          rcases List.mem_append.mp hq' with z | z
          · obtain ⟨t', z1, z2⟩ := f7 q' z j hj
            exact ⟨t', z1, st _ _ (s3 _ _ z2)⟩
          · rw [List.mem_singleton.mp z] at hj
            have := wayP_in C B n2 cm ((memq q qm j).mpr hj)
            rw [hdr] at this
            rw [way_of_mem wnd this] at y2
            cases y2
        · rw [y1]
          exact ⟨t', rfl, by rw [← inc x y2]; exact st _ _ y3⟩
    rintro σ M ⟨kvs, o2, rfl, f1, f2, f3, f4, f6, f7⟩
    rw [lal, List.take_length] at f7
    have ev : ∀ j : Nat, j < n → HasWays M kvs L ys j := fun j hj => by
      obtain ⟨q, hq, z⟩ := pt.all j (by rw [full_bit, decide_eq_true_eq]; exact hj)
      exact f7 q hq j z
    have wl : ∀ j : Nat, j < n → (wayP L ys j).length ≤ 1000 := fun j hj => by
      obtain ⟨c, hc, jc⟩ := C.all j (by rw [full_bit, decide_eq_true_eq]; exact hj)
      have hh := hd_mem (C.ne hc)
      have hl : hd c < n := by
        have := ((C.one hc hh (hd c)).mp hh).bit
        rwa [full_bit, decide_eq_true_eq] at this
      have := way_len ((Grow.start (L := L) hl).run (k := 40) B) (wayP_in C B n2 hc jc)
      omega
    obtain ⟨ta, vs, e1, e2, e3⟩ := (G.same f2).web.ex
    have len := e3.len
    refine ⟨_, rfl, w, _, _, _, rfl, rfl, SqT.of e1, atI_nat (j := 1) rfl, ta, vs, rfl, SqT.of e2, ?_⟩
    have two : ∀ k : Nat, ((k : Int)).fmod 2 = ((k % 2 : Nat) : Int) := fun k => by rw [Int.fmod_eq_emod_of_nonneg _ (by omega)]; omega
    refine for_it (KR.walk_enumT (xs := vs)) (fun i σ N => ∃ (o3 o4 o5 : Option V), σ = [some (.ref w), some (.ref d), o2, o3, o4, o5, none] ∧ Same M N ∧ ∀ k, k < i → oddT L ys k = false)
      ⟨none, none, none, rfl, Same.refl _, fun _ z => absurd z (Nat.not_lt_zero _)⟩ (fun i σ N _ ⟨_, _, _, _, s, _⟩ => SqT.of (s _ _ e2)) ?_ ?_
    · rintro i x σ N N' hi ⟨o3, o4, o5, rfl, g1, g2⟩ ⟨Tt, u, y, rfl, hT, rfl, e7, e8⟩
      cases e7
      obtain ⟨b, qq, rfl, hq', hb⟩ := e3.get e8
      have bq := hB qq (List.mem_of_getElem? hq')
      obtain ⟨q1, q2⟩ := qq
      obtain ⟨a1, rfl⟩ : ∃ a1 : Nat, q1 = a1 := ⟨q1.toNat, by have := bq.1; dsimp only at this; omega⟩
      obtain ⟨a2, rfl⟩ : ∃ a2 : Nat, q2 = a2 := ⟨q2.toNat, by have := bq.1; have := bq.2.1; dsimp only at *; omega⟩
      dsimp only at bq hb
      have et : tie L i = ((a1 : Int), (a2 : Int)) := tie_get hq'
      have eo : oddT L ys i = decide ((wayP L ys a1).length % 2 = (wayP L ys a2).length % 2) := by
        unfold oddT
        rw [et]
        simp only [Int.toNat_natCast]
      have g1' : Same M (upd N Tt (.tup [.int (i : Nat), .ref b])) := g1.trans (same_new hT)
      refine ⟨Tt, _, rfl, SqT.of upd_same, rfl, _, _, rfl, _, _, rfl, b, _, rfl, SqT.of (g1' _ _ hb), rfl, _, _, rfl, _, _, rfl, rfl, rfl, ?_⟩
      generalize upd N Tt (.tup [.int (i : Nat), .ref b]) = N1 at g1' ⊢
      obtain ⟨t1, v1, w1⟩ := ev a1 (by omega)
      obtain ⟨t2, v2, w2⟩ := ev a2 (by omega)
      have dg1 : DGet N1 d (.int (a1 : Int)) (some (.ref t1)) := v1 ▸ DGet.k (k := ky a1) (g1' _ _ f1)
      have dg2 : DGet N1 d (.int (a2 : Int)) (some (.ref t2)) := v2 ▸ DGet.k (k := ky a2) (g1' _ _ f1)
      refine ⟨_, rfl, _, rfl, d, _, rfl, dg1, t1, _, rfl, .inr (SqT.of (g1' _ _ w1)), _, _, rfl, rfl, (show (2 : Int) ≠ 0 by decide), _, rfl, _, rfl, d, _, rfl, dg2, t2, _, rfl, .inr (SqT.of (g1' _ _ w2)), _, _, rfl, rfl, (show (2 : Int) ≠ 0 by decide), rfl, _, rfl, ?_⟩
      have eb : decide (V.int ((((((wayP L ys a1).map natV).length : Nat) : Int)).fmod 2) = V.int ((((((wayP L ys a2).map natV).length : Nat) : Int)).fmod 2)) = oddT L ys i := by
        rw [eo, List.length_map, List.length_map, two, two]
        refine decide_eq_decide.mpr ⟨fun z => ?_, fun z => by rw [z]⟩
        injection z with z
        omega
      rw [eb]
      cases hodd : oddT L ys i with
      | true =>
        refine iteT ⟨_, rfl, _, rfl, d, _, rfl, dg1, _, rfl, _, rfl, _, rfl, d, _, rfl, dg2, t1, t2, i, _, _, rfl, g1' _ _ w1, g1' _ _ w2, wl a1 (by omega), wl a2 (by omega), fun p N2 s5 ep => ⟨by show 2 ≤ sizeLine; decide, fun tt htt => ?_⟩⟩
        have sf := ((f2.trans g1').trans s5)
        exact kr i a1 a2 (by rw [← len]; exact (List.getElem?_eq_some_iff.mp e8).1) et hodd g2 tt p _ (sf.trans (same_new htt)) (sf.free htt) upd_same (same_new htt _ _ ep)
      | false =>
        refine iteF ⟨_, _, _, rfl, g1', fun k hk => ?_⟩
        rcases Nat.lt_or_ge k i with z | z
        · exact g2 k z
        · rw [show k = i by omega]; exact hodd
    rintro σ N ⟨o3, o4, o5, rfl, g1, g2⟩
    rw [len] at g2
    have sN := f2.trans g1
    refine ⟨_, rfl, w, _, _, _, rfl, rfl, SqT.of (g1 _ _ e1), atI_nat (j := 0) rfl, _, rfl, by omega, by omega, fun Da hD => ?_⟩
    refine lc_range (lo := 0) (n := (n : Int).toNat) (fun i M' => M' Da = some (.lst (((List.range i).filter fun p => decide ((wayP L ys p).length % 2 = 0)).map natV)) ∧ Same N M') ⟨upd_same, same_new hD⟩ ?_ ?_
    · rintro i M' hi ⟨x1, x3⟩
      have hin : i < n := by omega
      obtain ⟨t1, v1, w1⟩ := ev i hin
      have dg1 : DGet M' d (.int (0 + (i : Int))) (some (.ref t1)) := by
        rw [Int.zero_add]
        exact v1 ▸ DGet.k (k := ky i) (x3 _ _ (g1 _ _ f1))
      have rs : (List.range (i + 1)).filter (fun p => decide ((wayP L ys p).length % 2 = 0)) = (List.range i).filter (fun p => decide ((wayP L ys p).length % 2 = 0)) ++ [i].filter fun p => decide ((wayP L ys p).length % 2 = 0) := by rw [List.range_succ, List.filter_append]
      have lf : ((List.range i).filter fun p => decide ((wayP L ys p).length % 2 = 0)).length ≤ i := Nat.le_trans (List.length_filter_le _ _) (by rw [List.length_range]; exact Nat.le_refl _)
      refine ⟨rfl, _, rfl, _, rfl, d, _, rfl, dg1, t1, _, rfl, .inr (SqT.of (x3 _ _ (g1 _ _ w1))), _, _, rfl, rfl, (show (2 : Int) ≠ 0 by decide), rfl, _, rfl, ?_⟩
      have eb : decide (V.int ((((((wayP L ys i).map natV).length : Nat) : Int)).fmod 2) = V.int 0) = decide ((wayP L ys i).length % 2 = 0) := by
        rw [List.length_map, two]
        refine decide_eq_decide.mpr ⟨fun z => ?_, fun z => by rw [z] <;> rfl⟩
        injection z with z
        omega
      rw [eb]
      cases hm : decide ((wayP L ys i).length % 2 = 0) with
      | true => exact iteT ⟨_, rfl, _, x1, by rw [List.length_map, sizeLine_eq]; omega, by rw [upd_same, rs, List.filter_cons_of_pos (p := fun p => decide ((wayP L ys p).length % 2 = 0)) hm, List.filter_nil, List.map_append, Int.zero_add] <;> rfl, set_same hD x3⟩
      | false => exact iteF ⟨by rw [x1, rs, List.filter_cons_of_neg (p := fun p => decide ((wayP L ys p).length % 2 = 0)) (by rw [hm]; decide), List.filter_nil, List.append_nil], x3⟩
    · rintro M' ⟨x1, x3⟩
      rw [Int.toNat_natCast] at x1
      refine ⟨Da, _, rfl, .inl ⟨SqL.of x1, fun tt htt => ⟨by show 2 ≤ sizeLine; decide, fun t3 ht3 => ?_⟩⟩⟩
      have sf := (sN.trans x3).trans (same_new (o := .tup (((List.range n).filter fun p => decide ((wayP L ys p).length % 2 = 0)).map natV)) htt)
      exact ks g2 t3 tt _ (sf.trans (same_new ht3)) (sf.free ht3) upd_same (same_new ht3 _ _ upd_same)
end
end K0

set_option Elab.async false
set_option linter.all false
set_option maxRecDepth 100000
set_option maxHeartbeats 8000000
/-! The program's look at rings. -/
namespace K0
open PySem PySem.Spec L2
open PyProof.Rows hiding St
abbrev pLeads : Stmt := top 27
abbrev pIsRingOf : Stmt := top 28
theorem tie_at {L : List (Int × Int)} {k : Nat} {q : Int × Int} (h : L[k]? = some q) : tie L k = q := by
  unfold tie
  rw [List.getD_eq_getElem?_getD, h] <;> rfl
theorem mem_pair (p a b : Int) : (decide (p ∈ ([a, b] : List Int))) = has (a, b) p := by
  unfold has
  simp [Bool.decide_or]
def natsOf (xs : List V) : List Nat := (xs.map intV).map Int.toNat
def ringO (L : List (Int × Int)) : Option (List V) → Bool
  | none => false
  | some xs => xs.all (belowV · L.length) && ringB L (natsOf xs)
/-- numbers of ties -/
theorem nats_of {n : Nat} {xs : List V} (h : xs.all (belowV · n) = true) : xs = (natsOf xs).map natV ∧ ∀ k ∈ natsOf xs, k < n := by
  obtain ⟨e, b⟩ := below_ints h
  have e2 : (natsOf xs).map natV = (xs.map intV).map V.int := by
    unfold natsOf
    rw [List.map_map]
    refine List.map_congr_left fun i hi => ?_
    have := b i hi
    show V.int ((i.toNat : Nat) : Int) = V.int i
    rw [Int.toNat_of_nonneg this.1]
  refine ⟨by rw [e2]; exact e, fun k hk => ?_⟩
  unfold natsOf at hk
  obtain ⟨i, hi, rfl⟩ := List.mem_map.mp hk
  have := b i hi
  omega
theorem nats_back (ns : List Nat) : natsOf (ns.map natV) = ns := by
  unfold natsOf
  rw [List.map_map, List.map_map]
  exact (List.map_congr_left fun i _ => rfl).trans (List.map_id ns)
theorem below_nats {n : Nat} {ns : List Nat} (h : ∀ k ∈ ns, k < n) : (ns.map natV).all (belowV · n) = true := by
  refine List.all_eq_true.mpr fun v hv => ?_
  obtain ⟨k, hk, rfl⟩ := List.mem_map.mp hv
  have := h k hk
  show (decide ((0 : Int) ≤ (k : Int)) && decide ((k : Int) < ((n : Nat) : Int))) = true
  rw [decide_eq_true (by omega), decide_eq_true (by omega)] <;> rfl
theorem ringO_nats {L : List (Int × Int)} {ns : List Nat} (h : ∀ k ∈ ns, k < L.length) : ringO L (some (ns.map natV)) = ringB L ns := by
  show ((ns.map natV).all (belowV · L.length) && ringB L (natsOf (ns.map natV))) = _
  rw [below_nats h, nats_back, Bool.true_and]
/-- what the program's own names hold, any and sum too -/
structure Bq (mg : Str → Option Value) : Prop extends Bk mg where
  any : mg "any" = none
  sum : mg "sum" = none
def spLeads : Sp := fun vs H Q _ => ∃ (w a : Addr) (n : Nat) (L : List (Int × Int)) (ns : List Nat) (s : Int), vs = [.ref w, .ref a, .int s] ∧ GW H w n L ∧ TT H a (ns.map natV) ∧ (∀ k ∈ ns, k < L.length) ∧ ns.length ≤ 60 ∧ ∀ H', Same H H' → Q (.bl (rndB L s ns)) H'
def spIsRingOf : Sp := fun vs H Q _ => ∃ (w : Addr) (n : Nat) (L : List (Int × Int)) (v : V) (o : Option (List V)), vs = [.ref w, v] ∧ GW H w n L ∧ Th H v o ∧ ∀ H', Same H H' → Q (.bl (ringO L o)) H'
section
variable {P : Program} {w0 : World} {K : PySem.W.Frag} {mg : Str → Option Value} {base : Heap}
abbrev nLeads : List Str := ["web", "ring", "start", "place", "met", "number", "a", "b"]
theorem scLeads : FnScope nLeads ["web", "ring", "start"] (defScope pLeads) := ⟨rfl, rfl, rfl, by decide +kernel, rfl, by decide +kernel, by decide +kernel⟩
theorem ok_leads {f : Addr} {fd : FuncData} (F : Fun K "leads_round" "leads_round" pLeads f fd) : FnOk P w0 K mg base CX0 1 f fd ["web", "ring", "start"] spLeads := by
  refine F.ok scLeads (fun vs H Q E h => ?_) (fun cdv A outer s H vs Q E hr h => ?_)
  · obtain ⟨w, a, n, L, ns, s, rfl, _⟩ := h
    rfl
  · obtain ⟨w, a, n, L, ns, st, rfl, G, ht, hk, h60, k⟩ := h
    refine ⟨_, pss_cons (ps_set (i := 3) scLeads.nd rfl (.inl rfl) (pv 2)) <| pss_cons (ps_set (i := 4) scLeads.nd rfl (.inl rfl) (pe_lst pa_nil))
      <| pss_cons (ps_for PassesOwn.never rfl (pi_tup (pv 1)) (pg_name (i := 5) scLeads.nd rfl (.inl rfl))
          (pss_cons (ps_asg (pe_ix ix_tup (pe_ix ix_tup (pv 0) pe_int (fun _ _ => rfl)) (pv 5) (fun _ _ => rfl)) (pg_tup rfl (pgs_cons (pg_name (i := 6) scLeads.nd rfl (.inl rfl)) (pgs_cons (pg_name (i := 7) scLeads.nd rfl (.inl rfl)) pgs_nil))))
          <| pss_cons (ps_if (PW.pt (pw_or (pt_cmpR (show OpR _ (compareOp .In) (rIn K false) from op_in_seq) (pv 3) (pv 4) (by rfl)) (pw_or1 (pt_cmpR (show OpR _ (compareOp .NotIn) (rIn K true) from op_notIn_seq) (pv 3) (pe_tup (pa_cons (pv 6) (pa_cons (pv 7) pa_nil))) (by rfl))))) (pss_one (ps_ret pe_bl)) pss_nil)
          <| pss_cons (ps_expr (pe_bm PySem.F.plainAttrs_list PySem.F.slot_list_append PySem.F.type_list_append mt_append (pv 4) (pa_cons (pv 3) pa_nil)))
          <| pss_one (ps_set (i := 3) scLeads.nd rfl (.inl rfl) (pe_op op_sub (pe_op op_add (pv 6) (pv 7)) (pv 3)))))
      <| pss_one (ps_ret (pe_cmpR op_eq (pv 3) (pv 2) (nomark _))), ?_⟩
    obtain ⟨ta, vs, e1, e2, e3⟩ := G.web.ex
    have len := e3.len
    refine ⟨_, rfl, by show 0 ≤ sizeLine; exact Nat.zero_le _, fun ml hml => ?_⟩
    have s0 : Same H (upd H ml (.lst [])) := same_new hml
    refine ⟨_, rfl, a, rfl, ⟨_, (ht.keep fun o q => s0 _ _ q).sq⟩, ?_⟩
    refine for_tup (K := K) (a := a) (xs := ns.map natV) (fun i σ M => ∃ (p : Int) (met : List Int) (o5 o6 o7 : Option V), σ = [some (.ref w), some (.ref a), some (.int st), some (.int p), some (.ref ml), o5, o6, o7] ∧ M ml = some (.lst (met.map V.int)) ∧ Same H M ∧ met.length = i ∧ leadsP L st p met (ns.drop i) = rndB L st ns)
      ⟨st, [], none, none, none, rfl, upd_same, s0, rfl, leadsP_rnd st ns⟩ (fun i σ M _ ⟨_, _, _, _, _, _, _, s, _⟩ => (ht.keep fun o q => s _ _ q).sq) ?_ ?_
    · rintro i x σ M hx ⟨p, met, o5, o6, o7, rfl, f1, f2, f3, f4⟩
      rw [List.getElem?_map] at hx
      obtain ⟨kk, hkk, rfl⟩ := Option.map_eq_some_iff.mp hx
      have il : i < ns.length := (List.getElem?_eq_some_iff.mp hkk).1
      have ek : ns[i] = kk := by rw [List.getElem?_eq_getElem il] at hkk; exact Option.some.inj hkk
      have kl := hk kk (List.mem_of_getElem? hkk)
      rw [List.drop_eq_getElem_cons il, ek, leadsP] at f4
      obtain ⟨b, q, eb, hq, hb⟩ := e3.get (List.getElem?_eq_getElem (show kk < vs.length by omega))
      rw [tie_at hq] at f4
      refine ⟨_, rfl, w, _, _, _, rfl, rfl, SqT.of (f2 _ _ e1), atI_nat (j := 1) rfl, _, rfl, ta, vs, _, _, rfl, rfl, SqT.of (f2 _ _ e2), atI_nat (List.getElem?_eq_getElem (show kk < vs.length by omega)), ?_⟩
      rw [eb]
      refine ⟨b, _, rfl, SqT.of (f2 _ _ hb), rfl, _, _, rfl, _, _, rfl, rfl, ?_⟩
      refine ⟨_, rfl, _, rfl, ml, _, rfl, .inl (SqL.of f1), rfl, flat_ints met, _, rfl, ?_⟩
      rw [if_neg Bool.false_ne_true, inV_ints]
      by_cases hm : p ∈ met
      · rw [decide_eq_true hm] at f4 ⊢
        rw [if_pos rfl] at f4
        refine iteT ?_
        show Q (.bl false) M
        rw [f4]
        exact k M f2
      · rw [decide_eq_false hm] at f4 ⊢
        rw [if_neg Bool.false_ne_true] at f4
        refine iteF ⟨_, rfl, _, rfl, _, rfl, by show 2 ≤ sizeLine; decide, fun t1 ht1 => ?_⟩
        have sT : Same M (upd M t1 (.tup [.int q.1, .int q.2])) := same_new ht1
        have f1' := sT _ _ f1
        have f2' := f2.trans sT
        have et1 : (upd M t1 (.tup [.int q.1, .int q.2])) t1 = some (.tup (([q.1, q.2] : List Int).map V.int)) := upd_same
        refine ⟨t1, ([q.1, q.2] : List Int).map V.int, rfl, .inr (SqT.of et1), rfl, rfl, _, rfl, ?_⟩
        generalize upd M t1 (.tup [.int q.1, .int q.2]) = M1 at f1' f2' et1 ⊢
        rw [if_pos rfl, inV_ints, mem_pair]
        cases hh : has q p with
        | false =>
          rw [hh, if_neg Bool.false_ne_true] at f4
          refine iteT ?_
          show Q (.bl false) M1
          rw [f4]
          exact k M1 f2'
        | true =>
          rw [hh, if_pos rfl] at f4
          refine iteF ⟨_, rfl, .inl ⟨rfl, _, SqL.of f1'⟩, _, rfl, ml, _, _, rfl, rfl, f1', by rw [List.length_map, sizeLine_eq]; omega, ?_⟩
          refine ⟨_, rfl, _, rfl, _, _, rfl, rfl, _, rfl, _, _, rfl, rfl, ?_⟩
          refine ⟨_, met ++ [p], _, _, _, rfl, by rw [upd_same, List.map_append] <;> rfl, set_same (s0.trans (Same.refl _) |> fun _ => hml) f2', by rw [List.length_append, f3] <;> rfl, f4⟩
    · rintro σ M ⟨p, met, o5, o6, o7, rfl, f1, f2, f3, f4⟩
      rw [List.length_map, List.drop_length, leadsP] at f4
      refine ⟨_, rfl, _, rfl, rfl, ?_⟩
      have e : (decide (V.int p = V.int st)) = rndB L st ns := by
        rw [← f4]
        exact decide_eq_decide.mpr ⟨fun z => by cases z; rfl, fun z => by rw [z]⟩
      rw [e]
      exact k M f2
abbrev nIsRingOf : List Str := ["web", "thing", "number", "start"]
theorem scIsRingOf : FnScope nIsRingOf ["web", "thing"] (defScope pIsRingOf) := ⟨rfl, rfl, rfl, by decide +kernel, rfl, by decide +kernel, by decide +kernel⟩
theorem ok_isRingOf {f fB fL : Addr} {fd fdB fdL : FuncData} (F : Fun K "is_ring_of" "is_ring_of" pIsRingOf f fd) (T : Bq mg) (GB : Dn P w0 K mg base "is_tie_number" 3 ["web", "thing"] spIsTieNo fB fdB)
    (GL : Dn P w0 K mg base "leads_round" 1 ["web", "ring", "start"] spLeads fL fdL) : FnOk P w0 K mg base CX0 4 f fd ["web", "thing"] spIsRingOf := by
  refine F.ok scIsRingOf (fun vs H Q E h => ?_) (fun cdv A outer s H vs Q E hr h => ?_)
  · obtain ⟨w, n, L, v, o, rfl, _⟩ := h
    rfl
  · obtain ⟨w, n, L, v, o, rfl, G, th, k⟩ := h
    have hr1 : Room 1 _ := hr.mono (by decide)
    refine ⟨_, pss_cons (ps_if (PW.pt (pw_or (pt_not (pt_val (pe_callB call_isi (by rfl) T.isi (by decide +kernel) (pa_cons (pv 1) (pa_cons (pe_bltn (v := .ty "tuple") (u := .type "tuple") (by rfl) T.tuple (by decide +kernel) rfl) pa_nil)))))
          (pw_or1 (pt_not (pt_val (pe_callB (cr_all rfl) (by rfl) T.all (by decide +kernel) (pa_cons (pe_lc (own := [("number", 2)]) (g := gName 2) (tt := tYes) rfl scIsRingOf.nd (pi_tup (pv 1)) (blkOk_by (N := nIsRingOf) (sc := defScope pIsRingOf) (by decide +kernel))
            (fun _ _ _ _ _ => pg_name (i := 2) scIsRingOf.nd rfl (Or.inl rfl)) (fun _ _ _ _ _ => pts_nil) (fun _ _ _ _ _ => pe_call GB.ok hr rfl GB.g GB.kp GB.b .nil pass0 (pa_cons (pv 0) (pa_cons (pv 2) pa_nil)))) pa_nil)))))))
          (pss_one (ps_ret pe_bl)) pss_nil)
      <| pss_cons (ps_if (PW.pt (pw_or (pt_cmpR op_lt (pe_callB call_len_seq (by rfl) T.len PySem.boot_len (pa_cons (pv 1) pa_nil)) pe_int (nomark _))
          (pw_or1 (pt_cmpR op_lt (pe_callB KR.call_len_setO (by rfl) T.len PySem.boot_len (pa_cons (pe_callTy (KR.cr_setTI rfl) (by rfl) T.set (by decide +kernel) (pa_cons (pv 1) pa_nil)) pa_nil)) (pe_callB call_len_seq (by rfl) T.len PySem.boot_len (pa_cons (pv 1) pa_nil)) (nomark _)))))
          (pss_one (ps_ret pe_bl)) pss_nil)
      <| pss_one (ps_ret (pe_callB (cr_any rfl) (by rfl) T.any (by decide +kernel) (pa_cons (pe_lc (own := [("start", 3)]) (g := gName 3) (tt := tYes) rfl scIsRingOf.nd (pi_tup (pe_ix ix_tup (pe_ix ix_tup (pv 0) pe_int (fun _ _ => rfl)) (pe_ix ix_tup (pv 1) pe_int (fun _ _ => rfl)) (fun _ _ => rfl)))
            (blkOk_by (N := nIsRingOf) (sc := defScope pIsRingOf) (by decide +kernel)) (fun _ _ _ _ _ => pg_name (i := 3) scIsRingOf.nd rfl (Or.inl rfl)) (fun _ _ _ _ _ => pts_nil)
            (fun _ _ _ _ _ => pe_call GL.ok hr1 rfl GL.g GL.kp GL.b .nil pass0 (pa_cons (pv 0) (pa_cons (pv 1) (pa_cons (pv 3) pa_nil))))) pa_nil))), ?_⟩
    obtain ⟨t, vs, e1, e2, e3⟩ := G.web.ex
    have len := e3.len
    cases th with
    | @oth v t h ne =>
      exact ⟨_, rfl, v, .ty "tuple", .type t, .type "tuple", _, rfl, .ty "tuple", h.ty, h.kit.2.2, _, rfl, by
        rw [decide_eq_false ne]
        exact k H (Same.refl H)⟩
    | @tup a xs e h l =>
      have hv : VT H (.ref a) "tuple" := .tup e
      refine ⟨_, rfl, .ref a, .ty "tuple", .type "tuple", .type "tuple", _, rfl, .ty "tuple", hv.ty, hv.kit.2.2, _, rfl, iteNS (c := "tuple" = "tuple") rfl ?_⟩
      refine ⟨_, rfl, a, rfl, ⟨_, e.sq⟩, fun Da hD => ?_⟩
      refine lc_it (walk_tup (xs := xs)) (fun i M => M Da = some (.lst (((xs.take i).map (belowV · L.length)).map V.bl)) ∧ Same H M) ⟨upd_same, same_new hD⟩ (fun i M _ g => (e.keep fun o q => g.2 _ _ q).sq) ?_ ?_
      · rintro i x M M' hi ⟨g1, g2⟩ ⟨rfl, hx⟩
        obtain ⟨t, ht⟩ := h x (List.mem_of_getElem? hx)
        refine ⟨rfl, ?_⟩
        unfold tYes
        refine iteT ?_
        exact ⟨_, rfl, _, rfl, w, n, L, x, t, rfl, G.same g2, ht.mono g2, _, g1, by rw [List.length_map, List.length_map, List.length_take, sizeLine_eq]; omega, by rw [upd_same, List.take_add_one, hx] <;> simp, fun b o e => by rw [upd_ne (ne_of_none e hD)]; exact g2 _ _ e⟩
      · rintro M ⟨g1, g2⟩
        rw [List.take_length] at g1
        have ea : (xs.map (belowV · L.length)).all id = xs.all (belowV · L.length) := by rw [List.all_map] <;> rfl
        refine ⟨Da, _, rfl, SqL.of g1, _, rfl, ?_⟩
        rw [ea]
        by_cases hb : xs.all (belowV · L.length) = true
        · obtain ⟨x1, x2⟩ := nats_of hb
          have ans : ringO L (some xs) = ringB L (natsOf xs) := by
            show (xs.all (belowV · L.length) && _) = _
            rw [hb, Bool.true_and]
          rw [ans] at k
          rw [hb]
          generalize natsOf xs = ns at x1 x2 k
          subst x1
          rw [List.length_map] at l
          have eM : TT M a (ns.map natV) := e.keep fun o q => g2 _ _ q
          refine ⟨_, rfl, a, _, rfl, .inr eM.sq, _, _, rfl, rfl, _, rfl, ?_⟩
          rw [List.length_map]
          by_cases h2 : ((ns.length : Nat) : Int) < 2
          · rw [decide_eq_true h2]
            refine iteT ?_
            have : ringB L ns = false := by
              unfold ringB
              rw [decide_eq_false (show ¬ 2 ≤ ns.length by omega)] <;> rfl
            show Q (.bl false) M
            rw [← this]
            exact k M g2
          rw [decide_eq_false h2]
          have n2 : 2 ≤ ns.length := by omega
          refine iteF ⟨_, rfl, a, ns.map fun i => ((i : Nat) : Int), rfl, by rw [← natV_ints]; exact eM.sq, by rw [List.length_map]; omega, fun b c hb1 hc => ⟨b, _, c, rfl, upd_same, fun ks nd mem hl => ?_⟩⟩
          have g3 : Same H (upd M b (SetO w0 b (fun j => decide (j ∈ ns.map fun i => ((i : Nat) : Int))) c)) := g2.trans (same_new hb1)
          have eM2 : TT (upd M b (SetO w0 b (fun j => decide (j ∈ ns.map fun i => ((i : Nat) : Int))) c)) a (ns.map natV) := e.keep fun o q => g3 _ _ q
          obtain ⟨c1, c2⟩ := KR.nd_count nd (ns := ns.map fun i => ((i : Nat) : Int)) fun k => (mem k).symm.trans decide_eq_true_iff
          rw [List.length_map] at c1 c2
          have ndn : (ns.map fun i => ((i : Nat) : Int)).Nodup ↔ ns.Nodup := ⟨fun z => nodup_of_map z, fun z => List.pairwise_map.mpr (z.imp fun h e => h (by omega))⟩
          refine ⟨_, rfl, a, _, rfl, .inr eM2.sq, _, _, rfl, rfl, _, rfl, ?_⟩
          rw [List.length_map]
          by_cases hn : ns.Nodup
          · have hc' : c = ns.length := by rw [← hl]; exact c2.mpr (ndn.mpr hn)
            rw [decide_eq_false (show ¬ ((c : Nat) : Int) < ((ns.length : Nat) : Int) by omega)]
            obtain ⟨k0, r0, er⟩ : ∃ k0 r0, ns = k0 :: r0 := by
              cases ns with
              | nil => simp at n2
              | cons a b => exact ⟨a, b, rfl⟩
            have kl : k0 < vs.length := by have := x2 k0 (by rw [er]; exact List.mem_cons_self ..); omega
            obtain ⟨b0, q, eb, hq, hb0⟩ := e3.get (List.getElem?_eq_getElem kl)
            have g0 : (ns.map natV)[0]? = some (natV k0) := by rw [er] <;> rfl
            have ab : ringB L ns = (rndB L q.1 ns || rndB L q.2 ns) := by
              unfold ringB
              rw [decide_eq_true n2, decide_eq_true hn, show ns.getD 0 0 = k0 by rw [er] <;> rfl, tie_at hq] <;> rfl
            rw [ab] at k
            refine iteF ⟨_, rfl, w, _, _, _, rfl, rfl, SqT.of (g3 _ _ e1), atI_nat (j := 1) rfl, _, rfl, a, _, _, _, rfl, rfl, eM2.sq, atI_nat (j := 0) g0, t, vs, _, _, rfl, rfl, SqT.of (g3 _ _ e2), atI_nat (List.getElem?_eq_getElem kl), ?_⟩
            rw [eb]
            refine ⟨b0, rfl, ⟨_, SqT.of (g3 _ _ hb0)⟩, fun Db hDb => ?_⟩
            refine lc_it (walk_tup (xs := [V.int q.1, V.int q.2])) (fun i N => N Db = some (.lst ((([q.1, q.2].take i).map fun s => rndB L s ns).map V.bl)) ∧ Same H N) ⟨upd_same, g3.trans (same_new hDb)⟩ (fun i N _ g => SqT.of (g.2 _ _ hb0)) ?_ ?_
            · rintro i x N N' hi ⟨y1, y2⟩ ⟨rfl, hx⟩
              obtain ⟨s, rfl, hs⟩ : ∃ s : Int, x = .int s ∧ [q.1, q.2][i]? = some s := by
                match i, hi, hx with
                | 0, _, hx => cases hx; exact ⟨_, rfl, rfl⟩
                | 1, _, hx => cases hx; exact ⟨_, rfl, rfl⟩
              refine ⟨rfl, ?_⟩
              unfold tYes
              refine iteT ?_
              have sN := y2
              refine ⟨_, rfl, _, rfl, _, rfl, w, a, n, L, ns, s, rfl, G.same sN, e.keep fun o q => sN _ _ q, x2, by omega, fun N1 s4 => ⟨_, s4 _ _ y1, by rw [List.length_map, List.length_map, List.length_take, sizeLine_eq]; simp; omega, ?_, set_same (g3.free hDb) (y2.trans s4)⟩⟩
              rw [upd_same, take_snoc hs, List.map_append, List.map_append] <;> rfl
            · rintro N ⟨y1, y2⟩
              refine ⟨Db, [rndB L q.1 ns, rndB L q.2 ns], rfl, SqL.of y1, ?_⟩
              have eo : ([rndB L q.1 ns, rndB L q.2 ns].any id) = (rndB L q.1 ns || rndB L q.2 ns) := by simp
              rw [eo]
              exact k N y2
          · have hc' : c ≠ ns.length := fun z => hn (ndn.mp (c2.mp (by rw [hl]; exact z)))
            rw [decide_eq_true (show ((c : Nat) : Int) < ((ns.length : Nat) : Int) by omega)]
            refine iteT ?_
            have : ringB L ns = false := by
              unfold ringB
              rw [decide_eq_false hn, Bool.and_false] <;> rfl
            have kk := k _ g3
            rw [this] at kk
            exact kk
        · rw [Bool.eq_false_iff.mpr hb]
          have ans : false = ringO L (some xs) := by
            show _ = (xs.all (belowV · L.length) && _)
            rw [Bool.eq_false_iff.mpr hb, Bool.false_and]
          show Q (.bl false) M
          rw [ans]
          exact k M g2
end
end K0

set_option Elab.async false
set_option linter.all false
set_option maxRecDepth 100000
set_option maxHeartbeats 8000000
/-! Any value beside a word; papers of sides and rings, as the program looks at them. -/
namespace K0
open PySem PySem.Spec L2
open PyProof.Rows hiding St
/-! ### == of any value and a word -/
theorem dict_declines_str (l : Addr) (o : Obj) (b : Str) (u : Tok) :
    Meets (Builtin.«dict.__eq__» ⟨[.ref l, .str b u], []⟩) (fun _ R s => (s.heap.get? l = some o ∧ o.cls = .type "dict") ∧ R (.ok (.ret .notImplemented)) s) :=
  .of_wp fun prog w A R s h => by obtain ⟨hp, g, d, tk, os⟩ := s; obtain ⟨⟨hl, hc⟩, h⟩ := h; have f1 := PySem.F.sub_str_dict; wp_walk using wpAny_loadPart' hl, wpAny_load hl; exact ⟨_, rfl, h⟩
theorem str_declines_dict (b : Str) (u : Tok) (l : Addr) (c : Value) (es : _) (ep : _) (dd : Option Addr) (sl : Array (Option Value)) :
    Meets (Builtin.«str.__eq__» ⟨[.str b u, .ref l], []⟩) (fun _ R s => s.heap.get? l = some { cls := c, dict := dd, data := .dict es ep, slots := sl } ∧ R (.ok (.ret .notImplemented)) s) :=
  .of_wp fun prog w A R s h => by obtain ⟨hp, g, d, tk, os⟩ := s; obtain ⟨hl, h⟩ := h; wp_walk using wpAny_loadPart' hl, wpAny_load hl; exact ⟨_, rfl, h⟩
theorem rc_dict_str {A : Around} {s : Shared} {l : Addr} {o : Obj} (b : Str) (u : Tok) (hl : s.heap.get? l = some o) (hc : o.cls = .type "dict") (hd : ∃ es ep, o.data = .dict es ep) (hu : A.units < cLine) : SeqAt.RcAt A s (.ref l) (.str b u) false := fun prog w E Q h => by
  obtain ⟨cls, dd, data, sl⟩ := o
  obtain ⟨es, ep, hd⟩ := hd
  simp only at hc hd
  subst hc hd
  exact SeqAt.rc_eq_decline_or (k := false) ⟨_, hl, rfl⟩ (typeIs_str s b u) (by decide) PySem.F.sub_str_dict PySem.F.slot_dict_eq PySem.F.slot_str_eq_refl
    (fun _ hq => call_meets PySem.F.slot_dict_eq ⟨_, hl, rfl⟩ PySem.F.entry_dict_eq (PySem.F.args_dict_eq_2 _ _) (dict_declines_str l _ b u) ⟨⟨hl, rfl⟩, hq⟩)
    (fun _ hq => call_meets PySem.F.slot_str_eq_refl (typeIs_str s b u) PySem.F.entry_str_eq (PySem.F.args_str_eq_2 _ _) (str_declines_dict b u l (.type "dict") es ep dd sl) ⟨hl, hq⟩)
    (fun _ hq => wpAny_of_eq (rfl : isSame (.ref l) (.str b u) = pure false) hq) (.inr hu) h
def rEqS : R2 := fun x y H Q => ∃ (t : String) (c : Str), VT H x t ∧ y = .str c ∧ Q (.bl (decide (x = y))) H
theorem op_eqS {X : Cx} (hu : X.A.units < cLine) : OpR X (compareOp .Eq) rEqS := by
  intro pins s σ H x y v u Q I rx ry h
  obtain ⟨t, c, hx, rfl, q⟩ := h
  have no : ∀ {a : Addr}, decide (V.ref a = V.str c) = false := fun {a} => decide_eq_false fun z => nomatch z
  cases hx with
  | non => exact op_eq pins s σ H _ _ v u Q I rx ry ⟨rfl, q⟩
  | bl b => exact op_eq pins s σ H _ _ v u Q I rx ry ⟨rfl, q⟩
  | int i => exact op_eq pins s σ H _ _ v u Q I rx ry ⟨rfl, q⟩
  | str i => exact op_eq pins s σ H _ _ v u Q I rx ry ⟨rfl, q⟩
  | @lst a xs e =>
    cases rx
    obtain ⟨t', rfl⟩ := ry
    rw [no] at q
    obtain ⟨its, r1, p1, _⟩ := I.list (SqL.of e)
    exact SeqAt.RcAt.list_str c t' p1.isList hu X.prog X.w _ _ ⟨.bl false, H, I, rfl, q⟩
  | @tup a xs e =>
    cases rx
    obtain ⟨t', rfl⟩ := ry
    rw [no] at q
    obtain ⟨its, r1, p1, _⟩ := I.tuple e.sq
    exact SeqAt.RcAt.tuple_str c t' p1 hu X.prog X.w _ _ ⟨.bl false, H, I, rfl, q⟩
  | @dct a kvs e =>
    cases rx
    obtain ⟨t', rfl⟩ := ry
    rw [no] at q
    obtain ⟨_, ya, va, ra, o, es, ep, ho, hx, hd, _⟩ := (show ObjOk X.prog X.w H s.heap a (.dK kvs) from I.hok a _ e)
    exact rc_dict_str c t' ho hx.1 ⟨es, ep, hd⟩ hu X.prog X.w _ _ ⟨.bl false, H, I, rfl, q⟩
/-! ### what may be a paper -/
inductive Ct (H : Hp) : V → Option (V × Option (List V)) → Prop
  | two {a : Addr} {x y : V} {t : String} {o : Option (List V)} (e : TT H a [x, y]) (hx : VT H x t) (hy : Th H y o) : Ct H (.ref a) (some (x, o))
  | few {a : Addr} {xs : List V} (e : TT H a xs) (l : xs.length ≠ 2) : Ct H (.ref a) none
  | oth {v : V} {t : String} (h : VT H v t) (ne : t ≠ "tuple") : Ct H v none
theorem Ct.same {H H' : Hp} {v : V} {o : Option (V × Option (List V))} (h : Ct H v o) (s : Same H H') : Ct H' v o := by
  cases h with
  | two e hx hy => exact .two (e.keep fun o q => s _ _ q) (hx.mono s) (hy.same s)
  | few e l => exact .few (e.keep fun o q => s _ _ q) l
  | oth h ne => exact .oth (h.mono s) ne
def toldO (c : Str) : Option (V × Option (List V)) → Bool
  | some (x, _) => decide (x = .str c)
  | none => false
/-- the ties all have one end among these -/
def sidesL (L : List (Int × Int)) (ns : List Int) : Bool := L.all (crB fun p => decide (p ∈ ns))
def sidesO (L : List (Int × Int)) : Option (List V) → Bool
  | some xs => sidesL L (xs.map intV)
  | none => false
def oddO : Option (List V) → Bool
  | some xs => decide (xs.length % 2 = 1)
  | none => false
/-- a right paper -/
def paperO (n : Nat) (L : List (Int × Int)) : Option (V × Option (List V)) → Bool
  | some (x, o) => if x = .str "sides" then lotO n o && sidesO L o else if x = .str "ring" then ringO L o && oddO o else false
  | none => false
abbrev pIsTold : Stmt := top 14
abbrev pAreSides : Stmt := top 25
abbrev pSidesHold : Stmt := top 26
def spIsTold : Sp := fun vs H Q _ => ∃ (v : V) (c : Str) (o : Option (V × Option (List V))), vs = [v, .str c, .int 2] ∧ Ct H v o ∧ Q (.bl (toldO c o)) H
def spAreSides : Sp := fun vs H Q _ => ∃ (w a : Addr) (n : Nat) (L : List (Int × Int)) (ns : List Int), vs = [.ref w, .ref a] ∧ GW H w n L ∧ TT H a (ns.map V.int) ∧ ∀ H', Same H H' → Q (.bl (sidesL L ns)) H'
def spSidesHold : Sp := fun vs H Q _ => ∃ (w : Addr) (n : Nat) (L : List (Int × Int)) (v : V) (o : Option (V × Option (List V))), vs = [.ref w, v] ∧ GW H w n L ∧ Ct H v o ∧ ∀ H', Same H H' → Q (.bl (paperO n L o)) H'
theorem len2 {xs : List V} (h : xs.length ≠ 2) : decide (V.int ((xs.length : Nat) : Int) = V.int 2) = false := decide_eq_false fun z => h (by injection z with z; omega)
theorem odd_len (k : Nat) : decide (V.int (((k : Nat) : Int).fmod 2) = V.int 1) = decide (k % 2 = 1) := by
  rw [Int.fmod_eq_emod_of_nonneg _ (by omega)]
  refine decide_eq_decide.mpr ⟨fun z => by injection z with z; omega, fun z => ?_⟩
  rw [show ((k : Nat) : Int) % 2 = 1 by omega]
section
variable {P : Program} {w0 : World} {K : PySem.W.Frag} {mg : Str → Option Value} {base : Heap}
abbrev nIsTold : List Str := ["thing", "word", "many"]
theorem scIsTold : FnScope nIsTold nIsTold (defScope pIsTold) := ⟨rfl, rfl, rfl, by decide +kernel, rfl, by decide +kernel, by decide +kernel⟩
theorem ok_isTold {f : Addr} {fd : FuncData} (F : Fun K "is_told" "is_told" pIsTold f fd) (T : Bj mg) : FnOk P w0 K mg base CX0 1 f fd ["thing", "word", "many"] spIsTold := by
  refine F.ok scIsTold (fun vs H Q E h => ?_) (fun cdv A outer s H vs Q E hr h => ?_)
  · obtain ⟨v, c, o, rfl, _⟩ := h
    rfl
  · obtain ⟨v, c, o, rfl, ct, k⟩ := h
    refine ⟨_, pss_one (ps_ret (pe_and (pe_callB call_isi (by rfl) T.isi (by decide +kernel) (pa_cons (pv 0) (pa_cons (pe_bltn (v := .ty "tuple") (u := .type "tuple") (by rfl) T.tuple (by decide +kernel) rfl) pa_nil)))
      (pe_and (pe_cmpR op_eq (pe_callB call_len_seq (by rfl) T.len PySem.boot_len (pa_cons (pv 0) pa_nil)) (pv 2) (nomark _))
        (pe_one (pe_cmpR (op_eqS hr.units0) (pe_ix ix_tup (pv 0) pe_int (fun _ _ => rfl)) (pv 1) (nomark _)))))), ?_⟩
    cases ct with
    | @oth v t h ne =>
      exact ⟨_, rfl, v, .ty "tuple", .type t, .type "tuple", _, rfl, .ty "tuple", h.ty, h.kit.2.2, _, rfl, by rw [decide_eq_false ne]; exact iteF k⟩
    | @few a xs e l =>
      have hv : VT H (.ref a) "tuple" := .tup e
      refine ⟨_, rfl, .ref a, .ty "tuple", .type "tuple", .type "tuple", _, rfl, .ty "tuple", hv.ty, hv.kit.2.2, _, rfl, iteT ?_⟩
      refine ⟨_, rfl, a, _, rfl, .inr e.sq, _, rfl, rfl, _, rfl, ?_⟩
      rw [len2 l]
      exact iteF k
    | @two a x y t o e hx hy =>
      have hv : VT H (.ref a) "tuple" := .tup e
      refine ⟨_, rfl, .ref a, .ty "tuple", .type "tuple", .type "tuple", _, rfl, .ty "tuple", hv.ty, hv.kit.2.2, _, rfl, iteT ?_⟩
      refine ⟨_, rfl, a, _, rfl, .inr e.sq, _, rfl, rfl, _, rfl, iteT ?_⟩
      exact ⟨_, rfl, a, _, _, _, rfl, rfl, e.sq, atI_nat (j := 0) rfl, _, rfl, t, c, hx, rfl, k⟩
abbrev nAreSides : List Str := ["web", "lot", "a", "b"]
theorem scAreSides : FnScope nAreSides ["web", "lot"] (defScope pAreSides) := ⟨rfl, rfl, rfl, by decide +kernel, rfl, by decide +kernel, by decide +kernel⟩
theorem ok_areSides {f : Addr} {fd : FuncData} (F : Fun K "are_sides" "are_sides" pAreSides f fd) (T : Bk mg) : FnOk P w0 K mg base CX0 1 f fd ["web", "lot"] spAreSides := by
  refine F.ok scAreSides (fun vs H Q E h => ?_) (fun cdv A outer s H vs Q E hr h => ?_)
  · obtain ⟨w, a, n, L, ns, rfl, _⟩ := h
    rfl
  · obtain ⟨w, a, n, L, ns, rfl, G, tt, k⟩ := h
    refine ⟨_, pss_one (ps_ret (pe_callB (cr_all rfl) (by rfl) T.all (by decide +kernel) (pa_cons (pe_lc (own := [("a", 2), ("b", 3)]) (g := gTup K 2 (gCons (gName 2) (gCons (gName 3) gNil))) (tt := tYes) rfl scAreSides.nd
          (pi_tup (pe_ix ix_tup (pv 0) pe_int (fun _ _ => rfl))) (blkOk_by (N := nAreSides) (sc := defScope pAreSides) (by decide +kernel))
          (fun _ _ _ _ _ => pg_tup rfl (pgs_cons (pg_name (i := 2) scAreSides.nd rfl (.inl rfl) (.inr rfl)) (pgs_cons (pg_name (i := 3) scAreSides.nd rfl (.inl rfl) (.inr rfl)) pgs_nil)))
          (fun _ _ _ _ _ => pts_nil)
          (fun _ _ _ _ _ => pe_cmpR op_ne (pe_cmpR (show OpR _ (compareOp .In) (rIn K false) from op_in_seq) (pv 2) (pv 1) (by rfl)) (pe_cmpR (show OpR _ (compareOp .In) (rIn K false) from op_in_seq) (pv 3) (pv 1) (by rfl)) (nomark _))) pa_nil))), ?_⟩
    obtain ⟨ta, vs, e1, e2, e3⟩ := G.web.ex
    have len := e3.len
    have few := G.few
    refine ⟨_, rfl, w, _, _, _, rfl, rfl, SqT.of e1, atI_nat (j := 1) rfl, ta, rfl, ⟨_, SqT.of e2⟩, fun Da hD => ?_⟩
    refine lc_it (walk_tup (xs := vs)) (fun i M => M Da = some (.lst (((L.take i).map (crB fun p => decide (p ∈ ns))).map V.bl)) ∧ Same H M) ⟨upd_same, same_new hD⟩ (fun i M _ g => SqT.of (g.2 _ _ e2)) ?_ ?_
    · rintro i x M M' hi ⟨g1, g2⟩ ⟨rfl, hx⟩
      obtain ⟨b, q, rfl, hq, hb⟩ := e3.get hx
      have hls : TT M' a (ns.map V.int) := tt.keep fun o q => g2 _ _ q
      refine ⟨b, _, rfl, SqT.of (g2 _ _ hb), rfl, _, _, rfl, _, _, rfl, rfl, rfl, ?_⟩
      unfold tYes
      refine iteT ?_
      refine ⟨_, rfl, _, rfl, a, _, rfl, .inr hls.sq, rfl, flat_ints ns, _, rfl, _, rfl, a, _, rfl, .inr hls.sq, rfl, flat_ints ns, rfl, ?_⟩
      have ec : (!decide (V.bl (if false = true then !inV (V.int q.1) (ns.map V.int) else inV (V.int q.1) (ns.map V.int)) = V.bl (if false = true then !inV (V.int q.2) (ns.map V.int) else inV (V.int q.2) (ns.map V.int)))) = crB (fun p => decide (p ∈ ns)) q := by
        rw [if_neg Bool.false_ne_true, if_neg Bool.false_ne_true, inV_ints, inV_ints, ne_bl] <;> rfl
      rw [ec]
      exact ⟨_, g1, by rw [List.length_map, List.length_map, List.length_take, sizeLine_eq]; omega, by rw [upd_same, take_snoc hq, List.map_append, List.map_append] <;> rfl, fun b o e => by rw [upd_ne (ne_of_none e hD)]; exact g2 _ _ e⟩
    · rintro M ⟨g1, g2⟩
      rw [len, List.take_length] at g1
      refine ⟨Da, _, rfl, SqL.of g1, ?_⟩
      rw [List.all_map]
      exact k M g2
abbrev nSidesHold : List Str := ["web", "thing"]
theorem scSidesHold : FnScope nSidesHold ["web", "thing"] (defScope pSidesHold) := ⟨rfl, rfl, rfl, by decide +kernel, rfl, by decide +kernel, by decide +kernel⟩
theorem ok_sidesHold {f fC fT fL fA fR : Addr} {fd fdC fdT fdL fdA fdR : FuncData} (F : Fun K "sides_hold" "sides_hold" pSidesHold f fd) (T : Bj mg) (GC : Dn P w0 K mg base "check_web" 5 ["thing"] spCheckWeb fC fdC) (GT : Dn P w0 K mg base "is_told" 1 ["thing", "word", "many"] spIsTold fT fdT)
    (GL : Dn P w0 K mg base "is_lot_of" 3 ["web", "thing"] spIsLotOf fL fdL) (GA : Dn P w0 K mg base "are_sides" 1 ["web", "lot"] spAreSides fA fdA) (GR : Dn P w0 K mg base "is_ring_of" 4 ["web", "thing"] spIsRingOf fR fdR) : FnOk P w0 K mg base CX0 6 f fd ["web", "thing"] spSidesHold := by
  refine F.ok scSidesHold (fun vs H Q E h => ?_) (fun cdv A outer s H vs Q E hr h => ?_)
  · obtain ⟨w, n, L, v, o, rfl, _⟩ := h
    rfl
  · obtain ⟨w, n, L, v, o, rfl, G, ct, k⟩ := h
    have hr1 : Room 1 (A.deeper (envOfC "sides_hold" (defScope pSidesHold) s.heap.objs.size f cdv)) := hr.mono (by decide)
    have hr3 : Room 3 (A.deeper (envOfC "sides_hold" (defScope pSidesHold) s.heap.objs.size f cdv)) := hr.mono (by decide)
    have hr4 : Room 4 (A.deeper (envOfC "sides_hold" (defScope pSidesHold) s.heap.objs.size f cdv)) := hr.mono (by decide)
    refine ⟨_, pss_cons (ps_expr (pe_call GC.ok hr rfl GC.g GC.kp GC.b .nil pass0 (pa_cons (pv 0) pa_nil)))
      <| pss_cons (ps_if (pt_val (pe_call GT.ok hr1 rfl GT.g GT.kp GT.b .nil pass0 (pa_cons (pv 1) (pa_cons pe_str (pa_cons pe_int pa_nil)))))
          (pss_one (ps_ret (pe_and (pe_call GL.ok hr3 rfl GL.g GL.kp GL.b .nil pass0 (pa_cons (pv 0) (pa_cons (pe_ix ix_tup (pv 1) pe_int (fun _ _ => rfl)) pa_nil)))
            (pe_one (pe_call GA.ok hr1 rfl GA.g GA.kp GA.b .nil pass0 (pa_cons (pv 0) (pa_cons (pe_ix ix_tup (pv 1) pe_int (fun _ _ => rfl)) pa_nil))))))) pss_nil)
      <| pss_one (ps_ret (pe_and (pe_call GT.ok hr1 rfl GT.g GT.kp GT.b .nil pass0 (pa_cons (pv 1) (pa_cons pe_str (pa_cons pe_int pa_nil))))
          (pe_and (pe_call GR.ok hr4 rfl GR.g GR.kp GR.b .nil pass0 (pa_cons (pv 0) (pa_cons (pe_ix ix_tup (pv 1) pe_int (fun _ _ => rfl)) pa_nil)))
            (pe_one (pe_cmpR op_eq (pe_op op_modN (pe_callB call_len_seq (by rfl) T.len PySem.boot_len (pa_cons (pe_ix ix_tup (pv 1) pe_int (fun _ _ => rfl)) pa_nil)) pe_int) pe_int (nomark _)))))), ?_⟩
    refine ⟨_, rfl, w, n, L, rfl, G, fun H1 s1 => ⟨_, rfl, v, "sides", o, rfl, ct.same s1, _, rfl, ?_⟩⟩
    have ct1 := ct.same s1
    have G1 := G.same s1
    cases ct1 with
    | oth _ _ => exact iteF ⟨_, rfl, v, "ring", none, rfl, ct.same s1, _, rfl, iteF (k H1 s1)⟩
    | few _ _ => exact iteF ⟨_, rfl, _, "ring", none, rfl, ct.same s1, _, rfl, iteF (k H1 s1)⟩
    | @two a x y t o e hx hy =>
      show if decide (x = .str "sides") = true then _ else _
      by_cases h1 : x = .str "sides"
      · rw [decide_eq_true h1]
        have ans : paperO n L (some (x, o)) = (lotO n o && sidesO L o) := if_pos h1
        rw [ans] at k
        refine iteT ⟨_, rfl, _, rfl, a, _, _, _, rfl, rfl, e.sq, atI_nat (j := 1) rfl, w, n, L, y, o, rfl, G1, hy, fun H2 s2 => ⟨_, rfl, ?_⟩⟩
        rcases th_cases (n := n) hy with ⟨z, b, ns, rfl, rfl, il, tt⟩ | z
        · rw [z]
          rw [z, Bool.true_and] at k
          refine iteT ⟨_, rfl, _, rfl, a, _, _, _, rfl, rfl, (e.keep fun o q => s2 _ _ q).sq, atI_nat (j := 1) rfl, w, b, n, L, ns, rfl, G1.same s2, tt.keep fun o q => s2 _ _ q, fun H3 s3 => ?_⟩
          have := k H3 ((s1.trans s2).trans s3)
          have e9 : sidesO L (some (ns.map V.int)) = sidesL L ns := by show sidesL L ((ns.map V.int).map intV) = _; rw [map_intV]
          rwa [e9] at this
        · rw [z]
          rw [z, Bool.false_and] at k
          exact iteF (k H2 (s1.trans s2))
      · rw [decide_eq_false h1]
        refine iteF ⟨_, rfl, _, "ring", some (x, o), rfl, .two e hx hy, _, rfl, ?_⟩
        show if decide (x = .str "ring") = true then _ else _
        by_cases h2 : x = .str "ring"
        · rw [decide_eq_true h2]
          have ans : paperO n L (some (x, o)) = (ringO L o && oddO o) := (if_neg h1).trans (if_pos h2)
          rw [ans] at k
          refine iteT ⟨_, rfl, _, rfl, a, _, _, _, rfl, rfl, e.sq, atI_nat (j := 1) rfl, w, n, L, y, o, rfl, G1, hy, fun H2 s2 => ⟨_, rfl, ?_⟩⟩
          cases z : ringO L o with
          | false =>
            rw [z, Bool.false_and] at k
            exact iteF (k H2 (s1.trans s2))
          | true =>
            rw [z, Bool.true_and] at k
            cases hy with
            | oth _ _ => cases z
            | @tup b xs e2 h3 l3 =>
              refine iteT ⟨_, rfl, a, _, _, _, rfl, rfl, (e.keep fun o q => s2 _ _ q).sq, atI_nat (j := 1) rfl, b, _, rfl, .inr (e2.keep fun o q => s2 _ _ q).sq, _, _, rfl, rfl, (show (2 : Int) ≠ 0 by decide), rfl, ?_⟩
              rw [odd_len]
              exact k H2 (s1.trans s2)
        · rw [decide_eq_false h2]
          have ans : paperO n L (some (x, o)) = false := (if_neg h1).trans (if_neg h2)
          rw [ans] at k
          exact iteF (k H1 s1)
end
end K0

/-! How many lots are sides: as many as there are choices in each part. -/
namespace K0
/-- m cuts each tie -/
def Cuts (L : List (Int × Int)) (m : Nat) : Prop := ∀ x y, Adj L x y → m.testBit x ≠ m.testBit y
/-- m cuts no tie -/
def Shut (L : List (Int × Int)) (m : Nat) : Prop := ∀ x y, Adj L x y → m.testBit x = m.testBit y
/-- all unions of some classes -/
def unions : List (List Nat) → List Nat
  | [] => [0]
  | c :: xs => unions xs ++ (unions xs).map (maskN c ||| ·)
theorem unions_len : ∀ xs, (unions xs).length = 2 ^ xs.length
  | [] => rfl
  | c :: xs => by
    show (unions xs ++ (unions xs).map _).length = _
    rw [List.length_append, List.length_map, unions_len xs, List.length_cons, Nat.pow_succ]
    omega
/-- a union holds each class whole or not at all, and nothing else -/
theorem unions_mem : ∀ {xs : List (List Nat)} {m : Nat}, (∀ c ∈ xs, c.Nodup) → (∀ c ∈ xs, c ≠ []) → (xs.Pairwise fun a b => ∀ i, i ∈ a → i ∉ b) →
    (m ∈ unions xs ↔ (∀ i, m.testBit i = true → ∃ c ∈ xs, i ∈ c) ∧ ∀ c ∈ xs, (∀ i ∈ c, m.testBit i = true) ∨ ∀ i ∈ c, m.testBit i = false)
  | [], m, _, _, _ => by
    show m ∈ [0] ↔ _
    rw [List.mem_singleton]
    constructor
    · rintro rfl
      exact ⟨fun i h => (by rw [Nat.zero_testBit] at h; cases h), fun _ z => nomatch z⟩
    · rintro ⟨h, _⟩
      refine Nat.eq_of_testBit_eq fun i => ?_
      rw [Nat.zero_testBit]
      cases q : m.testBit i with
      | false => rfl
      | true => obtain ⟨_, z, _⟩ := h i q; cases z
  | c :: xs, m, nd, ne, d => by
    obtain ⟨d1, d2⟩ := List.pairwise_cons.mp d
    have ih : ∀ m, _ := fun m => unions_mem (m := m) (fun e he => nd e (List.mem_cons_of_mem _ he)) (fun e he => ne e (List.mem_cons_of_mem _ he)) d2
    have mb := mask_bit (nd c (List.mem_cons_self ..))
    have cn := ne c (List.mem_cons_self ..)
    have far : ∀ e ∈ xs, ∀ i ∈ e, (maskN c).testBit i = false := fun e he i hi => by
      cases q : (maskN c).testBit i with
      | false => rfl
      | true => exact absurd hi (d1 e he i ((mb i).mp q))
    show m ∈ unions xs ++ (unions xs).map _ ↔ _
    rw [List.mem_append, List.mem_map]
    constructor
    · rintro (h | ⟨u, h, rfl⟩)
      · obtain ⟨h1, h2⟩ := (ih m).mp h
        refine ⟨fun i hi => let ⟨e, he, z⟩ := h1 i hi; ⟨e, List.mem_cons_of_mem _ he, z⟩, fun e he => ?_⟩
        rcases List.mem_cons.mp he with rfl | he
        · refine .inr fun i hi => ?_
          cases q : m.testBit i with
          | false => rfl
          | true =>
            obtain ⟨e', he', z⟩ := h1 i q
            exact absurd z (d1 e' he' i hi)
        · exact h2 e he
      · obtain ⟨h1, h2⟩ := (ih u).mp h
        refine ⟨fun i hi => ?_, fun e he => ?_⟩
        · rw [Nat.testBit_or, Bool.or_eq_true] at hi
          rcases hi with hi | hi
          · exact ⟨c, List.mem_cons_self .., (mb i).mp hi⟩
          · obtain ⟨e, he, z⟩ := h1 i hi
            exact ⟨e, List.mem_cons_of_mem _ he, z⟩
        · rcases List.mem_cons.mp he with rfl | he
          · exact .inl fun i hi => by rw [Nat.testBit_or, (mb i).mpr hi, Bool.true_or]
          · rcases h2 e he with z | z
            · exact .inl fun i hi => by rw [Nat.testBit_or, z i hi, Bool.or_true]
            · exact .inr fun i hi => by rw [Nat.testBit_or, z i hi, far e he i hi] <;> rfl
    · rintro ⟨h1, h2⟩
      rcases h2 c (List.mem_cons_self ..) with z | z
      · refine .inr ⟨m ^^^ maskN c, (ih _).mpr ⟨fun i hi => ?_, fun e he => ?_⟩, ?_⟩
        · rw [Nat.testBit_xor] at hi
          by_cases hc : i ∈ c
          · rw [z i hc, (mb i).mpr hc] at hi
            cases hi
          · have : (maskN c).testBit i = false := by
              cases q : (maskN c).testBit i with
              | false => rfl
              | true => exact absurd ((mb i).mp q) hc
            rw [this, Bool.xor_false] at hi
            obtain ⟨e, he, y⟩ := h1 i hi
            rcases List.mem_cons.mp he with rfl | he
            · exact absurd y hc
            · exact ⟨e, he, y⟩
        · rcases h2 e (List.mem_cons_of_mem _ he) with y | y
          · exact .inl fun i hi => by rw [Nat.testBit_xor, y i hi, far e he i hi] <;> rfl
          · exact .inr fun i hi => by rw [Nat.testBit_xor, y i hi, far e he i hi] <;> rfl
        · refine Nat.eq_of_testBit_eq fun i => ?_
          rw [Nat.testBit_or, Nat.testBit_xor]
          by_cases hc : i ∈ c
          · rw [(mb i).mpr hc, z i hc] <;> rfl
          · have : (maskN c).testBit i = false := by
              cases q : (maskN c).testBit i with
              | false => rfl
              | true => exact absurd ((mb i).mp q) hc
            rw [this, Bool.xor_false, Bool.false_or]
      · refine .inl ((ih m).mpr ⟨fun i hi => ?_, fun e he => h2 e (List.mem_cons_of_mem _ he)⟩)
        obtain ⟨e, he, y⟩ := h1 i hi
        rcases List.mem_cons.mp he with rfl | he
        · rw [z i y] at hi
          cases hi
        · exact ⟨e, he, y⟩
theorem unions_nodup : ∀ {xs : List (List Nat)}, (∀ c ∈ xs, c.Nodup) → (∀ c ∈ xs, c ≠ []) → (xs.Pairwise fun a b => ∀ i, i ∈ a → i ∉ b) → (unions xs).Nodup
  | [], _, _, _ => List.nodup_cons.mpr ⟨by simp, List.nodup_nil⟩
  | c :: xs, nd, ne, d => by
    obtain ⟨d1, d2⟩ := List.pairwise_cons.mp d
    have nd' : ∀ e ∈ xs, e.Nodup := fun e he => nd e (List.mem_cons_of_mem _ he)
    have ne' : ∀ e ∈ xs, e ≠ [] := fun e he => ne e (List.mem_cons_of_mem _ he)
    have ih := unions_nodup nd' ne' d2
    have mem : ∀ m, _ := fun m => unions_mem (m := m) nd' ne' d2
    have mb := mask_bit (nd c (List.mem_cons_self ..))
    have out : ∀ u ∈ unions xs, ∀ i ∈ c, u.testBit i = false := fun u hu i hi => by
      cases q : u.testBit i with
      | false => rfl
      | true =>
        obtain ⟨e, he, z⟩ := ((mem u).mp hu).1 i q
        exact absurd z (d1 e he i hi)
    show (unions xs ++ (unions xs).map _).Nodup
    refine List.nodup_append.mpr ⟨ih, ?_, fun x hx y hy e => ?_⟩
    · refine List.pairwise_map.mpr (List.Pairwise.imp_of_mem (fun {u v} hu hv h e => h ?_) ih)
      refine Nat.eq_of_testBit_eq fun i => ?_
      have := congrArg (·.testBit i) e
      simp only [Nat.testBit_or] at this
      by_cases hc : i ∈ c
      · rw [out u hu i hc, out v hv i hc]
      · have z : (maskN c).testBit i = false := by
          cases q : (maskN c).testBit i with
          | false => rfl
          | true => exact absurd ((mb i).mp q) hc
        rwa [z, Bool.false_or, Bool.false_or] at this
    · subst e
      obtain ⟨u, hu, e⟩ := List.mem_map.mp hy
      obtain ⟨i, hi⟩ := List.exists_mem_of_ne_nil c (ne c (List.mem_cons_self ..))
      have := out x hx i hi
      rw [← e, Nat.testBit_or, (mb i).mpr hi, Bool.true_or] at this
      cases this
/-- what cuts no tie is a union of classes -/
theorem shut_union {L : List (Int × Int)} {n m : Nat} {xs : List (List Nat)} (C : Cls L (2 ^ n - 1) xs) (hL : ∀ x y, Adj L x y → (2 ^ n - 1).testBit x = true ∧ (2 ^ n - 1).testBit y = true) : m ∈ unions xs ↔ m < 2 ^ n ∧ Shut L m := by
  rw [unions_mem (fun c hc => inc_nodup (C.inc c hc)) (fun c hc => C.ne hc) C.dis]
  constructor
  · rintro ⟨h1, h2⟩
    refine ⟨?_, fun x y a => ?_⟩
    · refine Nat.lt_of_le_of_lt (sub_le (b := 2 ^ n - 1) fun i hi => ?_) (Nat.sub_lt (Nat.two_pow_pos n) (by decide))
      obtain ⟨c, hc, z⟩ := h1 i hi
      obtain ⟨r, _, e⟩ := C.cls c hc
      exact ((e i).mp z).bit
    · obtain ⟨hx, hy⟩ := hL x y a
      obtain ⟨c, hc, xc⟩ := C.all x hx
      have yc : y ∈ c := (C.one hc xc y).mpr (.step (.refl hx) a hy)
      rcases h2 c hc with z | z
      · rw [z x xc, z y yc]
      · rw [z x xc, z y yc]
  · rintro ⟨lt, sh⟩
    refine ⟨fun i hi => C.all i (by rw [full_bit]; exact decide_eq_true (bit_lt lt hi)), fun c hc => ?_⟩
    obtain ⟨r, hr, e⟩ := C.cls c hc
    have go : ∀ i ∈ c, m.testBit i = m.testBit r := fun i hi => ((e i).mp hi).closed (S := fun i => m.testBit i = m.testBit r) rfl fun x y s a _ => (sh x y a).symm.trans s
    cases q : m.testBit r with
    | true => exact .inl fun i hi => (go i hi).trans q
    | false => exact .inr fun i hi => (go i hi).trans q
/-- as many lots cut all ties as there are choices -/
theorem cuts_many {L : List (Int × Int)} {n k : Nat} {xs : List (List Nat)} (C : Cls L (2 ^ n - 1) xs) (hL : ∀ x y, Adj L x y → (2 ^ n - 1).testBit x = true ∧ (2 ^ n - 1).testBit y = true) (hk : k < 2 ^ n) (ck : Cuts L k)
    (p : Nat → Bool) (hp : ∀ m, m < 2 ^ n → (p m = true ↔ Cuts L m)) : ((List.range (2 ^ n)).filter p).length = 2 ^ xs.length := by
  have xk : ∀ m, (m ^^^ k) ^^^ k = m := fun m => by rw [Nat.xor_assoc, Nat.xor_self, Nat.xor_zero]
  have flip : ∀ m, Cuts L m → Shut L (m ^^^ k) := fun m h x y a => by
    have h1 := h x y a
    have h2 := ck x y a
    rw [Nat.testBit_xor, Nat.testBit_xor]
    cases q1 : m.testBit x <;> cases q2 : m.testBit y <;> cases q3 : k.testBit x <;> cases q4 : k.testBit y <;> simp_all
  have flop : ∀ m, Shut L m → Cuts L (m ^^^ k) := fun m h x y a => by
    have h1 := h x y a
    have h2 := ck x y a
    rw [Nat.testBit_xor, Nat.testBit_xor]
    cases q1 : m.testBit x <;> cases q2 : m.testBit y <;> cases q3 : k.testBit x <;> cases q4 : k.testBit y <;> simp_all
  have inj : ∀ {l : List Nat}, l.Nodup → (l.map (· ^^^ k)).Nodup := fun h => List.pairwise_map.mpr (h.imp fun {a b} ne e => ne (by rw [← xk a, ← xk b, e]))
  have un := unions_nodup (fun c hc => inc_nodup (C.inc c hc)) (fun c hc => C.ne hc) C.dis
  rw [← unions_len]
  refine Nat.le_antisymm ?_ ?_
  · have := len_le (inj (List.nodup_range.filter p)) (m := unions xs) fun x hx => by
      obtain ⟨m, hm, rfl⟩ := List.mem_map.mp hx
      obtain ⟨h1, h2⟩ := List.mem_filter.mp hm
      have lt := List.mem_range.mp h1
      exact (shut_union C hL).mpr ⟨Nat.xor_lt_two_pow lt hk, flip m ((hp m lt).mp h2)⟩
    rwa [List.length_map] at this
  · have := len_le (inj un) (m := (List.range (2 ^ n)).filter p) fun x hx => by
      obtain ⟨m, hm, rfl⟩ := List.mem_map.mp hx
      obtain ⟨lt, sh⟩ := (shut_union C hL).mp hm
      have lt2 := Nat.xor_lt_two_pow lt hk
      exact List.mem_filter.mpr ⟨List.mem_range.mpr lt2, (hp _ lt2).mpr (flop m sh)⟩
    rwa [List.length_map] at this
end K0

/-! Colouring with two sides: what holds while it goes on. -/
namespace K0
abbrev sd (s : List Int) (i : Nat) : Int := s.getD i 0
theorem sd_set {s : List Int} {i j : Nat} {v : Int} (h : i < s.length) : sd (s.set i v) j = if j = i then v else sd s j := by
  unfold sd
  rw [List.getD_eq_getElem?_getD, List.getElem?_set]
  by_cases e : i = j
  · subst e
    rw [if_pos rfl, if_pos h, if_pos rfl] <;> rfl
  · rw [if_neg e, if_neg fun z => e z.symm, List.getD_eq_getElem?_getD]
/-- x may be any two sides -/
def Proper (L : List (Int × Int)) (x : Nat → Bool) : Prop := ∀ a b, Adj L a b → x a ≠ x b
/-- pl's ties are being looked at, those of T have been -/
structure Two (L : List (Int × Int)) (n : Nat) (s : List Int) (todo : List Nat) (here : Nat → Nat → Prop) : Prop where
  len : s.length = n
  val : ∀ i, sd s i = 0 ∨ sd s i = 1 ∨ sd s i = -1
  wait : ∀ i ∈ todo, i < n ∧ sd s i ≠ 0
  con : ∀ x, Proper L x → ∀ a b, sd s a ≠ 0 → sd s b ≠ 0 → Rch L (2 ^ n - 1) a b → (sd s a = sd s b ↔ x a = x b)
  fin : ∀ a, sd s a ≠ 0 → a ∉ todo → ∀ b, Adj L a b → here a b ∨ sd s b = - sd s a
abbrev none_ : Nat → Nat → Prop := fun _ _ => False
section
variable {L : List (Int × Int)} {n : Nat} {s : List Int} {todo : List Nat}
theorem Two.start (L : List (Int × Int)) (n : Nat) : Two L n (List.replicate n 0) [] none_ := by
  have z : ∀ i, sd (List.replicate n 0) i = 0 := fun i => by
    unfold sd
    rw [List.getD_eq_getElem?_getD, List.getElem?_replicate]
    split <;> rfl
  exact ⟨List.length_replicate, fun i => .inl (z i), (fun _ h => nomatch h), fun x _ a b h => absurd (z a) h, fun a h => absurd (z a) h⟩
/-- a place of another part -/
theorem Two.fresh (T : Two L n s [] none_) {r : Nat} (hr : r < n) (h : sd s r = 0) : Two L n (s.set r 1) [r] none_ := by
  have hs : ∀ j, sd (s.set r 1) j = if j = r then 1 else sd s j := fun j => sd_set (by rw [T.len]; exact hr)
  have far : ∀ a, sd s a ≠ 0 → ¬ Rch L (2 ^ n - 1) a r := fun a ha c => by
    have := c.closed (S := fun b => sd s b ≠ 0) ha fun b d hb ad _ => by
      rcases T.fin b hb (by simp) d ad with z | z
      · exact absurd z id
      · rw [z]; omega
    exact this h
  refine ⟨by rw [List.length_set]; exact T.len, fun i => ?_, fun i hi => ?_, fun x px a b ha hb c => ?_, fun a ha na b ab => ?_⟩
  · rw [hs]
    split
    · exact .inr (.inl rfl)
    · exact T.val i
  · rw [List.mem_singleton] at hi
    subst hi
    rw [hs, if_pos rfl]
    exact ⟨hr, by decide⟩
  · rw [hs] at ha hb
    rw [hs, hs]
    by_cases ea : a = r <;> by_cases eb : b = r
    · subst ea
      subst eb
      simp
    · subst ea
      rw [if_neg eb] at hb
      exact absurd c.symm (far b hb)
    · subst eb
      rw [if_neg ea] at ha
      exact absurd c (far a ha)
    · rw [if_neg ea] at ha ⊢
      rw [if_neg eb] at hb ⊢
      exact T.con x px a b ha hb c
  · rw [List.mem_singleton] at na
    rw [hs, if_neg na] at ha
    rw [hs, hs, if_neg na]
    rcases T.fin a ha (by simp) b ab with z | z
    · exact absurd z id
    · by_cases eb : b = r
      · subst eb
        rw [h] at z
        omega
      · rw [if_neg eb]
        exact .inr z
/-- the last one that waits is taken: none of its ties is looked at yet -/
theorem Two.pop {pl : Nat} (T : Two L n s (todo ++ [pl]) none_) : Two L n s todo (fun a b => a = pl ∧ Adj L a b) := by
  refine ⟨T.len, T.val, fun i hi => T.wait i (List.mem_append_left _ hi), T.con, fun a ha na b ab => ?_⟩
  by_cases e : a = pl
  · exact .inl ⟨e, ab⟩
  · exact .inr ((T.fin a ha (fun z => by
      rcases List.mem_append.mp z with z | z
      · exact na z
      · exact e (List.mem_singleton.mp z)) b ab).resolve_left id)
/-- .. all of them are -/
theorem Two.done {here : Nat → Nat → Prop} (T : Two L n s todo here) (h : ∀ a b, here a b → sd s b = - sd s a) : Two L n s todo none_ :=
  ⟨T.len, T.val, T.wait, T.con, fun a ha na b ab => .inr ((T.fin a ha na b ab).elim (h a b) id)⟩
/-- two ends alike: there are no two sides -/
theorem Two.bad {here : Nat → Nat → Prop} (T : Two L n s todo here) (hL : ∀ x y, Adj L x y → (2 ^ n - 1).testBit x = true ∧ (2 ^ n - 1).testBit y = true) {a b : Nat} (ab : Adj L a b) (ha : sd s a ≠ 0) (h : sd s b = sd s a) (x : Nat → Bool) : ¬ Proper L x := fun px => by
  have hb : sd s b ≠ 0 := by rw [h]; exact ha
  exact px a b ab ((T.con x px a b ha hb (.step (.refl (hL a b ab).1) ab (hL a b ab).2)).mp h.symm)
/-- a new place takes the other side -/
theorem Two.put {here : Nat → Nat → Prop} (T : Two L n s todo here) (hL : ∀ x y, Adj L x y → (2 ^ n - 1).testBit x = true ∧ (2 ^ n - 1).testBit y = true) {pl o : Nat} (ab : Adj L pl o) (hp : sd s pl ≠ 0) (ho : sd s o = 0) (on : o < n) : Two L n (s.set o (- sd s pl)) (todo ++ [o]) here := by
  have ne : pl ≠ o := fun z => hp (by rw [z]; exact ho)
  have hs : ∀ j, sd (s.set o (- sd s pl)) j = if j = o then - sd s pl else sd s j := fun j => sd_set (by rw [T.len]; exact on)
  have vp := T.val pl
  have st : Rch L (2 ^ n - 1) pl o := .step (.refl (hL pl o ab).1) ab (hL pl o ab).2
  have key : ∀ x, Proper L x → ∀ a, a ≠ o → sd s a ≠ 0 → Rch L (2 ^ n - 1) a o → (sd s a = - sd s pl ↔ x a = x o) := fun x px a _ ha c => by
    have h1 := T.con x px a pl ha hp (c.trans st.symm)
    have h2 := px pl o ab
    have va := T.val a
    have : sd s a = - sd s pl ↔ ¬ sd s a = sd s pl := by omega
    rw [this, h1]
    cases q1 : x a <;> cases q2 : x pl <;> cases q3 : x o <;> simp_all
  refine ⟨by rw [List.length_set]; exact T.len, fun i => ?_, fun i hi => ?_, fun x px a b ha hb c => ?_, fun a ha na b adj => ?_⟩
  · rw [hs]
    split
    · omega
    · exact T.val i
  · rw [hs]
    rcases List.mem_append.mp hi with hi | hi
    · obtain ⟨h1, h2⟩ := T.wait i hi
      refine ⟨h1, ?_⟩
      split
      · omega
      · exact h2
    · rw [List.mem_singleton.mp hi, if_pos rfl]
      exact ⟨on, by omega⟩
  · rw [hs] at ha hb
    rw [hs, hs]
    by_cases ea : a = o <;> by_cases eb : b = o
    · subst ea
      subst eb
      simp
    · subst ea
      rw [if_neg eb] at hb
      rw [if_pos rfl, if_neg eb]
      have := key x px b eb hb c.symm
      exact ⟨fun z => (this.mp z.symm).symm, fun z => (this.mpr z.symm).symm⟩
    · subst eb
      rw [if_neg ea] at ha
      rw [if_pos rfl, if_neg ea]
      exact key x px a ea ha c
    · rw [if_neg ea] at ha ⊢
      rw [if_neg eb] at hb ⊢
      exact T.con x px a b ha hb c
  · have nao : a ≠ o := fun z => na (by rw [z]; exact List.mem_append_right _ (List.mem_singleton.mpr rfl))
    rw [hs, if_neg nao] at ha
    rw [hs, hs, if_neg nao]
    rcases T.fin a ha (fun z => na (List.mem_append_left _ z)) b adj with z | z
    · exact .inl z
    · by_cases eb : b = o
      · subst eb
        rw [ho] at z
        omega
      · rw [if_neg eb]
        exact .inr z
/-- all places have a side: they are two sides -/
theorem Two.end (T : Two L n s [] none_) (hL : ∀ x y, Adj L x y → x < n ∧ y < n) (h : ∀ i, i < n → sd s i ≠ 0) : Proper L fun i => decide (sd s i = 1) := fun a b ab e => by
  have ha := h a (hL a b ab).1
  have := (T.fin a ha (by simp) b ab).resolve_left id
  have va := T.val a
  have e := decide_eq_decide.mp e
  omega
end
end K0

set_option Elab.async false
set_option linter.all false
set_option maxRecDepth 100000
set_option maxHeartbeats 8000000
/-! Calls where nothing is being shown; calls by name; the law called. -/
namespace K0
open PySem PySem.Spec L2
open PyProof.Rows hiding St
open PySem.W (Frag)
open LamX (ExtN Tabs TabB TabS)
/-! ### defs called where nothing is being shown -/
/-- a def's promise, where nothing is being shown -/
structure FnG (P : Program) (w : World) (K : PySem.W.Frag) (mg : Str → Option Value) (base : Heap) (CX : CXT) (k : Nat) (f : Addr) (fd : FuncData) (ps : List Str) (sp : Sp) : Prop where
  len : ∀ vs H Q E, sp vs H Q E → vs.length = ps.length
  run : ∀ (A : Around) (outer : List Env) (s : Shared) (H : Hp) (args : Args) (us : List Value) (vs : List V) (Q : VK) (E : XK), A.guards = some [] → Room k A → Env0 P w K mg base A outer s H → BindsTo s fd args (ps.zip us) → Vals vs us → sp vs H Q E →
    codeAny (model P w) A (.call (.ref f) args) (CR CX outer P w H s Q E) s
/-- as Fun, its code object told -/
structure FunC (K : PySem.W.Frag) (x qual : Str) (st : Stmt) (f : Addr) (fd : FuncData) (c : Addr) : Prop where
  ex : ∃ (oc : Value) (od : Option Addr) (kV doc pm : Value) (an : Option Addr) (ct : Value) (osl : Array (Option Value)),
    fd = PySem.W.fnOf x qual (defArgs st) (defBody st) (defScope st) .none kV doc pm an (.ref c) ct ∧ K.lookup f = some ⟨oc, od, .func fd, osl⟩ ∧ PySem.W.codeIn K (.ref c) qual = true
  kp : PySem.W.keepIn K (.ref f) = true
section
variable {P : Program} {w : World} {K : PySem.W.Frag} {mg : Str → Option Value} {base : Heap}
theorem FunC.fun {x qual : Str} {st : Stmt} {f c : Addr} {fd : FuncData} (F : FunC K x qual st f fd c) : Fun K x qual st f fd :=
  let ⟨oc, od, kV, doc, pm, an, ct, osl, h⟩ := F.ex; ⟨⟨oc, od, kV, doc, pm, an, .ref c, ct, osl, h⟩, F.kp⟩
/-- at one place: the body as a term of rules -/
theorem FunC.run1 {x qual : Str} {st : Stmt} {f c : Addr} {fd : FuncData} {N ps : List Str} {k : Nat} (F : FunC K x qual st f fd c) (S : FnScope N ps (defScope st))
    {A : Around} {outer : List Env} {s : Shared} {H : Hp} {args : Args} {us : List Value} {vs : List V} {Q : VK} {E : XK} (hr : Room (k + 1) A) (e0 : Env0 P w K mg base A outer s H) (hb : BindsTo s fd args (ps.zip us)) (r : Vals vs us) (hl : vs.length = ps.length)
    (hbody : Room k (A.deeper (envOfC qual (defScope st) s.heap.objs.size f (.ref c))) → ∃ t, PSs (cxOf CX0 P w K mg base N qual (defScope st) f (.ref c) A outer s H E).nox (defBody st) t ∧ t { nx := fun _ H' => Q .non H', rt := Q } (start N vs) H) :
    codeAny (model P w) A (.call (.ref f) args) (CR CX0 outer P w H s Q E) s := by
  obtain ⟨oc, od, kV, doc, pm, an, ct, osl, rfl, lk, hcd⟩ := F.ex
  exact LamX.run_ofS lk hcd S hr e0 hb r hl fun h => let ⟨t, h1, h2⟩ := hbody h; ⟨t, h1.nox, h2⟩
theorem FunC.okG {x qual : Str} {st : Stmt} {f c : Addr} {fd : FuncData} {N ps : List Str} {k : Nat} {sp : Sp} (F : FunC K x qual st f fd c) (S : FnScope N ps (defScope st)) (len : ∀ vs H Q E, sp vs H Q E → vs.length = ps.length)
    (hbody : ∀ (A : Around) (outer : List Env) (s : Shared) (H : Hp) (vs : List V) (Q : VK) (E : XK), A.guards = some [] → Room k (A.deeper (envOfC qual (defScope st) s.heap.objs.size f (.ref c))) → sp vs H Q E →
      ∃ t, PSs (cxOf CX0 P w K mg base N qual (defScope st) f (.ref c) A outer s H E).nox (defBody st) t ∧ t { nx := fun _ H' => Q .non H', rt := Q } (start N vs) H) : FnG P w K mg base CX0 (k + 1) f fd ps sp :=
  ⟨len, fun A outer s H args us vs Q E hg hr e0 hb r hsp => F.run1 S hr e0 hb r (len _ _ _ _ hsp) fun h => hbody A outer s H vs Q E hg h hsp⟩
end
section
variable {X : Cx} {CX : CXT} {k : Nat} {f : Addr} {fd : FuncData} {ps : List Str} {sp : Sp} {E : XK} {x : Str} {p pos : Pos} {e : Expr} {es : List Expr} {t : TA}
theorem pe_callG (F : FnG X.prog X.w X.K X.mg X.base CX k f fd ps sp) (gu : X.A.guards = some []) (hr : Room k X.A) (hg : Gl X x) (hm : X.mg x = some (.ref f)) (hk : PySem.W.keepIn X.K (.ref f) = true) (hb : Binds X.K fd ps []) (hx : Passes CX X E)
    (ha : PA X (e :: es) t) (hdb : (x == ("__debug__" : Str)) = false := by decide) (he : starEach (e :: es) X.env = (false, eval e X.env) :: starEach es X.env := by rfl) (hpl : (backTo pos (starEach es X.env)).any (·.1) = false := by rfl) :
    PE X (.Call (.Name x p) (e :: es) [] pos) (tCall sp [] E t) := by
  refine ⟨fun pins s σ H Q I h => wpAny_Call_Name_kw (ld_glob I hg hm ?_ hdb)⟩
  refine PySem.W.callWith_K (h₀ := X.base) I.ok.mod.kin hk (thn (ha.run pos pins s σ H _ I h) fun us s1 ⟨vs, H1, I1, r, q⟩ => ⟨I1.kIn, ?_⟩) he hpl
  have q : sp (vs ++ []) H1 Q E := q
  rw [List.append_nil] at q
  have hl : us.length = ps.length := by rw [← r.length]; exact F.len _ _ _ _ q
  have b := hb s1 us I1.kIn (by rw [List.append_nil]; exact hl)
  rw [List.append_nil] at b
  refine wpAny_call (codeAny_mono (F.run X.A X.stack s1 H1 ⟨us, []⟩ us vs Q E gu hr I1.env0 b r q) fun r s' hq => ?_)
  match r, hq with
  | .error e, hq => exact hx pins σ H1 s1 e s' I1 hq
  | .ok (.ret u), hq => exact I1.after hq
  | .ok .next, hq => exact False.elim hq
  | .ok .brk, hq => exact False.elim hq
  | .ok .cont, hq => exact False.elim hq
/-- all by name -/
theorem pe_callN {ks : List Str} {g : List Value → List Value} {gV : List V → List V} {kws : List Keyword} {tk : TA} (F : FnOk X.prog X.w X.K X.mg X.base CX k f fd ps sp) (hr : Room k X.A) (hg : Gl X x) (hm : X.mg x = some (.ref f)) (hk : PySem.W.keepIn X.K (.ref f) = true)
    (hb : ∀ (s : Shared) (ws : List Value), ws.length = ps.length → BindsTo s fd ⟨[], ks.zip ws⟩ (ps.zip (g ws))) (hgr : ∀ {zs : List V} {ws : List Value}, Vals zs ws → Vals (gV zs) (g ws)) (hgl : ∀ zs : List V, (gV zs).length = ps.length → zs.length = ps.length) (hx : Passes CX X E)
    (hkw : PK X kws tk) (hall : (backToKw pos (keywordEach kws X.env)).all (·.1.isSome) = true := by rfl) (hks : (backToKw pos (keywordEach kws X.env)).filterMap (·.1) = ks := by rfl) (hdb : (x == ("__debug__" : Str)) = false := by decide)
    (hpl : ((backTo pos (starEach [] X.env)).any (·.1) || (backToKw pos (keywordEach kws X.env)).any (·.1.isNone)) = false := by rfl) :
    PE X (.Call (.Name x p) [] kws pos) (fun σ H Q => tk σ H fun zs H2 => sp (gV zs) H2 Q E) := by
  refine ⟨fun pins s σ H Q I h => wpAny_Call_Name_kw (ld_glob I hg hm ?_ hdb)⟩
  refine PySem.W.callWith_KW0 (h₀ := X.base) I.ok.mod.kin hk hall (thn (hkw.run pos pins s σ H _ I h) fun ws s2 ⟨zs, H2, I2, rz, q2⟩ => ⟨I2.kIn, ?_⟩) hpl
  rw [hks]
  have q2 : sp (gV zs) H2 Q E := q2
  have hl := F.len _ _ _ _ q2
  have lz := hgl zs hl
  refine wpAny_call (codeAny_mono (F.run X.A X.stack s2 H2 ⟨[], ks.zip ws⟩ (g ws) (gV zs) Q E hr I2.env0 (hb s2 ws (by rw [← rz.length]; exact lz)) (hgr rz) q2) fun r s' hq => ?_)
  match r, hq with
  | .error e, hq => exact hx pins σ H2 s2 e s' I2 hq
  | .ok (.ret u), hq => exact I2.after hq
  | .ok .next, hq => exact False.elim hq
  | .ok .brk, hq => exact False.elim hq
  | .ok .cont, hq => exact False.elim hq
end
/-! ### calls by name -/
def Kw1 (fd : FuncData) (k : Str) : Prop := ∀ (s : Shared) (a : Value), BindsTo s fd ⟨[], [(k, a)]⟩ [(k, a)]
/-- two parameters, by name: in their order, and in the other one -/
def Kw2 (fd : FuncData) (k1 k2 : Str) : Prop := ∀ (s : Shared) (a b : Value), BindsTo s fd ⟨[], [(k1, a), (k2, b)]⟩ [(k1, a), (k2, b)] ∧ BindsTo s fd ⟨[], [(k2, b), (k1, a)]⟩ [(k1, a), (k2, b)]
def rev2 {α : Type} : List α → List α
  | [a, b] => [b, a]
  | _ => []
section
variable {X : Cx} {CX : CXT} {k : Nat} {f : Addr} {fd : FuncData} {sp : Sp} {E : XK} {x k1 k2 : Str} {p pos q1 q2 : Pos} {e1 e2 : Expr} {t1 t2 : TE}
theorem pe_kw1 (F : FnOk X.prog X.w X.K X.mg X.base CX k f fd [k1] sp) (hr : Room k X.A) (hg : Gl X x) (hm : X.mg x = some (.ref f)) (hk : PySem.W.keepIn X.K (.ref f) = true) (hb : Kw1 fd k1) (hx : Passes CX X E) (h1 : PE X e1 t1)
    (hdb : (x == ("__debug__" : Str)) = false := by decide) : PE X (.Call (.Name x p) [] [⟨some k1, e1, q1⟩] pos) (fun σ H Q => t1 σ H fun v H1 => sp [v] H1 Q E) := by
  have h := pe_callN (p := p) (pos := pos) (ks := [k1]) (g := id) (gV := id) F hr hg hm hk (fun s ws hl => match ws, hl with | [a], _ => hb s a) (fun h => h) (fun zs h => h) hx (pk_cons (kpos := q1) (nm := some k1) h1 pk_nil) (by rfl) (by rfl) hdb (by rfl)
  exact ⟨fun pins s σ H Q I z => h.run pins s σ H Q I z⟩
theorem pe_kw2 (F : FnOk X.prog X.w X.K X.mg X.base CX k f fd [k1, k2] sp) (hr : Room k X.A) (hg : Gl X x) (hm : X.mg x = some (.ref f)) (hk : PySem.W.keepIn X.K (.ref f) = true) (hb : Kw2 fd k1 k2) (hx : Passes CX X E) (h1 : PE X e1 t1) (h2 : PE X e2 t2)
    (hdb : (x == ("__debug__" : Str)) = false := by decide) : PE X (.Call (.Name x p) [] [⟨some k1, e1, q1⟩, ⟨some k2, e2, q2⟩] pos) (fun σ H Q => t1 σ H fun u H1 => t2 σ H1 fun v H2 => sp [u, v] H2 Q E) := by
  have h := pe_callN (p := p) (pos := pos) (ks := [k1, k2]) (g := id) (gV := id) F hr hg hm hk (fun s ws hl => match ws, hl with | [a, b], _ => (hb s a b).1) (fun h => h) (fun zs h => h) hx (pk_cons (kpos := q1) (nm := some k1) h1 (pk_cons (kpos := q2) (nm := some k2) h2 pk_nil)) (by rfl) (by rfl) hdb (by rfl)
  exact ⟨fun pins s σ H Q I z => h.run pins s σ H Q I z⟩
theorem pe_kw2r (F : FnOk X.prog X.w X.K X.mg X.base CX k f fd [k1, k2] sp) (hr : Room k X.A) (hg : Gl X x) (hm : X.mg x = some (.ref f)) (hk : PySem.W.keepIn X.K (.ref f) = true) (hb : Kw2 fd k1 k2) (hx : Passes CX X E) (h2 : PE X e2 t2) (h1 : PE X e1 t1)
    (hdb : (x == ("__debug__" : Str)) = false := by decide) : PE X (.Call (.Name x p) [] [⟨some k2, e2, q2⟩, ⟨some k1, e1, q1⟩] pos) (fun σ H Q => t2 σ H fun v H1 => t1 σ H1 fun u H2 => sp [u, v] H2 Q E) := by
  have h := pe_callN (p := p) (pos := pos) (ks := [k2, k1]) (g := rev2) (gV := rev2) F hr hg hm hk (fun s ws hl => match ws, hl with | [b, a], _ => (hb s a b).2)
    (fun {zs ws} h => match zs, ws, h with | _, _, .nil => .nil | _, _, .cons _ .nil => .nil | _, _, .cons r (.cons r2 .nil) => .cons r2 (.cons r .nil) | _, _, .cons _ (.cons _ (.cons _ _)) => .nil)
    (fun zs h => match zs, h with | [_, _], _ => rfl) hx (pk_cons (kpos := q2) (nm := some k2) h2 (pk_cons (kpos := q1) (nm := some k1) h1 pk_nil)) (by rfl) (by rfl) hdb (by rfl)
  exact ⟨fun pins s σ H Q I z => h.run pins s σ H Q I z⟩
end
/-! ### the law at the place from which it is called -/
section
variable {P : Program} {w : World} {K : Frag} {mg mb : Str → Option Value} {k : Nat} {fa a c0 : Addr} {fd : FuncData} {x name qual : Str} {st : Stmt} {N : List Str} {s₁ : Shared} {vs : List Value} {ns : List Int} {cs : List (Addr × Addr)}
/-- a code object and its empty table -/
def Tbl (K : Frag) (h : Heap) (p : Addr × Addr) : Prop := K.lookup p.2 = none ∧ PySem.W.CodeHd h p.1 p.2 ∧ h.get? p.2 = some (PySem.W.tabObj #[])
def HasMain (mg : Str → Option Value) (h : Heap) : Prop := ∃ (bm : Addr) (ob : Obj), mg "__builtins__" = some (.ref bm) ∧ bm ≠ builtinsNs ∧ h.get? bm = some ob ∧ ob.cls = .type "module" ∧ ob.dict = some builtinsNs ∧ ob.data = .plain
theorem law_outT (F : FunC K name qual st fa fd c0) (S : FnScope N [x] (defScope st)) (KX : K.In s₁.heap) (hns : s₁.heap.Ns mainGlobals mg) (hb : s₁.heap.Ns builtinsNs mb) (hbb : ∀ x : Str, x ≠ "__name__" → mb x = bootBuiltins x) (hlim : s₁.heap.NoLimit) (hg : s₁.gens = #[]) (hm : HasMain mg s₁.heap)
    (tabs : ∀ p ∈ cs, Tbl K s₁.heap p) (ha : s₁.heap.get? a = some { cls := .type "list", data := .seq vs.toArray }) (hi : IntsAre vs ns) (hl : ns.length ≤ sizeLine) (hr : Room (k + 1) callerA) (hbind : ∀ (s : Shared) (u : Value), BindsTo s fd ⟨[u], []⟩ [(x, u)])
    (body : ∀ (base : Heap) (H : Hp) (s : Shared), K.In base → base.Ns mainGlobals mg → (∀ p ∈ cs, TabB base mg p.1 p.2) → (∀ p ∈ cs, H p.2 = some (.tbl #[])) → SqL K H a (ns.map V.int) → Room k (callerA.deeper (envOfC qual (defScope st) s.heap.objs.size fa (.ref c0))) →
      ∃ t, PSs (cxOf CX0 P w K mg base N qual (defScope st) fa (.ref c0) callerA [] s H (fun _ _ _ => False)).nox (defBody st) t ∧ t { nx := fun _ H' => (V.non = .bl true : Prop), rt := fun v _ => v = .bl true } (start N [.ref a]) H) :
    codeAny (model P w) callerA (.call (.ref fa) ⟨[.ref a], []⟩) (fun r s' => r = .ok (.ret (.bool true)) ∧ OldK s₁.heap s'.heap ∧ s'.os = s₁.os ∧ AllBare s'.gens) s₁ := by
  -- over any abstract heap that tracks the script at most, and the tables
  have go : ∀ H : Hp, SqL K H a (ns.map V.int) → (∀ p ∈ cs, H p.2 = some (.tbl #[])) → HOk P w H s₁.heap → (∀ b u, H b = some u → (b = a ∧ K.lookup a = none ∧ ∃ o ys, u = .frz o (.lst ys)) ∨ ∃ p ∈ cs, b = p.2 ∧ u = .tbl #[]) →
      codeAny (model P w) callerA (.call (.ref fa) ⟨[.ref a], []⟩) (fun r s' => r = .ok (.ret (.bool true)) ∧ OldK s₁.heap s'.heap ∧ s'.os = s₁.os ∧ AllBare s'.gens) s₁ := by
    intro H hS hT hok only
    have free : ∀ {b : Addr} {o : Obj}, s₁.heap.get? b = some o → (∀ ys n, o.data ≠ .seq ys n) → o.data ≠ .fields #[] → H b = none := fun {b o} e n1 n2 => by
      cases q : H b with
      | none => rfl
      | some u =>
        rcases only b u q with ⟨z, _⟩ | ⟨p, hp, z, _⟩
        · rw [z, ha] at e
          cases e
          exact (n1 _ _ rfl).elim
        · rw [z, (tabs p hp).2.2] at e
          cases e
          exact (n2 rfl).elim
    have low : ∀ {b : Addr} {m : Str → Option Value}, s₁.heap.Ns b m → (hidT s₁.heap H).Ns b m := fun {b m} ⟨o, es, ep, e, d, r⟩ => ⟨o, es, ep, hidT_get e (free e (fun _ _ z => by rw [d] at z; cases z) fun z => by rw [d] at z; cases z), d, r⟩
    have KB : K.In (hidT s₁.heap H) := fun b o e => hidT_get (KX b o e) (by
      cases q : H b with
      | none => rfl
      | some u =>
        rcases only b u q with ⟨z, n, _⟩ | ⟨p, hp, z, _⟩
        · rw [z, n] at e
          cases e
        · rw [z, (tabs p hp).1] at e
          cases e)
    have TB : ∀ p ∈ cs, TabB (hidT s₁.heap H) mg p.1 p.2 := fun p hp => by
      obtain ⟨_, hC, hP⟩ := tabs p hp
      refine ⟨?_, ?_, fun z => ?_⟩
      · obtain ⟨o, us, i1, i2, i3, i4, i5, i6, i7, g1, g2, g3, g4, gs⟩ := hC
        refine ⟨o, us, i1, i2, i3, i4, i5, i6, i7, hidT_get g1 (free g1 (fun _ _ z => by rw [g3] at z; cases z) fun z => ?_), g2, g3, g4, gs⟩
        rw [g3] at z
        cases z
        simp at g4
      · obtain ⟨bm, ob, y1, y2, y3, y4, y5, y6⟩ := hm
        refine ⟨bm, ob, y1, y2, fun z => ?_, fun z => ?_, hidT_get y3 (free y3 (fun _ _ z => by rw [y6] at z; cases z) fun z => by rw [y6] at z; cases z), y4, y5, y6⟩
        · obtain ⟨o, es, ep, e, hd, _⟩ := hns
          rw [z, e] at y3
          cases y3
          rw [hd] at y6
          cases y6
        · rw [z, hP] at y3
          cases y3
          cases y6
      · obtain ⟨o, es, ep, e, hd, _⟩ := hns
        rw [z, hP] at e
        cases e
        cases hd
    have e0 : Env0 P w K mg (hidT s₁.heap H) callerA [] s₁ H := ⟨rfl, ⟨KB, low hns, ⟨mb, low hb, hbb⟩, hlim.imp fun mc z => ⟨low z.1, z.2⟩⟩, fun b o e => of_hidT e, Nat.le_of_eq (hidT_size _ _), trivial, fun b z => absurd z List.not_mem_nil, hok, .of_eq hg⟩
    refine codeAny_mono (F.run1 (Q := fun v _ => v = .bl true) (E := fun _ _ _ => False) (us := [.ref a]) (vs := [.ref a]) S hr e0 (hbind s₁ (.ref a)) (.cons rfl .nil) rfl fun hr' => body _ H s₁ KB (low hns) TB hT hS hr') fun r s' z => ?_
    match r, z with
    | .ok (.ret u), z =>
      obtain ⟨v, H', os, bare, un, ok', r', q⟩ := z
      have q' : v = .bl true := q
      subst q'
      obtain rfl : u = Value.bool true := r'
      have stays : ∀ b o, s₁.heap.get? b = some o → s'.heap.get? b = some o ∨ ∃ p ∈ cs, b = p.2 := fun b o e => by
        cases q : H b with
        | none => exact .inl (un.keep b o e q (fun y => absurd y List.not_mem_nil) (fun y => absurd y List.not_mem_nil))
        | some u =>
          rcases only b u q with ⟨_, _, ob, ys, rfl⟩ | ⟨p, hp, z, _⟩
          · have y1 := (hok b _ q).1
            rw [e] at y1
            cases y1
            exact .inl (ok' b _ (un.frzs b o _ q)).1
          · exact .inr ⟨p, hp, z⟩
      have grown : ∀ p ∈ cs, ∃ more : Array Value, s'.heap.get? p.2 = some (PySem.W.tabObj more) := fun p hp => (un.tbls p.2 #[] (hT p hp)).elim fun _ z => ⟨_, ok' p.2 _ z⟩
      refine ⟨rfl, ⟨fun b o e => ?_, fun b o e => ?_⟩, os, bare⟩
      · rcases stays b o e with z | ⟨p, hp, rfl⟩
        · exact .inl z
        · obtain ⟨_, hC, hP⟩ := tabs p hp
          rw [hP] at e
          cases e
          obtain ⟨more, hmore⟩ := grown p hp
          exact .inr (.inl ⟨(hC.tab hP).isCodeTable, rfl, #[], more, rfl, hmore.trans (by rw [Array.empty_append])⟩)
      · rcases stays b o e with z | ⟨p, hp, rfl⟩
        · exact ⟨o, z⟩
        · exact (grown p hp).imp' _ fun _ z => z
    | .ok .next, z => exact z.elim
    | .ok .brk, z => exact z.elim
    | .ok .cont, z => exact z.elim
    | .error _, z => exact False.elim z
  have rv := vals_ints hi
  have isT : ∀ p ∈ cs, ¬ a = p.2 := fun p hp z => by
    have e := (tabs p hp).2.2
    rw [← z, ha] at e
    cases e
  let isTab : Addr → Bool := fun b => cs.any fun p => p.2 == b
  have tabY : ∀ p ∈ cs, isTab p.2 = true := fun p hp => List.any_eq_true.mpr ⟨p, hp, beq_self_eq_true _⟩
  have tabN : ∀ b, isTab b = true → ∃ p ∈ cs, b = p.2 := fun b z => by
    obtain ⟨p, hp, e⟩ := List.any_eq_true.mp z
    exact ⟨p, hp, (beq_iff_eq.mp e).symm⟩
  cases hk : K.lookup a with
  | some o =>
    have e := KX a o hk
    rw [ha] at e
    cases e
    have look : ∀ {b : Addr} {u : HO}, (if isTab b = true then some (HO.tbl #[]) else none) = some u → ∃ p ∈ cs, b = p.2 ∧ u = .tbl #[] := fun {b u} z => by
      by_cases h : isTab b = true
      · rw [if_pos h] at z
        obtain ⟨p, hp, q⟩ := tabN b h
        exact ⟨p, hp, q, (Option.some.inj z).symm⟩
      · rw [if_neg h] at z
        cases z
    refine go (fun b => if isTab b = true then some (.tbl #[]) else none) (.inr ⟨_, vs.toArray, _, hk, rfl, rfl, rfl, by rw [List.size_toArray, hi.length]; exact hl, by simpa using rv⟩) (fun p hp => if_pos (tabY p hp)) (fun b u z => ?_) fun b u z => .inr (look z)
    obtain ⟨p, hp, rfl, rfl⟩ := look z
    exact (tabs p hp).2.2
  | none =>
    have look : ∀ {b : Addr} {u : HO}, (if b = a then some (HO.frz { cls := .type "list", data := .seq vs.toArray } (.lst (ns.map V.int))) else if isTab b = true then some (HO.tbl #[]) else none) = some u → (b = a ∧ u = .frz { cls := .type "list", data := .seq vs.toArray } (.lst (ns.map V.int))) ∨ ∃ p ∈ cs, b = p.2 ∧ u = .tbl #[] := fun {b u} z => by
      by_cases h : b = a
      · rw [if_pos h] at z
        exact .inl ⟨h, (Option.some.inj z).symm⟩
      · rw [if_neg h] at z
        by_cases h2 : isTab b = true
        · rw [if_pos h2] at z
          obtain ⟨p, hp, q⟩ := tabN b h2
          exact .inr ⟨p, hp, q, (Option.some.inj z).symm⟩
        · rw [if_neg h2] at z
          cases z
    refine go (fun b => if b = a then some (.frz { cls := .type "list", data := .seq vs.toArray } (.lst (ns.map V.int))) else if isTab b = true then some (.tbl #[]) else none) (.inl (.inr ⟨_, if_pos rfl⟩)) (fun p hp => (if_neg fun z => isT p hp z.symm).trans (if_pos (tabY p hp))) (fun b u z => ?_) fun b u z => (look z).imp (fun y => ⟨y.1, hk, _, _, y.2⟩) id
    rcases look z with ⟨rfl, rfl⟩ | ⟨p, hp, rfl, rfl⟩
    · exact ⟨ha, by rw [List.length_map]; exact hl, vs, _, rv, ha⟩
    · exact (tabs p hp).2.2
end
end K0

set_option Elab.async false
set_option linter.all false
set_option maxRecDepth 100000
set_option maxHeartbeats 8000000
/-! The law's own look at rings. -/
namespace K0
open PySem PySem.Spec L2
open PyProof.Rows hiding St
abbrev lIsRing : Stmt := top 42
abbrev lAreWhole : Stmt := top 43
def wholeO : Option (List V) → Bool
  | none => false
  | some xs => xs.all wholeV
def spAreWhole : Sp := fun vs H Q _ => ∃ (v : V) (o : Option (List V)), vs = [v] ∧ Th H v o ∧ ∀ H', Same H H' → Q (.bl (wholeO o)) H'
/-- ints that rise, or are one: what tells them as a lot -/
theorem rise_lot {ns ms : List Int} (p : ms.Perm ns) (r : ms.Pairwise (· ≤ ·)) : ms.Pairwise (· < ·) ↔ ns.Nodup := by
  constructor
  · intro z
    exact p.nodup_iff.mp (z.imp fun h e => by omega)
  · intro z
    have nd : ms.Nodup := p.nodup_iff.mpr z
    exact (List.Pairwise.and r nd).imp fun h => by have := h.1; have := h.2; omega
section
variable {P : Program} {w0 : World} {K : PySem.W.Frag} {mg : Str → Option Value} {base : Heap}
abbrev nAreWhole : List Str := ["_law_thing", "_law_it"]
theorem scAreWhole : FnScope nAreWhole ["_law_thing"] (defScope lAreWhole) := ⟨rfl, rfl, rfl, by decide +kernel, rfl, by decide +kernel, by decide +kernel⟩
theorem ok_areWhole {f fW : Addr} {fd fdW : FuncData} (F : Fun K "_law_are_whole" "_law_are_whole" lAreWhole f fd) (T : Bk mg) (GW' : Dn P w0 K mg base "_law_is_whole" 1 ["_law_thing"] spWhole fW fdW) : FnOk P w0 K mg base CX0 2 f fd ["_law_thing"] spAreWhole := by
  refine F.ok scAreWhole (fun vs H Q E h => ?_) (fun cdv A outer s H vs Q E hr h => ?_)
  · obtain ⟨v, o, rfl, _⟩ := h
    rfl
  · obtain ⟨v, o, rfl, th, k⟩ := h
    have hu0 := hr.units0
    refine ⟨_, pss_one (ps_ret (pe_and (pe_callB call_isi (by rfl) T.isi (by decide +kernel) (pa_cons (pv 0) (pa_cons (pe_bltn (v := .ty "tuple") (u := .type "tuple") (by rfl) T.tuple (by decide +kernel) rfl) pa_nil)))
          (pe_one (pe_cmpR (op_eq0 hu0) (pe_lc (own := [("_law_it", 1)]) (g := gName 1) rfl scAreWhole.nd (pi_tup (pv 0)) (blkOk_by (N := nAreWhole) (sc := defScope lAreWhole) (by decide +kernel))
            (fun _ _ _ _ _ => pg_name (i := 1) scAreWhole.nd rfl (Or.inl rfl)) (fun _ _ _ _ _ => pts_one (pt_not (pt_val (pe_call GW'.ok hr rfl GW'.g GW'.kp GW'.b .nil pass0 (pa_cons (pv 1) pa_nil))))) (fun _ _ _ _ _ => pv 1)) (pe_lst pa_nil) (nomark _))))), ?_⟩
    cases th with
    | @oth v t h ne =>
      refine ⟨_, rfl, v, .ty "tuple", .type t, .type "tuple", _, rfl, .ty "tuple", h.ty, h.kit.2.2, _, rfl, ?_⟩
      rw [decide_eq_false ne]
      exact k H (Same.refl H)
    | @tup a xs e h l =>
      have hv : VT H (.ref a) "tuple" := .tup e
      refine ⟨_, rfl, .ref a, .ty "tuple", .type "tuple", .type "tuple", _, rfl, .ty "tuple", hv.ty, hv.kit.2.2, _, rfl, iteT ?_⟩
      refine ⟨_, rfl, a, rfl, ⟨_, e.sq⟩, fun Da hD => ?_⟩
      refine lc_it (walk_tup (xs := xs)) (fun i M => M Da = some (.lst ((xs.take i).filter fun x => !wholeV x)) ∧ Same H M) ⟨upd_same, same_new hD⟩ (fun i M _ g => (e.keep fun o q => g.2 _ _ q).sq) ?_ ?_
      · rintro i x M M' hi ⟨g1, g2⟩ ⟨rfl, hx⟩
        obtain ⟨t, ht⟩ := h x (List.mem_of_getElem? hx)
        have fl : ((xs.take i).filter fun x => !wholeV x).length ≤ 60 := Nat.le_trans (List.length_filter_le _ _) (by rw [List.length_take]; omega)
        refine ⟨rfl, _, rfl, x, t, rfl, ht.mono g2, _, rfl, ?_⟩
        have tk : (xs.take (i + 1)).filter (fun x => !wholeV x) = (xs.take i).filter (fun x => !wholeV x) ++ [x].filter fun x => !wholeV x := by rw [take_snoc hx, List.filter_append]
        cases hw : wholeV x with
        | true =>
          refine iteF ⟨?_, g2⟩
          rw [tk, g1]
          simp [hw]
        | false =>
          refine iteT ⟨_, rfl, _, g1, by rw [sizeLine_eq]; omega, ?_, fun b o e => by rw [upd_ne (ne_of_none e hD)]; exact g2 _ _ e⟩
          rw [tk, upd_same]
          simp [hw]
      · rintro M ⟨g1, g2⟩
        rw [List.take_length] at g1
        refine ⟨by show 0 ≤ sizeLine; exact Nat.zero_le _, fun b0 hb0 => ?_⟩
        refine ⟨Da, b0, _, rfl, rfl, SqL.of (by rw [upd_ne (ne_of_none g1 hb0)]; exact g1), SqL.of upd_same, ?_⟩
        rw [fl_empty]
        exact k _ (g2.trans (same_new hb0))
abbrev nLIsRing : List Str := ["_law_web_here", "_law_thing", "_law_ties", "_law_start", "_law_place", "_law_met", "_law_at"]
theorem scLIsRing : FnScope nLIsRing ["_law_web_here", "_law_thing"] (defScope lIsRing) := ⟨rfl, rfl, rfl, by decide +kernel, rfl, by decide +kernel, by decide +kernel⟩
theorem ok_lIsRing {f fL fA : Addr} {fd fdL fdA : FuncData} (F : Fun K "_law_is_ring" "_law_is_ring" lIsRing f fd) (T : Bq mg) (GL : Dn P w0 K mg base "_law_is_lot" 2 ["_law_n", "_law_thing"] spLIsLot fL fdL)
    (GA : Dn P w0 K mg base "_law_are_whole" 2 ["_law_thing"] spAreWhole fA fdA) : FnOk P w0 K mg base CX0 3 f fd ["_law_web_here", "_law_thing"] spIsRingOf := by
  refine F.ok scLIsRing (fun vs H Q E h => ?_) (fun cdv A outer s H vs Q E hr h => ?_)
  · obtain ⟨w, n, L, v, o, rfl, _⟩ := h
    rfl
  · obtain ⟨w, n, L, v, o, rfl, G, th, k⟩ := h
    refine ⟨_, pss_cons (ps_set (i := 2) scLIsRing.nd rfl (.inl rfl) (pe_ix ix_tup (pv 0) pe_int (fun _ _ => rfl)))
      <| pss_cons (ps_if (PW.pt (pw_or (pt_not (pt_val (pe_call GL.ok hr rfl GL.g GL.kp GL.b .nil pass0 (pa_cons (pe_callB call_len_seq (by rfl) T.len PySem.boot_len (pa_cons (pv 2) pa_nil))
            (pa_cons (pe_ifExp (pt_val (pe_call GA.ok hr rfl GA.g GA.kp GA.b .nil pass0 (pa_cons (pv 1) pa_nil))) (pe_callTy call_tuple_of (by rfl) T.tuple (by decide +kernel) (pa_cons (pe_callB KR.cr_sortTI (by rfl) T.sorted (by decide +kernel) (pa_cons (pv 1) pa_nil)) pa_nil)) pe_non) pa_nil)))))
          (pw_or1 (pt_cmpR op_lt (pe_callB call_len_seq (by rfl) T.len PySem.boot_len (pa_cons (pv 1) pa_nil)) pe_int (nomark _))))) (pss_one (ps_ret pe_bl)) pss_nil)
      <| pss_cons (ps_for PassesOwn.never rfl (pi_tup (pe_ix ix_tup (pv 2) (pe_ix ix_tup (pv 1) pe_int (fun _ _ => rfl)) (fun _ _ => rfl))) (pg_name (i := 3) scLIsRing.nd rfl (.inl rfl))
          (pss_cons (ps_par (i := 4) (j := 5) rfl scLIsRing.nd rfl rfl (by decide) rfl rfl (pa_cons (pv 3) (pa_cons (pe_lst pa_nil) pa_nil)) (by rfl))
          <| pss_cons (ps_for PassesOwn.never rfl (pi_tup (pv 1)) (pg_name (i := 6) scLIsRing.nd rfl (.inl rfl))
              (pss_one (ps_if (pt_cmpR (show OpR _ (compareOp .In) (rIn K false) from op_in_seq) (pv 4) (pe_ix ix_tup (pv 2) (pv 6) (fun _ _ => rfl)) (by rfl))
                (pss_cons (ps_set (i := 4) scLIsRing.nd rfl (.inl rfl) (pe_op op_sub (pe_callB (KR.cr_sumT rfl) (by rfl) T.sum (by decide +kernel) (pa_cons (pe_ix ix_tup (pv 2) (pv 6) (fun _ _ => rfl)) pa_nil)) (pv 4)))
                <| pss_one (ps_expr (pe_bm PySem.F.plainAttrs_list PySem.F.slot_list_append PySem.F.type_list_append mt_append (pv 5) (pa_cons (pv 4) pa_nil)))) pss_nil)))
          <| pss_one (ps_if (PW.pt (pw_and (pt_cmpR op_eq (pv 4) (pv 3) (nomark _)) (pw_and1 (pt_chain op_eq op_eq (pe_callB call_len_seq (by rfl) T.len PySem.boot_len (pa_cons (pv 5) pa_nil)) (pe_callB call_len_seq (by rfl) T.len PySem.boot_len (pa_cons (pv 1) pa_nil))
              (KR.pe_lenSetN (by rfl) T.len (by rfl) T.set (pv 5)))))) (pss_one (ps_ret pe_bl)) pss_nil)))
      <| pss_one (ps_ret pe_bl), ?_⟩
    obtain ⟨t, vs, e1, e2, e3⟩ := G.web.ex
    have len := e3.len
    have few := G.few
    refine ⟨_, rfl, w, _, _, _, rfl, rfl, SqT.of e1, atI_nat (j := 1) rfl, ?_⟩
    refine ⟨_, rfl, t, _, rfl, .inr (SqT.of e2), _, rfl, v, o, rfl, th, fun H1 s1 => ⟨_, rfl, ?_⟩⟩
    have no : ∀ (H2 : Hp), Same H H2 → ringO L o = false → Q (.bl false) H2 := fun H2 s e => by rw [← e]; exact k H2 s
    cases hw : wholeO o with
    | false =>
      refine iteF ⟨_, .non, none, rfl, by omega, .oth .non (by decide), fun H2 s2 => ⟨_, rfl, iteT (no H2 (s1.trans s2) ?_)⟩⟩
      cases o with
      | none => rfl
      | some xs =>
        show (xs.all (belowV · L.length) && _) = false
        rw [below_whole hw, Bool.false_and]
    | true =>
      cases th with
      | oth _ _ => cases hw
      | @tup a xs e h l =>
        have x1 := whole_ints hw
        generalize hns : xs.map intV = ns at x1
        have hlen : ns.length ≤ 60 := by rw [← hns, List.length_map]; exact l
        have eM : ∀ {M' : Hp}, Same H M' → TT M' a (ns.map V.int) := fun s => x1 ▸ (e.keep fun o q => s _ _ q)
        refine iteT ⟨_, rfl, a, ns, rfl, (eM s1).sq, fun ms p pm rs hp => ⟨p, _, rfl, .inl ⟨SqL.of upd_same, fun tt htt => ?_⟩⟩⟩
        have s2 := (s1.trans (same_new (o := .lst (ms.map V.int)) hp)).trans (same_new (o := .tup (ms.map V.int)) htt)
        refine ⟨vs.length, .ref tt, some (ms.map V.int), rfl, by omega, .tup (.inl upd_same) (fun x hx => by obtain ⟨i, _, rfl⟩ := List.mem_map.mp hx; exact ⟨_, .int i⟩) (by rw [List.length_map, pm.length_eq]; exact hlen), fun H3 s3 => ⟨_, rfl, ?_⟩⟩
        have s4 := s2.trans s3
        have lo : lotO vs.length (some (ms.map V.int)) = (xs.all (belowV · L.length) && decide ns.Nodup) := by
          show lotD _ _ = _
          unfold lotD
          rw [map_intV, x1, all_inR, all_inR, len]
          have a1 : ms.all (inR (L.length : Nat)) = ns.all (inR (L.length : Nat)) := by
            rw [Bool.eq_iff_iff, List.all_eq_true, List.all_eq_true]
            exact ⟨fun z i hi => z i (pm.mem_iff.mpr hi), fun z i hi => z i (pm.mem_iff.mp hi)⟩
          rw [a1]
          congr 1
          exact decide_eq_decide.mpr (rise_lot pm rs)
        rw [lo]
        cases hb : xs.all (belowV · L.length) with
        | false =>
          refine iteT (no H3 s4 ?_)
          show (xs.all (belowV · L.length) && _) = false
          rw [hb, Bool.false_and]
        | true =>
          have x2 := nats_of hb
          have ans : ringO L (some xs) = ringB L (natsOf xs) := by
            show (xs.all (belowV · L.length) && _) = _
            rw [hb, Bool.true_and]
          have nn : natsOf xs = ns.map Int.toNat := by unfold natsOf; rw [hns]
          have ndn : ns.Nodup ↔ (natsOf xs).Nodup := by
            rw [nn]
            have e0 : ns = (ns.map Int.toNat).map fun i => ((i : Nat) : Int) := by
              have := x2.1
              rw [nn, x1, natV_ints] at this
              have h2 := congrArg (List.map intV) this
              rwa [map_intV, map_intV] at h2
            exact ⟨fun z => by rw [e0] at z; exact nodup_of_map z, fun z => by rw [e0]; exact List.pairwise_map.mpr (z.imp fun h e => h (by omega))⟩
          generalize hN : natsOf xs = N at x2 ans ndn
          obtain ⟨x3, x4⟩ := x2
          have hl2 : N.length ≤ 60 := by have := congrArg List.length x3; rw [List.length_map] at this; omega
          have eN : ∀ {M' : Hp}, Same H M' → TT M' a (N.map natV) := fun s => x3 ▸ (e.keep fun o q => s _ _ q)
          by_cases hn : ns.Nodup
          rotate_left
          · rw [decide_eq_false hn]
            refine iteT (no H3 s4 ?_)
            rw [ans]
            unfold ringB
            rw [decide_eq_false (fun z => hn (ndn.mpr z)), Bool.and_false] <;> rfl
          rw [decide_eq_true hn]
          have hN2 := ndn.mp hn
          refine iteF ⟨_, rfl, a, _, rfl, .inr (eN s4).sq, _, _, rfl, rfl, _, rfl, ?_⟩
          rw [List.length_map]
          by_cases h2 : ((N.length : Nat) : Int) < 2
          · rw [decide_eq_true h2]
            refine iteT (no H3 s4 ?_)
            rw [ans]
            unfold ringB
            rw [decide_eq_false (show ¬ 2 ≤ N.length by omega)] <;> rfl
          rw [decide_eq_false h2]
          have n2 : 2 ≤ N.length := by omega
          refine iteF ?_
          obtain ⟨k0, r0, er⟩ : ∃ k0 r0, N = k0 :: r0 := by
            cases N with
            | nil => simp at n2
            | cons a b => exact ⟨a, b, rfl⟩
          have tieA : ∀ k ∈ N, ∃ b q, vs[k]? = some (.ref b) ∧ L[k]? = some q ∧ H b = some (.tup (([q.1, q.2] : List Int).map V.int)) := fun k hk => by
            have kl : k < vs.length := by have := x4 k hk; omega
            obtain ⟨b, q, eb, hq, hb⟩ := e3.get (List.getElem?_eq_getElem kl)
            exact ⟨b, q, by rw [List.getElem?_eq_getElem kl, eb], hq, hb⟩
          obtain ⟨b0, q, eb0, hq, hb0⟩ := tieA k0 (by rw [er]; exact List.mem_cons_self ..)
          have g0 : (N.map natV)[0]? = some (natV k0) := by rw [er] <;> rfl
          have ab : ringB L N = (rndB L q.1 N || rndB L q.2 N) := by
            unfold ringB
            rw [decide_eq_true n2, decide_eq_true hN2, show N.getD 0 0 = k0 by rw [er] <;> rfl, tie_at hq] <;> rfl
          rw [ans, ab] at k
          refine ⟨_, rfl, _, rfl, a, _, _, _, rfl, rfl, (eN s4).sq, atI_nat (j := 0) g0, t, vs, _, _, rfl, rfl, SqT.of (s4 _ _ e2), atI_nat eb0, b0, rfl, ⟨_, SqT.of (s4 _ _ hb0)⟩, ?_⟩
          refine for_tup (K := K) (a := b0) (xs := ([q.1, q.2] : List Int).map V.int) (fun i σ M => ∃ (o3 o4 o5 o6 : Option V), σ = [some (.ref w), some (.ref a), some (.ref t), o3, o4, o5, o6] ∧ Same H M ∧ ∀ s ∈ ([q.1, q.2] : List Int).take i, rndB L s N = false)
            ⟨none, none, none, none, rfl, s4, fun _ z => by simp at z⟩ (fun i σ M _ ⟨_, _, _, _, _, s, _⟩ => SqT.of (s _ _ hb0)) ?_ ?_
          · rintro i x σ M hx ⟨o3, o4, o5, o6, rfl, f1, f2⟩
            rw [List.getElem?_map] at hx
            obtain ⟨st, hst, rfl⟩ := Option.map_eq_some_iff.mp hx
            refine ⟨_, rfl, by show 0 ≤ sizeLine; exact Nat.zero_le _, fun ml hml => ⟨_, _, rfl, ?_⟩⟩
            have hmH : H ml = none := f1.free hml
            refine ⟨_, rfl, a, rfl, ⟨_, (eN (f1.trans (same_new (o := .lst []) hml))).sq⟩, ?_⟩
            refine for_tup (K := K) (a := a) (xs := N.map natV) (fun j σ M => ∃ (pl : Int) (met : List Int) (o6 : Option V), σ = [some (.ref w), some (.ref a), some (.ref t), some (.int st), some (.int pl), some (.ref ml), o6] ∧ M ml = some (.lst (met.map V.int)) ∧ Same H M ∧ met.length ≤ j ∧ lawW L pl met (N.drop j) = lawW L st [] N)
              ⟨st, [], o6, rfl, upd_same, f1.trans (same_new hml), Nat.le_refl _, rfl⟩ (fun i σ M _ ⟨_, _, _, _, _, s, _⟩ => (eN s).sq) ?_ ?_
            · rintro j x σ M hx ⟨pl, met, o6, rfl, y1, y2, y3, y4⟩
              rw [List.getElem?_map] at hx
              obtain ⟨kk, hkk, rfl⟩ := Option.map_eq_some_iff.mp hx
              have jl : j < N.length := (List.getElem?_eq_some_iff.mp hkk).1
              have ek : N[j] = kk := by rw [List.getElem?_eq_getElem jl] at hkk; exact Option.some.inj hkk
              obtain ⟨b, q', eb, hq', hb⟩ := tieA kk (List.mem_of_getElem? hkk)
              rw [List.drop_eq_getElem_cons jl, ek, lawW, tie_at hq'] at y4
              refine ⟨_, rfl, _, rfl, _, rfl, t, vs, _, _, rfl, rfl, SqT.of (y2 _ _ e2), atI_nat eb, b, _, rfl, .inr (SqT.of (y2 _ _ hb)), rfl, flat_ints _, _, rfl, ?_⟩
              rw [if_neg Bool.false_ne_true, inV_ints, mem_pair]
              cases hh : has (q'.1, q'.2) pl with
              | true =>
                have hh' : has q' pl = true := hh
                rw [if_pos hh'] at y4
                refine iteT ⟨_, rfl, _, rfl, t, vs, _, _, rfl, rfl, SqT.of (y2 _ _ e2), atI_nat eb, b, _, rfl, SqT.of (y2 _ _ hb), _, rfl, _, _, rfl, rfl, ?_⟩
                have eo : ([q'.1, q'.2] : List Int).sum - pl = other q' pl := by
                  unfold other
                  simp only [List.sum_cons, List.sum_nil]
                  omega
                refine ⟨_, rfl, .inl ⟨rfl, _, SqL.of y1⟩, _, rfl, ml, _, _, rfl, rfl, y1, by rw [List.length_map, sizeLine_eq]; omega, ?_⟩
                refine ⟨other q' pl, met ++ [other q' pl], some (natV kk), ?_, ?_, set_same hmH y2, by rw [List.length_append, List.length_singleton]; omega, y4⟩
                · show [_, _, _, _, some (V.int (([q'.1, q'.2] : List Int).sum - pl)), _, _] = _
                  rw [eo]
                · rw [upd_same]
                  show some (HO.lst (met.map V.int ++ [V.int (([q'.1, q'.2] : List Int).sum - pl)])) = _
                  rw [eo, List.map_append] <;> rfl
              | false =>
                have hh' : has q' pl = false := hh
                rw [hh', if_neg Bool.false_ne_true] at y4
                exact iteF ⟨pl, met, _, rfl, y1, y2, by omega, y4⟩
            · rintro σ M ⟨pl, met, o6, rfl, y1, y2, y3, y4⟩
              rw [List.length_map, List.drop_length, lawW] at y4
              rw [List.length_map] at y3
              have lr := law_rnd (L := L) st (ns := N) (by rw [er]; simp)
              rw [← y4] at lr
              dsimp only at lr
              have next : rndB L st N = false → ∀ o6 : Option V, (∃ (p3 p4 p5 p6 : Option V), [some (V.ref w), some (.ref a), some (.ref t), some (.int st), some (.int pl), some (.ref ml), o6] = [some (.ref w), some (.ref a), some (.ref t), p3, p4, p5, p6] ∧ Same H M ∧ ∀ s ∈ ([q.1, q.2] : List Int).take (i + 1), rndB L s N = false) := fun z o6 =>
                ⟨_, _, _, _, rfl, y2, fun s hs => by
                  rw [take_snoc hst] at hs
                  rcases List.mem_append.mp hs with hs | hs
                  · exact f2 s hs
                  · rw [List.mem_singleton.mp hs]; exact z⟩
              refine ⟨_, rfl, _, rfl, rfl, _, rfl, ?_⟩
              by_cases h1 : pl = st
              rotate_left
              · rw [decide_eq_false (show ¬ V.int pl = V.int st from fun z => h1 (by cases z; rfl))]
                rw [decide_eq_false h1] at lr
                exact iteF (iteF (next lr.symm _))
              subst h1
              rw [decide_eq_true rfl]
              rw [decide_eq_true rfl, Bool.true_and] at lr
              refine iteT ⟨_, rfl, ml, _, rfl, .inl (SqL.of y1), _, rfl, a, _, rfl, .inr (eN y2).sq, rfl, _, rfl, ?_⟩
              rw [List.length_map, List.length_map]
              by_cases h3 : met.length = N.length
              rotate_left
              · rw [decide_eq_false (show ¬ V.int ((met.length : Nat) : Int) = V.int ((N.length : Nat) : Int) from fun z => h3 (by have := V.int.inj z; omega))]
                rw [decide_eq_false h3] at lr
                refine iteF ⟨_, rfl, iteF (next lr.symm _)⟩
              rw [h3, decide_eq_true rfl]
              rw [h3, decide_eq_true rfl, Bool.true_and] at lr
              refine iteT ⟨_, rfl, ml, met, rfl, SqL.of y1, by omega, fun c c1 c2 => ⟨rfl, _, rfl, ?_⟩⟩
              by_cases h5 : met.Nodup
              · rw [decide_eq_true h5] at lr
                rw [decide_eq_true (show V.int ((N.length : Nat) : Int) = V.int ((c : Nat) : Int) by rw [c2.mpr h5, h3])]
                refine iteT ?_
                have : (rndB L q.1 N || rndB L q.2 N) = true := by
                  have hm := List.mem_of_getElem? hst
                  simp only [List.mem_cons, List.not_mem_nil, or_false] at hm
                  rcases hm with rfl | rfl
                  · rw [← lr] <;> rfl
                  · rw [← lr, Bool.or_true]
                show Q (.bl true) M
                rw [← this]
                exact k M y2
              · rw [decide_eq_false h5] at lr
                rw [decide_eq_false (show ¬ V.int ((N.length : Nat) : Int) = V.int ((c : Nat) : Int) from fun z => h5 (c2.mp (by have := V.int.inj z; omega)))]
                exact iteF (next lr.symm _)
          · rintro σ M ⟨o3, o4, o5, o6, rfl, f1, f2⟩
            have : (rndB L q.1 N || rndB L q.2 N) = false := by
              rw [f2 q.1 (by simp), f2 q.2 (by simp)] <;> rfl
            show Q (.bl false) M
            rw [← this]
            exact k M f1
end
end K0

set_option Elab.async false
set_option linter.all false
set_option maxRecDepth 100000
set_option maxHeartbeats 8000000
/-! Cuts of lots that are lots; walks. -/
namespace K0
open PySem PySem.Spec L2
open PyProof.Rows hiding St
abbrev lWalked : Stmt := top 45
abbrev lTrail : Stmt := top 46
theorem GW.mono {H H' : Hp} {w : Addr} {n : Nat} {L : List (Int × Int)} (g : GW H w n L) (s : ∀ a x, H a = some (.tup x) → H' a = some (.tup x)) : GW H' w n L := ⟨g.web.mono s, g.n1, g.n2, g.bel, g.srt, g.few⟩
theorem inV_nats (k : Nat) (ns : List Nat) : inV (natV k) (ns.map natV) = decide (k ∈ ns) := by
  rw [natV_ints]
  show inV (.int (k : Int)) _ = _
  rw [inV_ints]
  refine decide_eq_decide.mpr ?_
  rw [List.mem_map]
  exact ⟨fun ⟨j, hj, e⟩ => by rw [show k = j by omega]; exact hj, fun h => ⟨k, h, rfl⟩⟩
theorem flat_nats (ns : List Nat) : (ns.map natV).all flatV = true := by rw [natV_ints]; exact flat_ints _
/-- ties of a place that are not met yet -/
def someT (L : List (Int × Int)) (pl : Int) (ns : List Nat) (t : Nat) : List Nat := (List.range t).filter fun k => has (tie L k) pl && !decide (k ∈ ns)
theorem some_succ (L : List (Int × Int)) (pl : Int) (ns : List Nat) (t : Nat) : someT L pl ns (t + 1) = if (has (tie L t) pl && !decide (t ∈ ns)) = true then someT L pl ns t ++ [t] else someT L pl ns t := by
  unfold someT
  rw [List.range_succ, List.filter_append]
  cases h : (has (tie L t) pl && !decide (t ∈ ns)) <;> simp [h]
theorem some_len (L : List (Int × Int)) (pl : Int) (ns : List Nat) (t : Nat) : (someT L pl ns t).length ≤ t := by
  unfold someT
  refine Nat.le_trans (List.length_filter_le _ _) ?_
  rw [List.length_range]
  exact Nat.le_refl _
theorem some_mem {L : List (Int × Int)} {pl : Int} {ns : List Nat} {t k : Nat} (h : k ∈ someT L pl ns t) : k < t ∧ has (tie L k) pl = true ∧ k ∉ ns := by
  unfold someT at h
  obtain ⟨h1, h2⟩ := List.mem_filter.mp h
  rw [Bool.and_eq_true, Bool.not_eq_true', decide_eq_false_iff_not] at h2
  exact ⟨List.mem_range.mp h1, h2.1, h2.2⟩
def spWalked : Sp := fun vs H Q _ => ∃ (p c w : Addr) (n : Nat) (L : List (Int × Int)), vs = [.ref p, .ref w] ∧ GW H w n L ∧ Deck H p c ∧ ∀ (t : Addr) (ns : List Nat) (H' : Hp), (ns = [] ∨ ringB L ns = true) → (∀ k ∈ ns, k < L.length) → ns.length ≤ 14 → H' t = some (.tup (ns.map natV)) → Deck H' p c → Kp p c H H' → Q (.ref t) H'
def spTrail : Sp := fun vs H Q _ => ∃ (p c w : Addr) (n : Nat) (L : List (Int × Int)), vs = [.ref p, .ref w] ∧ GW H w n L ∧ Deck H p c ∧ ∀ (t : Addr) (ns : List Nat) (H' : Hp), ns.length ≤ 14 → H' t = some (.tup (ns.map natV)) → Deck H' p c → Kp p c H H' → Q (.ref t) H'
section
variable {P : Program} {w0 : World} {K : PySem.W.Frag} {mg : Str → Option Value} {base : Heap}
/-- a walk, as it stands -/
structure WkI (H M : Hp) (p c lp ln : Addr) (n : Nat) (L : List (Int × Int)) (r pl : Int) (ns : List Nat) (ps : List Int) : Prop where
  elp : M lp = some (.lst (ps.map V.int))
  eln : M ln = some (.lst (ns.map natV))
  dk : Deck M p c
  kp : Kp p c H M
  ok : okW L r ns = true
  w : wk L r ns = ps ++ [pl]
  nd : ps.Nodup
  nn : ns.Nodup
  lt : ∀ k ∈ ns, k < L.length
  pl0 : 0 ≤ pl ∧ pl < n
theorem WkI.len {H M : Hp} {p c lp ln : Addr} {n : Nat} {L : List (Int × Int)} {r pl : Int} {ns : List Nat} {ps : List Int} (w : WkI H M p c lp ln n L r pl ns ps) : ps.length = ns.length := by
  have := congrArg List.length w.w
  rw [wk_len, List.length_append, List.length_singleton] at this
  omega
theorem cut_drop (ns : List Nat) {j : Nat} (h : j ≤ ns.length) : cutV (ns.map natV) (some (j : Int)) none = (ns.drop j).map natV := by
  unfold cutV
  rw [HT.sIx_nat, HT.sIx_none, List.length_map, Nat.min_eq_left h, ← List.map_drop, List.take_of_length_le]
  rw [List.length_map, List.length_drop]
  exact Nat.le_refl _
theorem eqV_int (a b : Int) : eqV (.int a) (.int b) = decide (a = b) := by
  by_cases h : a = b
  · subst h
    rw [decide_eq_true rfl]
    simp [eqV]
  · rw [decide_eq_false h]
    simp [eqV, h]
theorem at_of_mem {ps : List Int} {pl : Int} (h : pl ∈ ps) (nd : ps.Nodup) : ∃ j : Nat, ps[j]? = some pl ∧ ∀ (m : Nat) (z' : Int), m < j → ps[m]? = some z' → z' ≠ pl := by
  obtain ⟨j, hj⟩ := List.getElem?_of_mem h
  refine ⟨j, hj, fun m z' hm hz e => ?_⟩
  subst e
  have hl := (List.getElem?_eq_some_iff.mp hz).1
  exact Nat.ne_of_lt hm ((List.getElem?_inj hl nd).mp (hz.trans hj.symm))
theorem bel_T {n : Nat} {L : List (Int × Int)} (hB : Bel n L) : BelT L := fun k hk => by
  have h := List.getElem?_eq_getElem hk
  rw [tie_at h]
  have := hB _ (List.getElem_mem hk)
  omega
theorem other_in {n : Nat} {q : Int × Int} {p : Int} (h : 0 ≤ q.1 ∧ q.1 < q.2 ∧ q.2 < (n : Int)) (hp : has q p = true) : 0 ≤ other q p ∧ other q p < n := by
  have := has_iff.mp hp
  unfold other
  omega
abbrev nWalked : List Str := ["_law_deck_here", "_law_web_here", "_law_place", "_law_places", "_law_numbers", "_law_turn", "_law_some", "_law_at", "_law_tie"]
theorem scWalked : FnScope nWalked ["_law_deck_here", "_law_web_here"] (defScope lWalked) := ⟨rfl, rfl, rfl, by decide +kernel, rfl, by decide +kernel, by decide +kernel⟩
theorem ok_walked {f fD fP : Addr} {fd fdD fdP : FuncData} (F : Fun K "_law_walked" "_law_walked" lWalked f fd) (T : Bq mg) (GD : Dn P w0 K mg base "_law_draw" 1 ["_law_deck_here", "_law_many"] spDraw fD fdD)
    (GP : Dn P w0 K mg base "_law_pick" 2 ["_law_deck_here", "_law_some"] spPick fP fdP) : FnOk P w0 K mg base CX0 3 f fd ["_law_deck_here", "_law_web_here"] spWalked := by
  refine F.ok scWalked (fun vs H Q E h => ?_) (fun cdv A outer s H vs Q E hr h => ?_)
  · obtain ⟨p, c, w, n, L, rfl, _⟩ := h
    rfl
  · obtain ⟨p, c, w, n, L, rfl, G, D, k⟩ := h
    have hu0 := hr.units0
    have hr1 : Room 1 (A.deeper (envOfC "_law_walked" (defScope lWalked) s.heap.objs.size f cdv)) := hr.mono (by decide)
    refine ⟨_, pss_cons (ps_asg (pe_tup (pa_cons (pe_call GD.ok hr1 rfl GD.g GD.kp GD.b .nil pass0 (pa_cons (pv 0) (pa_cons (pe_ix ix_tup (pv 1) pe_int (fun _ _ => rfl)) pa_nil))) (pa_cons (pe_lst pa_nil) (pa_cons (pe_lst pa_nil) pa_nil))))
          (pg_tup rfl (pgs_cons (pg_name (i := 2) scWalked.nd rfl (.inr rfl)) (pgs_cons (pg_name (i := 3) scWalked.nd rfl (.inl rfl)) (pgs_cons (pg_name (i := 4) scWalked.nd rfl (.inr rfl)) pgs_nil)))))
      <| pss_cons (ps_for PassesOwn.never rfl (pi_range1 (by rfl) T.range (pa_cons (pe_op op_add (pe_ix ix_tup (pv 1) pe_int (fun _ _ => rfl)) pe_int) pa_nil)) (pg_name (i := 5) scWalked.nd rfl (.inl rfl))
          (pss_cons (ps_if (pt_cmpR (show OpR _ (compareOp .In) (rIn K false) from op_in_seq) (pv 2) (pv 3) (by rfl)) (pss_one (ps_ret (pe_callTy call_tuple_of (by rfl) T.tuple (by decide +kernel)
              (pa_cons (pe_slice sl_list (pv 4) (po_some (pe_bm PySem.F.plainAttrs_list PySem.F.slot_list_index PySem.F.type_list_index mt_index (pv 3) (pa_cons (pv 2) pa_nil))) po_none) pa_nil)))) pss_nil)
          <| pss_cons (ps_setLc (i := 6) (own := [("_law_at", 7), ("_law_tie", 8)]) (g := gTup K 2 (gCons (gName 7) (gCons (gName 8) gNil))) rfl scWalked.nd rfl rfl (sw_true rfl rfl rfl (by decide +kernel))
              (KR.pi_enumT (by rfl) T.enu (pa_cons (pe_ix ix_tup (pv 1) pe_int (fun _ _ => rfl)) pa_nil)) (blkOk_by (N := nWalked) (sc := defScope lWalked) (by decide +kernel))
              (fun _ _ _ _ _ => pg_tup rfl (pgs_cons (pg_name (i := 7) scWalked.nd rfl (.inl rfl) (.inr rfl)) (pgs_cons (pg_name (i := 8) scWalked.nd rfl (.inl rfl) (.inr rfl)) pgs_nil)))
              (fun _ _ _ _ _ => pts_one (PW.pt (pw_and (pt_cmpR (show OpR _ (compareOp .In) (rIn K false) from op_in_seq) (pv 2) (pv 8) (by rfl)) (pw_and1 (pt_cmpR (show OpR _ (compareOp .NotIn) (rIn K true) from op_notIn_seq) (pv 7) (pv 4) (by rfl))))))
              (fun _ _ _ _ _ => pv 7))
          <| pss_cons (ps_if (pt_cmpR (op_eq0 hu0) (pv 6) (pe_lst pa_nil) (nomark _)) (pss_one (ps_ret (pe_tup pa_nil))) pss_nil)
          <| pss_cons (ps_expr (pe_bm PySem.F.plainAttrs_list PySem.F.slot_list_append PySem.F.type_list_append mt_append (pv 3) (pa_cons (pv 2) pa_nil)))
          <| pss_cons (ps_expr (pe_bm PySem.F.plainAttrs_list PySem.F.slot_list_append PySem.F.type_list_append mt_append (pv 4) (pa_cons (pe_call GP.ok hr rfl GP.g GP.kp GP.b .nil pass0 (pa_cons (pv 0) (pa_cons (pv 6) pa_nil))) pa_nil)))
          <| pss_one (ps_set (i := 2) scWalked.nd rfl (.inr rfl) (pe_op op_sub (pe_callB (KR.cr_sumT rfl) (by rfl) T.sum (by decide +kernel) (pa_cons (pe_ix ix_tup (pe_ix ix_tup (pv 1) pe_int (fun _ _ => rfl)) (pe_ix ix_list (pv 4) (pe_un un_neg pe_int) (fun _ _ => rfl)) (fun _ _ => rfl)) pa_nil)) (pv 2)))))
      <| pss_one (ps_ret (pe_tup pa_nil)), ?_⟩
    obtain ⟨t, vs, e1, e2, e3⟩ := G.web.ex
    have n2 := G.n2
    have n1 := G.n1
    have len := e3.len
    have few := G.few
    have hB := G.bel
    refine ⟨_, rfl, _, rfl, w, _, _, _, rfl, rfl, SqT.of e1, atI_nat (j := 0) rfl, p, c, _, rfl, D, by omega, by omega, fun r H1 r0 r1 D1 K1 => ?_⟩
    refine ⟨by show 0 ≤ sizeLine; exact Nat.zero_le _, fun lp hlp => ⟨by show 0 ≤ sizeLine; exact Nat.zero_le _, fun ln hln => ⟨by show 3 ≤ sizeLine; decide, fun tt htt => ?_⟩⟩⟩
    have D2 := (D1.new (o := .lst []) hlp).new (o := .lst []) hln
    have K2 : Kp p c H (upd (upd H1 lp (.lst [])) ln (.lst [])) := (K1.trans (kp_new hlp)).trans (kp_new hln)
    have D3 := D2.new (o := .tup [.int r, .ref lp, .ref ln]) htt
    have K3 : Kp p c H (upd (upd (upd H1 lp (.lst [])) ln (.lst [])) tt (.tup [.int r, .ref lp, .ref ln])) := K2.trans (kp_new htt)
    have nlp : lp ≠ ln := ne_of_none upd_same hln
    have x1 : (upd (upd H1 lp (.lst [])) ln (.lst [])) lp = some (.lst []) := by rw [upd_ne nlp]; exact upd_same
    have y1 : (upd (upd (upd H1 lp (.lst [])) ln (.lst [])) tt (.tup [.int r, .ref lp, .ref ln])) lp = some (.lst []) := by rw [upd_ne (ne_of_none x1 htt)]; exact x1
    have y2 : (upd (upd (upd H1 lp (.lst [])) ln (.lst [])) tt (.tup [.int r, .ref lp, .ref ln])) ln = some (.lst []) := by rw [upd_ne (ne_of_none upd_same htt)]; exact upd_same
    have hlpH : H lp = none := K1.dom D1 hlp
    have hlnH : H ln = none := (K1.trans (kp_new hlp)).dom (D1.new hlp) hln
    obtain ⟨lpp, lpc⟩ := D.inp hlpH
    obtain ⟨lnp, lnc⟩ := D.inp hlnH
    refine ⟨tt, _, rfl, SqT.of upd_same, rfl, _, _, rfl, _, _, rfl, _, _, rfl, rfl, ?_⟩
    generalize upd (upd (upd H1 lp (.lst [])) ln (.lst [])) tt (.tup [.int r, .ref lp, .ref ln]) = M0 at D3 K3 y1 y2 ⊢
    have tm : ∀ {M : Hp}, Kp p c H M → ∀ a x, H a = some (.tup x) → M a = some (.tup x) := fun k => k.tup D
    refine ⟨_, rfl, w, _, _, _, rfl, rfl, SqT.of (tm K3 _ _ e1), atI_nat (j := 0) rfl, _, _, rfl, rfl, _, rfl, by omega, by omega, ?_⟩
    refine for_range (lo := 0) (n := ((n : Int) + 1).toNat) (fun i σ M => ∃ (pl : Int) (ns : List Nat) (ps : List Int) (o5 o6 : Option V), σ = [some (.ref p), some (.ref w), some (.int pl), some (.ref lp), some (.ref ln), o5, o6, none, none] ∧ ns.length = i ∧ WkI H M p c lp ln n L r pl ns ps)
      ⟨r, [], [], none, none, rfl, rfl, ⟨y1, y2, D3, K3, rfl, rfl, .nil, .nil, (fun _ z => nomatch z), r0, r1⟩⟩ ?_ ?_
    · rintro i σ M hi ⟨pl, ns, ps, o5, o6, rfl, hl, W⟩
      have pln := W.len
      have G' := G.mono (tm W.kp)
      refine ⟨_, rfl, _, rfl, lp, _, rfl, .inl (SqL.of W.elp), rfl, flat_ints ps, _, rfl, ?_⟩
      rw [if_neg Bool.false_ne_true, inV_ints]
      by_cases hm : pl ∈ ps
      · rw [decide_eq_true hm]
        obtain ⟨j, hj, ah⟩ := at_of_mem hm W.nd
        have jl : j < ps.length := (List.getElem?_eq_some_iff.mp hj).1
        refine iteT ⟨_, rfl, _, rfl, .inl ⟨rfl, _, SqL.of W.elp⟩, _, rfl, lp, _, _, j, .int pl, rfl, rfl, SqL.of W.elp, rfl, flat_ints ps, by rw [List.getElem?_map, hj] <;> rfl, by rw [eqV_int, decide_eq_true rfl], fun m z' h1 h2 => ?_, _, rfl, ln, _, rfl, SqL.of W.eln, fun q hq => ?_⟩
        · rw [List.getElem?_map] at h2
          obtain ⟨y, hy, rfl⟩ := Option.map_eq_some_iff.mp h2
          rw [eqV_int]
          exact decide_eq_false (ah m y h1 hy)
        · refine ⟨q, _, rfl, .inl ⟨SqL.of upd_same, fun t' ht' => ?_⟩⟩
          rw [cut_drop ns (by omega)] at ht' ⊢
          exact k t' (ns.drop j) _ (.inr (walked_ring (bel_T hB) W.ok W.w W.nd W.nn W.lt hj)) (fun k hk => W.lt k (List.mem_of_mem_drop hk)) (by rw [List.length_drop]; omega) upd_same ((W.dk.new hq).new ht') ((W.kp.trans (kp_new hq)).trans (kp_new ht'))
      rw [decide_eq_false hm]
      refine iteF ⟨_, rfl, w, _, _, _, rfl, rfl, SqT.of (tm W.kp _ _ e1), atI_nat (j := 1) rfl, t, vs, rfl, SqT.of (tm W.kp _ _ e2), fun Da hD => ?_⟩
      refine lc_it (KR.walk_enumT (xs := vs)) (fun i M' => M' Da = some (.lst ((someT L pl ns i).map natV)) ∧ Same M M') ⟨upd_same, same_new hD⟩ (fun i M' _ g => SqT.of (g.2 _ _ (tm W.kp _ _ e2))) ?_ ?_
      · rintro i x N N' hi ⟨g1, g2⟩ ⟨Tt, u, y, rfl, hT, rfl, e7, e8⟩
        cases e7
        obtain ⟨b, q, rfl, hq, hb⟩ := e3.get e8
        have sT : Same M (upd N Tt (.tup [.int (i : Nat), .ref b])) := g2.trans (same_new hT)
        have hb' : (upd N Tt (.tup [.int (i : Nat), .ref b])) b = some (.tup (([q.1, q.2] : List Int).map V.int)) := sT _ _ (tm W.kp _ _ hb)
        have g1' : (upd N Tt (.tup [.int (i : Nat), .ref b])) Da = some (.lst ((someT L pl ns i).map natV)) := by rw [upd_ne (ne_of_none g1 hT)]; exact g1
        have ln' := sT _ _ W.eln
        refine ⟨Tt, _, rfl, SqT.of upd_same, rfl, _, _, rfl, _, _, rfl, rfl, rfl, ?_⟩
        generalize upd N Tt (.tup [.int (i : Nat), .ref b]) = N1 at sT hb' g1' ln' ⊢
        refine ⟨_, rfl, _, rfl, b, _, rfl, .inr (SqT.of hb'), rfl, flat_ints _, _, rfl, ?_⟩
        rw [if_neg Bool.false_ne_true, inV_ints, mem_pair]
        have ss := some_succ L pl ns i
        rw [tie_at hq] at ss
        cases hh : has (q.1, q.2) pl with
        | false =>
          rw [show has q pl = false from hh, Bool.false_and, if_neg Bool.false_ne_true] at ss
          exact iteF (iteF ⟨by rw [ss]; exact g1', sT⟩)
        | true =>
          rw [show has q pl = true from hh, Bool.true_and] at ss
          refine iteT ⟨_, rfl, _, rfl, ln, _, rfl, .inl (SqL.of ln'), rfl, flat_nats ns, _, rfl, ?_⟩
          have ei : inV (V.int (i : Nat)) (ns.map natV) = decide (i ∈ ns) := inV_nats i ns
          rw [if_pos rfl, ei]
          cases hc : (!decide (i ∈ ns)) with
          | true =>
            rw [hc, if_pos rfl] at ss
            exact iteT ⟨_, rfl, _, g1', by rw [List.length_map, sizeLine_eq]; have := some_len L pl ns i; omega, by rw [upd_same, ss, List.map_append] <;> rfl, fun b o e => by rw [upd_ne (ne_of_none e hD)]; exact sT _ _ e⟩
          | false =>
            rw [hc, if_neg Bool.false_ne_true] at ss
            exact iteF ⟨by rw [ss]; exact g1', sT⟩
      rintro N ⟨g1, g2⟩
      rw [len] at g1
      refine ⟨_, rfl, by show 0 ≤ sizeLine; exact Nat.zero_le _, fun b0 hb0 => ?_⟩
      have sB : Same M (upd N b0 (.lst [])) := g2.trans (same_new hb0)
      have gD : (upd N b0 (.lst [])) Da = some (.lst ((someT L pl ns L.length).map natV)) := by rw [upd_ne (ne_of_none g1 hb0)]; exact g1
      refine ⟨Da, b0, _, rfl, rfl, SqL.of gD, SqL.of upd_same, _, rfl, ?_⟩
      have kB : Kp p c H (upd N b0 (.lst [])) := W.kp.trans (kp_same sB)
      have dB : Deck (upd N b0 (.lst [])) p c := W.dk.same sB
      have b1 := sB _ _ W.elp
      have b2 := sB _ _ W.eln
      generalize upd N b0 (.lst []) = N1 at sB gD kB dB b1 b2 ⊢
      have DaH : H Da = none := W.kp.dom W.dk hD
      obtain ⟨dap, dac⟩ := D.inp DaH
      by_cases he : someT L pl ns L.length = []
      · rw [he]
        exact iteT ⟨by show 0 ≤ sizeLine; exact Nat.zero_le _, fun t' ht' => k t' [] _ (.inl rfl) (fun _ z => nomatch z) (Nat.zero_le _) upd_same (dB.new ht') (kB.trans (kp_new ht'))⟩
      have ne : ((someT L pl ns L.length).map natV).isEmpty = false := by
        cases hx : someT L pl ns L.length with
        | nil => exact absurd hx he
        | cons a b => rfl
      rw [ne]
      have dl : lp ≠ Da := ne_of_none W.elp hD
      have dn : ln ≠ Da := ne_of_none W.eln hD
      have sl := some_len L pl ns L.length
      refine iteF ⟨_, rfl, .inl ⟨rfl, _, SqL.of b1⟩, _, rfl, lp, _, _, rfl, rfl, b1, by rw [List.length_map, sizeLine_eq]; omega, ?_⟩
      have c1 : (upd N1 lp (.lst (ps.map V.int ++ [.int pl]))) lp = some (.lst ((ps ++ [pl]).map V.int)) := by rw [upd_same, List.map_append] <;> rfl
      have c2 : (upd N1 lp (.lst (ps.map V.int ++ [.int pl]))) ln = some (.lst (ns.map natV)) := by rw [upd_ne nlp.symm]; exact b2
      have cD : (upd N1 lp (.lst (ps.map V.int ++ [.int pl]))) Da = some (.lst ((someT L pl ns L.length).map natV)) := by rw [upd_ne dl.symm]; exact gD
      have dC := dB.put (o := .lst (ps.map V.int ++ [.int pl])) lpp lpc
      have kC : Kp p c H (upd N1 lp (.lst (ps.map V.int ++ [.int pl]))) := kB.own hlpH
      generalize upd N1 lp (.lst (ps.map V.int ++ [.int pl])) = M2 at c1 c2 cD dC kC ⊢
      refine ⟨_, rfl, .inl ⟨rfl, _, SqL.of c2⟩, _, rfl, _, rfl, p, c, Da, _, rfl, dC, cD, dap, dac, ?_, by rw [List.length_map]; omega, fun j v M3 hj D4 K4 => ?_⟩
      · rw [List.length_map]
        exact List.length_pos_iff.mpr he
      rw [List.getElem?_map] at hj
      obtain ⟨kk, hkk, rfl⟩ := Option.map_eq_some_iff.mp hj
      obtain ⟨k1, k2, k3⟩ := some_mem (List.mem_of_getElem? hkk)
      have d2 := K4 _ _ lnp lnc c2
      have d1 := K4 _ _ lpp lpc c1
      refine ⟨ln, _, _, rfl, rfl, d2, by rw [List.length_map, sizeLine_eq]; omega, ?_⟩
      have f2 : (upd M3 ln (.lst (ns.map natV ++ [natV kk]))) ln = some (.lst ((ns ++ [kk]).map natV)) := by rw [upd_same, List.map_append] <;> rfl
      have f1 : (upd M3 ln (.lst (ns.map natV ++ [natV kk]))) lp = some (.lst ((ps ++ [pl]).map V.int)) := by rw [upd_ne nlp]; exact d1
      have dF := D4.put (o := .lst (ns.map natV ++ [natV kk])) lnp lnc
      have kF : Kp p c H (upd M3 ln (.lst (ns.map natV ++ [natV kk]))) := (kC.trans K4).own hlnH
      generalize upd M3 ln (.lst (ns.map natV ++ [natV kk])) = M4 at f1 f2 dF kF ⊢
      have kl : kk < vs.length := by omega
      obtain ⟨b, q, eb, hq, hb⟩ := e3.get (List.getElem?_eq_getElem kl)
      have gk : vs[kk]? = some (.ref b) := by rw [List.getElem?_eq_getElem kl, eb]
      have hb' : M4 b = some (.tup (([q.1, q.2] : List Int).map V.int)) := tm kF _ _ hb
      have la : atI ((ns ++ [kk]).map natV) (-1) = some (natV kk) := by rw [List.map_append]; exact atI_last _ _
      refine ⟨_, rfl, w, _, _, _, rfl, rfl, SqT.of (tm kF _ _ e1), atI_nat (j := 1) rfl, _, rfl, _, rfl, ln, _, _, _, rfl, rfl, SqL.of f2, la, t, vs, _, _, rfl, rfl, SqT.of (tm kF _ _ e2), atI_nat gk, b, _, rfl, SqT.of hb', _, rfl, _, _, rfl, rfl, ?_⟩
      have eo : ([q.1, q.2] : List Int).sum - pl = other q pl := by
        unfold other
        simp only [List.sum_cons, List.sum_nil]
        omega
      rw [tie_at hq] at k2
      have ws := wk_snoc W.ok W.w (k := kk) (by rw [tie_at hq]; exact k2)
      rw [tie_at hq] at ws
      refine ⟨other q pl, ns ++ [kk], ps ++ [pl], some (.int (0 + (i : Int))), some (.ref Da), ?_, by rw [List.length_append, hl] <;> rfl, f1, f2, dF, kF, ws.1, ws.2, ?_, ?_, ?_, other_in (hB q (List.mem_of_getElem? hq)) k2⟩
      · show [_, _, some (V.int (([q.1, q.2] : List Int).sum - pl)), _, _, _, _, _, _] = _
        rw [eo]
      · exact List.nodup_append.mpr ⟨W.nd, by simp, fun a ha b hb e => by rw [List.mem_singleton.mp hb] at e; exact hm (e ▸ ha)⟩
      · exact List.nodup_append.mpr ⟨W.nn, by simp, fun a ha b hb e => by rw [List.mem_singleton.mp hb] at e; exact k3 (e ▸ ha)⟩
      · intro k hk
        rcases List.mem_append.mp hk with hk | hk
        · exact W.lt k hk
        · rw [List.mem_singleton.mp hk]; exact k1
    · rintro σ M ⟨pl, ns, ps, o5, o6, rfl, hl, W⟩
      exact ⟨by show 0 ≤ sizeLine; exact Nat.zero_le _, fun t' ht' => k t' [] _ (.inl rfl) (fun _ z => nomatch z) (Nat.zero_le _) upd_same (W.dk.new ht') (W.kp.trans (kp_new ht'))⟩
end
end K0

set_option Elab.async false
set_option linter.all false
set_option maxRecDepth 100000
set_option maxHeartbeats 8000000
/-! Drawn walks that come back. -/
namespace K0
open PySem PySem.Spec L2
open PyProof.Rows hiding St
/-- a statement that may return -/
def tInvR (J J' : L2.St → Hp → Prop) (R : V → Hp → Prop) : TS := fun D σ H => J σ H ∧ (∀ σ' H', J' σ' H' → D.nx σ' H') ∧ ∀ v H', R v H' → D.rt v H'
theorem ps_invR {X : Cx} {st : Stmt} {t : TS} {J J' : L2.St → Hp → Prop} {R : V → Hp → Prop} (h : PS X st t) (w : ∀ D σ H, J σ H → (∀ σ' H', J' σ' H' → D.nx σ' H') → (∀ v H', R v H' → D.rt v H') → t D σ H) : PS X st (tInvR J J' R) :=
  ⟨fun pins s σ H D I q => h.run pins s σ H D I (w D σ H q.1 q.2.1 q.2.2)⟩
/-- ties of a walk -/
structure TrI (H M : Hp) (p c ln : Addr) (L : List (Int × Int)) (ns : List Nat) : Prop where
  eln : M ln = some (.lst (ns.map natV))
  dk : Deck M p c
  kp : Kp p c H M
  nn : ns.Nodup
  lt : ∀ k ∈ ns, k < L.length
theorem TrI.few {H M : Hp} {p c ln : Addr} {L : List (Int × Int)} {ns : List Nat} (w : TrI H M p c ln L ns) : ns.length ≤ L.length := by
  have := KR.nd_le (ks := ns.map fun i => ((i : Nat) : Int)) (ns := (List.range L.length).map fun i => ((i : Nat) : Int)) (List.pairwise_map.mpr (w.nn.imp fun h e => h (by omega))) fun k hk => by
    obtain ⟨i, hi, rfl⟩ := List.mem_map.mp hk
    exact List.mem_map.mpr ⟨i, List.mem_range.mpr (w.lt i hi), rfl⟩
  rwa [List.length_map, List.length_map, List.length_range] at this
/-- what a walk returns -/
def TrR (H : Hp) (p c : Addr) (L : List (Int × Int)) (v : V) (M : Hp) : Prop := ∃ (t : Addr) (ns : List Nat), v = .ref t ∧ ns.length ≤ 40 ∧ (∀ k ∈ ns, k < L.length) ∧ M t = some (.tup (ns.map natV)) ∧ Deck M p c ∧ Kp p c H M
def spTrail' : Sp := fun vs H Q _ => ∃ (p c w : Addr) (n : Nat) (L : List (Int × Int)), vs = [.ref p, .ref w] ∧ GW H w n L ∧ Deck H p c ∧ ∀ v M, TrR H p c L v M → Q v M
section
variable {P : Program} {w0 : World} {K : PySem.W.Frag} {mg : Str → Option Value} {base : Heap}
abbrev nTrail : List Str := ["_law_deck_here", "_law_web_here", "_law_first", "_law_numbers", "_law_place", "_law_turn", "_law_some", "_law_at", "_law_tie"]
theorem scTrail : FnScope nTrail ["_law_deck_here", "_law_web_here"] (defScope lTrail) := ⟨rfl, rfl, rfl, by decide +kernel, rfl, by decide +kernel, by decide +kernel⟩
def TJ1 (b2 : Bool) (H : Hp) (p c w : Addr) (L : List (Int × Int)) : L2.St → Hp → Prop := fun σ M => ∃ (fi : Int) (ln : Addr) (pl : Int) (ns : List Nat) (o5 : Int) (Da : Addr), σ = [some (.ref p), some (.ref w), some (.int fi), some (.ref ln), some (.int pl), some (.int o5), some (.ref Da), none, none] ∧
  H ln = none ∧ TrI H M p c ln L ns ∧ M Da = some (.lst ((someT L pl ns L.length).map natV)) ∧ Da ≠ p ∧ Da ≠ c ∧ ln ≠ Da ∧ (b2 = true → someT L pl ns L.length ≠ [])
theorem ok_trail {f fD fP : Addr} {fd fdD fdP : FuncData} (F : Fun K "_law_trail" "_law_trail" lTrail f fd) (T : Bq mg) (GD : Dn P w0 K mg base "_law_draw" 1 ["_law_deck_here", "_law_many"] spDraw fD fdD)
    (GP : Dn P w0 K mg base "_law_pick" 2 ["_law_deck_here", "_law_some"] spPick fP fdP) : FnOk P w0 K mg base CX0 3 f fd ["_law_deck_here", "_law_web_here"] spTrail' := by
  refine F.ok scTrail (fun vs H Q E h => ?_) (fun cdv A outer s H vs Q E hr h => ?_)
  · obtain ⟨p, c, w, n, L, rfl, _⟩ := h
    rfl
  · obtain ⟨p, c, w, n, L, rfl, G, D, k⟩ := h
    have hu0 := hr.units0
    have hr1 : Room 1 (A.deeper (envOfC "_law_trail" (defScope lTrail) s.heap.objs.size f cdv)) := hr.mono (by decide)
    obtain ⟨t, vs, e1, e2, e3⟩ := G.web.ex
    have n2 := G.n2
    have n1 := G.n1
    have len := e3.len
    have few := G.few
    have tm : ∀ {M : Hp}, Kp p c H M → ∀ a x, H a = some (.tup x) → M a = some (.tup x) := fun k => k.tup D
    refine ⟨_, pss_cons (ps_asg (pe_tup (pa_cons (pe_call GD.ok hr1 rfl GD.g GD.kp GD.b .nil pass0 (pa_cons (pv 0) (pa_cons (pe_ix ix_tup (pv 1) pe_int (fun _ _ => rfl)) pa_nil))) (pa_cons (pe_lst pa_nil) pa_nil)))
          (pg_tup rfl (pgs_cons (pg_name (i := 2) scTrail.nd rfl (.inl rfl)) (pgs_cons (pg_name (i := 3) scTrail.nd rfl (.inr rfl)) pgs_nil))))
      <| pss_cons (ps_set (i := 4) scTrail.nd rfl (.inr rfl) (pv 2))
      <| pss_cons (ps_for PassesOwn.never rfl (pi_range1 (by rfl) T.range (pa_cons pe_int pa_nil)) (pg_name (i := 5) scTrail.nd rfl (.inl rfl))
          (pss_cons (ps_setLc (i := 6) (own := [("_law_at", 7), ("_law_tie", 8)]) (g := gTup K 2 (gCons (gName 7) (gCons (gName 8) gNil))) rfl scTrail.nd rfl rfl (sw_true rfl rfl rfl (by decide +kernel))
              (KR.pi_enumT (by rfl) T.enu (pa_cons (pe_ix ix_tup (pv 1) pe_int (fun _ _ => rfl)) pa_nil)) (blkOk_by (N := nTrail) (sc := defScope lTrail) (by decide +kernel))
              (fun _ _ _ _ _ => pg_tup rfl (pgs_cons (pg_name (i := 7) scTrail.nd rfl (.inl rfl) (.inr rfl)) (pgs_cons (pg_name (i := 8) scTrail.nd rfl (.inl rfl) (.inr rfl)) pgs_nil)))
              (fun _ _ _ _ _ => pts_one (PW.pt (pw_and (pt_cmpR (show OpR _ (compareOp .In) (rIn K false) from op_in_seq) (pv 4) (pv 8) (by rfl)) (pw_and1 (pt_cmpR (show OpR _ (compareOp .NotIn) (rIn K true) from op_notIn_seq) (pv 7) (pv 3) (by rfl))))))
              (fun _ _ _ _ _ => pv 7))
          <| pss_cons (ps_invR (J := TJ1 false H p c w L) (J' := TJ1 true H p c w L) (R := TrR H p c L) (ps_if (PW.pt (pw_or (pt_cmpR (op_eq0 hu0) (pv 6) (pe_lst pa_nil) (nomark _))
                (pw_or1 (PW.pt (pw_and (pt_cmpR op_gt (pv 5) pe_int (nomark _)) (pw_and (pt_cmpR op_eq (pv 4) (pv 2) (nomark _)) (pw_and1 (pt_cmpR op_eq (pe_call GD.ok hr1 rfl GD.g GD.kp GD.b .nil pass0 (pa_cons (pv 0) (pa_cons pe_int pa_nil))) pe_int (nomark _)))))))))
              (pss_one (ps_ret (pe_ifExp (pt_cmpR op_eq (pv 4) (pv 2) (nomark _)) (pe_callTy call_tuple_of (by rfl) T.tuple (by decide +kernel) (pa_cons (pv 3) pa_nil)) (pe_tup pa_nil)))) pss_nil) ?i1)
          <| pss_cons (ps_expr (pe_bm PySem.F.plainAttrs_list PySem.F.slot_list_append PySem.F.type_list_append mt_append (pv 3) (pa_cons (pe_call GP.ok hr rfl GP.g GP.kp GP.b .nil pass0 (pa_cons (pv 0) (pa_cons (pv 6) pa_nil))) pa_nil)))
          <| pss_one (ps_set (i := 4) scTrail.nd rfl (.inr rfl) (pe_op op_sub (pe_callB (KR.cr_sumT rfl) (by rfl) T.sum (by decide +kernel) (pa_cons (pe_ix ix_tup (pe_ix ix_tup (pv 1) pe_int (fun _ _ => rfl)) (pe_ix ix_list (pv 3) (pe_un un_neg pe_int) (fun _ _ => rfl)) (fun _ _ => rfl)) pa_nil)) (pv 4)))))
      <| pss_one (ps_ret (pe_ifExp (pt_cmpR op_eq (pv 4) (pv 2) (nomark _)) (pe_callTy call_tuple_of (by rfl) T.tuple (by decide +kernel) (pa_cons (pv 3) pa_nil)) (pe_tup pa_nil))), ?_⟩
    case i1 =>
      rintro D0 σ M ⟨fi, ln, pl, ns, o5, Da, rfl, hln, W, hDa, dap, dac, lnd, _⟩ nx rt
      have fw := W.few
      refine ⟨_, rfl, by show 0 ≤ sizeLine; exact Nat.zero_le _, fun b0 hb0 => ?_⟩
      have sB : Same M (upd M b0 (.lst [])) := same_new hb0
      refine ⟨Da, b0, _, rfl, rfl, SqL.of (sB _ _ hDa), SqL.of upd_same, _, rfl, ?_⟩
      have hDa' := sB _ _ hDa
      have W' : TrI H (upd M b0 (.lst [])) p c ln L ns := ⟨sB _ _ W.eln, W.dk.same sB, W.kp.trans (kp_same sB), W.nn, W.lt⟩
      generalize upd M b0 (.lst []) = M1 at hDa' W' ⊢
      clear sB
      by_cases he : someT L pl ns L.length = []
      · rw [he]
        refine iteT ⟨_, rfl, _, rfl, rfl, _, rfl, ite2 (fun _ => ?_) (fun _ => ?_)⟩
        · exact ⟨_, rfl, ln, _, rfl, .inl ⟨SqL.of W'.eln, fun t' ht' => rt _ _ ⟨t', ns, rfl, by omega, W.lt, upd_same, W'.dk.new ht', W'.kp.trans (kp_new ht')⟩⟩⟩
        · exact ⟨by show 0 ≤ sizeLine; exact Nat.zero_le _, fun t' ht' => rt _ _ ⟨t', [], rfl, Nat.zero_le _, (fun _ z => nomatch z), upd_same, W'.dk.new ht', W'.kp.trans (kp_new ht')⟩⟩
      have ne : ((someT L pl ns L.length).map natV).isEmpty = false := by
        cases hx : someT L pl ns L.length with
        | nil => exact absurd hx he
        | cons a b => rfl
      rw [ne]
      have go : ∀ M2 : Hp, Deck M2 p c → Kp p c M1 M2 → TJ1 true H p c w L [some (.ref p), some (.ref w), some (.int fi), some (.ref ln), some (.int pl), some (.int o5), some (.ref Da), none, none] M2 := fun M2 D2 K2 => by
        obtain ⟨lp, lc⟩ := D.inp hln
        exact ⟨fi, ln, pl, ns, o5, Da, rfl, hln, ⟨K2 _ _ lp lc W'.eln, D2, W'.kp.trans K2, W.nn, W.lt⟩, K2 _ _ dap dac hDa', dap, dac, lnd, fun _ => he⟩
      refine iteF ⟨_, rfl, _, _, rfl, rfl, _, rfl, ?_⟩
      by_cases h1 : o5 > 1
      rotate_left
      · rw [decide_eq_false h1]
        exact iteF (iteF (nx _ _ (go M1 W'.dk fun _ _ _ _ z => z)))
      rw [decide_eq_true h1]
      refine iteT ⟨_, rfl, _, rfl, rfl, _, rfl, ite2 (fun h2 => ?_) (fun h2 => iteF (nx _ _ (go M1 W'.dk fun _ _ _ _ z => z)))⟩
      refine ⟨_, rfl, p, c, _, rfl, W'.dk, by decide, by decide, fun r M2 r0 r1 D2 K2 => ⟨rfl, _, rfl, ite2 (fun h3 => ?_) (fun h3 => nx _ _ (go M2 D2 K2))⟩⟩
      obtain ⟨lp, lc⟩ := D.inp hln
      refine ⟨_, rfl, _, rfl, rfl, _, rfl, ite2 (fun _ => ?_) (fun _ => ?_)⟩
      · exact ⟨_, rfl, ln, _, rfl, .inl ⟨SqL.of (K2 _ _ lp lc W'.eln), fun t' ht' => rt _ _ ⟨t', ns, rfl, by omega, W.lt, upd_same, D2.new ht', (W'.kp.trans K2).trans (kp_new ht')⟩⟩⟩
      · exact ⟨by show 0 ≤ sizeLine; exact Nat.zero_le _, fun t' ht' => rt _ _ ⟨t', [], rfl, Nat.zero_le _, (fun _ z => nomatch z), upd_same, D2.new ht', (W'.kp.trans K2).trans (kp_new ht')⟩⟩
    refine ⟨_, rfl, _, rfl, w, _, _, _, rfl, rfl, SqT.of e1, atI_nat (j := 0) rfl, p, c, _, rfl, D, by omega, by omega, fun r H1 r0 r1 D1 K1 => ?_⟩
    refine ⟨by show 0 ≤ sizeLine; exact Nat.zero_le _, fun ln hln => ⟨by show 2 ≤ sizeLine; decide, fun tt htt => ?_⟩⟩
    have hlnH : H ln = none := K1.dom D1 hln
    have D3 := (D1.new (o := .lst []) hln).new (o := .tup [.int r, .ref ln]) htt
    have K3 : Kp p c H (upd (upd H1 ln (.lst [])) tt (.tup [.int r, .ref ln])) := (K1.trans (kp_new hln)).trans (kp_new htt)
    have y2 : (upd (upd H1 ln (.lst [])) tt (.tup [.int r, .ref ln])) ln = some (.lst []) := by rw [upd_ne (ne_of_none upd_same htt)]; exact upd_same
    refine ⟨tt, _, rfl, SqT.of upd_same, rfl, _, _, rfl, _, _, rfl, rfl, ?_⟩
    generalize upd (upd H1 ln (.lst [])) tt (.tup [.int r, .ref ln]) = M0 at D3 K3 y2 ⊢
    refine ⟨_, rfl, _, rfl, by decide, by decide, ?_⟩
    refine for_range (lo := 0) (n := 14) (fun i σ M => ∃ (fi : Int) (ln : Addr) (pl : Int) (ns : List Nat) (o5 o6 : Option V), σ = [some (.ref p), some (.ref w), some (.int fi), some (.ref ln), some (.int pl), o5, o6, none, none] ∧ H ln = none ∧ TrI H M p c ln L ns)
      ⟨r, ln, r, [], none, none, rfl, hlnH, ⟨y2, D3, K3, .nil, (fun _ z => nomatch z)⟩⟩ ?_ ?_
    · rintro i σ M hi ⟨fi, ln, pl, ns, o5, o6, rfl, hln, W⟩
      refine ⟨_, rfl, w, _, _, _, rfl, rfl, SqT.of (tm W.kp _ _ e1), atI_nat (j := 1) rfl, t, vs, rfl, SqT.of (tm W.kp _ _ e2), fun Da hD => ?_⟩
      refine lc_it (KR.walk_enumT (xs := vs)) (fun i M' => M' Da = some (.lst ((someT L pl ns i).map natV)) ∧ Same M M') ⟨upd_same, same_new hD⟩ (fun i M' _ g => SqT.of (g.2 _ _ (tm W.kp _ _ e2))) ?_ ?_
      · rintro i x N N' hi ⟨g1, g2⟩ ⟨Tt, u, y, rfl, hT, rfl, e7, e8⟩
        cases e7
        obtain ⟨b, q, rfl, hq, hb⟩ := e3.get e8
        have sT : Same M (upd N Tt (.tup [.int (i : Nat), .ref b])) := g2.trans (same_new hT)
        have hb' : (upd N Tt (.tup [.int (i : Nat), .ref b])) b = some (.tup (([q.1, q.2] : List Int).map V.int)) := sT _ _ (tm W.kp _ _ hb)
        have g1' : (upd N Tt (.tup [.int (i : Nat), .ref b])) Da = some (.lst ((someT L pl ns i).map natV)) := by rw [upd_ne (ne_of_none g1 hT)]; exact g1
        have ln' := sT _ _ W.eln
        refine ⟨Tt, _, rfl, SqT.of upd_same, rfl, _, _, rfl, _, _, rfl, rfl, rfl, ?_⟩
        generalize upd N Tt (.tup [.int (i : Nat), .ref b]) = N1 at sT hb' g1' ln' ⊢
        refine ⟨_, rfl, _, rfl, b, _, rfl, .inr (SqT.of hb'), rfl, flat_ints _, _, rfl, ?_⟩
        rw [if_neg Bool.false_ne_true, inV_ints, mem_pair]
        have ss := some_succ L pl ns i
        rw [tie_at hq] at ss
        cases hh : has (q.1, q.2) pl with
        | false =>
          rw [show has q pl = false from hh, Bool.false_and, if_neg Bool.false_ne_true] at ss
          exact iteF (iteF ⟨by rw [ss]; exact g1', sT⟩)
        | true =>
          rw [show has q pl = true from hh, Bool.true_and] at ss
          refine iteT ⟨_, rfl, _, rfl, ln, _, rfl, .inl (SqL.of ln'), rfl, flat_nats ns, _, rfl, ?_⟩
          have ei : inV (V.int (i : Nat)) (ns.map natV) = decide (i ∈ ns) := inV_nats i ns
          rw [if_pos rfl, ei]
          cases hc : (!decide (i ∈ ns)) with
          | true =>
            rw [hc, if_pos rfl] at ss
            exact iteT ⟨_, rfl, _, g1', by rw [List.length_map, sizeLine_eq]; have := some_len L pl ns i; omega, by rw [upd_same, ss, List.map_append] <;> rfl, fun b o e => by rw [upd_ne (ne_of_none e hD)]; exact sT _ _ e⟩
          | false =>
            rw [hc, if_neg Bool.false_ne_true] at ss
            exact iteF ⟨by rw [ss]; exact g1', sT⟩
      rintro N ⟨g1, g2⟩
      rw [len] at g1
      have dn : ln ≠ Da := ne_of_none W.eln hD
      obtain ⟨dap, dac⟩ := D.inp (W.kp.dom W.dk hD)
      refine ⟨⟨fi, ln, pl, ns, 0 + (i : Int), Da, rfl, hln, ⟨g2 _ _ W.eln, W.dk.same g2, W.kp.trans (kp_same g2), W.nn, W.lt⟩, g1, dap, dac, dn, fun z => by cases z⟩, ?_, fun v H' z => k v H' z⟩
      clear hln W g1 g2 dn dap dac hD
      rintro σ M ⟨fi, ln, pl, ns, o5, Da, rfl, hln, W, cD, dap, dac, dn, he⟩
      have he := he rfl
      have fw := W.few
      have sl := some_len L pl ns L.length
      obtain ⟨lnp, lnc⟩ := D.inp hln
      refine ⟨_, rfl, .inl ⟨rfl, _, SqL.of W.eln⟩, _, rfl, _, rfl, p, c, Da, _, rfl, W.dk, cD, dap, dac, ?_, by rw [List.length_map]; omega, fun j v M3 hj D4 K4 => ?_⟩
      · rw [List.length_map]
        exact List.length_pos_iff.mpr he
      rw [List.getElem?_map] at hj
      obtain ⟨kk, hkk, rfl⟩ := Option.map_eq_some_iff.mp hj
      obtain ⟨k1, k2, k3⟩ := some_mem (List.mem_of_getElem? hkk)
      have d2 := K4 _ _ lnp lnc W.eln
      refine ⟨ln, _, _, rfl, rfl, d2, by rw [List.length_map, sizeLine_eq]; omega, ?_⟩
      have f2 : (upd M3 ln (.lst (ns.map natV ++ [natV kk]))) ln = some (.lst ((ns ++ [kk]).map natV)) := by rw [upd_same, List.map_append] <;> rfl
      have dF := D4.put (o := .lst (ns.map natV ++ [natV kk])) lnp lnc
      have kF : Kp p c H (upd M3 ln (.lst (ns.map natV ++ [natV kk]))) := (W.kp.trans K4).own hln
      generalize upd M3 ln (.lst (ns.map natV ++ [natV kk])) = M4 at f2 dF kF ⊢
      have kl : kk < vs.length := by omega
      obtain ⟨b, q, eb, hq, hb⟩ := e3.get (List.getElem?_eq_getElem kl)
      have gk : vs[kk]? = some (.ref b) := by rw [List.getElem?_eq_getElem kl, eb]
      have hb' : M4 b = some (.tup (([q.1, q.2] : List Int).map V.int)) := tm kF _ _ hb
      have la : atI ((ns ++ [kk]).map natV) (-1) = some (natV kk) := by rw [List.map_append]; exact atI_last _ _
      refine ⟨_, rfl, w, _, _, _, rfl, rfl, SqT.of (tm kF _ _ e1), atI_nat (j := 1) rfl, _, rfl, _, rfl, ln, _, _, _, rfl, rfl, SqL.of f2, la, t, vs, _, _, rfl, rfl, SqT.of (tm kF _ _ e2), atI_nat gk, b, _, rfl, SqT.of hb', _, rfl, _, _, rfl, rfl, ?_⟩
      refine ⟨fi, ln, _, ns ++ [kk], some (.int o5), some (.ref Da), rfl, hln, f2, dF, kF, ?_, fun k hk => ?_⟩
      · exact List.nodup_append.mpr ⟨W.nn, by simp, fun a ha b hb e => by rw [List.mem_singleton.mp hb] at e; exact k3 (e ▸ ha)⟩
      · rcases List.mem_append.mp hk with hk | hk
        · exact W.lt k hk
        · rw [List.mem_singleton.mp hk]; exact k1
    · rintro σ M ⟨fi, ln, pl, ns, o5, o6, rfl, hln, W⟩
      have fw := W.few
      refine ⟨_, rfl, _, rfl, rfl, _, rfl, ite2 (fun _ => ?_) (fun _ => ?_)⟩
      · exact ⟨_, rfl, ln, _, rfl, .inl ⟨SqL.of W.eln, fun t' ht' => k _ _ ⟨t', ns, rfl, by omega, W.lt, upd_same, W.dk.new ht', W.kp.trans (kp_new ht')⟩⟩⟩
      · exact ⟨by show 0 ≤ sizeLine; exact Nat.zero_le _, fun t' ht' => k _ _ ⟨t', [], rfl, Nat.zero_le _, (fun _ z => nomatch z), upd_same, W.dk.new ht', W.kp.trans (kp_new ht')⟩⟩
end
end K0

set_option Elab.async false
set_option linter.all false
set_option maxRecDepth 100000
set_option maxHeartbeats 8000000
/-! Values near rows of numbers. -/
namespace K0
open PySem PySem.Spec L2
open PyProof.Rows hiding St
abbrev lBentN : Stmt := top 47
/-- a statement between two invariants that share a parameter -/
def tInvP {α : Type} (J J' : α → L2.St → Hp → Prop) : TS := fun D σ H => ∃ x : α, J x σ H ∧ ∀ σ' H', J' x σ' H' → D.nx σ' H'
theorem ps_invP {α : Type} {X : Cx} {st : Stmt} {t : TS} {J J' : α → L2.St → Hp → Prop} (h : PS X st t) (w : ∀ x D σ H, J x σ H → (∀ σ' H', J' x σ' H' → D.nx σ' H') → t D σ H) : PS X st (tInvP J J') :=
  ⟨fun pins s σ H D I q => let ⟨x, q1, q2⟩ := q; h.run pins s σ H D I (w x D σ H q1 q2)⟩
/-- values of a kind, whatever the deck does -/
def AV (p c : Addr) (M : Hp) (xs : List V) : Prop := ∀ x ∈ xs, ∀ M', Kp p c M M' → ∃ t, VT M' x t
def Thd (p c : Addr) (M : Hp) (v : V) : Prop := ∃ o, ∀ M', Kp p c M M' → Th M' v o
theorem kp_refl {p c : Addr} {M : Hp} : Kp p c M M := fun _ _ _ _ z => z
theorem AV.mono {p c : Addr} {M M1 : Hp} {xs : List V} (a : AV p c M xs) (k : Kp p c M M1) : AV p c M1 xs := fun x hx M' k' => a x hx M' (k.trans k')
theorem AV.sub {p c : Addr} {M : Hp} {xs ys : List V} (a : AV p c M xs) (s : ∀ x ∈ ys, x ∈ xs) : AV p c M ys := fun x hx => a x (s x hx)
theorem AV.cut {p c : Addr} {M : Hp} {xs : List V} {lo hi : Option Int} (a : AV p c M xs) : AV p c M (cutV xs lo hi) := a.sub fun x hx => List.mem_of_mem_drop (List.mem_of_mem_take hx)
theorem AV.app {p c : Addr} {M : Hp} {xs ys : List V} (a : AV p c M xs) (b : AV p c M ys) : AV p c M (xs ++ ys) := fun x hx => (List.mem_append.mp hx).elim (a x) (b x)
theorem AV.one {p c : Addr} {M : Hp} {x : V} (h : ∀ M', Kp p c M M' → ∃ t, VT M' x t) : AV p c M [x] := fun y hy => by rw [List.mem_singleton.mp hy]; exact h
theorem AV.int {p c : Addr} {M : Hp} (i : Int) : AV p c M [.int i] := AV.one fun M' _ => ⟨_, .int i⟩
theorem AV.nats {p c : Addr} {M : Hp} (ns : List Nat) : AV p c M (ns.map natV) := fun x hx M' _ => by
  obtain ⟨i, _, rfl⟩ := List.mem_map.mp hx
  exact ⟨_, .int _⟩
theorem Thd.mono {p c : Addr} {M M1 : Hp} {v : V} (a : Thd p c M v) (k : Kp p c M M1) : Thd p c M1 v := let ⟨o, h⟩ := a; ⟨o, fun M' k' => h M' (k.trans k')⟩
theorem Thd.tup {p c a : Addr} {M : Hp} {xs : List V} (D : Deck M p c) (e : M a = some (.tup xs)) (av : AV p c M xs) (l : xs.length ≤ 60) : Thd p c M (.ref a) :=
  ⟨some xs, fun M' k => .tup (.inl (k.tup D _ _ e)) (fun x hx => av x hx M' k) l⟩
theorem cutV_len {xs : List V} {lo hi : Option Int} : (cutV xs lo hi).length ≤ xs.length := by
  unfold cutV
  rw [List.length_take, List.length_drop]
  omega
/-- two cuts at one place -/
theorem cut_two (xs : List V) {a : Int} (h : 0 ≤ a) : (cutV xs none (some a)).length + (cutV xs (some a) none).length ≤ xs.length ∧ (cutV xs none (some a)).length + (cutV xs (some (a + 1)) none).length ≤ xs.length := by
  obtain ⟨k, rfl⟩ : ∃ k : Nat, a = k := ⟨a.toNat, by omega⟩
  have e1 : (cutV xs none (some (k : Int))).length = min k xs.length := by
    unfold cutV
    rw [HT.sIx_nat, HT.sIx_none, List.drop_zero, List.length_take]
    omega
  have e2 : ∀ j : Nat, (cutV xs (some (j : Int)) none).length = xs.length - min j xs.length := fun j => by
    unfold cutV
    rw [HT.sIx_nat, HT.sIx_none, List.length_take, List.length_drop]
    omega
  have e3 := e2 (k + 1)
  rw [show ((k + 1 : Nat) : Int) = (k : Int) + 1 by omega] at e3
  rw [e1, e2 k, e3]
  omega
theorem cut_last (xs : List V) : (cutV xs (some (-1)) none).length ≤ 1 := by
  unfold cutV
  rw [List.length_take, List.length_drop]
  have : HT.sIx xs.length 0 (some (-1)) = ((-1 : Int) + xs.length).toNat := by simp [HT.sIx]
  rw [this, HT.sIx_none]
  omega
def spBentN : Sp := fun vs H Q _ => ∃ (p c a : Addr) (m : Nat) (xs : List V), vs = [.ref p, .ref a, .int (m : Int)] ∧ m ≤ 40 ∧ Deck H p c ∧ H a = some (.tup xs) ∧ xs.length ≤ 40 ∧ AV p c H xs ∧ ∀ v M, Thd p c M v → Deck M p c → Kp p c H M → Q v M
/-- the row, as it stands -/
def BJ (H : Hp) (p c : Addr) (m k : Nat) (b : Nat) : L2.St → Hp → Prop := fun σ M => ∃ (a : Addr) (xs : List V) (o3 : Option V) (wy at' : Int) (o6 : Option V), σ = [some (.ref p), some (.ref a), some (.int (m : Int)), o3, some (.int wy), some (.int at'), o6] ∧ 0 ≤ at' ∧ M a = some (.tup xs) ∧ Deck M p c ∧ Kp p c H M ∧ AV p c M xs ∧ xs.length ≤ b + k ∧ b ≤ 54
section
variable {P : Program} {w0 : World} {K : PySem.W.Frag} {mg : Str → Option Value} {base : Heap}
abbrev nBentN : List Str := ["_law_deck_here", "_law_some", "_law_most", "_law_turn", "_law_way", "_law_at", "_law_odd"]
theorem scBentN : FnScope nBentN ["_law_deck_here", "_law_some", "_law_most"] (defScope lBentN) := ⟨rfl, rfl, rfl, by decide +kernel, rfl, by decide +kernel, by decide +kernel⟩
theorem ok_bentN {f fD fP : Addr} {fd fdD fdP : FuncData} (F : Fun K "_law_bent_numbers" "_law_bent_numbers" lBentN f fd) (T : Bq mg) (GD : Dn P w0 K mg base "_law_draw" 1 ["_law_deck_here", "_law_many"] spDraw fD fdD)
    (GP : Dn P w0 K mg base "_law_pick" 2 ["_law_deck_here", "_law_some"] spPick fP fdP) : FnOk P w0 K mg base CX0 3 f fd ["_law_deck_here", "_law_some", "_law_most"] spBentN := by
  refine F.ok scBentN (fun vs H Q E h => ?_) (fun cdv A outer s H vs Q E hr h => ?_)
  · obtain ⟨p, c, a, m, xs, rfl, _⟩ := h
    rfl
  · obtain ⟨p, c, a, m, xs, rfl, hm, D, ha, hl, av, k⟩ := h
    have hr1 : Room 1 (A.deeper (envOfC "_law_bent_numbers" (defScope lBentN) s.heap.objs.size f cdv)) := hr.mono (by decide)
    refine ⟨_, pss_cons (ps_for PassesOwn.never rfl (pi_range1 (by rfl) T.range (pa_cons (pe_op op_add pe_int (pe_call GD.ok hr1 rfl GD.g GD.kp GD.b .nil pass0 (pa_cons (pv 0) (pa_cons pe_int pa_nil)))) pa_nil)) (pg_name (i := 3) scBentN.nd rfl (.inl rfl))
        (pss_cons (ps_par (i := 4) (j := 5) rfl scBentN.nd rfl rfl (by decide) rfl rfl (pa_cons (pe_call GD.ok hr1 rfl GD.g GD.kp GD.b .nil pass0 (pa_cons (pv 0) (pa_cons pe_int pa_nil)))
          (pa_cons (pe_call GD.ok hr1 rfl GD.g GD.kp GD.b .nil pass0 (pa_cons (pv 0) (pa_cons (pe_op op_add (pe_callB call_len_seq (by rfl) T.len PySem.boot_len (pa_cons (pv 1) pa_nil)) pe_int) pa_nil))) pa_nil)) (by rfl))
        <| pss_cons (ps_invP (J := BJ H p c m 0) (J' := BJ H p c m 1) (ps_if (pt_cmpR op_eq (pv 4) pe_int (nomark _))
            (pss_cons (ps_set (i := 6) scBentN.nd rfl (.inl rfl) (pe_call GP.ok hr rfl GP.g GP.kp GP.b .nil pass0 (pa_cons (pv 0) (pa_cons (pe_lst (pa_cons pe_bl (pa_cons pe_bl (pa_cons pe_non (pa_cons pe_str (pa_cons (pe_un un_neg pe_int) (pa_cons (pv 2)
              (pa_cons (pe_op op_pow pe_int pe_int) (pa_cons (pe_tup (pa_cons pe_int pa_nil)) (pa_cons (pe_lst (pa_cons pe_int pa_nil)) (pa_cons pe_dnewK (pa_cons pe_int (pa_cons pe_int pa_nil))))))))))))) pa_nil))))
            <| pss_one (ps_set (i := 1) scBentN.nd rfl (.inl rfl) (pe_op op_catX (pe_op op_catX (pe_slice sl_X (pv 1) po_none (po_some (pv 5))) (pe_tup (pa_cons (pv 6) pa_nil))) (pe_slice sl_X (pv 1) (po_some (pe_op op_add (pv 5) pe_int)) po_none)))) pss_nil) ?i0)
        <| pss_cons (ps_invP (J := BJ H p c m 1) (J' := BJ H p c m 2) (ps_if (pt_cmpR op_eq (pv 4) pe_int (nomark _))
            (pss_one (ps_set (i := 1) scBentN.nd rfl (.inl rfl) (pe_op op_catX (pe_op op_catX (pe_slice sl_X (pv 1) po_none (po_some (pv 5))) (pe_tup (pa_cons (pe_call GD.ok hr1 rfl GD.g GD.kp GD.b .nil pass0 (pa_cons (pv 0) (pa_cons (pe_op op_add (pv 2) pe_int) pa_nil))) pa_nil))) (pe_slice sl_X (pv 1) (po_some (pv 5)) po_none)))) pss_nil) ?i1)
        <| pss_cons (ps_invP (J := BJ H p c m 2) (J' := BJ H p c m 3) (ps_if (pt_cmpR op_eq (pv 4) pe_int (nomark _))
            (pss_one (ps_set (i := 1) scBentN.nd rfl (.inl rfl) (pe_op op_catX (pe_slice sl_X (pv 1) po_none (po_some (pv 5))) (pe_slice sl_X (pv 1) (po_some (pe_op op_add (pv 5) pe_int)) po_none)))) pss_nil) ?i2)
        <| pss_cons (ps_invP (J := BJ H p c m 3) (J' := BJ H p c m 4) (ps_if (pt_cmpR op_eq (pv 4) pe_int (nomark _))
            (pss_one (ps_set (i := 1) scBentN.nd rfl (.inl rfl) (pe_op op_catX (KR.pe_revT (pe_slice sl_X (pv 1) po_none (po_some (pv 5)))) (pe_slice sl_X (pv 1) (po_some (pv 5)) po_none)))) pss_nil) ?i3)
        <| pss_cons (ps_invP (J := BJ H p c m 4) (J' := BJ H p c m 5) (ps_if (pt_cmpR op_eq (pv 4) pe_int (nomark _))
            (pss_one (ps_set (i := 1) scBentN.nd rfl (.inl rfl) (pe_op op_catX (pe_slice sl_X (pv 1) (po_some (pv 5)) po_none) (pe_slice sl_X (pv 1) po_none (po_some (pv 5)))))) pss_nil) ?i4)
        <| pss_cons (ps_invP (J := BJ H p c m 5) (J' := BJ H p c m 6) (ps_if (pt_cmpR op_eq (pv 4) pe_int (nomark _))
            (pss_one (ps_set (i := 1) scBentN.nd rfl (.inl rfl) (pe_op op_catX (pe_op op_catX (pe_slice sl_X (pv 1) po_none (po_some (pv 5))) (pe_slice sl_X (pe_slice sl_X (pv 1) po_none (po_some (pv 5))) (po_some (pe_un un_neg pe_int)) po_none)) (pe_slice sl_X (pv 1) (po_some (pv 5)) po_none)))) pss_nil) ?i5)
        <| pss_one (ps_invP (J := BJ H p c m 6) (J' := BJ H p c m 7) (ps_if (pt_cmpR op_eq (pv 4) pe_int (nomark _))
            (pss_one (ps_set (i := 1) scBentN.nd rfl (.inl rfl) (pe_op op_catX (pe_op op_catX (pe_slice sl_X (pv 1) po_none (po_some (pv 5))) (pe_tup (pa_cons (pe_call GD.ok hr1 rfl GD.g GD.kp GD.b .nil pass0 (pa_cons (pv 0) (pa_cons (pe_op op_add (pv 2) pe_int) pa_nil))) pa_nil))) (pe_slice sl_X (pv 1) (po_some (pe_op op_add (pv 5) pe_int)) po_none)))) pss_nil) ?i6)))
      <| pss_one (ps_ret (pe_ifExp (pt_cmpR op_eq (pe_call GD.ok hr1 rfl GD.g GD.kp GD.b .nil pass0 (pa_cons (pv 0) (pa_cons pe_int pa_nil))) pe_int (nomark _))
          (pe_call GP.ok hr rfl GP.g GP.kp GP.b .nil pass0 (pa_cons (pv 0) (pa_cons (pe_lst (pa_cons (pe_callTy call_list_of (by rfl) T.list (by decide +kernel) (pa_cons (pv 1) pa_nil)) (pa_cons (pe_tup (pa_cons (pv 1) pa_nil)) (pa_cons (pe_op op_catX (pv 1) (pe_tup (pa_cons pe_int pa_nil))) pa_nil)))) pa_nil))) (pv 1))), ?_⟩
    case i0 =>
      rintro b D0 σ M ⟨a, xs, o3, wy, at', o6, rfl, a0, ea, DM, KM, AM, lb, b28⟩ nx
      have fin : ∀ (r : Addr) (M' : Hp) (ys : List V) (o6 : Option V), M' r = some (.tup ys) → Deck M' p c → Kp p c M M' → AV p c M' ys → ys.length ≤ b + 1 → D0.nx [some (.ref p), some (.ref r), some (.int (m : Int)), o3, some (.int wy), some (.int at'), o6] M' := fun r M' ys o6 h1 h2 h3 h4 h5 => nx _ _ ⟨r, ys, o3, wy, at', o6, rfl, a0, h1, h2, KM.trans h3, h4, h5, b28⟩
      have z30 : ∀ {x : Nat}, x ≤ 1000 → x ≤ sizeLine := fun h => by rw [sizeLine_eq]; omega
      have cl1 := cutV_len (xs := xs) (lo := none) (hi := some at')
      have cl2 := cutV_len (xs := xs) (lo := some at') (hi := none)
      have cl3 := cutV_len (xs := xs) (lo := some (at' + 1)) (hi := none)
      refine ⟨_, rfl, rfl, _, rfl, ite2 (fun _ => ?_) (fun _ => nx _ _ ⟨a, xs, o3, wy, at', o6, rfl, a0, ea, DM, KM, AM, by omega, b28⟩)⟩
      refine ⟨_, rfl, _, rfl, _, rfl, _, _, rfl, rfl, ⟨by decide, by decide, by decide⟩, by show 1 ≤ sizeLine; exact z30 (by decide), fun t ht => ⟨by show 1 ≤ sizeLine; exact z30 (by decide), fun l0 hl0 d0 hd0 => ⟨by show 12 ≤ sizeLine; exact z30 (by decide), fun lm hlm => ?_⟩⟩⟩
      have s1 : Same M (upd M t (.tup [.int 0])) := same_new ht
      have s2 := s1.trans (same_new (o := .lst [.int 0]) hl0)
      have s3 := s2.trans (same_new (o := .dK []) hd0)
      have s4 : Same M (upd (upd (upd (upd M t (.tup [.int 0])) l0 (.lst [.int 0])) d0 (.dK [])) lm (.lst [.bl true, .bl false, .non, .str "0", .int (-1), .int m, .int (10 ^ (39 : Int).toNat), .ref t, .ref l0, .ref d0, .int 1, .int 0])) := s3.trans (same_new hlm)
      have D4 := DM.same s4
      obtain ⟨lp, lc⟩ := DM.inp (s3.free hlm)
      obtain ⟨tp, tc⟩ := DM.inp ht
      obtain ⟨l0p, l0c⟩ := DM.inp (s1.free hl0)
      obtain ⟨dp, dc⟩ := DM.inp (s2.free hd0)
      refine ⟨p, c, lm, _, rfl, D4, upd_same, lp, lc, by show 1 ≤ 12; decide, by show 12 < 1000; decide, fun i v M5 e D5 K5 => ?_⟩
      have e1 : (upd M t (.tup [V.int 0])) t = some (.tup [.int 0]) := upd_same
      have e2 : (upd (upd M t (.tup [V.int 0])) l0 (.lst [.int 0])) l0 = some (.lst [.int 0]) := upd_same
      have mt := K5 _ _ tp tc (show _ = some (HO.tup [.int 0]) by rw [upd_ne (ne_of_none (by rw [upd_ne (ne_of_none (by rw [upd_ne (ne_of_none e1 hl0)]; exact e1) hd0), upd_ne (ne_of_none e1 hl0)]; exact e1) hlm), upd_ne (ne_of_none (by rw [upd_ne (ne_of_none e1 hl0)]; exact e1) hd0), upd_ne (ne_of_none e1 hl0)]; exact e1)
      have ml := K5 _ _ l0p l0c (show _ = some (HO.lst [.int 0]) by rw [upd_ne (ne_of_none (by rw [upd_ne (ne_of_none e2 hd0)]; exact e2) hlm), upd_ne (ne_of_none e2 hd0)]; exact e2)
      have md := K5 _ _ dp dc (show _ = some (HO.dK []) by rw [upd_ne (ne_of_none upd_same hlm)]; exact upd_same)
      have k5 := (kp_same (p := p) (c := c) s4).trans K5
      have odd : ∀ M', Kp p c M5 M' → ∃ t, VT M' v t := fun M' k' => by
        have hv := List.mem_of_getElem? e
        simp only [List.mem_cons, List.not_mem_nil, or_false] at hv
        rcases hv with rfl | rfl | rfl | rfl | rfl | rfl | rfl | rfl | rfl | rfl | rfl | rfl
        · exact ⟨_, .bl true⟩
        · exact ⟨_, .bl false⟩
        · exact ⟨_, .non⟩
        · exact ⟨_, .str "0"⟩
        · exact ⟨_, .int (-1)⟩
        · exact ⟨_, .int m⟩
        · exact ⟨_, .int _⟩
        · exact ⟨_, .tup (.inl (k' _ _ tp tc mt))⟩
        · exact ⟨_, .lst (k' _ _ l0p l0c ml)⟩
        · exact ⟨_, .dct (k' _ _ dp dc md)⟩
        · exact ⟨_, .int 1⟩
        · exact ⟨_, .int 0⟩
      have ea5 := k5.tup DM _ _ ea
      refine ⟨_, rfl, _, rfl, _, rfl, a, xs, rfl, ea5, fun r1 M6 s6 u1 => ⟨_, rfl, by show 1 ≤ sizeLine; exact z30 (by decide), fun r2 hr2 => ?_⟩⟩
      have s7 : Same M5 (upd M6 r2 (.tup [v])) := s6.trans (same_new hr2)
      refine ⟨r1, r2, _, [v], rfl, rfl, same_new hr2 _ _ u1, upd_same, by show _ + 1 ≤ sizeLine; exact z30 (by omega), fun r3 M7 s8 u3 => ?_⟩
      refine ⟨_, rfl, _, rfl, _, _, rfl, rfl, _, rfl, a, xs, rfl, (s7.trans s8) _ _ ea5, fun r4 M8 s9 u4 => ?_⟩
      refine ⟨r3, r4, _, _, rfl, rfl, s9 _ _ u3, u4, by rw [List.length_append]; show _ + 1 + _ ≤ sizeLine; exact z30 (by omega), fun r5 M9 s10 u5 => ?_⟩
      have S5 := ((s7.trans s8).trans s9).trans s10
      have K9 := k5.trans (kp_same S5)
      exact fin r5 M9 _ _ u5 (D5.same S5) K9 (((AM.mono K9).cut.app ((AV.one odd).mono (kp_same S5))).app (AM.mono K9).cut) (by rw [List.length_append, List.length_append]; show _ + 1 + _ ≤ _; have := cut_two xs a0; omega)
    case i1 =>
      rintro b D0 σ M ⟨a, xs, o3, wy, at', o6, rfl, a0, ea, DM, KM, AM, lb, b28⟩ nx
      have fin : ∀ (r : Addr) (M' : Hp) (ys : List V) (o6 : Option V), M' r = some (.tup ys) → Deck M' p c → Kp p c M M' → AV p c M' ys → ys.length ≤ b + 2 → D0.nx [some (.ref p), some (.ref r), some (.int (m : Int)), o3, some (.int wy), some (.int at'), o6] M' := fun r M' ys o6 h1 h2 h3 h4 h5 => nx _ _ ⟨r, ys, o3, wy, at', o6, rfl, a0, h1, h2, KM.trans h3, h4, h5, b28⟩
      have z30 : ∀ {x : Nat}, x ≤ 1000 → x ≤ sizeLine := fun h => by rw [sizeLine_eq]; omega
      have cl1 := cutV_len (xs := xs) (lo := none) (hi := some at')
      have cl2 := cutV_len (xs := xs) (lo := some at') (hi := none)
      have cl3 := cutV_len (xs := xs) (lo := some (at' + 1)) (hi := none)
      refine ⟨_, rfl, rfl, _, rfl, ite2 (fun _ => ?_) (fun _ => nx _ _ ⟨a, xs, o3, wy, at', o6, rfl, a0, ea, DM, KM, AM, by omega, b28⟩)⟩
      refine ⟨_, rfl, _, rfl, _, rfl, a, xs, rfl, ea, fun r1 M1 s1 u1 => ?_⟩
      have D1 := DM.same s1
      refine ⟨_, rfl, _, rfl, _, _, rfl, rfl, p, c, _, rfl, D1, by omega, by omega, fun d M2 d0 d1 D2 K2 => ⟨by show 1 ≤ sizeLine; exact z30 (by decide), fun r2 hr2 => ?_⟩⟩
      have K02 : Kp p c M (upd M2 r2 (.tup [.int d])) := ((kp_same s1).trans K2).trans (kp_new hr2)
      have D3 := D2.new (o := .tup [.int d]) hr2
      refine ⟨r1, r2, _, [.int d], rfl, rfl, (K2.trans (kp_new hr2)).tup D1 _ _ u1, upd_same, by show _ + 1 ≤ sizeLine; exact z30 (by omega), fun r3 M3 s3 u3 => ?_⟩
      refine ⟨_, rfl, _, rfl, _, rfl, a, xs, rfl, (K02.trans (kp_same s3)).tup DM _ _ ea, fun r4 M4 s4 u4 => ?_⟩
      refine ⟨r3, r4, _, _, rfl, rfl, s4 _ _ u3, u4, by rw [List.length_append]; show _ + 1 + _ ≤ sizeLine; exact z30 (by omega), fun r5 M5 s5 u5 => ?_⟩
      have K5 := ((K02.trans (kp_same s3)).trans (kp_same s4)).trans (kp_same s5)
      exact fin r5 M5 _ _ u5 (((D3.same s3).same s4).same s5) K5 (((AM.mono K5).cut.app (AV.int d)).app (AM.mono K5).cut) (by rw [List.length_append, List.length_append]; show _ + 1 + _ ≤ _; have := cut_two xs a0; omega)
    case i2 =>
      rintro b D0 σ M ⟨a, xs, o3, wy, at', o6, rfl, a0, ea, DM, KM, AM, lb, b28⟩ nx
      have fin : ∀ (r : Addr) (M' : Hp) (ys : List V) (o6 : Option V), M' r = some (.tup ys) → Deck M' p c → Kp p c M M' → AV p c M' ys → ys.length ≤ b + 3 → D0.nx [some (.ref p), some (.ref r), some (.int (m : Int)), o3, some (.int wy), some (.int at'), o6] M' := fun r M' ys o6 h1 h2 h3 h4 h5 => nx _ _ ⟨r, ys, o3, wy, at', o6, rfl, a0, h1, h2, KM.trans h3, h4, h5, b28⟩
      have z30 : ∀ {x : Nat}, x ≤ 1000 → x ≤ sizeLine := fun h => by rw [sizeLine_eq]; omega
      have cl1 := cutV_len (xs := xs) (lo := none) (hi := some at')
      have cl2 := cutV_len (xs := xs) (lo := some at') (hi := none)
      have cl3 := cutV_len (xs := xs) (lo := some (at' + 1)) (hi := none)
      refine ⟨_, rfl, rfl, _, rfl, ite2 (fun _ => ?_) (fun _ => nx _ _ ⟨a, xs, o3, wy, at', o6, rfl, a0, ea, DM, KM, AM, by omega, b28⟩)⟩
      refine ⟨_, rfl, _, rfl, _, rfl, a, xs, rfl, ea, fun r1 M1 s1 u1 => ⟨_, rfl, _, rfl, _, _, rfl, rfl, _, rfl, a, xs, rfl, s1 _ _ ea, fun r2 M2 s2 u2 => ⟨r1, r2, _, _, rfl, rfl, s2 _ _ u1, u2, z30 (by omega), fun r3 M3 s3 u3 => ?_⟩⟩⟩
      have K3 : Kp p c M M3 := ((kp_same s1).trans (kp_same s2)).trans (kp_same s3)
      exact fin r3 M3 _ _ u3 (((DM.same s1).same s2).same s3) K3 ((AM.mono K3).cut.app (AM.mono K3).cut) (by rw [List.length_append]; have := cut_two xs a0; omega)
    case i3 =>
      rintro b D0 σ M ⟨a, xs, o3, wy, at', o6, rfl, a0, ea, DM, KM, AM, lb, b28⟩ nx
      have fin : ∀ (r : Addr) (M' : Hp) (ys : List V) (o6 : Option V), M' r = some (.tup ys) → Deck M' p c → Kp p c M M' → AV p c M' ys → ys.length ≤ b + 4 → D0.nx [some (.ref p), some (.ref r), some (.int (m : Int)), o3, some (.int wy), some (.int at'), o6] M' := fun r M' ys o6 h1 h2 h3 h4 h5 => nx _ _ ⟨r, ys, o3, wy, at', o6, rfl, a0, h1, h2, KM.trans h3, h4, h5, b28⟩
      have z30 : ∀ {x : Nat}, x ≤ 1000 → x ≤ sizeLine := fun h => by rw [sizeLine_eq]; omega
      have cl1 := cutV_len (xs := xs) (lo := none) (hi := some at')
      have cl2 := cutV_len (xs := xs) (lo := some at') (hi := none)
      have cl3 := cutV_len (xs := xs) (lo := some (at' + 1)) (hi := none)
      refine ⟨_, rfl, rfl, _, rfl, ite2 (fun _ => ?_) (fun _ => nx _ _ ⟨a, xs, o3, wy, at', o6, rfl, a0, ea, DM, KM, AM, by omega, b28⟩)⟩
      refine ⟨_, rfl, _, rfl, _, rfl, a, xs, rfl, ea, fun r1 M1 s1 u1 => ⟨r1, _, rfl, SqT.of u1, fun r0 hr0 => ?_⟩⟩
      have s1' := s1.trans (same_new (o := .tup (cutV xs none (some at')).reverse) hr0)
      refine ⟨_, rfl, _, rfl, _, rfl, a, xs, rfl, s1' _ _ ea, fun r2 M2 s2 u2 => ⟨r0, r2, _, _, rfl, rfl, s2 _ _ upd_same, u2, by rw [List.length_reverse]; exact z30 (by omega), fun r3 M3 s3 u3 => ?_⟩⟩
      have K3 : Kp p c M M3 := ((kp_same s1').trans (kp_same s2)).trans (kp_same s3)
      exact fin r3 M3 _ _ u3 (((DM.same s1').same s2).same s3) K3 (((AM.mono K3).cut.sub fun x hx => List.mem_reverse.mp hx).app (AM.mono K3).cut) (by rw [List.length_append, List.length_reverse]; have := cut_two xs a0; omega)
    case i4 =>
      rintro b D0 σ M ⟨a, xs, o3, wy, at', o6, rfl, a0, ea, DM, KM, AM, lb, b28⟩ nx
      have fin : ∀ (r : Addr) (M' : Hp) (ys : List V) (o6 : Option V), M' r = some (.tup ys) → Deck M' p c → Kp p c M M' → AV p c M' ys → ys.length ≤ b + 5 → D0.nx [some (.ref p), some (.ref r), some (.int (m : Int)), o3, some (.int wy), some (.int at'), o6] M' := fun r M' ys o6 h1 h2 h3 h4 h5 => nx _ _ ⟨r, ys, o3, wy, at', o6, rfl, a0, h1, h2, KM.trans h3, h4, h5, b28⟩
      have z30 : ∀ {x : Nat}, x ≤ 1000 → x ≤ sizeLine := fun h => by rw [sizeLine_eq]; omega
      have cl1 := cutV_len (xs := xs) (lo := none) (hi := some at')
      have cl2 := cutV_len (xs := xs) (lo := some at') (hi := none)
      have cl3 := cutV_len (xs := xs) (lo := some (at' + 1)) (hi := none)
      refine ⟨_, rfl, rfl, _, rfl, ite2 (fun _ => ?_) (fun _ => nx _ _ ⟨a, xs, o3, wy, at', o6, rfl, a0, ea, DM, KM, AM, by omega, b28⟩)⟩
      refine ⟨_, rfl, _, rfl, _, rfl, a, xs, rfl, ea, fun r1 M1 s1 u1 => ⟨_, rfl, _, rfl, _, rfl, a, xs, rfl, s1 _ _ ea, fun r2 M2 s2 u2 => ⟨r1, r2, _, _, rfl, rfl, s2 _ _ u1, u2, z30 (by omega), fun r3 M3 s3 u3 => ?_⟩⟩⟩
      have K3 : Kp p c M M3 := ((kp_same s1).trans (kp_same s2)).trans (kp_same s3)
      exact fin r3 M3 _ _ u3 (((DM.same s1).same s2).same s3) K3 ((AM.mono K3).cut.app (AM.mono K3).cut) (by rw [List.length_append]; have := cut_two xs a0; omega)
    case i5 =>
      rintro b D0 σ M ⟨a, xs, o3, wy, at', o6, rfl, a0, ea, DM, KM, AM, lb, b28⟩ nx
      have fin : ∀ (r : Addr) (M' : Hp) (ys : List V) (o6 : Option V), M' r = some (.tup ys) → Deck M' p c → Kp p c M M' → AV p c M' ys → ys.length ≤ b + 6 → D0.nx [some (.ref p), some (.ref r), some (.int (m : Int)), o3, some (.int wy), some (.int at'), o6] M' := fun r M' ys o6 h1 h2 h3 h4 h5 => nx _ _ ⟨r, ys, o3, wy, at', o6, rfl, a0, h1, h2, KM.trans h3, h4, h5, b28⟩
      have z30 : ∀ {x : Nat}, x ≤ 1000 → x ≤ sizeLine := fun h => by rw [sizeLine_eq]; omega
      have cl1 := cutV_len (xs := xs) (lo := none) (hi := some at')
      have cl2 := cutV_len (xs := xs) (lo := some at') (hi := none)
      have cl3 := cutV_len (xs := xs) (lo := some (at' + 1)) (hi := none)
      refine ⟨_, rfl, rfl, _, rfl, ite2 (fun _ => ?_) (fun _ => nx _ _ ⟨a, xs, o3, wy, at', o6, rfl, a0, ea, DM, KM, AM, by omega, b28⟩)⟩
      have cl4 := cutV_len (xs := cutV xs none (some at')) (lo := some (-1)) (hi := none)
      have cl5 := cut_last (cutV xs none (some at'))
      refine ⟨_, rfl, _, rfl, _, rfl, a, xs, rfl, ea, fun r1 M1 s1 u1 => ⟨_, rfl, _, rfl, _, rfl, a, xs, rfl, s1 _ _ ea, fun r2 M2 s2 u2 => ⟨_, rfl, _, rfl, r2, _, rfl, u2, fun r3 M3 s3 u3 => ?_⟩⟩⟩
      refine ⟨r1, r3, _, _, rfl, rfl, s3 _ _ (s2 _ _ u1), u3, z30 (by omega), fun r4 M4 s4 u4 => ⟨_, rfl, _, rfl, _, rfl, a, xs, rfl, (((s1.trans s2).trans s3).trans s4) _ _ ea, fun r5 M5 s5 u5 => ?_⟩⟩
      have S5 := (((s1.trans s2).trans s3).trans s4).trans s5
      refine ⟨r4, r5, _, _, rfl, rfl, s5 _ _ u4, u5, by rw [List.length_append]; exact z30 (by omega), fun r6 M6 s6 u6 => ?_⟩
      have K6 : Kp p c M M6 := (kp_same S5).trans (kp_same s6)
      exact fin r6 M6 _ _ u6 ((DM.same S5).same s6) K6 (((AM.mono K6).cut.app (AM.mono K6).cut.cut).app (AM.mono K6).cut) (by rw [List.length_append, List.length_append]; have := cut_two xs a0; omega)
    case i6 =>
      rintro b D0 σ M ⟨a, xs, o3, wy, at', o6, rfl, a0, ea, DM, KM, AM, lb, b28⟩ nx
      have fin : ∀ (r : Addr) (M' : Hp) (ys : List V) (o6 : Option V), M' r = some (.tup ys) → Deck M' p c → Kp p c M M' → AV p c M' ys → ys.length ≤ b + 7 → D0.nx [some (.ref p), some (.ref r), some (.int (m : Int)), o3, some (.int wy), some (.int at'), o6] M' := fun r M' ys o6 h1 h2 h3 h4 h5 => nx _ _ ⟨r, ys, o3, wy, at', o6, rfl, a0, h1, h2, KM.trans h3, h4, h5, b28⟩
      have z30 : ∀ {x : Nat}, x ≤ 1000 → x ≤ sizeLine := fun h => by rw [sizeLine_eq]; omega
      have cl1 := cutV_len (xs := xs) (lo := none) (hi := some at')
      have cl2 := cutV_len (xs := xs) (lo := some at') (hi := none)
      have cl3 := cutV_len (xs := xs) (lo := some (at' + 1)) (hi := none)
      refine ⟨_, rfl, rfl, _, rfl, ite2 (fun _ => ?_) (fun _ => nx _ _ ⟨a, xs, o3, wy, at', o6, rfl, a0, ea, DM, KM, AM, by omega, b28⟩)⟩
      refine ⟨_, rfl, _, rfl, _, rfl, a, xs, rfl, ea, fun r1 M1 s1 u1 => ?_⟩
      have D1 := DM.same s1
      refine ⟨_, rfl, _, rfl, _, _, rfl, rfl, p, c, _, rfl, D1, by omega, by omega, fun d M2 d0 d1 D2 K2 => ⟨by show 1 ≤ sizeLine; exact z30 (by decide), fun r2 hr2 => ?_⟩⟩
      have K02 : Kp p c M (upd M2 r2 (.tup [.int d])) := ((kp_same s1).trans K2).trans (kp_new hr2)
      have D3 := D2.new (o := .tup [.int d]) hr2
      refine ⟨r1, r2, _, [.int d], rfl, rfl, (K2.trans (kp_new hr2)).tup D1 _ _ u1, upd_same, by show _ + 1 ≤ sizeLine; exact z30 (by omega), fun r3 M3 s3 u3 => ?_⟩
      refine ⟨_, rfl, _, rfl, _, _, rfl, rfl, _, rfl, a, xs, rfl, (K02.trans (kp_same s3)).tup DM _ _ ea, fun r4 M4 s4 u4 => ?_⟩
      refine ⟨r3, r4, _, _, rfl, rfl, s4 _ _ u3, u4, by rw [List.length_append]; show _ + 1 + _ ≤ sizeLine; exact z30 (by omega), fun r5 M5 s5 u5 => ?_⟩
      have K5 := ((K02.trans (kp_same s3)).trans (kp_same s4)).trans (kp_same s5)
      exact fin r5 M5 _ _ u5 (((D3.same s3).same s4).same s5) K5 (((AM.mono K5).cut.app (AV.int d)).app (AM.mono K5).cut) (by rw [List.length_append, List.length_append]; show _ + 1 + _ ≤ _; have := cut_two xs a0; omega)
    refine ⟨_, rfl, p, c, _, rfl, D, by decide, by decide, fun r H1 r0 r1 D1 K1 => ⟨_, _, rfl, rfl, _, rfl, by omega, by omega, ?_⟩⟩
    refine for_range (lo := 0) (n := (1 + r).toNat) (fun i σ M => ∃ (a : Addr) (xs : List V) (o3 o4 o5 o6 : Option V), σ = [some (.ref p), some (.ref a), some (.int (m : Int)), o3, o4, o5, o6] ∧ M a = some (.tup xs) ∧ Deck M p c ∧ Kp p c H M ∧ AV p c M xs ∧ xs.length ≤ 40 + 7 * i)
      ⟨a, xs, none, none, none, none, rfl, K1.tup D _ _ ha, D1, K1, av.mono K1, hl⟩ ?_ ?_
    · rintro i σ M hi ⟨a, xs, o3, o4, o5, o6, rfl, ea, DM, KM, AM, lb⟩
      refine ⟨_, rfl, p, c, _, rfl, DM, by decide, by decide, fun wy M1 w0 w1 D2 K2 => ⟨_, rfl, _, rfl, a, _, rfl, .inr (SqT.of (K2.tup DM _ _ ea)), _, _, rfl, rfl, p, c, _, rfl, D2, by omega, by omega, fun at' M2 a0 a1 D3 K3 => ⟨_, _, rfl, ?_⟩⟩⟩
      have K23 := K2.trans K3
      refine ⟨40 + 7 * i, ⟨a, xs, _, wy, at', o6, rfl, a0, K23.tup DM _ _ ea, D3, KM.trans K23, AM.mono K23, by omega, by omega⟩, fun σ M h => ⟨_, h, fun σ M h => ⟨_, h, fun σ M h => ⟨_, h, fun σ M h => ⟨_, h, fun σ M h => ⟨_, h, fun σ M h => ⟨_, h, fun σ M h => ?_⟩⟩⟩⟩⟩⟩⟩
      obtain ⟨a, xs, o3, wy, at', o6, e, _, h1, h2, h3, h4, h5, h6⟩ := h
      exact ⟨a, xs, o3, _, _, o6, e, h1, h2, h3, h4, by omega⟩
    · rintro σ M ⟨a, xs, o3, o4, o5, o6, rfl, ea, DM, KM, AM, lb⟩
      have l28 : xs.length ≤ 54 := by
        have : (1 + r).toNat ≤ 2 := by omega
        omega
      refine ⟨_, rfl, p, c, _, rfl, DM, by decide, by decide, fun d M1 d0 d1 D2 K2 => ⟨rfl, _, rfl, ite2 (fun _ => ?_) (fun _ => ?_)⟩⟩
      rotate_left
      · exact ⟨_, rfl, k _ _ (Thd.tup D2 (K2.tup DM _ _ ea) (AM.mono K2) (by omega)) D2 (KM.trans K2)⟩
      have e1 := K2.tup DM _ _ ea
      refine ⟨_, rfl, _, rfl, a, xs, rfl, .inr (SqT.of e1), fun l hl => ⟨_, rfl, by show 1 ≤ sizeLine; rw [sizeLine_eq]; decide, fun t1 ht1 => ⟨_, rfl, by show 1 ≤ sizeLine; rw [sizeLine_eq]; decide, fun t2 ht2 => ?_⟩⟩⟩
      have s1 : Same M1 (upd M1 l (.lst xs)) := same_new hl
      have s2 := s1.trans (same_new (o := .tup [.ref a]) ht1)
      have s3 := s2.trans (same_new (o := .tup [.int 0]) ht2)
      refine ⟨a, t2, xs, [.int 0], rfl, rfl, s3 _ _ e1, upd_same, by show _ + 1 ≤ sizeLine; rw [sizeLine_eq]; omega, fun t3 M4 s4 u3 => ⟨by show 3 ≤ sizeLine; decide, fun lm hlm => ?_⟩⟩
      have s5 := (s3.trans s4).trans (same_new (o := .lst [.ref l, .ref t1, .ref t3]) hlm)
      have D5 := D2.same s5
      obtain ⟨lmp, lmc⟩ := D2.inp ((s3.trans s4).free hlm)
      obtain ⟨lp, lc⟩ := D2.inp hl
      refine ⟨p, c, lm, _, rfl, D5, upd_same, lmp, lmc, by show 1 ≤ 3; decide, by show 3 < 1000; decide, fun j v M6 hj D6 K6 => ?_⟩
      have K26 := (kp_same (p := p) (c := c) s5).trans K6
      have tm : ∀ {a x}, (upd M4 lm (.lst [.ref l, .ref t1, .ref t3])) a = some (HO.tup x) → M6 a = some (.tup x) := fun e => K6.tup D5 _ _ e
      have hv := List.mem_of_getElem? hj
      simp only [List.mem_cons, List.not_mem_nil, or_false] at hv
      refine k v M6 ?_ D6 ((KM.trans K2).trans K26)
      rcases hv with rfl | rfl | rfl
      · have el : M6 l = some (.lst xs) := K6 _ _ lp lc (by
          rw [upd_ne (ne_of_none (s4 _ _ (same_new ht2 _ _ (same_new ht1 _ _ upd_same))) hlm)]
          exact s4 _ _ (same_new ht2 _ _ (same_new ht1 _ _ upd_same)))
        exact ⟨none, fun M' k' => .oth (.lst (k' _ _ lp lc el)) (by decide)⟩
      · have et : M6 t1 = some (.tup [.ref a]) := tm (same_new hlm _ _ (s4 _ _ (same_new ht2 _ _ upd_same)))
        exact Thd.tup D6 et (AV.one fun M' k' => ⟨_, .tup (.inl (k'.tup D6 _ _ (K26.tup D2 _ _ e1)))⟩) (by show 1 ≤ 60; decide)
      · exact Thd.tup D6 (tm (same_new hlm _ _ u3)) ((AM.mono (K2.trans K26)).app (AV.int 0)) (by rw [List.length_append]; show _ + 1 ≤ 60; omega)
end
end K0

set_option Elab.async false
set_option linter.all false
set_option maxRecDepth 100000
set_option maxHeartbeats 4000000
/-! Rule: sorted(list of tuples of ints), their lengths as they like, none empty. -/
namespace KR
open PySem PySem.Spec L2
open PyProof.Rows hiding St
def shI : Nat → Bool := fun _ => false
theorem items_ints : ∀ {vs : List Value} {ns : List Int} (i : Nat), IntsAre vs ns → tupItems shI i vs = some (ns.map Sum.inl)
  | _, _, _, .nil => rfl
  | _, _, i, .cons n t r => by
    show (if shI i = true then none else (tupItems shI (i + 1) _).map (Sum.inl n :: ·)) = _
    rw [show shI i = false from rfl, if_neg Bool.false_ne_true, items_ints (i + 1) r] <;> rfl
theorem lex_ints : ∀ ns ms : List Int, PyProof.Rows.lexLt itemOrd (ns.map Sum.inl) (ms.map Sum.inl) = HT.lexLt ns ms
  | [], [] => rfl
  | [], _ :: _ => rfl
  | _ :: _, [] => rfl
  | x :: xs, y :: ys => by
    rw [List.map_cons, List.map_cons, PyProof.Rows.lex_cons, HT.lexLt_cons, lex_ints xs ys]
    show (decide (x < y) || (!decide (y < x) && HT.lexLt xs ys)) = _
    by_cases e : x = y
    · rw [if_pos e, decide_eq_false (by omega), decide_eq_false (by omega)] <;> rfl
    · rw [if_neg e]
      by_cases z : x < y
      · rw [decide_eq_true z, Bool.true_or]
      · rw [decide_eq_false z, decide_eq_true (by omega)] <;> rfl
section
variable {prog : Program} {w : World} {A : Around} {s : Shared}
theorem key_of {h : Heap} {v : Value} {ns : List Int} (x : TS.TupInts h v ns) : (tupKind h shI).keyOf v = some (ns.map Sum.inl) := by
  obtain ⟨a, xs, rfl, ⟨o, ho, hc, n, hd⟩, i⟩ := x
  show tupKey h shI (.ref a) = _
  unfold tupKey
  simp only [ho, hd]
  exact items_ints 0 i
theorem tl_cmp {vs : List Value} {k : Value → List Int} (hp : ∀ v ∈ vs, TS.TupInts s.heap v (k v)) : SrtO.Cmp prog w A s (tuples' true) (fun p => p.1 ∈ vs) (SrtO.lt2 fun v u => HT.lexLt (k v) (k u)) := by
  intro p q hm hm'
  refine tup_ltAt true A _ p.1 q.1 _ _ (key_of (hp _ hm)) (key_of (hp _ hm')) ⟨rfl, ?_⟩
  exact lex_ints _ _
theorem tl_firsts {h : Heap} : ∀ {vs : List Value} {k : Value → List Int}, (∀ v ∈ vs, TS.TupInts h v (k v) ∧ k v ≠ []) → ∃ fs, TupsOf h shI vs fs ∧ fs.length = vs.length
  | [], _, _ => ⟨[], .nil, rfl⟩
  | v :: vs, k, hp => by
    obtain ⟨fs, h1, h2⟩ := tl_firsts (fun u hu => hp u (List.mem_cons_of_mem _ hu))
    obtain ⟨⟨a, xs, e, ⟨o, ho, hc, n, hd⟩, i⟩, ne⟩ := hp v (List.mem_cons_self ..)
    generalize k v = ns at i ne
    generalize e1 : xs.toList = us at i
    cases i with
    | nil => exact absurd rfl ne
    | cons x t r =>
      refine ⟨.int x t :: fs, .cons ⟨a, o, xs, n, e, ho, hc, hd, ?_, fun _ => ⟨x, t, rfl⟩, fun z => absurd z (by decide)⟩ h1, by rw [List.length_cons, List.length_cons, h2]⟩
      rw [← Array.getElem?_toList, e1] <;> rfl
theorem tl_sortable {a : Addr} {vs : List Value} {k : Value → List Int} (h0 : 0 < vs.length) (hp : ∀ v ∈ vs, TS.TupInts s.heap v (k v) ∧ k v ≠ []) (ha : ∀ o, s.heap.get? a = some o → o.cls ≠ .type "tuple") :
    SrtO.SortableO prog w A s a vs fun v u => HT.lexLt (k v) (k u) := by
  intro h' keep
  have hp' : ∀ v ∈ vs, TS.TupInts h' v (k v) ∧ k v ≠ [] := fun v hm => ⟨(hp v hm).1.keeps fun b o e c => keep b o (fun z => by subst z; exact ha o e c) e, (hp v hm).2⟩
  obtain ⟨fs, h1, h2⟩ := tl_firsts hp'
  refine ⟨tuples' true, fun Q E hq => ?_, tl_cmp (s := { s with heap := h' }) fun v hm => (hp' v hm).1⟩
  exact tup_kind (s := { s with heap := h' }) (by omega) h1 hq
end
/-- sorted(xs), xs a list of tuples of ints, none empty -/
def rSortTL (K : PySem.W.Frag) : List V → Hp → VK → Prop := fun vs H Q => ∃ (a : Addr) (xs : List V) (k : V → List Int), vs = [V.ref a] ∧ SqL K H a xs ∧ (∀ x ∈ xs, TupI K H x (k x) ∧ k x ≠ []) ∧
  ∀ (ys : List V) (p : Addr), ys.Perm xs → ys.Pairwise (fun x y => HT.lexLt (k y) (k x) = false) → H p = none → Q (.ref p) (upd H p (.lst ys))
section
variable {X : Cx}
theorem cr_sortTL : CallR X (.builtin "sorted") (rSortTL X.K) := by
  intro pins s σ H vs us Q I r h
  obtain ⟨a, xs, k, rfl, hs, hx, q⟩ := h
  obtain ⟨its, rv, hl, hz⟩ := I.list hs
  rw [Vals.ref1 r]
  have bk := bkV_refs rv fun x m => by
    obtain ⟨⟨t, e, _⟩, _⟩ := hx x m
    exact ⟨t, e⟩
  have raw : ∀ v ∈ its, TS.TupInts s.heap v (k (bkV v)) ∧ k (bkV v) ≠ [] := fun v hv => by
    obtain ⟨t, rfl⟩ := bk.2 v hv
    have hm : V.ref t ∈ xs := by
      rw [bk.1]
      exact List.mem_map.mpr ⟨_, hv, rfl⟩
    obtain ⟨⟨t', e, ht⟩, ne⟩ := hx _ hm
    cases e
    exact ⟨tupI_raw I ht, ne⟩
  refine SrtO.sorted_ord (NtL.swo_lexL fun u => k (bkV u)) hl.isList (by rw [← rv.length]; exact hz) (fun h2 h₁ a' ha kk => ?_) fun out h1 h2 => ?_
  · refine tl_sortable (s := { s with heap := h₁ }) (by omega) (fun v hm => ⟨(raw v hm).1.keeps fun b o e _ => (kk b o e).2, (raw v hm).2⟩) fun o e => ?_
    have e' : some o = some (seqObj "list" its.toArray 0) := e.symm.trans ha
    cases e'
    intro c
    exact absurd (Value.type.inj c) (by decide)
  · have refs : ∀ u ∈ out, ∃ t, u = Value.ref t := fun u hu => bk.2 u (h2.perm.mem_iff.mp hu)
    have pm : (out.map bkV).Perm xs := by rw [bk.1]; exact h2.perm.map bkV
    obtain ⟨n, hn⟩ := sortedAll_at s.heap its out.toArray
    refine ⟨.ref (s.heap.objs.size + 1), upd H (s.heap.objs.size + 1) (.lst (out.map bkV)), I.laid (t' := s.toks) (fun b o e => sortedAll_old e) (Nat.le_succ _) ⟨by rw [pm.length_eq]; exact hz, out, n, bkV_vals refs, hn⟩, rfl, q _ _ pm ?_ (I.hok.fresh (Nat.le_succ _))⟩
    exact List.pairwise_map.mpr (h1.imp fun {x y} z => z)
end
end KR

set_option Elab.async false
set_option linter.all false
set_option maxRecDepth 100000
set_option maxHeartbeats 8000000
/-! Values near lots. -/
namespace K0
open PySem PySem.Spec L2
open PyProof.Rows hiding St
open KR (TupX tobj)
/-! ### tuples known whole, put together -/
theorem cut_whole {xs : List V} {lo hi : Option Int} (h : HT.sIx xs.length 0 lo = 0 ∧ HT.sIx xs.length xs.length hi = xs.length) : cutV xs lo hi = xs := by
  unfold cutV
  rw [h.1, h.2, List.drop_zero, Nat.sub_zero, List.take_length]
section
variable {X : Cx}
def rSlU : V → Option Int → Option Int → Hp → VK → Prop := fun x lo hi H Q => ∃ a xs, x = .ref a ∧ TupX H a xs ∧ ∀ r H', Same H H' → TupX H' r (cutV xs lo hi) → Q (.ref r) H'
theorem sl_tupU : SlR X rSlU := fun pins s σ H x v vl vu lo hi sl Q I rx hs pl pu ⟨a, xs, e, t, q⟩ =>
  KR.sl_tupF pins s σ H x v vl vu lo hi sl Q I rx hs pl pu ⟨a, xs, e, t.sq, fun hw => q a H (Same.refl H) ((cut_whole hw).symm ▸ t), fun _ p us hp => q p _ (same_new hp) .of⟩
def rCatU : R2 := fun x y H Q => ∃ a b xs ys, x = .ref a ∧ y = .ref b ∧ TupX H a xs ∧ TupX H b ys ∧ xs.length + ys.length ≤ sizeLine ∧ ∀ r H', Same H H' → TupX H' r (xs ++ ys) → Q (.ref r) H'
theorem op_catU : OpR X (binaryOp .Add) rCatU := fun pins s σ H x y v u Q I rx ry ⟨a, b, xs, ys, e1, e2, t, t', z, q⟩ =>
  KR.op_catF pins s σ H x y v u Q I rx ry ⟨a, b, xs, ys, e1, e2, t.sq, t'.sq, z, fun h => q b H (Same.refl H) (by rw [h]; exact t'), fun _ h => q a H (Same.refl H) (by rw [h, List.append_nil]; exact t), fun _ _ p us hp => q p _ (same_new hp) .of⟩
end
theorem kpT {p c a : Addr} {H H' : Hp} {xs : List V} (t : TupX H a xs) (D : Deck H p c) (k : Kp p c H H') : TupX H' a xs := by
  obtain ⟨us, e⟩ := t
  obtain ⟨ys, m, n, h1, h2, _⟩ := D.ex
  exact ⟨us, k a _ (ne_of e h1 (by intro z; cases z)) (ne_of e h2 (by intro z; cases z)) e⟩
/-! ### items -/
/-- each item is some small datum -/
def Al (H : Hp) (xs : List V) : Prop := ∀ x ∈ xs, ∃ d, DV H Any x d ∧ Tame 0 d
theorem Al.same {H H' : Hp} {xs : List V} (a : Al H xs) (s : Same H H') : Al H' xs := fun x hx => let ⟨d, h1, h2⟩ := a x hx; ⟨d, h1.same s, h2⟩
theorem Al.app {H : Hp} {xs ys : List V} (a : Al H xs) (b : Al H ys) : Al H (xs ++ ys) := fun x hx => (List.mem_append.mp hx).elim (a x) (b x)
theorem Al.sub {H : Hp} {xs ys : List V} (a : Al H xs) (h : ∀ x ∈ ys, x ∈ xs) : Al H ys := fun x hx => a x (h x hx)
theorem Al.cut {H : Hp} {xs : List V} {lo hi : Option Int} (a : Al H xs) : Al H (cutV xs lo hi) := a.sub fun x hx => List.mem_of_mem_drop (List.mem_of_mem_take hx)
theorem Al.data {H : Hp} : ∀ {xs : List V}, Al H xs → ∃ ds : List PyData, xs.length = ds.length ∧ (∀ (i : Nat) (v : V) (d : PyData), xs[i]? = some v → ds[i]? = some d → DV H Any v d) ∧ ∀ d ∈ ds, Tame 0 d
  | [], _ => ⟨[], rfl, (fun i v d z => by simp at z), fun _ z => nomatch z⟩
  | x :: xs, a => by
    obtain ⟨d, h1, h2⟩ := a x (List.mem_cons_self ..)
    obtain ⟨ds, g1, g2, g3⟩ := Al.data (xs := xs) fun y hy => a y (List.mem_cons_of_mem _ hy)
    refine ⟨d :: ds, by rw [List.length_cons, List.length_cons, g1], fun i v e z1 z2 => ?_, fun e he => ?_⟩
    · cases i with
      | zero => cases z1; cases z2; exact h1
      | succ i => exact g2 i v e (by simpa using z1) (by simpa using z2)
    · rcases List.mem_cons.mp he with rfl | he
      · exact h2
      · exact g3 e he
theorem tame_big {ds : List PyData} (h : ∀ d ∈ ds, Tame 0 d) (l : ds.length ≤ 40) : Tame 3 (.tuple ds) ∧ Tame 3 (.list ds) := by
  obtain ⟨h1, h2, h3, h4⟩ := all_of h
  have b0 : bb 0 = 20 := rfl
  have b3 : bb 3 = 1280 := rfl
  have q : ds.length * (bb 0 + 1) ≤ 40 * 21 := by rw [b0]; exact Nat.mul_le_mul_right _ l
  exact ⟨⟨by simp only [PyData.showable, h1], by simp only [PyData.leavesShort, h2], by simp only [PyData.depth]; omega, by simp only [PyData.bulk]; omega, by simp only [slimD, slim_of h, Bool.and_true]; exact decide_eq_true (by omega)⟩, ⟨by simp only [PyData.showable, h1], by simp only [PyData.leavesShort, h2], by simp only [PyData.depth]; omega, by simp only [PyData.bulk]; omega, by simp only [slimD]⟩⟩
theorem int12 : ∀ i : Fin 64, PyData.showable (.int (i.val : Int)) = true ∧ PyData.leavesShort 200 (.int (i.val : Int)) = true := by decide +kernel
theorem small12 {i : Int} (h : 0 ≤ i ∧ i < 64) : PyData.showable (.int i) = true ∧ PyData.leavesShort 200 (.int i) = true := by
  have := int12 ⟨i.toNat, by omega⟩
  have e : ((i.toNat : Nat) : Int) = i := by omega
  rwa [show (((⟨i.toNat, by omega⟩ : Fin 64).val : Nat) : Int) = i from e] at this
theorem tame_small {i : Int} (h : 0 ≤ i ∧ i < 64) (k : Nat) : Tame k (.int i) := ⟨(small12 h).1, (small12 h).2, by simp only [PyData.depth]; omega, by simp only [PyData.bulk]; omega, by simp only [slimD]⟩
/-- a row of small ints, as data -/
theorem ints_nice {ns : List Int} (h : ∀ i ∈ ns, 0 ≤ i ∧ i < 64) : PyData.showableAll (ns.map PyData.int) = true ∧ PyData.leavesShortAll 200 (ns.map PyData.int) = true ∧ PyData.depthAll (ns.map PyData.int) = 0 ∧ PyData.bulkAll (ns.map PyData.int) ≤ ns.length := by
  induction ns with
  | nil => exact ⟨by simp only [List.map_nil, PyData.showableAll], by simp only [List.map_nil, PyData.leavesShortAll], by simp only [List.map_nil, PyData.depthAll], by simp only [List.map_nil, PyData.bulkAll]; exact Nat.zero_le _⟩
  | cons i ns ih =>
    obtain ⟨g1, g2, g3, g4⟩ := ih fun j hj => h j (List.mem_cons_of_mem _ hj)
    obtain ⟨s1, s2⟩ := small12 (h i (List.mem_cons_self ..))
    exact ⟨by simp only [List.map_cons, PyData.showableAll, s1, g1, Bool.and_self], by simp only [List.map_cons, PyData.leavesShortAll, s2, g2, Bool.and_self], by simp only [List.map_cons, PyData.depthAll, PyData.depth, g3]; omega,
      by simp only [List.map_cons, PyData.bulkAll, PyData.bulk, List.length_cons]; omega⟩
theorem tame_lot {n : Nat} {ns : List Int} (h : IsLot n ns) (hn : n ≤ 12) : Tame 0 (.tuple (ns.map PyData.int)) := by
  obtain ⟨g1, g2, g3, g4⟩ := ints_nice (ns := ns) fun i hi => by have := h.bel i hi; omega
  have := lot_len h
  have b0 : bb 0 = 20 := rfl
  exact ⟨by simp only [PyData.showable, g1], by simp only [PyData.leavesShort, g2], by simp only [PyData.depth, g3]; omega, by simp only [PyData.bulk]; omega, by simp only [slimD, slim_ints, Bool.and_true]; exact decide_eq_true (by rw [List.length_map]; omega)⟩
theorem dv_ints {H : Hp} (ns : List Int) : ∀ (i : Nat) (v : V) (d : PyData), (ns.map V.int)[i]? = some v → (ns.map PyData.int)[i]? = some d → DV H Any v d := fun i v d z1 z2 => by
  rw [List.getElem?_map] at z1 z2
  cases e : ns[i]? with
  | none => rw [e] at z1; cases z1
  | some k => rw [e] at z1 z2; cases z1; cases z2; exact .int k
theorem dv_lot {H : Hp} {a : Addr} {ns : List Int} (t : TT H a (ns.map V.int)) : DV H Any (.ref a) (.tuple (ns.map PyData.int)) := .tup trivial t (by rw [List.length_map, List.length_map]) (dv_ints ns)
theorem al_lot {H : Hp} {n : Nat} {ns : List Int} (h : IsLot n ns) (hn : n ≤ 12) : Al H (ns.map V.int) := fun x hx => by
  obtain ⟨i, hi, rfl⟩ := List.mem_map.mp hx
  have := h.bel i hi
  exact ⟨.int i, .int i, tame_small (by omega) 0⟩
/-- what a bent lot is -/
def Bnt (H : Hp) (v : V) : Prop := ∃ (e : PyData) (o : Option (List V)), DV H Any v e ∧ Tame 3 e ∧ Th H v o ∧ NT H v
theorem bnt_tup {H : Hp} {r : Addr} {xs : List V} (t : TupX H r xs) (a : Al H xs) (l : xs.length ≤ 40) : Bnt H (.ref r) := by
  obtain ⟨ds, g1, g2, g3⟩ := a.data
  refine ⟨.tuple ds, some xs, .tup trivial (.inr t) g1 g2, (tame_big g3 (by omega)).1, .tup (.inr t) (fun x hx => let ⟨d, h, _⟩ := a x hx; h.vt) (by omega), ?_⟩
  obtain ⟨us, e⟩ := t
  exact nt_frz e (by omega)
theorem cutV_le {xs : List V} {lo hi : Option Int} : (cutV xs lo hi).length ≤ xs.length := by
  unfold cutV
  rw [List.length_take, List.length_drop]
  omega
def spBent : Sp := fun vs H Q _ => ∃ (p c a : Addr) (n : Nat) (ns : List Int), vs = [.ref p, .int n, .ref a] ∧ 1 ≤ n ∧ n ≤ 12 ∧ Deck H p c ∧ TupX H a (ns.map V.int) ∧ IsLot n ns ∧ ∀ (v : V) (H' : Hp), Bnt H' v → Deck H' p c → Kp p c H H' → Q v H'
section
variable {P : Program} {w0 : World} {K : PySem.W.Frag} {mg : Str → Option Value} {base : Heap}
abbrev nBent : List Str := ["_law_deck_here", "_law_n", "_law_lot_here", "_law_way", "_law_at", "_law_odd"]
end
end K0

set_option Elab.async false
set_option linter.all false
set_option maxRecDepth 100000
set_option maxHeartbeats 8000000
/-! check_lot and cut_of, given lots. -/
namespace K0
open PySem PySem.Spec L2
open PyProof.Rows hiding St
def spCheckLot0 : Sp := fun vs H Q _ => ∃ (w a : Addr) (n : Nat) (L : List (Int × Int)) (ns : List Int), vs = [.ref w, .ref a] ∧ GW H w n L ∧ TT H a (ns.map V.int) ∧ IsLot n ns ∧ ∀ H', Same H H' → Q .non H'
def spCutOf0 : Sp := fun vs H Q _ => ∃ (w a : Addr) (n : Nat) (L : List (Int × Int)) (ns : List Int), vs = [.ref w, .ref a] ∧ GW H w n L ∧ TT H a (ns.map V.int) ∧ IsLot n ns ∧ gCut H a n L ns Q
section
variable {P : Program} {w0 : World} {K : PySem.W.Frag} {mg : Str → Option Value} {base : Heap}
end
end K0

set_option Elab.async false
set_option linter.all false
set_option maxRecDepth 100000
set_option maxHeartbeats 8000000
/-! The program: masks of lots, odd parts, parts, webs within lots. -/
namespace K0
open PySem PySem.Spec L2
open PyProof.Rows hiding St
abbrev pPartsOf : Stmt := top 21
/-- tuples of places -/
inductive TupsAt (H : Hp) : List V → List (List Nat) → Prop
  | nil : TupsAt H [] []
  | cons {t : Addr} {r : List Nat} {vs : List V} {ys : List (List Nat)} (h : TT H t (r.map natV)) (q : TupsAt H vs ys) : TupsAt H (.ref t :: vs) (r :: ys)
theorem TupsAt.mono {H H' : Hp} {vs : List V} {ys : List (List Nat)} (p : TupsAt H vs ys) (s : ∀ a x, TT H a x → TT H' a x) : TupsAt H' vs ys := by
  induction p with
  | nil => exact .nil
  | cons h _ ih => exact .cons (s _ _ h) ih
theorem TupsAt.same {H H' : Hp} {vs : List V} {ys : List (List Nat)} (p : TupsAt H vs ys) (s : Same H H') : TupsAt H' vs ys := p.mono fun _ _ t => t.keep fun o q => s _ _ q
theorem TupsAt.app {H : Hp} {vs ws : List V} {ys zs : List (List Nat)} (p : TupsAt H vs ys) (q : TupsAt H ws zs) : TupsAt H (vs ++ ws) (ys ++ zs) := by
  induction p with
  | nil => exact q
  | cons h _ ih => exact .cons h ih
theorem TupsAt.len {H : Hp} {vs : List V} {ys : List (List Nat)} (p : TupsAt H vs ys) : vs.length = ys.length := by
  induction p with
  | nil => rfl
  | cons _ _ ih => rw [List.length_cons, List.length_cons, ih]
theorem TupsAt.get {H : Hp} {vs : List V} {ys : List (List Nat)} (p : TupsAt H vs ys) : ∀ {i : Nat} {v : V}, vs[i]? = some v → ∃ t r, v = .ref t ∧ ys[i]? = some r ∧ TT H t (r.map natV) := by
  induction p with
  | nil => intro i v z; cases z
  | @cons t r vs ys h _ ih =>
    intro i v z
    cases i with
    | zero => cases z; exact ⟨t, r, rfl, rfl, h⟩
    | succ i => exact ih (by simpa using z)
theorem LotsAt.tups {H : Hp} {vs : List V} {ps : List (Nat × Nat)} (p : LotsAt H vs ps) : TupsAt H vs (ps.map fun q => lotN q.2) := by
  induction p with
  | nil => exact .nil
  | cons h _ ih => exact .cons (.inl h) ih
/-- all parts of the places m, in order -/
structure IsParts (L : List (Int × Int)) (m : Nat) (ys : List (List Nat)) : Prop where
  cls : Cls L m ys
  asc : ys.Pairwise fun a b => hd a < hd b
theorem IsParts.uniq {L : List (Int × Int)} {m : Nat} {ys zs : List (List Nat)} (a : IsParts L m ys) (b : IsParts L m zs) : ys = zs := a.cls.eq b.cls a.asc b.asc
theorem Parts.is {L : List (Int × Int)} {m : Nat} {ps : List (Nat × Nat)} (P : Parts L m ps) (hm : m < 2 ^ 12) : IsParts L m (ps.map fun q => lotN q.2) := ⟨(P.cls hm).1, (P.cls hm).2⟩
/-- ks as a lot -/
theorem nat_lot {n : Nat} {ks : List Nat} (h : ∀ i ∈ ks, i < n) (p : ks.Pairwise (· < ·)) : IsLot n (ks.map fun i => ((i : Nat) : Int)) := by
  refine ⟨fun i hi => ?_, ?_⟩
  · obtain ⟨j, hj, rfl⟩ := List.mem_map.mp hi
    have := h j hj
    omega
  · rw [List.pairwise_map]
    exact p.imp fun {a b} z => by omega
theorem lot_nat {n : Nat} {ns : List Int} (h : IsLot n ns) : ∃ ks : List Nat, ns = ks.map (fun i => ((i : Nat) : Int)) ∧ (∀ i ∈ ks, i < n) ∧ ks.Pairwise (· < ·) := by
  have e : ns = (ns.map Int.toNat).map (fun i => ((i : Nat) : Int)) := by
    rw [List.map_map]
    have : ∀ i ∈ ns, ((fun i => ((i : Nat) : Int)) ∘ Int.toNat) i = id i := fun i hi => by
      have := h.bel i hi
      show ((i.toNat : Nat) : Int) = i
      omega
    rw [List.map_congr_left this, List.map_id]
  refine ⟨ns.map Int.toNat, e, fun i hi => ?_, ?_⟩
  · obtain ⟨j, hj, rfl⟩ := List.mem_map.mp hi
    have := h.bel j hj
    omega
  · rw [List.pairwise_map]
    refine List.Pairwise.imp_of_mem (fun {a b} ha hb z => ?_) h.inc
    have := h.bel a ha
    have := h.bel b hb
    omega
def spMaskOf : Sp := fun vs H Q _ => ∃ (a : Addr) (ks : List Nat), vs = [.ref a] ∧ TT H a (ks.map natV) ∧ (∀ i ∈ ks, i < 12) ∧ ks.length ≤ 60 ∧ ∀ H', Same H H' → Q (.int ((maskN ks : Nat) : Int)) H'
def spOddParts : Sp := fun vs H Q _ => ∃ (l : Addr) (m n : Nat) (ms : List Nat) (L : List (Int × Int)), vs = [.ref l, .int (m : Int)] ∧ H l = some (.lst (ms.map natV)) ∧ Near L n ms ∧ n ≤ 12 ∧ Bel n L ∧ m < 2 ^ n ∧
  ∀ (ys : List (List Nat)) (H' : Hp), Same H H' → IsParts L m ys → Q (.int (((ys.map fun c => c.length % 2).sum : Nat) : Int)) H'
def spPartsOf : Sp := fun vs H Q _ => ∃ (w : Addr) (n : Nat) (L : List (Int × Int)), vs = [.ref w] ∧ GW H w n L ∧ ∀ (t : Addr) (us : List V) (ys : List (List Nat)) (H' : Hp), Same H H' → H t = none → H' t = some (.tup us) → TupsAt H' us ys → IsParts L (2 ^ n - 1) ys → Q (.ref t) H'
def spIsJoined : Sp := fun vs H Q _ => ∃ (w : Addr) (n : Nat) (L : List (Int × Int)), vs = [.ref w] ∧ GW H w n L ∧ ∀ (ys : List (List Nat)) (H' : Hp), Same H H' → IsParts L (2 ^ n - 1) ys → Q (.bl (decide (ys.length = 1))) H'
/-- the places that a lot leaves -/
def restM (n : Nat) (ks : List Nat) : Nat := (2 ^ n - 1) ^^^ maskN ks
theorem restM_bit {n : Nat} {ks : List Nat} (h : ∀ i ∈ ks, i < n) (nd : ks.Nodup) (i : Nat) : (restM n ks).testBit i = true ↔ i < n ∧ i ∉ ks := by
  unfold restM
  rw [Nat.testBit_xor, full_bit]
  have e := mask_bit nd i
  by_cases hk : i ∈ ks
  · rw [e.mpr hk, decide_eq_true (h i hk)]
    simp [hk]
  · have : (maskN ks).testBit i = false := by
      cases q : (maskN ks).testBit i with
      | false => rfl
      | true => exact absurd (e.mp q) hk
    rw [this, Bool.xor_false, decide_eq_true_eq]
    exact ⟨fun z => ⟨z, hk⟩, fun z => z.1⟩
def spOddRests : Sp := fun vs H Q _ => ∃ (w a : Addr) (n : Nat) (L : List (Int × Int)) (ks : List Nat), vs = [.ref w, .ref a] ∧ GW H w n L ∧ TT H a (ks.map natV) ∧ (∀ i ∈ ks, i < n) ∧ ks.Pairwise (· < ·) ∧
  ∀ (ys : List (List Nat)) (H' : Hp), Same H H' → IsParts L (restM n ks) ys → Q (.int (((ys.map fun c => c.length % 2).sum : Nat) : Int)) H'
def spWithin0 : Sp := fun vs H Q _ => ∃ (w a : Addr) (n : Nat) (L : List (Int × Int)) (ns : List Int), vs = [.ref w, .ref a] ∧ GW H w n L ∧ TT H a (ns.map V.int) ∧ IsLot n ns ∧ ns ≠ [] ∧ gIn H L ns Q
def spWithout0 : Sp := fun vs H Q _ => ∃ (w a : Addr) (n : Nat) (L : List (Int × Int)) (ns : List Int), vs = [.ref w, .ref a] ∧ GW H w n L ∧ TT H a (ns.map V.int) ∧ IsLot n ns ∧ restN n ns ≠ [] ∧ gIn H L (restN n ns) Q
section
variable {P : Program} {w0 : World} {K : PySem.W.Frag} {mg : Str → Option Value} {base : Heap}
abbrev nMaskOf : List Str := ["lot", "place"]
abbrev nOddParts : List Str := ["near", "mask", "part"]
theorem scPartsOf : FnScope ["web"] ["web"] (defScope pPartsOf) := ⟨rfl, rfl, rfl, by decide +kernel, rfl, by decide +kernel, by decide +kernel⟩
theorem ok_partsOf {f fC fP : Addr} {fd fdC fdP : FuncData} (F : Fun K "parts_of" "parts_of" pPartsOf f fd) (GC : Dn P w0 K mg base "check_web" 5 ["thing"] spCheckWeb fC fdC) (GP : Dn P w0 K mg base "part_lots" 4 ["web"] spPartLots fP fdP) :
    FnOk P w0 K mg base CX0 6 f fd ["web"] spPartsOf := by
  refine F.ok scPartsOf (fun vs H Q E h => ?_) (fun cdv A outer s H vs Q E hr h => ?_)
  · obtain ⟨w, n, L, rfl, _⟩ := h
    rfl
  · obtain ⟨w, n, L, rfl, G, k⟩ := h
    refine ⟨_, pss_cons (ps_expr (pe_call GC.ok hr rfl GC.g GC.kp GC.b .nil pass0 (pa_cons (pv 0) pa_nil))) <| pss_one (ps_ret (pe_call GP.ok (hr.mono (by decide)) rfl GP.g GP.kp GP.b .nil pass0 (pa_cons (pv 0) pa_nil))), ?_⟩
    have p12 : 2 ^ n ≤ 2 ^ 12 := Nat.pow_le_pow_right (n := 2) (by decide) G.n2
    have pos : 0 < 2 ^ n := Nat.two_pow_pos n
    exact ⟨_, rfl, w, n, L, rfl, G, fun H1 s1 => ⟨_, rfl, w, n, L, rfl, G.same s1, fun t us ps H2 s2 ht e la pt => k t us _ H2 (s1.trans s2) (s1.free ht) e la.tups (pt.is (by omega))⟩⟩
theorem lot_nodup {ks : List Nat} (p : ks.Pairwise (· < ·)) : ks.Nodup := inc_nodup p
theorem nats_ints (ks : List Nat) : (ks.map fun i => ((i : Nat) : Int)).map V.int = ks.map natV := (natV_ints ks).symm
end
end K0

set_option Elab.async false
set_option linter.all false
set_option maxRecDepth 100000
set_option maxHeartbeats 8000000
/-! The law's own look at two sides. -/
namespace K0
open PySem PySem.Spec L2
open PyProof.Rows hiding St
abbrev lTwoSided : Stmt := top 44
def spTwoSided : Sp := fun vs H Q _ => ∃ (w : Addr) (n : Nat) (L : List (Int × Int)), vs = [.ref w] ∧ GW H w n L ∧ ∀ (b : Bool) (H' : Hp), Same H H' → (b = true → ∃ x, Proper L x) → (b = false → ∀ x, ¬ Proper L x) → Q (.bl b) H'
theorem flat_zerosI : ∀ n : Nat, (List.replicate n [V.int 0]).flatten = (List.replicate n (0 : Int)).map V.int
  | 0 => rfl
  | n + 1 => by rw [List.replicate_succ, List.flatten_cons, flat_zerosI n, List.replicate_succ, List.map_cons] <;> rfl
theorem sd_get {s : List Int} {i : Nat} (h : i < s.length) : (s.map V.int)[i]? = some (V.int (sd s i)) := by
  unfold sd
  rw [List.getElem?_map, List.getD_eq_getElem?_getD, List.getElem?_eq_getElem h] <;> rfl
theorem int_set (s : List Int) (i : Nat) (x : Int) : (s.map V.int).set i (.int x) = (s.set i x).map V.int := List.map_set.symm
/-- how many have no side yet -/
def zc : List Int → Nat
  | [] => 0
  | x :: s => (if x = 0 then 1 else 0) + zc s
theorem zc_set : ∀ {s : List Int} {i : Nat} {v : Int}, i < s.length → sd s i = 0 → v ≠ 0 → zc (s.set i v) + 1 = zc s
  | [], _, _, h, _, _ => absurd h (Nat.not_lt_zero _)
  | x :: s, 0, v, _, h0, hv => by
    have e : x = 0 := h0
    rw [List.set_cons_zero, zc, zc, if_neg hv, if_pos e]
    omega
  | x :: s, i + 1, v, h, h0, hv => by
    have := zc_set (s := s) (i := i) (v := v) (Nat.lt_of_succ_lt_succ h) h0 hv
    rw [List.set_cons_succ, zc, zc]
    omega
theorem zc_le : ∀ s : List Int, zc s ≤ s.length
  | [] => Nat.le_refl _
  | x :: s => by
    have := zc_le s
    rw [zc, List.length_cons]
    split <;> omega
def muTwo : L2.St → Hp → Nat := fun σ M => match σ with
  | [_, some (.ref p), _, some (.ref q), _, _, _] => (match M p, M q with | some (.lst xs), some (.lst ws) => zc (xs.map intV) + ws.length | _, _ => 0)
  | _ => 0
theorem Two.imp {L : List (Int × Int)} {n : Nat} {s : List Int} {todo : List Nat} {here here' : Nat → Nat → Prop} (T : Two L n s todo here) (h : ∀ a b, here a b → here' a b ∨ sd s b = - sd s a) : Two L n s todo here' := ⟨T.len, T.val, T.wait, T.con, fun a ha na b ab => (T.fin a ha na b ab).elim (h a b) .inr⟩
theorem adj_drop {L : List (Int × Int)} {i : Nat} {q : Int × Int} (hq : L[i]? = some q) {a b : Nat} (h : Adj (L.drop i) a b) : Adj [q] a b ∨ Adj (L.drop (i + 1)) a b := by
  obtain ⟨hi, e⟩ := List.getElem?_eq_some_iff.mp hq
  rw [List.drop_eq_getElem_cons hi, e] at h
  unfold Adj at h ⊢
  simp only [List.mem_cons, List.not_mem_nil, or_false] at h ⊢
  rcases h with (h | h) | (h | h)
  · exact .inl (.inl h)
  · exact .inr (.inl h)
  · exact .inl (.inr h)
  · exact .inr (.inr h)
/-- the ties that are still to be looked at -/
abbrev hereL (L : List (Int × Int)) (pl i : Nat) : Nat → Nat → Prop := fun a b => a = pl ∧ Adj (L.drop i) a b
structure TwX where
  H : Hp
  w : Addr
  sl : Addr
  n : Nat
  L : List (Int × Int)
  i : Nat
def TwJ (b : Bool) (x : TwX) : L2.St → Hp → Prop := fun σ M => ∃ (q : Addr) (s : List Int) (todo : List Nat) (o4 o5 o6 : Option V), σ = [some (.ref x.w), some (.ref x.sl), some (.int (0 + (x.i : Int))), some (.ref q), o4, o5, o6] ∧ Same x.H M ∧ M x.sl = some (.lst (s.map V.int)) ∧ M q = some (.lst (todo.map natV)) ∧
  x.H q = none ∧ x.H x.sl = none ∧ q ≠ x.sl ∧ todo.length ≤ 1 ∧ (∀ k, k < x.i → sd s k ≠ 0) ∧ x.i < x.n ∧ if b = true then Two x.L x.n s todo none_ ∧ sd s x.i ≠ 0 else Two x.L x.n s [] none_ ∧ todo = if sd s x.i = 0 then [x.i] else []
def IfTodo (σ : L2.St) (M : Hp) (Q : VK) : Prop := ∃ (sl : Addr) (s : List Int) (i : Nat), σ[1]? = some (some (.ref sl)) ∧ σ[2]? = some (some (.int (0 + (i : Int)))) ∧ M sl = some (.lst (s.map V.int)) ∧ i < s.length ∧ ∀ q, M q = none → Q (.ref q) (upd M q (.lst ((if sd s i = 0 then [i] else []).map natV)))
section
variable {P : Program} {w0 : World} {K : PySem.W.Frag} {mg : Str → Option Value} {base : Heap}
abbrev nTwoSided : List Str := ["_law_web_here", "_law_sides", "_law_start", "_law_todo", "_law_place", "_law_tie", "_law_other"]
theorem scTwoSided : FnScope nTwoSided ["_law_web_here"] (defScope lTwoSided) := ⟨rfl, rfl, rfl, by decide +kernel, rfl, by decide +kernel, by decide +kernel⟩
theorem ok_twoSided {f : Addr} {fd : FuncData} (F : Fun K "_law_is_two_sided" "_law_is_two_sided" lTwoSided f fd) (T : Bq mg) : FnOk P w0 K mg base CX0 1 f fd ["_law_web_here"] spTwoSided := by
  refine F.ok scTwoSided (fun vs H Q E h => ?_) (fun cdv A outer s H vs Q E hr h => ?_)
  · obtain ⟨w, n, L, rfl, _⟩ := h
    rfl
  · obtain ⟨w, n, L, rfl, G, k⟩ := h
    have hu0 := hr.units0
    refine ⟨_, pss_cons (ps_set (i := 1) scTwoSided.nd rfl (.inl rfl) (pe_op op_rep (pe_lst (pa_cons pe_int pa_nil)) (pe_ix ix_tup (pv 0) pe_int (fun _ _ => rfl))))
      <| pss_cons (ps_for PassesOwn.never rfl (pi_range1 (by rfl) T.range (pa_cons (pe_ix ix_tup (pv 0) pe_int (fun _ _ => rfl)) pa_nil)) (pg_name (i := 2) scTwoSided.nd rfl (.inl rfl))
          (pss_cons (ps_set (i := 3) scTwoSided.nd rfl (.inl rfl) (pe_imp (t' := IfTodo) (pe_ifExp (pt_cmpR op_eq (pe_ix ix_list (pv 1) (pv 2) (fun _ _ => rfl)) pe_int (nomark _)) (pe_lst (pa_cons (pv 2) pa_nil)) (pe_lst pa_nil)) ?ifx))
          <| pss_cons (ps_invP (J := TwJ false) (J' := TwJ true) (ps_if (pt_cmpR (op_ne0 hu0) (pv 3) (pe_lst pa_nil) (nomark _)) (pss_one (ps_asg pe_int (pg_sub (pv 1) (pv 2) set_list))) pss_nil) ?first)
          <| pss_one (ps_while PassesOwn.never (pt_cmpR (op_ne0 hu0) (pv 3) (pe_lst pa_nil) (nomark _))
              (pss_cons (ps_set (i := 4) scTwoSided.nd rfl (.inl rfl) (pe_bm0 PySem.F.plainAttrs_list PySem.F.slot_list_pop PySem.F.type_list_pop mt_pop (pv 3)))
              <| pss_one (ps_for PassesOwn.never rfl (pi_tup (pe_ix ix_tup (pv 0) pe_int (fun _ _ => rfl))) (pg_name (i := 5) scTwoSided.nd rfl (.inl rfl))
                (pss_cons (ps_set (i := 6) scTwoSided.nd rfl (.inl rfl) (pe_ifExp (pt_cmpR (show OpR _ (compareOp .In) (rIn K false) from op_in_seq) (pv 4) (pv 5) (by rfl)) (pe_op op_sub (pe_callB (KR.cr_sumT rfl) (by rfl) T.sum (by decide +kernel) (pa_cons (pv 5) pa_nil)) (pv 4)) (pv 4)))
                <| pss_cons (ps_if (PW.pt (pw_and (pt_cmpR op_ne (pv 6) (pv 4) (nomark _)) (pw_and1 (pt_cmpR op_eq (pe_ix ix_list (pv 1) (pv 6) (fun _ _ => rfl)) (pe_ix ix_list (pv 1) (pv 4) (fun _ _ => rfl)) (nomark _))))) (pss_one (ps_ret pe_bl)) pss_nil)
                <| pss_one (ps_if (pt_cmpR op_eq (pe_ix ix_list (pv 1) (pv 6) (fun _ _ => rfl)) pe_int (nomark _))
                    (pss_cons (ps_asg (pe_un un_neg (pe_ix ix_list (pv 1) (pv 4) (fun _ _ => rfl))) (pg_sub (pv 1) (pv 6) set_list))
                    <| pss_one (ps_expr (pe_bm PySem.F.plainAttrs_list PySem.F.slot_list_append PySem.F.type_list_append mt_append (pv 3) (pa_cons (pv 6) pa_nil)))) pss_nil)))))))
      <| pss_one (ps_ret pe_bl), ?main⟩
    case ifx =>
      rintro σ M Q ⟨sl, s, i, h1, h2, h3, h4, k⟩
      have z0 : (0 : Int) + (i : Int) = (i : Int) := by omega
      refine ⟨_, h1, _, h2, sl, _, _, _, rfl, rfl, SqL.of h3, by rw [z0]; exact atI_nat (j := i) (sd_get h4), rfl, _, rfl, ?_⟩
      by_cases h0 : sd s i = 0
      · rw [decide_eq_true (show V.int (sd s i) = V.int 0 by rw [h0])]
        refine iteT ⟨_, h2, by show 1 ≤ sizeLine; decide, fun q hq => ?_⟩
        have := k q hq
        rw [if_pos h0] at this
        rw [z0]
        exact this
      · rw [decide_eq_false (show ¬ V.int (sd s i) = V.int 0 from fun z => h0 (V.int.inj z))]
        refine iteF ⟨by show 0 ≤ sizeLine; exact Nat.zero_le _, fun q hq => ?_⟩
        have := k q hq
        rw [if_neg h0] at this
        exact this
    case first =>
      rintro ⟨H, w, sl, n, L, i⟩ D0 σ M ⟨q, s, todo, o4, o5, o6, rfl, f1, f2, f3, f4, f5, f6, fl, f7, f8, f9⟩ nx
      dsimp only at *
      obtain ⟨T, et⟩ : Two L n s [] none_ ∧ todo = if sd s i = 0 then [i] else [] := f9
      refine ⟨_, rfl, by show 0 ≤ sizeLine; exact Nat.zero_le _, fun e he => ?_⟩
      have sE : Same M (upd M e (.lst [])) := same_new he
      have g1 := f1.trans sE
      have g2 := sE _ _ f2
      have g3 := sE _ _ f3
      have ee : (upd M e (.lst [])) e = some (.lst []) := upd_same
      generalize upd M e (.lst []) = M1 at g1 g2 g3 ee ⊢
      refine ⟨q, e, _, rfl, rfl, SqL.of g3, SqL.of ee, _, rfl, ?_⟩
      by_cases h0 : sd s i = 0
      · rw [if_pos h0] at et
        subst et
        have il : i < s.length := by rw [T.len]; exact f8
        have hs : ∀ j, sd (s.set i 1) j = if j = i then 1 else sd s j := fun j => sd_set il
        refine iteT ⟨_, rfl, _, rfl, sl, _, _, i, rfl, rfl, g2, by rw [Int.zero_add]; exact ixN_n (by rw [List.length_map]; exact il), ?_⟩
        refine nx _ _ ⟨q, s.set i 1, [i], o4, o5, o6, rfl, set_same f5 g1, by rw [upd_same, int_set], by rw [upd_ne f6]; exact g3, f4, f5, f6, Nat.le_refl _, fun k hk => ?_, f8, ?_⟩
        · rw [hs, if_neg (Nat.ne_of_lt hk)]
          exact f7 k hk
        · exact ⟨T.fresh f8 h0, by dsimp only; rw [hs, if_pos rfl]; decide⟩
      · rw [if_neg h0] at et
        subst et
        exact iteF (nx _ _ ⟨q, s, [], o4, o5, o6, rfl, g1, g2, g3, f4, f5, f6, Nat.zero_le _, f7, f8, T, h0⟩)
    case main =>
    obtain ⟨t, vs, e1, e2, e3⟩ := G.web.ex
    have n2 := G.n2
    have n1 := G.n1
    have len := e3.len
    have few := G.few
    have hB := G.bel
    have B := belN_of hB
    have hL : ∀ x y, Adj L x y → (2 ^ n - 1).testBit x = true ∧ (2 ^ n - 1).testBit y = true := fun x y a => by
      have := bel_adj B a
      rw [full_bit, full_bit, decide_eq_true this.1, decide_eq_true this.2]
      exact ⟨rfl, rfl⟩
    refine ⟨by show 1 ≤ sizeLine; decide, fun l0 hl0 => ?_⟩
    have s0 : Same H (upd H l0 (.lst [.int 0])) := same_new hl0
    refine ⟨_, rfl, w, _, _, _, rfl, rfl, SqT.of (s0 _ _ e1), atI_nat (j := 0) rfl, l0, (n : Int), [.int 0], rfl, rfl, upd_same, by omega, by omega, by simp [sizeLine_eq]; omega, fun sl hsl => ?_⟩
    have slH : H sl = none := s0.free hsl
    have s1 : Same H (upd (upd H l0 (.lst [.int 0])) sl (.lst (List.replicate (n : Int).toNat [V.int 0]).flatten)) := s0.trans (same_new hsl)
    have esl : (upd (upd H l0 (.lst [.int 0])) sl (.lst (List.replicate (n : Int).toNat [V.int 0]).flatten)) sl = some (.lst ((List.replicate n (0 : Int)).map V.int)) := by rw [upd_same, Int.toNat_natCast, flat_zerosI]
    generalize upd (upd H l0 (.lst [.int 0])) sl (.lst (List.replicate (n : Int).toNat [V.int 0]).flatten) = M0 at s1 esl ⊢
    refine ⟨_, rfl, w, _, _, _, rfl, rfl, SqT.of (s1 _ _ e1), atI_nat (j := 0) rfl, _, rfl, by omega, by omega, ?_⟩
    refine for_range (lo := 0) (n := (n : Int).toNat) (fun i σ M => ∃ (s : List Int) (o2 o3 o4 o5 o6 : Option V), σ = [some (.ref w), some (.ref sl), o2, o3, o4, o5, o6] ∧ Same H M ∧ M sl = some (.lst (s.map V.int)) ∧ Two L n s [] none_ ∧ ∀ k, k < i → sd s k ≠ 0)
      ⟨_, none, none, none, none, none, rfl, s1, esl, Two.start L n, fun _ z => absurd z (Nat.not_lt_zero _)⟩ ?_ ?_
    · rintro i σ M hi ⟨s, o2, o3, o4, o5, o6, rfl, f1, f2, T0, f3⟩
      have hin : i < n := by omega
      have il : i < s.length := by rw [T0.len]; exact hin
      have z0 : (0 : Int) + (i : Int) = (i : Int) := by omega
      refine ⟨sl, s, i, rfl, rfl, f2, il, fun q hq => ?_⟩
      refine ⟨⟨H, w, sl, n, L, i⟩, ⟨q, s, _, o4, o5, o6, rfl, f1.trans (same_new hq), same_new hq _ _ f2, upd_same, f1.free hq, slH, (ne_of_none f2 hq).symm, by split <;> simp, f3, hin, T0, rfl⟩, ?_⟩
      rintro σ1 M1 ⟨q, s, todo, o4, o5, o6, rfl, f1, f2, f3, f4, f5, f6, fl, f7, f8, f9⟩
      dsimp only at *
      obtain ⟨T1, hs0⟩ : Two L n s todo none_ ∧ sd s i ≠ 0 := f9
      have nz : ∀ k, k < i + 1 → sd s k ≠ 0 := fun k hk => by
        rcases Nat.lt_or_ge k i with z | z
        · exact f7 k z
        · rw [show k = i by omega]; exact hs0
      refine while_ex (fun σ M => ∃ (s : List Int) (todo : List Nat) (o4 o5 o6 : Option V), σ = [some (.ref w), some (.ref sl), some (.int (0 + (i : Int))), some (.ref q), o4, o5, o6] ∧ Same H M ∧ M sl = some (.lst (s.map V.int)) ∧ M q = some (.lst (todo.map natV)) ∧ (∀ k, k < i + 1 → sd s k ≠ 0) ∧ Two L n s todo none_ ∧ zc s + todo.length ≤ 30) muTwo
        ⟨s, todo, o4, o5, o6, rfl, f1, f2, f3, nz, T1, ?_⟩ ?_ ?_
      · have := zc_le s
        have := T1.len
        omega
      · rintro σ M ⟨s, todo, o4, o5, o6, rfl, g1, g2, g3, g4, T2, g5⟩
        have mu0 : muTwo [some (.ref w), some (.ref sl), some (.int (0 + (i : Int))), some (.ref q), o4, o5, o6] M = zc s + todo.length := by
          show (match M sl, M q with | some (.lst xs), some (.lst ws) => zc (xs.map intV) + ws.length | _, _ => 0) = _
          rw [g2, g3]
          show zc ((s.map V.int).map intV) + (todo.map natV).length = _
          rw [map_intV, List.length_map]
        rw [mu0]
        refine ⟨_, rfl, by show 0 ≤ sizeLine; exact Nat.zero_le _, fun e he => ?_⟩
        have sE : Same M (upd M e (.lst [])) := same_new he
        have h1 := g1.trans sE
        have h2 := sE _ _ g2
        have h3 := sE _ _ g3
        have ee : (upd M e (.lst [])) e = some (.lst []) := upd_same
        generalize upd M e (.lst []) = M2 at h1 h2 h3 ee ⊢
        refine ⟨q, e, _, rfl, rfl, SqL.of h3, SqL.of ee, _, rfl, ?_⟩
        by_cases h0 : todo = []
        · subst h0
          exact iteF ⟨s, _, _, _, _, _, rfl, h1, h2, T2, g4⟩
        obtain ⟨ws', pl, rfl⟩ : ∃ ws' pl, todo = ws' ++ [pl] := ⟨todo.dropLast, todo.getLast h0, (List.dropLast_concat_getLast h0).symm⟩
        have hz : (!((ws' ++ [pl]).map natV).isEmpty) = true := by simp
        rw [hz]
        refine iteT ?_
        obtain ⟨pn, p0⟩ := T2.wait pl (List.mem_append_right _ (List.mem_singleton.mpr rfl))
        refine ⟨_, rfl, .inl ⟨rfl, _, SqL.of h3⟩, q, _, natV pl, rfl, rfl, h3, by rw [List.map_append, List.length_append]; simp, ?_⟩
        have k1 : Same H (upd M2 q (.lst ((ws' ++ [pl]).map natV).dropLast)) := set_same f4 h1
        have k2 : (upd M2 q (.lst ((ws' ++ [pl]).map natV).dropLast)) sl = some (.lst (s.map V.int)) := by rw [upd_ne f6.symm]; exact h2
        have k3 : (upd M2 q (.lst ((ws' ++ [pl]).map natV).dropLast)) q = some (.lst (ws'.map natV)) := by rw [upd_same, List.map_append, List.map_singleton, List.dropLast_concat]
        generalize upd M2 q (.lst ((ws' ++ [pl]).map natV).dropLast) = M3 at k1 k2 k3 ⊢
        rw [List.length_append, List.length_singleton] at g5 ⊢
        refine ⟨_, rfl, w, _, _, _, rfl, rfl, SqT.of (k1 _ _ e1), atI_nat (j := 1) rfl, t, rfl, ⟨_, SqT.of (k1 _ _ e2)⟩, ?_⟩
        refine for_tup (K := K) (a := t) (xs := vs) (fun j σ M => ∃ (s' : List Int) (ws : List Nat) (o5 o6 : Option V), σ = [some (.ref w), some (.ref sl), some (.int (0 + (i : Int))), some (.ref q), some (natV pl), o5, o6] ∧ Same H M ∧ M sl = some (.lst (s'.map V.int)) ∧ M q = some (.lst (ws.map natV)) ∧ (∀ k, k < i + 1 → sd s' k ≠ 0) ∧ sd s' pl ≠ 0 ∧ Two L n s' ws (hereL L pl j) ∧ zc s' + ws.length ≤ zc s + ws'.length)
          ⟨s, ws', o5, o6, rfl, k1, k2, k3, g4, p0, T2.pop.imp fun a b h => .inl h, Nat.le_refl _⟩ (fun j σ M _ ⟨_, _, _, _, _, s', _⟩ => SqT.of (s' _ _ e2)) ?_ ?_
        · rintro j x σ M hx ⟨s', ws, o5, o6, rfl, m1, m2, m3, m4, m5, T3, m6⟩
          obtain ⟨b, qq, rfl, hq', hb⟩ := e3.get hx
          have bq := hB qq (List.mem_of_getElem? hq')
          obtain ⟨q1, q2⟩ := qq
          obtain ⟨a1, rfl⟩ : ∃ a1 : Nat, q1 = a1 := ⟨q1.toNat, by have := bq.1; dsimp only at this; omega⟩
          obtain ⟨a2, rfl⟩ : ∃ a2 : Nat, q2 = a2 := ⟨q2.toNat, by have := bq.1; have := bq.2.1; dsimp only at *; omega⟩
          dsimp only at bq hb
          have eb := m1 _ _ hb
          have sl' : s'.length = n := T3.len
          refine ⟨_, rfl, _, rfl, b, ([(a1 : Int), (a2 : Int)] : List Int).map V.int, rfl, .inr (SqT.of eb), rfl, flat_ints _, _, rfl, ?_⟩
          rw [if_neg Bool.false_ne_true]
          have ei : inV (natV pl) (([(a1 : Int), (a2 : Int)] : List Int).map V.int) = decide ((pl : Int) ∈ ([(a1 : Int), (a2 : Int)] : List Int)) := inV_ints _ _
          rw [ei]
          by_cases hm : (pl : Int) ∈ ([(a1 : Int), (a2 : Int)] : List Int)
          · rw [decide_eq_true hm]
            obtain ⟨o, ho, ad, on, one⟩ : ∃ o : Nat, ([(a1 : Int), (a2 : Int)] : List Int).sum - (pl : Int) = o ∧ Adj [((a1 : Int), (a2 : Int))] pl o ∧ o < n ∧ o ≠ pl := by
              simp only [List.mem_cons, List.not_mem_nil, or_false] at hm
              simp only [List.sum_cons, List.sum_nil]
              rcases hm with e | e
              · exact ⟨a2, by omega, .inl (by rw [e]; exact List.mem_singleton.mpr rfl), by omega, by omega⟩
              · exact ⟨a1, by omega, .inr (by rw [e]; exact List.mem_singleton.mpr rfl), by omega, by omega⟩
            have adL : Adj L pl o := by
              unfold Adj at ad ⊢
              rw [List.mem_singleton, List.mem_singleton] at ad
              have hmem := List.mem_of_getElem? hq'
              rcases ad with e | e
              · exact .inl (by rw [e]; exact hmem)
              · exact .inr (by rw [e]; exact hmem)
            have go : ∀ (s2 : List Int) (ws2 : List Nat), Two L n s2 ws2 (hereL L pl j) → sd s2 o = - sd s2 pl → Two L n s2 ws2 (hereL L pl (j + 1)) := fun s2 ws2 T4 e => T4.imp fun a b ⟨ea, h⟩ => by
              rcases adj_drop hq' h with h | h
              · subst ea
                have h1 := (adj_one h).2
                have h2 := (adj_one ad).2
                rw [show b = o by omega]
                exact .inr e
              · exact .inl ⟨ea, h⟩
            have vo := T3.val o
            have vp := T3.val pl
            refine iteT ⟨_, rfl, b, ([(a1 : Int), (a2 : Int)] : List Int), rfl, SqT.of eb, _, rfl, _, _, rfl, rfl, ?_⟩
            show gName 6 (V.int (([(a1 : Int), (a2 : Int)] : List Int).sum - (pl : Int))) _ _ _
            rw [ho]
            refine ⟨_, rfl, _, rfl, rfl, _, rfl, ?_⟩
            rw [decide_eq_false (show ¬ V.int (o : Int) = natV pl from fun z => one (by have := V.int.inj z; omega))]
            refine iteT ⟨_, rfl, _, rfl, sl, _, _, _, rfl, rfl, SqL.of m2, atI_nat (j := o) (sd_get (by omega)), _, rfl, _, rfl, sl, _, _, _, rfl, rfl, SqL.of m2, atI_nat (j := pl) (sd_get (by omega)), rfl, _, rfl, ?_⟩
            by_cases h5 : sd s' o = sd s' pl
            · rw [decide_eq_true (show V.int (sd s' o) = V.int (sd s' pl) by rw [h5])]
              exact iteT (k false M m1 (fun z => nomatch z) fun _ x => T3.bad hL adL m5 h5 x)
            rw [decide_eq_false (show ¬ V.int (sd s' o) = V.int (sd s' pl) from fun z => h5 (V.int.inj z))]
            refine iteF ⟨_, rfl, _, rfl, sl, _, _, _, rfl, rfl, SqL.of m2, atI_nat (j := o) (sd_get (by omega)), rfl, _, rfl, ?_⟩
            by_cases h6 : sd s' o = 0
            · rw [decide_eq_true (show V.int (sd s' o) = V.int 0 by rw [h6])]
              have hs : ∀ k, sd (s'.set o (- sd s' pl)) k = if k = o then - sd s' pl else sd s' k := fun k => sd_set (by omega)
              refine iteT ⟨_, rfl, _, rfl, sl, _, _, _, rfl, rfl, SqL.of m2, atI_nat (j := pl) (sd_get (by omega)), _, rfl, _, rfl, _, rfl, sl, _, _, o, rfl, rfl, m2, ixN_n (by rw [List.length_map]; omega), ?_⟩
              have y1 : Same H (upd M sl (.lst ((s'.map V.int).set o (.int (- sd s' pl))))) := set_same slH m1
              have y2 : (upd M sl (.lst ((s'.map V.int).set o (.int (- sd s' pl))))) sl = some (.lst ((s'.set o (- sd s' pl)).map V.int)) := by rw [upd_same, int_set]
              have y3 : (upd M sl (.lst ((s'.map V.int).set o (.int (- sd s' pl))))) q = some (.lst (ws.map natV)) := by rw [upd_ne f6]; exact m3
              generalize upd M sl (.lst ((s'.map V.int).set o (.int (- sd s' pl)))) = M4 at y1 y2 y3 ⊢
              have zs := zc_set (s := s') (i := o) (v := - sd s' pl) (by omega) h6 (by omega)
              refine ⟨_, rfl, .inl ⟨rfl, _, SqL.of y3⟩, _, rfl, q, _, _, rfl, rfl, y3, by rw [List.length_map, sizeLine_eq]; omega, ?_⟩
              refine ⟨s'.set o (- sd s' pl), ws ++ [o], _, _, rfl, set_same f4 y1, by rw [upd_ne f6.symm]; exact y2, by rw [upd_same, List.map_append] <;> rfl, fun k hk => ?_, ?_, go _ _ (T3.put hL adL m5 h6 on) ?_, ?_⟩
              · rw [hs]
                split
                · omega
                · exact m4 k hk
              · rw [hs, if_neg one.symm]
                exact m5
              · rw [hs, hs, if_pos rfl, if_neg one.symm]
              · rw [List.length_append, List.length_singleton]
                omega
            · rw [decide_eq_false (show ¬ V.int (sd s' o) = V.int 0 from fun z => h6 (V.int.inj z))]
              exact iteF ⟨s', ws, _, _, rfl, m1, m2, m3, m4, m5, go _ _ T3 (by omega), m6⟩
          · rw [decide_eq_false hm]
            refine iteF ⟨_, rfl, _, rfl, _, rfl, rfl, _, rfl, ?_⟩
            rw [decide_eq_true (rfl : natV pl = natV pl)]
            refine iteF (iteF ⟨_, rfl, _, rfl, sl, _, _, _, rfl, rfl, SqL.of m2, atI_nat (j := pl) (sd_get (by omega)), rfl, _, rfl, ?_⟩)
            rw [decide_eq_false (show ¬ V.int (sd s' pl) = V.int 0 from fun z => m5 (V.int.inj z))]
            refine iteF ⟨s', ws, _, _, rfl, m1, m2, m3, m4, m5, T3.imp fun a b ⟨ea, h⟩ => ?_, m6⟩
            rcases adj_drop hq' h with h | h
            · subst ea
              exact absurd (adj_one h).1 hm
            · exact .inl ⟨ea, h⟩
        · rintro σ M ⟨s', ws, o5, o6, rfl, m1, m2, m3, m4, m5, T3, m6⟩
          rw [len] at T3
          refine ⟨⟨s', ws, _, _, _, rfl, m1, m2, m3, m4, T3.done fun a b ⟨_, h⟩ => ?_, by omega⟩, ?_⟩
          · rw [List.drop_length] at h
            unfold Adj at h
            simp at h
          · show (match M sl, M q with | some (.lst xs), some (.lst ws) => zc (xs.map intV) + ws.length | _, _ => 0) < _
            rw [m2, m3]
            show zc ((s'.map V.int).map intV) + (ws.map natV).length < _
            rw [map_intV, List.length_map]
            omega
      · rintro σ M Q Q' h ⟨v, e, x⟩
        exact ⟨v, e, x.1, fun a b => let ⟨c, d, y1, y2, y3, y4, y5, y6, y7, y8⟩ := x.2 a b; ⟨c, d, y1, y2, y3, y4, y5, y6, y7, h _ _ y8⟩⟩
    · rintro σ M ⟨s, o2, o3, o4, o5, o6, rfl, f1, f2, T0, f3⟩
      exact k true M f1 (fun _ => ⟨_, T0.end (fun x y a => bel_adj B a) fun i hi => f3 i (by omega)⟩) (fun z => nomatch z)
end
end K0

set_option Elab.async false
set_option linter.all false
set_option maxRecDepth 100000
set_option maxHeartbeats 8000000
/-! The law's own look at papers of sides and rings. -/
namespace K0
open PySem PySem.Spec L2
open PyProof.Rows hiding St
abbrev lHolds : Stmt := top 49
structure Br (mg : Str → Option Value) : Prop extends Bq mg where
  str : mg "str" = none
theorem VT.kitS {K : PySem.W.Frag} {H : Hp} {v : V} {t : String} (h : VT H v t) : PySem.W.kitOne K (.type t) (.type "str") = some (decide (t = "str")) := by
  cases h <;> exact kit_ty (by decide +kernel)
theorem VT.isStr {H : Hp} {v : V} {t : String} (h : VT H v t) (e : t = "str") : ∃ c, v = .str c := by
  cases h <;> first | exact ⟨_, rfl⟩ | exact absurd e (by decide)
theorem cut_full (L : List (Int × Int)) (ns : List Int) : decide (V.int (((cutN L ns).length : Nat) : Int) = V.int ((L.length : Nat) : Int)) = sidesL L ns := by
  have e1 : (cutN L ns).length = ((List.range L.length).filter (crs L ns)).length := List.length_map _
  have e2 : ((List.range L.length).filter (crs L ns)).length = (List.range L.length).length ↔ ∀ k ∈ List.range L.length, crs L ns k = true := List.length_filter_eq_length_iff
  rw [List.length_range] at e2
  unfold sidesL
  rw [Bool.eq_iff_iff, decide_eq_true_eq, List.all_eq_true]
  constructor
  · intro z q hq
    obtain ⟨k, hk⟩ := List.getElem?_of_mem hq
    have kl := (List.getElem?_eq_some_iff.mp hk).1
    have := e2.mp (by have := V.int.inj z; omega) k (List.mem_range.mpr kl)
    rw [crs_at hk] at this
    exact this
  · intro z
    have : ∀ k ∈ List.range L.length, crs L ns k = true := fun k hk => by
      have kl := List.mem_range.mp hk
      rw [crs_at (List.getElem?_eq_getElem kl)]
      exact z _ (List.getElem_mem kl)
    rw [e1, e2.mpr this]
section
variable {P : Program} {w0 : World} {K : PySem.W.Frag} {mg : Str → Option Value} {base : Heap}
abbrev nLHolds : List Str := ["_law_web_here", "_law_thing"]
theorem scLHolds : FnScope nLHolds ["_law_web_here", "_law_thing"] (defScope lHolds) := ⟨rfl, rfl, rfl, by decide +kernel, rfl, by decide +kernel, by decide +kernel⟩
theorem ok_lHolds {f fL fC fR : Addr} {fd fdL fdC fdR : FuncData} (F : Fun K "_law_holds" "_law_holds" lHolds f fd) (T : Br mg) (GL : Dn P w0 K mg base "_law_is_lot" 2 ["_law_n", "_law_thing"] spLIsLot fL fdL)
    (GC : Dn P w0 K mg base "_law_cut" 1 ["_law_web_here", "_law_lot_here"] spLCut fC fdC) (GR : Dn P w0 K mg base "_law_is_ring" 3 ["_law_web_here", "_law_thing"] spIsRingOf fR fdR) : FnOk P w0 K mg base CX0 4 f fd ["_law_web_here", "_law_thing"] spSidesHold := by
  refine F.ok scLHolds (fun vs H Q E h => ?_) (fun cdv A outer s H vs Q E hr h => ?_)
  · obtain ⟨w, n, L, v, o, rfl, _⟩ := h
    rfl
  · obtain ⟨w, n, L, v, o, rfl, G, ct, k⟩ := h
    have hr1 : Room 1 (A.deeper (envOfC "_law_holds" (defScope lHolds) s.heap.objs.size f cdv)) := hr.mono (by decide)
    have hr2 : Room 2 (A.deeper (envOfC "_law_holds" (defScope lHolds) s.heap.objs.size f cdv)) := hr.mono (by decide)
    refine ⟨_, pss_cons (ps_if (PW.pt (pw_or (pt_not (pt_val (pe_callB call_isi (by rfl) T.isi (by decide +kernel) (pa_cons (pv 1) (pa_cons (pe_bltn (v := .ty "tuple") (u := .type "tuple") (by rfl) T.tuple (by decide +kernel) rfl) pa_nil)))))
          (pw_or (pt_cmpR op_ne (pe_callB call_len_seq (by rfl) T.len PySem.boot_len (pa_cons (pv 1) pa_nil)) pe_int (nomark _))
            (pw_or1 (pt_not (pt_val (pe_callB call_isi (by rfl) T.isi (by decide +kernel) (pa_cons (pe_ix ix_tup (pv 1) pe_int (fun _ _ => rfl)) (pa_cons (pe_bltn (v := .ty "str") (u := .type "str") (by rfl) T.str (by decide +kernel) rfl) pa_nil))))))))) (pss_one (ps_ret pe_bl)) pss_nil)
      <| pss_cons (ps_if (pt_cmpR op_eq (pe_ix ix_tup (pv 1) pe_int (fun _ _ => rfl)) pe_str (nomark _))
          (pss_one (ps_ret (pe_and (pe_call GL.ok hr2 rfl GL.g GL.kp GL.b .nil pass0 (pa_cons (pe_ix ix_tup (pv 0) pe_int (fun _ _ => rfl)) (pa_cons (pe_ix ix_tup (pv 1) pe_int (fun _ _ => rfl)) pa_nil)))
            (pe_one (pe_cmpR op_eq (pe_callB call_len_seq (by rfl) T.len PySem.boot_len (pa_cons (pe_call GC.ok hr1 rfl GC.g GC.kp GC.b .nil pass0 (pa_cons (pv 0) (pa_cons (pe_ix ix_tup (pv 1) pe_int (fun _ _ => rfl)) pa_nil))) pa_nil))
              (pe_callB call_len_seq (by rfl) T.len PySem.boot_len (pa_cons (pe_ix ix_tup (pv 0) pe_int (fun _ _ => rfl)) pa_nil)) (nomark _)))))) pss_nil)
      <| pss_one (ps_ret (pe_and (pe_cmpR op_eq (pe_ix ix_tup (pv 1) pe_int (fun _ _ => rfl)) pe_str (nomark _))
          (pe_and (pe_call GR.ok hr rfl GR.g GR.kp GR.b .nil pass0 (pa_cons (pv 0) (pa_cons (pe_ix ix_tup (pv 1) pe_int (fun _ _ => rfl)) pa_nil)))
            (pe_one (pe_cmpR op_eq (pe_op op_modN (pe_callTy call_int1 (by rfl) T.int (by decide +kernel) (pa_cons (pe_callB call_len_seq (by rfl) T.len PySem.boot_len (pa_cons (pe_ix ix_tup (pv 1) pe_int (fun _ _ => rfl)) pa_nil)) pa_nil)) pe_int) pe_int (nomark _)))))), ?_⟩
    have n2 := G.n2
    cases ct with
    | @oth v t h ne =>
      refine ⟨_, rfl, v, .ty "tuple", .type t, .type "tuple", _, rfl, .ty "tuple", h.ty, h.kit.2.2, _, rfl, ?_⟩
      rw [decide_eq_false ne]
      exact iteT (iteT (k H (Same.refl H)))
    | @few a xs e l =>
      have hv : VT H (.ref a) "tuple" := .tup e
      refine ⟨_, rfl, .ref a, .ty "tuple", .type "tuple", .type "tuple", _, rfl, .ty "tuple", hv.ty, hv.kit.2.2, _, rfl, iteF ?_⟩
      refine ⟨_, rfl, a, _, rfl, .inr e.sq, rfl, _, rfl, ?_⟩
      rw [len2 l]
      exact iteT (iteT (k H (Same.refl H)))
    | @two a x y t o e hx hy =>
      have hv : VT H (.ref a) "tuple" := .tup e
      refine ⟨_, rfl, .ref a, .ty "tuple", .type "tuple", .type "tuple", _, rfl, .ty "tuple", hv.ty, hv.kit.2.2, _, rfl, iteF ?_⟩
      refine ⟨_, rfl, a, _, rfl, .inr e.sq, rfl, _, rfl, iteF ?_⟩
      refine ⟨_, rfl, a, _, _, _, rfl, rfl, e.sq, atI_nat (j := 0) rfl, x, .ty "str", .type t, .type "str", _, rfl, .ty "str", hx.ty, hx.kitS, _, rfl, ?_⟩
      by_cases ht : t = "str"
      rotate_left
      · rw [decide_eq_false ht]
        have ns : ∀ c, x ≠ .str c := fun c z => by
          subst z
          cases hx
          exact ht rfl
        have ans : paperO n L (some (x, o)) = false := (if_neg (ns _)).trans (if_neg (ns _))
        rw [ans] at k
        exact iteT (k H (Same.refl H))
      rw [decide_eq_true ht]
      obtain ⟨c, rfl⟩ := hx.isStr ht
      refine iteF ⟨_, rfl, a, _, _, _, rfl, rfl, e.sq, atI_nat (j := 0) rfl, rfl, _, rfl, ?_⟩
      by_cases h1 : V.str c = .str "sides"
      · rw [decide_eq_true h1]
        have ans : paperO n L (some (V.str c, o)) = (lotO n o && sidesO L o) := if_pos h1
        rw [ans] at k
        obtain ⟨t, vs, e1, e2, e3⟩ := G.web.ex
        refine iteT ⟨_, rfl, w, _, _, _, rfl, rfl, SqT.of e1, atI_nat (j := 0) rfl, _, rfl, a, _, _, _, rfl, rfl, e.sq, atI_nat (j := 1) rfl, n, y, o, rfl, by omega, hy, fun H2 s2 => ⟨_, rfl, ?_⟩⟩
        rcases th_cases (n := n) hy with ⟨z, b, ns, rfl, rfl, il, tt⟩ | z
        · rw [z]
          rw [z, Bool.true_and] at k
          refine iteT ⟨_, rfl, _, rfl, a, _, _, _, rfl, rfl, (e.keep fun o q => s2 _ _ q).sq, atI_nat (j := 1) rfl, w, b, n, L, ns, rfl, G.same s2, tt.keep fun o q => s2 _ _ q, fun tc H3 s3 _ ec => ?_⟩
          refine ⟨tc, _, rfl, .inr (SqT.of ec), _, rfl, w, _, _, _, rfl, rfl, SqT.of (s3 _ _ (s2 _ _ e1)), atI_nat (j := 1) rfl, t, _, rfl, .inr (SqT.of (s3 _ _ (s2 _ _ e2))), rfl, ?_⟩
          have := k H3 (s2.trans s3)
          have e9 : sidesO L (some (ns.map V.int)) = sidesL L ns := by show sidesL L ((ns.map V.int).map intV) = _; rw [map_intV]
          rw [e9] at this
          rw [List.length_map, e3.len, cut_full]
          exact this
        · rw [z]
          rw [z, Bool.false_and] at k
          exact iteF (k H2 s2)
      · rw [decide_eq_false h1]
        refine iteF ⟨_, rfl, a, _, _, _, rfl, rfl, e.sq, atI_nat (j := 0) rfl, rfl, _, rfl, ?_⟩
        by_cases h2 : V.str c = .str "ring"
        · rw [decide_eq_true h2]
          have ans : paperO n L (some (V.str c, o)) = (ringO L o && oddO o) := (if_neg h1).trans (if_pos h2)
          rw [ans] at k
          refine iteT ⟨_, rfl, _, rfl, a, _, _, _, rfl, rfl, e.sq, atI_nat (j := 1) rfl, w, n, L, y, o, rfl, G, hy, fun H2 s2 => ⟨_, rfl, ?_⟩⟩
          cases z : ringO L o with
          | false =>
            rw [z, Bool.false_and] at k
            exact iteF (k H2 s2)
          | true =>
            rw [z, Bool.true_and] at k
            cases hy with
            | oth _ _ => cases z
            | @tup b xs e2 h3 l3 =>
              refine iteT ⟨_, rfl, a, _, _, _, rfl, rfl, (e.keep fun o q => s2 _ _ q).sq, atI_nat (j := 1) rfl, b, _, rfl, .inr (e2.keep fun o q => s2 _ _ q).sq, .inl ⟨_, rfl, _, _, rfl, rfl, (show (2 : Int) ≠ 0 by decide), rfl, ?_⟩⟩
              rw [odd_len]
              exact k H2 s2
        · rw [decide_eq_false h2]
          have ans : paperO n L (some (V.str c, o)) = false := (if_neg h1).trans (if_neg h2)
          rw [ans] at k
          exact iteF (k H (Same.refl H))
end
end K0

set_option Elab.async false
set_option linter.all false
set_option maxRecDepth 100000
set_option maxHeartbeats 8000000
/-! Values near papers. -/
namespace K0
open PySem PySem.Spec L2
open PyProof.Rows hiding St
abbrev lStrangeP : Stmt := top 50
/-- what may be a paper, whatever the deck does -/
def Ctd (p c : Addr) (M : Hp) (v : V) : Prop := ∃ o, ∀ M', Kp p c M M' → Ct M' v o
theorem Ctd.mono {p c : Addr} {M M1 : Hp} {v : V} (a : Ctd p c M v) (k : Kp p c M M1) : Ctd p c M1 v := let ⟨o, h⟩ := a; ⟨o, fun M' k' => h M' (k.trans k')⟩
def AC (p c : Addr) (M : Hp) (xs : List V) : Prop := ∀ x ∈ xs, Ctd p c M x
theorem AC.mono {p c : Addr} {M M1 : Hp} {xs : List V} (a : AC p c M xs) (k : Kp p c M M1) : AC p c M1 xs := fun x hx => (a x hx).mono k
theorem AC.app {p c : Addr} {M : Hp} {xs ys : List V} (a : AC p c M xs) (b : AC p c M ys) : AC p c M (xs ++ ys) := fun x hx => (List.mem_append.mp hx).elim (a x) (b x)
theorem AC.one {p c : Addr} {M : Hp} {x : V} (h : Ctd p c M x) : AC p c M [x] := fun y hy => by rw [List.mem_singleton.mp hy]; exact h
theorem ctd_pair {p c t : Addr} {M : Hp} {x y : V} (D : Deck M p c) (e : M t = some (.tup [x, y])) (hx : ∀ M', Kp p c M M' → ∃ t, VT M' x t) (hy : Thd p c M y) : Ctd p c M (.ref t) := by
  obtain ⟨o, h⟩ := hy
  refine ⟨some (x, o), fun M' k => ?_⟩
  obtain ⟨tx, q⟩ := hx M' k
  exact .two (.inl (k.tup D _ _ e)) q (h M' k)
theorem ctd_few {p c t : Addr} {M : Hp} {xs : List V} (D : Deck M p c) (e : M t = some (.tup xs)) (l : xs.length ≠ 2) : Ctd p c M (.ref t) := ⟨none, fun M' k => .few (.inl (k.tup D _ _ e)) l⟩
theorem ctd_non {p c : Addr} {M : Hp} : Ctd p c M .non := ⟨none, fun _ _ => .oth .non (by decide)⟩
theorem ctd_str {p c : Addr} {M : Hp} (x : Str) : Ctd p c M (.str x) := ⟨none, fun _ _ => .oth (.str x) (by decide)⟩
theorem ctd_lst {p c l : Addr} {M : Hp} {xs : List V} (lp : l ≠ p) (lc : l ≠ c) (e : M l = some (.lst xs)) : Ctd p c M (.ref l) := ⟨none, fun _ k => .oth (.lst (k _ _ lp lc e)) (by decide)⟩
theorem thd_lst {p c l : Addr} {M : Hp} {xs : List V} (lp : l ≠ p) (lc : l ≠ c) (e : M l = some (.lst xs)) : Thd p c M (.ref l) := ⟨none, fun _ k => .oth (.lst (k _ _ lp lc e)) (by decide)⟩
theorem thd_non {p c : Addr} {M : Hp} : Thd p c M .non := ⟨none, fun _ _ => .oth .non (by decide)⟩
theorem thd_str {p c : Addr} {M : Hp} (x : Str) : Thd p c M (.str x) := ⟨none, fun _ _ => .oth (.str x) (by decide)⟩
theorem thd_int {p c : Addr} {M : Hp} (i : Int) : Thd p c M (.int i) := ⟨none, fun _ _ => .oth (.int i) (by decide)⟩
theorem thd_row {p c b : Addr} {M : Hp} {ns : List Nat} (D : Deck M p c) (e : M b = some (.tup (ns.map natV))) (l : ns.length ≤ 40) : Thd p c M (.ref b) := Thd.tup D e (AV.nats ns) (by rw [List.length_map]; omega)
theorem vts {p c : Addr} {M : Hp} (x : Str) : ∀ M', Kp p c M M' → ∃ t, VT M' (.str x) t := fun _ _ => ⟨_, .str x⟩
theorem vtn {p c b : Addr} {M : Hp} {xs : List V} (D : Deck M p c) (e : M b = some (.tup xs)) : ∀ M', Kp p c M M' → ∃ t, VT M' (.ref b) t := fun M' k => ⟨_, .tup (.inl (k.tup D _ _ e))⟩
theorem ctd_row {p c b : Addr} {M : Hp} {ns : List Nat} (D : Deck M p c) (e : M b = some (.tup (ns.map natV))) : Ctd p c M (.ref b) := by
  by_cases h : ns.length = 2
  · match ns, h with
    | [i, j], _ => exact ctd_pair (x := natV i) (y := natV j) D e (fun _ _ => ⟨_, .int _⟩) (thd_int _)
  · exact ctd_few D e (by rw [List.length_map]; exact h)
/-- a value that stays -/
theorem dv_th {H : Hp} {T : Addr → Prop} {v : V} {d : PyData} (dv : DV H T v d) (sl : slimD d = true) : ∃ o, ∀ M, (∀ a x, T a → H a = some x → M a = some x) → Th M v o := by
  cases dv with
  | non => exact ⟨none, fun M _ => .oth .non (by decide)⟩
  | bl b => exact ⟨none, fun M _ => .oth (.bl b) (by decide)⟩
  | int i => exact ⟨none, fun M _ => .oth (.int i) (by decide)⟩
  | str x => exact ⟨none, fun M _ => .oth (.str x) (by decide)⟩
  | lst t e => exact ⟨none, fun M k => .oth (.lst (k _ _ t e)) (by decide)⟩
  | dct t e => exact ⟨none, fun M k => .oth (.dct (k _ _ t e)) (by decide)⟩
  | @tup r xs ds t e l h =>
    rw [slimD, Bool.and_eq_true, decide_eq_true_eq] at sl
    refine ⟨some xs, fun M k => .tup (e.imp (fun e => k _ _ t e) fun ⟨us, e⟩ => ⟨us, k _ _ t e⟩) (fun x hx => ?_) (by omega)⟩
    obtain ⟨i, hi⟩ := List.getElem?_of_mem hx
    have hi' : i < ds.length := by rw [← l]; exact (List.getElem?_eq_some_iff.mp hi).1
    exact ((h i x _ hi (List.getElem?_eq_getElem hi')).mono (T' := Any) fun a o t q => ⟨trivial, k a o t q⟩).vt
theorem dv_ctd {p c : Addr} {H H' : Hp} {v : V} {e : PyData} (D : Deck H p c) (dv : DV H' (fun a => H a = none) v e) (sl : slimD e = true) : Ctd p c H' v := by
  obtain ⟨xs, m, n, e1, e2, _⟩ := D.ex
  have np : ∀ {a : Addr}, H a = none → a ≠ p ∧ a ≠ c := fun h => ⟨fun z => (by rw [z, e1] at h; cases h), fun z => (by rw [z, e2] at h; cases h)⟩
  have kk : ∀ {M' : Hp}, Kp p c H' M' → ∀ a x, H a = none → H' a = some x → M' a = some x := fun k a x t q => k a x (np t).1 (np t).2 q
  cases dv with
  | non => exact ⟨none, fun M' k => .oth .non (by decide)⟩
  | bl b => exact ⟨none, fun M' k => .oth (.bl b) (by decide)⟩
  | int i => exact ⟨none, fun M' k => .oth (.int i) (by decide)⟩
  | str x => exact ⟨none, fun M' k => .oth (.str x) (by decide)⟩
  | lst t e => exact ⟨none, fun M' k => .oth (.lst (kk k _ _ t e)) (by decide)⟩
  | dct t e => exact ⟨none, fun M' k => .oth (.dct (kk k _ _ t e)) (by decide)⟩
  | @tup r xs ds t e l h =>
    have tt : ∀ {M' : Hp}, Kp p c H' M' → TT M' r xs := fun k => e.imp (fun e => kk k _ _ t e) fun ⟨us, e⟩ => ⟨us, kk k _ _ t e⟩
    rw [slimD, Bool.and_eq_true] at sl
    by_cases h2 : xs.length = 2
    · have h2' : ds.length = 2 := by omega
      match xs, ds, h2, h2' with
      | [x, y], [dx, dy], _, _ =>
        have vx := h 0 x dx rfl rfl
        have vy := h 1 y dy rfl rfl
        obtain ⟨o, ho⟩ := dv_th vy (slim_mem sl.2 (by simp))
        refine ⟨some (x, o), fun M' k => ?_⟩
        obtain ⟨tx, hx⟩ := (vx.mono (T' := Any) fun a o t q => ⟨trivial, kk k a o t q⟩).vt
        exact .two (tt k) hx (ho M' (kk k))
    · exact ⟨none, fun M' k => .few (tt k) h2⟩
/-- the paper that is bent, as it stands -/
structure PreS (σ : L2.St) (M : Hp) (p c a b : Addr) (kd : Str) (ns : List Nat) : Prop where
  h2 : σ[2]? = some (some (.ref a))
  h3 : σ[3]? = some (some (.str kd))
  h4 : σ[4]? = some (some (.ref b))
  dk : Deck M p c
  ea : M a = some (.tup [.str kd, .ref b])
  eb : M b = some (.tup (ns.map natV))
  hl : ns.length ≤ 40
theorem PreS.go {σ : L2.St} {M M' : Hp} {p c a b : Addr} {kd : Str} {ns : List Nat} (P : PreS σ M p c a b kd ns) (D : Deck M' p c) (k : Kp p c M M') : PreS σ M' p c a b kd ns := ⟨P.h2, P.h3, P.h4, D, k.tup P.dk _ _ P.ea, k.tup P.dk _ _ P.eb, P.hl⟩
/-- something near it -/
def CtE : TE := fun σ M Q => ∃ (p c a b : Addr) (kd : Str) (ns : List Nat), PreS σ M p c a b kd ns ∧ ∀ v M', Ctd p c M' v → Deck M' p c → Same M M' → Q v M'
def CtL (k : Nat) : TE := fun σ M Q => ∃ (p c a b : Addr) (kd : Str) (ns : List Nat), PreS σ M p c a b kd ns ∧ ∀ (l : Addr) (xs : List V) M', M' l = some (.lst xs) → l ≠ p → l ≠ c → AC p c M' xs → xs.length = k → Deck M' p c → Same M M' → Q (.ref l) M'
def spStrangeP : Sp := fun vs H Q _ => ∃ (p c w a b : Addr) (n : Nat) (L : List (Int × Int)) (kd : Str) (ns : List Nat), vs = [.ref p, .ref w, .ref a] ∧ GW H w n L ∧ Deck H p c ∧ H a = some (.tup [.str kd, .ref b]) ∧ H b = some (.tup (ns.map natV)) ∧ ns.length ≤ 40 ∧ ∀ v M, Ctd p c M v → Deck M p c → Kp p c H M → Q v M
section
variable {P : Program} {w0 : World} {K : PySem.W.Frag} {mg : Str → Option Value} {base : Heap}
abbrev nStrangeP : List Str := ["_law_deck_here", "_law_web_here", "_law_thing", "_law_kind", "_law_some", "_law_at", "_law_odd"]
theorem scStrangeP : FnScope nStrangeP ["_law_deck_here", "_law_web_here", "_law_thing"] (defScope lStrangeP) := ⟨rfl, rfl, rfl, by decide +kernel, rfl, by decide +kernel, by decide +kernel⟩
theorem ok_strangeP {f fD fP fB fA : Addr} {fd fdD fdP fdB fdA : FuncData} (F : Fun K "_law_strange" "_law_strange" lStrangeP f fd) (T : Bq mg) (GD : Dn P w0 K mg base "_law_draw" 1 ["_law_deck_here", "_law_many"] spDraw fD fdD)
    (GP : Dn P w0 K mg base "_law_pick" 2 ["_law_deck_here", "_law_some"] spPick fP fdP) (GB : Dn P w0 K mg base "_law_bent_numbers" 3 ["_law_deck_here", "_law_some", "_law_most"] spBentN fB fdB)
    (GA : Dn P w0 K mg base "_law_any" 6 ["_law_deck_here", "_law_deep"] (spAny 4) fA fdA) : FnOk P w0 K mg base CX0 7 f fd ["_law_deck_here", "_law_web_here", "_law_thing"] spStrangeP := by
  refine F.ok scStrangeP (fun vs H Q E h => ?_) (fun cdv A outer s H vs Q E hr h => ?_)
  · obtain ⟨p, c, w, a, b, n, L, kd, ns, rfl, _⟩ := h
    rfl
  · obtain ⟨p, c, w, a, b, n, L, kd, ns, rfl, G, D, ea, eb, hl, kall⟩ := h
    have hr1 : Room 1 (A.deeper (envOfC "_law_strange" (defScope lStrangeP) s.heap.objs.size f cdv)) := hr.mono (by decide)
    have hr2 : Room 2 (A.deeper (envOfC "_law_strange" (defScope lStrangeP) s.heap.objs.size f cdv)) := hr.mono (by decide)
    have hr3 : Room 3 (A.deeper (envOfC "_law_strange" (defScope lStrangeP) s.heap.objs.size f cdv)) := hr.mono (by decide)
    refine ⟨_, pss_cons (ps_asg (pv 2) (pg_tup rfl (pgs_cons (pg_name (i := 3) scStrangeP.nd rfl (.inl rfl)) (pgs_cons (pg_name (i := 4) scStrangeP.nd rfl (.inl rfl)) pgs_nil))))
      <| pss_cons (ps_set (i := 5) scStrangeP.nd rfl (.inl rfl) (pe_call GD.ok hr1 rfl GD.g GD.kp GD.b .nil pass0 (pa_cons (pv 0) (pa_cons pe_int pa_nil))))
      <| pss_cons (ps_if (pt_cmpR op_lt (pv 5) pe_int (nomark _)) (pss_one (ps_ret (pe_tup (pa_cons (pv 3) (pa_cons (pe_call GB.ok hr3 rfl GB.g GB.kp GB.b .nil pass0 (pa_cons (pv 0) (pa_cons (pv 4) (pa_cons (pe_ifExp (pt_cmpR op_eq (pv 3) pe_str (nomark _)) (pe_callB call_len_seq (by rfl) T.len PySem.boot_len (pa_cons (pe_ix ix_tup (pv 1) pe_int (fun _ _ => rfl)) pa_nil)) (pe_ix ix_tup (pv 1) pe_int (fun _ _ => rfl))) pa_nil)))) pa_nil))))) pss_nil)
      <| pss_cons (ps_set (i := 6) scStrangeP.nd rfl (.inl rfl) (pe_imp (t' := CtL 9) (pe_lst (pa_cons (pe_imp (t' := CtE) (pe_callTy call_list_of (by rfl) T.list (by decide +kernel) (pa_cons (pv 2) pa_nil)) ?e0) (pa_cons (pe_imp (t' := CtE) (pe_tup (pa_cons (pv 3) (pa_cons (pe_callTy call_list_of (by rfl) T.list (by decide +kernel) (pa_cons (pv 4) pa_nil)) pa_nil))) ?e1) (pa_cons (pe_imp (t' := CtE) (pe_tup (pa_cons (pv 3) (pa_cons (pv 4) (pa_cons pe_int pa_nil)))) ?e2) (pa_cons (pe_imp (t' := CtE) (pe_tup (pa_cons (pv 3) pa_nil)) ?e3) (pa_cons (pe_imp (t' := CtE) (pv 4) ?e4) (pa_cons (pe_imp (t' := CtE) pe_non ?e5) (pa_cons (pe_imp (t' := CtE) (pe_tup (pa_cons (pv 4) (pa_cons (pv 3) pa_nil))) ?e6) (pa_cons (pe_imp (t' := CtE) (pv 3) ?e7) (pa_cons (pe_imp (t' := CtE) (pe_tup (pa_cons pe_str (pa_cons (pv 4) pa_nil))) ?e8) pa_nil)))))))))) ?l0))
      <| pss_cons (ps_set (i := 6) scStrangeP.nd rfl (.inl rfl) (pe_op op_cat (pv 6) (pe_imp (t' := CtL 7) (pe_lst (pa_cons (pe_imp (t' := CtE) (pe_tup (pa_cons pe_str (pa_cons (pv 4) pa_nil))) ?e9) (pa_cons (pe_imp (t' := CtE) (pe_tup (pa_cons pe_str (pa_cons (pv 4) pa_nil))) ?e10) (pa_cons (pe_imp (t' := CtE) (pe_tup (pa_cons pe_non (pa_cons (pv 4) pa_nil))) ?e11) (pa_cons (pe_imp (t' := CtE) (pe_tup (pa_cons (pv 3) (pa_cons pe_non pa_nil))) ?e12) (pa_cons (pe_imp (t' := CtE) (pe_tup (pa_cons (pv 3) (pa_cons (pe_tup (pa_cons (pv 4) pa_nil)) pa_nil))) ?e13) (pa_cons (pe_imp (t' := CtE) (pe_tup (pa_cons pe_int (pa_cons (pe_tup pa_nil) pa_nil))) ?e14) (pa_cons (pe_imp (t' := CtE) (pe_tup (pa_cons pe_bl (pa_cons (pv 4) pa_nil))) ?e15) pa_nil)))))))) ?l9)))
      <| pss_one (ps_ret (pe_call GP.ok hr2 rfl GP.g GP.kp GP.b .nil pass0 (pa_cons (pv 0) (pa_cons (pe_op op_cat (pv 6) (pe_lst (pa_cons (pe_call GA.ok hr rfl GA.g GA.kp GA.b .nil pass0 (pa_cons (pv 0) (pa_cons pe_int pa_nil))) (pa_cons (pe_imp (t' := CtE) (pe_tup (pa_cons pe_str (pa_cons (pe_tup pa_nil) pa_nil))) ?e16) (pa_cons (pe_imp (t' := CtE) (pe_tup (pa_cons pe_str (pa_cons (pe_tup pa_nil) pa_nil))) ?e17) pa_nil))))) pa_nil)))), ?main⟩
    case e0 =>
      rintro σ M Q ⟨p, c, a, b, kd, ns, ⟨h2, h3, h4, D, ea, eb, hl⟩, k⟩
      refine ⟨_, h2, a, _, rfl, .inr (SqT.of ea), fun l hl => ?_⟩
      have S : Same M (upd M l (.lst [.str kd, .ref b])) := same_new hl
      exact k _ _ (ctd_lst (D.inp hl).1 (D.inp hl).2 upd_same) (D.same S) S
    case e1 =>
      rintro σ M Q ⟨p, c, a, b, kd, ns, ⟨h2, h3, h4, D, ea, eb, hl⟩, k⟩
      refine ⟨_, h3, _, h4, b, _, rfl, .inr (SqT.of eb), fun l hl => ⟨by show 2 ≤ sizeLine; decide, fun t ht => ?_⟩⟩
      have S1 : Same M (upd M l (.lst (ns.map natV))) := same_new hl
      have S : Same M (upd (upd M l (.lst (ns.map natV))) t (.tup [.str kd, .ref l])) := S1.trans (same_new ht)
      have el : (upd (upd M l (.lst (ns.map natV))) t (.tup [.str kd, .ref l])) l = some (.lst (ns.map natV)) := same_new ht _ _ upd_same
      exact k _ _ (ctd_pair (D.same S) upd_same (vts _) (thd_lst (D.inp hl).1 (D.inp hl).2 el)) (D.same S) S
    case e2 =>
      rintro σ M Q ⟨p, c, a, b, kd, ns, ⟨h2, h3, h4, D, ea, eb, hl⟩, k⟩
      refine ⟨_, h3, _, h4, by show 3 ≤ sizeLine; decide, fun t ht => ?_⟩
      have S : Same M (upd M t (.tup [.str kd, .ref b, .int 0])) := same_new ht
      exact k _ _ (ctd_few (D.same S) upd_same (by simp)) (D.same S) S
    case e3 =>
      rintro σ M Q ⟨p, c, a, b, kd, ns, ⟨h2, h3, h4, D, ea, eb, hl⟩, k⟩
      refine ⟨_, h3, by show 1 ≤ sizeLine; decide, fun t ht => ?_⟩
      have S : Same M (upd M t (.tup [.str kd])) := same_new ht
      exact k _ _ (ctd_few (D.same S) upd_same (by simp)) (D.same S) S
    case e4 =>
      rintro σ M Q ⟨p, c, a, b, kd, ns, ⟨h2, h3, h4, D, ea, eb, hl⟩, k⟩
      exact ⟨_, h4, k _ _ (ctd_row D eb) D (Same.refl M)⟩
    case e5 =>
      rintro σ M Q ⟨p, c, a, b, kd, ns, ⟨h2, h3, h4, D, ea, eb, hl⟩, k⟩
      exact k _ _ (ctd_non) D (Same.refl M)
    case e6 =>
      rintro σ M Q ⟨p, c, a, b, kd, ns, ⟨h2, h3, h4, D, ea, eb, hl⟩, k⟩
      refine ⟨_, h4, _, h3, by show 2 ≤ sizeLine; decide, fun t ht => ?_⟩
      have S : Same M (upd M t (.tup [.ref b, .str kd])) := same_new ht
      exact k _ _ (ctd_pair (D.same S) upd_same (vtn (D.same S) (S _ _ eb)) (thd_str _)) (D.same S) S
    case e7 =>
      rintro σ M Q ⟨p, c, a, b, kd, ns, ⟨h2, h3, h4, D, ea, eb, hl⟩, k⟩
      exact ⟨_, h3, k _ _ (ctd_str _) D (Same.refl M)⟩
    case e8 =>
      rintro σ M Q ⟨p, c, a, b, kd, ns, ⟨h2, h3, h4, D, ea, eb, hl⟩, k⟩
      refine ⟨_, h4, by show 2 ≤ sizeLine; decide, fun t ht => ?_⟩
      have S : Same M (upd M t (.tup [.str "rings", .ref b])) := same_new ht
      exact k _ _ (ctd_pair (D.same S) upd_same (vts _) (thd_row (D.same S) (S _ _ eb) hl)) (D.same S) S
    case e9 =>
      rintro σ M Q ⟨p, c, a, b, kd, ns, ⟨h2, h3, h4, D, ea, eb, hl⟩, k⟩
      refine ⟨_, h4, by show 2 ≤ sizeLine; decide, fun t ht => ?_⟩
      have S : Same M (upd M t (.tup [.str "sides", .ref b])) := same_new ht
      exact k _ _ (ctd_pair (D.same S) upd_same (vts _) (thd_row (D.same S) (S _ _ eb) hl)) (D.same S) S
    case e10 =>
      rintro σ M Q ⟨p, c, a, b, kd, ns, ⟨h2, h3, h4, D, ea, eb, hl⟩, k⟩
      refine ⟨_, h4, by show 2 ≤ sizeLine; decide, fun t ht => ?_⟩
      have S : Same M (upd M t (.tup [.str "ring", .ref b])) := same_new ht
      exact k _ _ (ctd_pair (D.same S) upd_same (vts _) (thd_row (D.same S) (S _ _ eb) hl)) (D.same S) S
    case e11 =>
      rintro σ M Q ⟨p, c, a, b, kd, ns, ⟨h2, h3, h4, D, ea, eb, hl⟩, k⟩
      refine ⟨_, h4, by show 2 ≤ sizeLine; decide, fun t ht => ?_⟩
      have S : Same M (upd M t (.tup [.non, .ref b])) := same_new ht
      exact k _ _ (ctd_pair (D.same S) upd_same (fun _ _ => ⟨_, .non⟩) (thd_row (D.same S) (S _ _ eb) hl)) (D.same S) S
    case e12 =>
      rintro σ M Q ⟨p, c, a, b, kd, ns, ⟨h2, h3, h4, D, ea, eb, hl⟩, k⟩
      refine ⟨_, h3, by show 2 ≤ sizeLine; decide, fun t ht => ?_⟩
      have S : Same M (upd M t (.tup [.str kd, .non])) := same_new ht
      exact k _ _ (ctd_pair (D.same S) upd_same (vts _) thd_non) (D.same S) S
    case e13 =>
      rintro σ M Q ⟨p, c, a, b, kd, ns, ⟨h2, h3, h4, D, ea, eb, hl⟩, k⟩
      refine ⟨_, h3, _, h4, by show 1 ≤ sizeLine; decide, fun l hl' => ⟨by show 2 ≤ sizeLine; decide, fun t ht => ?_⟩⟩
      have S1 : Same M (upd M l (.tup [.ref b])) := same_new hl'
      have S : Same M (upd (upd M l (.tup [.ref b])) t (.tup [.str kd, .ref l])) := S1.trans (same_new ht)
      have el : (upd (upd M l (.tup [.ref b])) t (.tup [.str kd, .ref l])) l = some (.tup [.ref b]) := same_new ht _ _ upd_same
      exact k _ _ (ctd_pair (D.same S) upd_same (vts _) (Thd.tup (D.same S) el (AV.one (vtn (D.same S) (S _ _ eb))) (by show 1 ≤ 60; decide))) (D.same S) S
    case e14 =>
      rintro σ M Q ⟨p, c, a, b, kd, ns, ⟨h2, h3, h4, D, ea, eb, hl⟩, k⟩
      refine ⟨by show 0 ≤ sizeLine; decide, fun l hl' => ⟨by show 2 ≤ sizeLine; decide, fun t ht => ?_⟩⟩
      have S1 : Same M (upd M l (.tup [])) := same_new hl'
      have S : Same M (upd (upd M l (.tup [])) t (.tup [.int 0, .ref l])) := S1.trans (same_new ht)
      have el : (upd (upd M l (.tup [])) t (.tup [.int 0, .ref l])) l = some (.tup []) := same_new ht _ _ upd_same
      exact k _ _ (ctd_pair (D.same S) upd_same (fun _ _ => ⟨_, .int 0⟩) (Thd.tup (D.same S) el (fun _ z => nomatch z) (Nat.zero_le _))) (D.same S) S
    case e15 =>
      rintro σ M Q ⟨p, c, a, b, kd, ns, ⟨h2, h3, h4, D, ea, eb, hl⟩, k⟩
      refine ⟨_, h4, by show 2 ≤ sizeLine; decide, fun t ht => ?_⟩
      have S : Same M (upd M t (.tup [.bl true, .ref b])) := same_new ht
      exact k _ _ (ctd_pair (D.same S) upd_same (fun _ _ => ⟨_, .bl true⟩) (thd_row (D.same S) (S _ _ eb) hl)) (D.same S) S
    case e16 =>
      rintro σ M Q ⟨p, c, a, b, kd, ns, ⟨h2, h3, h4, D, ea, eb, hl⟩, k⟩
      refine ⟨by show 0 ≤ sizeLine; decide, fun l hl' => ⟨by show 2 ≤ sizeLine; decide, fun t ht => ?_⟩⟩
      have S1 : Same M (upd M l (.tup [])) := same_new hl'
      have S : Same M (upd (upd M l (.tup [])) t (.tup [.str "ring", .ref l])) := S1.trans (same_new ht)
      have el : (upd (upd M l (.tup [])) t (.tup [.str "ring", .ref l])) l = some (.tup []) := same_new ht _ _ upd_same
      exact k _ _ (ctd_pair (D.same S) upd_same (vts _) (Thd.tup (D.same S) el (fun _ z => nomatch z) (Nat.zero_le _))) (D.same S) S
    case e17 =>
      rintro σ M Q ⟨p, c, a, b, kd, ns, ⟨h2, h3, h4, D, ea, eb, hl⟩, k⟩
      refine ⟨by show 0 ≤ sizeLine; decide, fun l hl' => ⟨by show 2 ≤ sizeLine; decide, fun t ht => ?_⟩⟩
      have S1 : Same M (upd M l (.tup [])) := same_new hl'
      have S : Same M (upd (upd M l (.tup [])) t (.tup [.str "sides", .ref l])) := S1.trans (same_new ht)
      have el : (upd (upd M l (.tup [])) t (.tup [.str "sides", .ref l])) l = some (.tup []) := same_new ht _ _ upd_same
      exact k _ _ (ctd_pair (D.same S) upd_same (vts _) (Thd.tup (D.same S) el (fun _ z => nomatch z) (Nat.zero_le _))) (D.same S) S
    case l0 =>
      rintro σ M Q ⟨p, c, a, b, kd, ns, P0, k⟩
      have A0 : AC p c M [] := fun _ z => nomatch z
      have S0 : Same M M := Same.refl M
      refine ⟨p, c, a, b, kd, ns, P0, fun v1 M1 c1 D1 s1 => ?_⟩
      have A1 : AC p c M1 [v1] := (A0.mono (kp_same s1)).app (AC.one c1)
      have P1 := P0.go D1 (kp_same s1)
      have S1 := S0.trans s1
      refine ⟨p, c, a, b, kd, ns, P1, fun v2 M2 c2 D2 s2 => ?_⟩
      have A2 : AC p c M2 [v1, v2] := (A1.mono (kp_same s2)).app (AC.one c2)
      have P2 := P1.go D2 (kp_same s2)
      have S2 := S1.trans s2
      refine ⟨p, c, a, b, kd, ns, P2, fun v3 M3 c3 D3 s3 => ?_⟩
      have A3 : AC p c M3 [v1, v2, v3] := (A2.mono (kp_same s3)).app (AC.one c3)
      have P3 := P2.go D3 (kp_same s3)
      have S3 := S2.trans s3
      refine ⟨p, c, a, b, kd, ns, P3, fun v4 M4 c4 D4 s4 => ?_⟩
      have A4 : AC p c M4 [v1, v2, v3, v4] := (A3.mono (kp_same s4)).app (AC.one c4)
      have P4 := P3.go D4 (kp_same s4)
      have S4 := S3.trans s4
      refine ⟨p, c, a, b, kd, ns, P4, fun v5 M5 c5 D5 s5 => ?_⟩
      have A5 : AC p c M5 [v1, v2, v3, v4, v5] := (A4.mono (kp_same s5)).app (AC.one c5)
      have P5 := P4.go D5 (kp_same s5)
      have S5 := S4.trans s5
      refine ⟨p, c, a, b, kd, ns, P5, fun v6 M6 c6 D6 s6 => ?_⟩
      have A6 : AC p c M6 [v1, v2, v3, v4, v5, v6] := (A5.mono (kp_same s6)).app (AC.one c6)
      have P6 := P5.go D6 (kp_same s6)
      have S6 := S5.trans s6
      refine ⟨p, c, a, b, kd, ns, P6, fun v7 M7 c7 D7 s7 => ?_⟩
      have A7 : AC p c M7 [v1, v2, v3, v4, v5, v6, v7] := (A6.mono (kp_same s7)).app (AC.one c7)
      have P7 := P6.go D7 (kp_same s7)
      have S7 := S6.trans s7
      refine ⟨p, c, a, b, kd, ns, P7, fun v8 M8 c8 D8 s8 => ?_⟩
      have A8 : AC p c M8 [v1, v2, v3, v4, v5, v6, v7, v8] := (A7.mono (kp_same s8)).app (AC.one c8)
      have P8 := P7.go D8 (kp_same s8)
      have S8 := S7.trans s8
      refine ⟨p, c, a, b, kd, ns, P8, fun v9 M9 c9 D9 s9 => ?_⟩
      have A9 : AC p c M9 [v1, v2, v3, v4, v5, v6, v7, v8, v9] := (A8.mono (kp_same s9)).app (AC.one c9)
      have P9 := P8.go D9 (kp_same s9)
      have S9 := S8.trans s9
      refine ⟨by show 9 ≤ sizeLine; decide, fun l hl => ?_⟩
      have s : Same M9 (upd M9 l (.lst [v1, v2, v3, v4, v5, v6, v7, v8, v9])) := same_new hl
      exact k l _ _ upd_same (D9.inp hl).1 (D9.inp hl).2 (A9.mono (kp_same s)) rfl (D9.same s) (S9.trans s)
    case l9 =>
      rintro σ M Q ⟨p, c, a, b, kd, ns, P0, k⟩
      have A0 : AC p c M [] := fun _ z => nomatch z
      have S0 : Same M M := Same.refl M
      refine ⟨p, c, a, b, kd, ns, P0, fun v1 M1 c1 D1 s1 => ?_⟩
      have A1 : AC p c M1 [v1] := (A0.mono (kp_same s1)).app (AC.one c1)
      have P1 := P0.go D1 (kp_same s1)
      have S1 := S0.trans s1
      refine ⟨p, c, a, b, kd, ns, P1, fun v2 M2 c2 D2 s2 => ?_⟩
      have A2 : AC p c M2 [v1, v2] := (A1.mono (kp_same s2)).app (AC.one c2)
      have P2 := P1.go D2 (kp_same s2)
      have S2 := S1.trans s2
      refine ⟨p, c, a, b, kd, ns, P2, fun v3 M3 c3 D3 s3 => ?_⟩
      have A3 : AC p c M3 [v1, v2, v3] := (A2.mono (kp_same s3)).app (AC.one c3)
      have P3 := P2.go D3 (kp_same s3)
      have S3 := S2.trans s3
      refine ⟨p, c, a, b, kd, ns, P3, fun v4 M4 c4 D4 s4 => ?_⟩
      have A4 : AC p c M4 [v1, v2, v3, v4] := (A3.mono (kp_same s4)).app (AC.one c4)
      have P4 := P3.go D4 (kp_same s4)
      have S4 := S3.trans s4
      refine ⟨p, c, a, b, kd, ns, P4, fun v5 M5 c5 D5 s5 => ?_⟩
      have A5 : AC p c M5 [v1, v2, v3, v4, v5] := (A4.mono (kp_same s5)).app (AC.one c5)
      have P5 := P4.go D5 (kp_same s5)
      have S5 := S4.trans s5
      refine ⟨p, c, a, b, kd, ns, P5, fun v6 M6 c6 D6 s6 => ?_⟩
      have A6 : AC p c M6 [v1, v2, v3, v4, v5, v6] := (A5.mono (kp_same s6)).app (AC.one c6)
      have P6 := P5.go D6 (kp_same s6)
      have S6 := S5.trans s6
      refine ⟨p, c, a, b, kd, ns, P6, fun v7 M7 c7 D7 s7 => ?_⟩
      have A7 : AC p c M7 [v1, v2, v3, v4, v5, v6, v7] := (A6.mono (kp_same s7)).app (AC.one c7)
      have P7 := P6.go D7 (kp_same s7)
      have S7 := S6.trans s7
      refine ⟨by show 7 ≤ sizeLine; decide, fun l hl => ?_⟩
      have s : Same M7 (upd M7 l (.lst [v1, v2, v3, v4, v5, v6, v7])) := same_new hl
      exact k l _ _ upd_same (D7.inp hl).1 (D7.inp hl).2 (A7.mono (kp_same s)) rfl (D7.same s) (S7.trans s)
    case main =>
    obtain ⟨t, vs, e1, e2, e3⟩ := G.web.ex
    have n2 := G.n2
    have few := G.few
    have len := e3.len
    refine ⟨_, rfl, a, _, rfl, SqT.of ea, rfl, _, _, rfl, _, _, rfl, rfl, ?_⟩
    refine ⟨_, rfl, p, c, _, rfl, D, by decide, by decide, fun r H1 r0 r1 D1 K1 => ?_⟩
    have ea1 := K1.tup D _ _ ea
    have eb1 := K1.tup D _ _ eb
    have e11 := K1.tup D _ _ e1
    have e21 := K1.tup D _ _ e2
    refine ⟨_, rfl, _, _, rfl, rfl, _, rfl, ite2 (fun _ => ?_) (fun _ => ?_)⟩
    · have fin : ∀ v M, Thd p c M v → Deck M p c → Kp p c H1 M → (2 ≤ sizeLine ∧ ∀ t, M t = none → Q (.ref t) (upd M t (.tup [.str kd, v]))) := fun v M th DM KM => ⟨by decide, fun t ht => by
        have S : Same M (upd M t (.tup [.str kd, v])) := same_new ht
        exact kall _ _ (ctd_pair (DM.same S) upd_same (vts _) (th.mono (kp_same S))) (DM.same S) ((K1.trans KM).trans (kp_same S))⟩
      refine ⟨_, rfl, _, rfl, _, rfl, _, rfl, rfl, _, rfl, ite2 (fun _ => ?_) (fun _ => ?_)⟩
      · exact ⟨_, rfl, w, _, _, _, rfl, rfl, SqT.of e11, atI_nat (j := 1) rfl, t, _, rfl, .inr (SqT.of e21), p, c, b, vs.length, _, rfl, by omega, D1, eb1, by rw [List.length_map]; exact hl, AV.nats ns, fin⟩
      · exact ⟨_, rfl, w, _, _, _, rfl, rfl, SqT.of e11, atI_nat (j := 0) rfl, p, c, b, n, _, rfl, by omega, D1, eb1, by rw [List.length_map]; exact hl, AV.nats ns, fin⟩
    refine ⟨p, c, a, b, kd, ns, ⟨rfl, rfl, rfl, D1, ea1, eb1, hl⟩, fun l1 xs1 M2 y1 lp1 lc1 A1 n1 D2 S2 => ?_⟩
    have P2 := S2 _ _ ea1
    have Q2 := S2 _ _ eb1
    refine ⟨_, rfl, p, c, a, b, kd, ns, ⟨rfl, rfl, rfl, D2, P2, Q2, hl⟩, fun l2 xs2 M3 y2 lp2 lc2 A2 n2' D3 S3 => ?_⟩
    refine ⟨l1, l2, xs1, xs2, rfl, rfl, S3 _ _ y1, y2, by rw [n1, n2']; decide, fun l3 hl3 => ?_⟩
    have S4 : Same M3 (upd M3 l3 (.lst (xs1 ++ xs2))) := same_new hl3
    have D4 := D3.same S4
    have A3 := ((A1.mono (kp_same S3)).app A2).mono (kp_same S4)
    have y3 : (upd M3 l3 (.lst (xs1 ++ xs2))) l3 = some (.lst (xs1 ++ xs2)) := upd_same
    obtain ⟨lp3, lc3⟩ := D3.inp hl3
    have P4 := S4 _ _ (S3 _ _ P2)
    have Q4 := S4 _ _ (S3 _ _ Q2)
    have K4 := K1.trans ((kp_same (p := p) (c := c) S2).trans ((kp_same S3).trans (kp_same S4)))
    have ln : (xs1 ++ xs2).length = 16 := by rw [List.length_append, n1, n2']
    generalize upd M3 l3 (.lst (xs1 ++ xs2)) = M4 at S4 D4 A3 y3 P4 Q4 K4 ⊢
    generalize xs1 ++ xs2 = xs at A3 y3 ln ⊢
    refine ⟨_, rfl, _, rfl, _, rfl, p, c, 2, rfl, by decide, D4, fun v d M5 tm dv nt D5 K5 => ?_⟩
    have cv := dv_ctd D4 dv tm.sl
    have y5 := K5 _ _ lp3 lc3 y3
    have A5 := A3.mono K5
    refine ⟨p, c, a, b, kd, ns, ⟨rfl, rfl, rfl, D5, K5.tup D4 _ _ P4, K5.tup D4 _ _ Q4, hl⟩, fun v1 M6 c1 D6 S6 => ?_⟩
    have P6 := S6 _ _ (K5.tup D4 _ _ P4)
    have Q6 := S6 _ _ (K5.tup D4 _ _ Q4)
    refine ⟨p, c, a, b, kd, ns, ⟨rfl, rfl, rfl, D6, P6, Q6, hl⟩, fun v2 M7 c2 D7 S7 => ?_⟩
    refine ⟨by show 3 ≤ sizeLine; decide, fun l4 hl4 => ?_⟩
    have S8 : Same M7 (upd M7 l4 (.lst [v, v1, v2])) := same_new hl4
    have D8 := D7.same S8
    have y8 := S8 _ _ (S7 _ _ (S6 _ _ y5))
    refine ⟨l3, l4, xs, [v, v1, v2], rfl, rfl, y8, upd_same, by rw [ln]; show _ + 3 ≤ sizeLine; decide, fun l5 hl5 => ?_⟩
    have S9 : Same (upd M7 l4 (.lst [v, v1, v2])) (upd (upd M7 l4 (.lst [v, v1, v2])) l5 (.lst (xs ++ [v, v1, v2]))) := same_new hl5
    obtain ⟨lp5, lc5⟩ := D8.inp hl5
    have D9 := D8.same S9
    have K59 : Kp p c M5 (upd (upd M7 l4 (.lst [v, v1, v2])) l5 (.lst (xs ++ [v, v1, v2]))) := kp_same (((S6.trans S7).trans S8).trans S9)
    have A9 : AC p c (upd (upd M7 l4 (.lst [v, v1, v2])) l5 (.lst (xs ++ [v, v1, v2]))) (xs ++ [v, v1, v2]) := by
      refine (A5.mono K59).app ?_
      exact ((AC.one (cv.mono K59)).app (AC.one (c1.mono (kp_same ((S7.trans S8).trans S9))))).app (AC.one (c2.mono (kp_same (S8.trans S9))))
    refine ⟨p, c, l5, _, rfl, D9, upd_same, lp5, lc5, by rw [List.length_append, ln]; show 1 ≤ _ + 3; omega, by rw [List.length_append, ln]; show _ + 3 < 1000; omega, fun i v M' hi D' K' => ?_⟩
    exact kall v M' ((A9 v (List.mem_of_getElem? hi)).mono K') D' ((K4.trans (K5.trans K59)).trans K')
end
end K0

set_option Elab.async false
set_option linter.all false
set_option maxRecDepth 100000
set_option maxHeartbeats 8000000
/-! The paper of a web. -/
namespace K0
open PySem PySem.Spec L2
open PyProof.Rows hiding St
/-- the paper of a web: its word and its row -/
def IsPap (n : Nat) (L : List (Int × Int)) (kd : Str) (ns : List Nat) : Prop := ∃ ys, Cls L (2 ^ n - 1) ys ∧ (ys.Pairwise fun a b => hd a < hd b) ∧
  ((∃ i a b : Nat, i < L.length ∧ tie L i = ((a : Int), (b : Int)) ∧ oddT L ys i = true ∧ (∀ k, k < i → oddT L ys k = false) ∧ kd = "ring" ∧ ns = ringOf (wayP L ys a) i (wayP L ys b)) ∨
   ((∀ k, k < L.length → oddT L ys k = false) ∧ kd = "sides" ∧ ns = (List.range n).filter fun p => decide ((wayP L ys p).length % 2 = 0)))
theorem IsPap.uniq {n : Nat} {L : List (Int × Int)} {kd kd' : Str} {ns ns' : List Nat} (h : IsPap n L kd ns) (h' : IsPap n L kd' ns') : kd = kd' ∧ ns = ns' := by
  obtain ⟨ys, C, A, h⟩ := h
  obtain ⟨ys', C', A', h'⟩ := h'
  obtain rfl := C.eq C' A A'
  rcases h with ⟨i, a, b, hi, e, o, lo, rfl, rfl⟩ | ⟨no, rfl, rfl⟩
  · rcases h' with ⟨j, a', b', hj, e', o', lo', rfl, rfl⟩ | ⟨no, rfl, rfl⟩
    · have ij : i = j := by
        rcases Nat.lt_trichotomy i j with z | z | z
        · rw [lo' i z] at o; cases o
        · exact z
        · rw [lo j z] at o'; cases o'
      subst ij
      rw [e] at e'
      have e1 := congrArg Prod.fst e'
      have e2 := congrArg Prod.snd e'
      dsimp only at e1 e2
      have e1 : a = a' := by omega
      have e2 : b = b' := by omega
      subst e1 e2
      exact ⟨rfl, rfl⟩
    · rw [no i hi] at o; cases o
  · rcases h' with ⟨j, a', b', hj, e', o', lo', rfl, rfl⟩ | ⟨no', rfl, rfl⟩
    · rw [no j hj] at o'; cases o'
    · exact ⟨rfl, rfl⟩
theorem way_nat {n : Nat} {L : List (Int × Int)} {ys : List (List Nat)} (C : Cls L (2 ^ n - 1) ys) (B : BelN L n) (hn : n ≤ 12) {p : Nat} (hp : p < n) : (wayP L ys p).length < n ∧ ∀ k ∈ wayP L ys p, k < L.length := by
  obtain ⟨c, hc, pc⟩ := C.all p (by rw [full_bit]; exact decide_eq_true hp)
  have m := wayP_in C B hn hc pc
  have hh := hd_mem (C.ne hc)
  have hl : hd c < n := by
    have := ((C.one hc hh (hd c)).mp hh).bit
    rwa [full_bit, decide_eq_true_eq] at this
  have G := (Grow.start hl).run (k := 40) B
  exact ⟨way_len G m, G.lt _ _ m⟩
theorem ring_few {x y : List Nat} {k m n : Nat} (hx : x.length < n ∧ ∀ i ∈ x, i < m) (hy : y.length < n ∧ ∀ i ∈ y, i < m) (hk : k < m) : (ringOf x k y).length < 2 * n ∧ ∀ i ∈ ringOf x k y, i < m := by
  unfold ringOf
  refine ⟨?_, fun i hi => ?_⟩
  · rw [List.length_append, List.length_cons, List.length_reverse, List.length_drop, List.length_drop]
    omega
  · rcases List.mem_append.mp hi with z | z
    · exact hx.2 i (List.mem_of_mem_drop z)
    · rcases List.mem_cons.mp z with rfl | z
      · exact hk
      · exact hy.2 i (List.mem_of_mem_drop (List.mem_reverse.mp z))
theorem natV_int (ns : List Nat) : ns.map natV = (ns.map fun i => ((i : Nat) : Int)).map V.int := by
  rw [List.map_map] <;> rfl
theorem nat_mem {ns : List Nat} {i : Nat} : ((i : Nat) : Int) ∈ ns.map (fun i => ((i : Nat) : Int)) ↔ i ∈ ns := by
  rw [List.mem_map]
  exact ⟨fun ⟨j, h, e⟩ => by rw [show i = j by omega]; exact h, fun h => ⟨i, h, rfl⟩⟩
/-- ties cut by a row: sides -/
theorem sides_iff {n : Nat} {L : List (Int × Int)} (B : Bel n L) {ns : List Int} {x : Nat → Bool} (hx : ∀ i : Nat, i < n → decide ((i : Int) ∈ ns) = x i) : sidesL L ns = true ↔ Proper L x := by
  have key : ∀ a b : Nat, a < n → b < n → (crB (fun p => decide (p ∈ ns)) ((a : Int), (b : Int)) = true ↔ x a ≠ x b) := fun a b ha hb => by
    show (decide ((a : Int) ∈ ns) != decide ((b : Int) ∈ ns)) = true ↔ _
    rw [hx a ha, hx b hb]
    simp
  unfold sidesL
  rw [List.all_eq_true]
  constructor
  · intro h a b ad
    rcases ad with z | z
    · have := B _ z
      dsimp only at this
      exact (key a b (by omega) (by omega)).mp (h _ z)
    · have := B _ z
      dsimp only at this
      exact ((key b a (by omega) (by omega)).mp (h _ z)).symm
  · intro h q hq
    have bq := B q hq
    obtain ⟨q1, q2⟩ := q
    obtain ⟨a, rfl⟩ : ∃ a : Nat, q1 = a := ⟨q1.toNat, by dsimp only at bq; omega⟩
    obtain ⟨b, rfl⟩ : ∃ b : Nat, q2 = b := ⟨q2.toNat, by dsimp only at bq; omega⟩
    dsimp only at bq
    exact (key a b (by omega) (by omega)).mpr (h a b (.inl hq))
/-- no odd ring beside proper sides -/
theorem ring_improper {n : Nat} {L : List (Int × Int)} (B : Bel n L) {ns : List Nat} (h : ringB L ns = true) (lt : ∀ k ∈ ns, k < L.length) (odd : ns.length % 2 = 1) : ∀ x, ¬ Proper L x := fun x px => no_sides h odd (fun p => x p.toNat) fun k hk => by
  have hq := List.getElem?_eq_getElem (lt k hk)
  rw [tie_at hq]
  have hm := List.getElem_mem (lt k hk)
  have bq := B _ hm
  generalize L[k]'(lt k hk) = q at hm bq
  obtain ⟨q1, q2⟩ := q
  obtain ⟨a, rfl⟩ : ∃ a : Nat, q1 = a := ⟨q1.toNat, by dsimp only at bq; omega⟩
  obtain ⟨b, rfl⟩ : ∃ b : Nat, q2 = b := ⟨q2.toNat, by dsimp only at bq; omega⟩
  have := px a b (.inl hm)
  show (x ((a : Int)).toNat != x ((b : Int)).toNat) = true
  simpa using this
theorem str_inj {a b : Str} (h : V.str a = V.str b) : a = b := V.str.inj h
/-- a right paper tells what the web is -/
theorem paper_kind {n : Nat} {L : List (Int × Int)} (B : Bel n L) {c : Str} {o : Option (List V)} (h : paperO n L (some (.str c, o)) = true) : (c = "sides" ∧ ∃ x, Proper L x) ∨ (c = "ring" ∧ ∀ x, ¬ Proper L x) := by
  by_cases h1 : V.str c = .str "sides"
  · have ans : paperO n L (some (V.str c, o)) = (lotO n o && sidesO L o) := if_pos h1
    rw [ans, Bool.and_eq_true] at h
    cases o with
    | none => cases h.1
    | some xs => exact .inl ⟨str_inj h1, fun i => decide ((i : Int) ∈ xs.map intV), (sides_iff B fun i _ => rfl).mp h.2⟩
  · by_cases h2 : V.str c = .str "ring"
    · have ans : paperO n L (some (V.str c, o)) = (ringO L o && oddO o) := (if_neg h1).trans (if_pos h2)
      rw [ans, Bool.and_eq_true] at h
      cases o with
      | none => cases h.1
      | some xs =>
        have h3 : (xs.all (belowV · L.length) && ringB L (natsOf xs)) = true := h.1
        rw [Bool.and_eq_true] at h3
        obtain ⟨e1, e2⟩ := nats_of h3.1
        have e3 : decide (xs.length % 2 = 1) = true := h.2
        rw [e1, List.length_map, decide_eq_true_eq] at e3
        exact .inr ⟨str_inj h2, ring_improper B h3.2 e2 e3⟩
    · have ans : paperO n L (some (V.str c, o)) = false := (if_neg h1).trans (if_neg h2)
      rw [ans] at h
      cases h
theorem paper_one {n : Nat} {L : List (Int × Int)} (B : Bel n L) {c d : Str} {o u : Option (List V)} (h : paperO n L (some (.str c, o)) = true) (g : paperO n L (some (.str d, u)) = true) : c = d := by
  rcases paper_kind B h with ⟨rfl, x, px⟩ | ⟨rfl, no⟩ <;> rcases paper_kind B g with ⟨rfl, y, py⟩ | ⟨rfl, no'⟩
  · rfl
  · exact absurd px (no' x)
  · exact absurd py (no y)
  · rfl
theorem paper_sides {n : Nat} {L : List (Int × Int)} (o : Option (List V)) : paperO n L (some (.str "sides", o)) = (lotO n o && sidesO L o) := by
  simp only [paperO, if_true]
theorem paper_ring {n : Nat} {L : List (Int × Int)} (o : Option (List V)) : paperO n L (some (.str "ring", o)) = (ringO L o && oddO o) := by
  simp only [paperO]
  rw [if_neg (by decide)]
  simp only [if_true]
/-- the paper of a web is right -/
theorem IsPap.right {n : Nat} {L : List (Int × Int)} (B : Bel n L) (hn : n ≤ 12) {kd : Str} {ns : List Nat} (h : IsPap n L kd ns) : paperO n L (some (.str kd, some (ns.map natV))) = true := by
  obtain ⟨ys, C, _, h⟩ := h
  have BN := belN_of B
  rcases h with ⟨i, a, b, hi, e, o, _, rfl, rfl⟩ | ⟨no, rfl, rfl⟩
  · have bi := BN i hi
    rw [e] at bi
    dsimp only at bi
    have par : (wayP L ys a).length % 2 = (wayP L ys b).length % 2 := by
      unfold oddT at o
      rw [e, decide_eq_true_eq] at o
      simpa using o
    obtain ⟨r1, r2⟩ := odd_ring C BN hn hi e par
    have lt := (ring_few (way_nat C BN hn (p := a) (by omega)) (way_nat C BN hn (p := b) (by omega)) hi).2
    rw [paper_ring, ringO_nats lt, r1, Bool.true_and]
    show decide _ = true
    rw [List.length_map]
    exact decide_eq_true r2
  · rw [paper_sides, Bool.and_eq_true]
    have lt : ∀ i ∈ (List.range n).filter fun p => decide ((wayP L ys p).length % 2 = 0), i < n := fun i hi => List.mem_range.mp (List.mem_filter.mp hi).1
    have inc : ((List.range n).filter fun p => decide ((wayP L ys p).length % 2 = 0)).Pairwise (· < ·) := List.pairwise_lt_range.filter _
    refine ⟨?_, ?_⟩
    · show lotD n _ = true
      rw [natV_int]
      exact of_lot (nat_lot lt inc)
    · show sidesL L ((((List.range n).filter fun p => decide ((wayP L ys p).length % 2 = 0)).map natV).map intV) = true
      rw [natV_int, map_intV]
      refine (sides_iff B (x := fun p => decide ((wayP L ys p).length % 2 = 0)) fun i hi => ?_).mpr fun a b ad => ?_
      · refine decide_eq_decide.mpr ?_
        rw [nat_mem, List.mem_filter, List.mem_range, decide_eq_true_eq]
        exact ⟨fun z => z.2, fun z => ⟨hi, z⟩⟩
      · have nn : ∀ j : Nat, j < L.length → ∀ u v : Nat, tie L j = ((u : Int), (v : Int)) → (wayP L ys u).length % 2 ≠ (wayP L ys v).length % 2 := fun j hj u v e z => by
          have := no j hj
          unfold oddT at this
          rw [e, decide_eq_false_iff_not] at this
          exact this z
        have fin : ∀ u v : Nat, (wayP L ys u).length % 2 ≠ (wayP L ys v).length % 2 → decide ((wayP L ys u).length % 2 = 0) ≠ decide ((wayP L ys v).length % 2 = 0) := fun u v z e => by
          rw [decide_eq_decide] at e
          omega
        rcases ad with z | z
        · obtain ⟨j, hj⟩ := List.getElem?_of_mem z
          exact fin a b (nn j (List.getElem?_eq_some_iff.mp hj).1 a b (tie_get hj))
        · obtain ⟨j, hj⟩ := List.getElem?_of_mem z
          exact (fin b a (nn j (List.getElem?_eq_some_iff.mp hj).1 b a (tie_get hj))).symm
theorem IsPap.few {n : Nat} {L : List (Int × Int)} (B : Bel n L) (hn : n ≤ 12) {kd : Str} {ns : List Nat} (h : IsPap n L kd ns) (hL : L.length ≤ 40) : ns.length ≤ 40 ∧ (∀ k ∈ ns, k < 64) ∧ (kd = "sides" ∨ kd = "ring") := by
  obtain ⟨ys, C, _, h⟩ := h
  have BN := belN_of B
  rcases h with ⟨i, a, b, hi, e, o, _, rfl, rfl⟩ | ⟨no, rfl, rfl⟩
  · have bi := BN i hi
    rw [e] at bi
    dsimp only at bi
    have lt := ring_few (way_nat C BN hn (p := a) (by omega)) (way_nat C BN hn (p := b) (by omega)) hi
    exact ⟨by omega, fun k hk => by have := lt.2 k hk; omega, .inr rfl⟩
  · have := List.length_filter_le (fun p => decide ((wayP L ys p).length % 2 = 0)) (List.range n)
    rw [List.length_range] at this
    exact ⟨by omega, fun k hk => by have := List.mem_range.mp (List.mem_filter.mp hk).1; omega, .inl rfl⟩
/-- judge_sides, its paper told -/
def spPap : Sp := fun vs H Q _ => ∃ (w : Addr) (n : Nat) (L : List (Int × Int)), vs = [.ref w] ∧ GW H w n L ∧ ∀ (kd : Str) (ns : List Nat), IsPap n L kd ns → ∀ (t v : Addr) (H' : Hp), Same H H' → H t = none → H' t = some (.tup [.str kd, .ref v]) → H' v = some (.tup (ns.map natV)) → Q (.ref t) H'
theorem FnOk.weak {P : Program} {w : World} {K : PySem.W.Frag} {mg : Str → Option Value} {base : Heap} {CX : CXT} {k : Nat} {f : Addr} {fd : FuncData} {ps : List Str} {sp sp' : Sp} (F : FnOk P w K mg base CX k f fd ps sp) (h : ∀ vs H Q E, sp' vs H Q E → sp vs H Q E) : FnOk P w K mg base CX k f fd ps sp' :=
  ⟨fun vs H Q E z => F.len vs H Q E (h _ _ _ _ z), fun A outer s H args us vs Q E hr h0 hb r z => F.run A outer s H args us vs Q E hr h0 hb r (h _ _ _ _ z)⟩
theorem pap_sides (vs : List V) (H : Hp) (Q : VK) (E : XK) (h : spPap vs H Q E) : spSidesX vs H Q E := by
  obtain ⟨w, n, L, rfl, G, k⟩ := h
  refine ⟨w, n, L, rfl, G, fun ys C A => ⟨fun i a b hi e o lo t v H' s f e1 e2 => ?_, fun no t v H' s f e1 e2 => ?_⟩⟩
  · exact k _ _ ⟨ys, C, A, .inl ⟨i, a, b, hi, e, o, lo, rfl, rfl⟩⟩ t v H' s f e1 e2
  · exact k _ _ ⟨ys, C, A, .inr ⟨no, rfl, rfl⟩⟩ t v H' s f e1 e2
/-! ### lots by number -/
theorem bits_int (x : Nat) : bitsN x 12 = ((List.range 12).filter (bitAt x)).map fun i => ((i : Nat) : Int) := rfl
/-- a lot's row by its number -/
def rowN (x : Nat) : List Nat := (List.range 12).filter (bitAt x)
theorem bits_row (x : Nat) : (bitsN x 12).map V.int = (rowN x).map natV := by rw [natV_int] <;> rfl
theorem row_few (x : Nat) : (rowN x).length ≤ 12 := by
  have := List.length_filter_le (bitAt x) (List.range 12)
  rw [List.length_range] at this
  exact this
theorem row_paper {n x : Nat} {L : List (Int × Int)} (B : Bel n L) (hn : n ≤ 12) (hx : x < 2 ^ n) : paperO n L (some (.str "sides", some ((rowN x).map natV))) = true ↔ Cuts L x := by
  rw [paper_sides, ← bits_row]
  have e1 : lotO n (some ((bitsN x 12).map V.int)) = true := of_lot (bits_lot hx hn)
  have e2 : sidesO L (some ((bitsN x 12).map V.int)) = sidesL L (bitsN x 12) := by
    show sidesL L (((bitsN x 12).map V.int).map intV) = _
    rw [map_intV]
  rw [e1, Bool.true_and, e2]
  refine (sides_iff B (x := fun i => x.testBit i) fun i hi => ?_)
  rw [bits_int, Bool.eq_iff_iff, decide_eq_true_eq, nat_mem, List.mem_filter, List.mem_range]
  have e3 : bitAt x i = x.testBit i := by
    unfold bitAt
    rw [Nat.testBit_eq_decide_div_mod_eq]
  rw [e3]
  exact ⟨fun z => z.2, fun z => ⟨by omega, z⟩⟩
/-- as many lots are sides as there are choices -/
theorem lots_many {n : Nat} {L : List (Int × Int)} (B : Bel n L) (hn : n ≤ 12) {kd : Str} {ns : List Nat} (h : IsPap n L kd ns) {ys : List (List Nat)} (C : Cls L (2 ^ n - 1) ys) :
    ((List.range (2 ^ n)).filter fun x => paperO n L (some (.str "sides", some ((rowN x).map natV)))).length = if V.str kd = V.str "sides" then 2 ^ ys.length else 0 := by
  have hr := h.right B hn
  have hL : ∀ x y, Adj L x y → (2 ^ n - 1).testBit x = true ∧ (2 ^ n - 1).testBit y = true := fun x y a => by
    have := bel_adj (belN_of B) a
    rw [full_bit, full_bit, decide_eq_true this.1, decide_eq_true this.2]
    exact ⟨rfl, rfl⟩
  rcases paper_kind B hr with ⟨rfl, x, px⟩ | ⟨rfl, no⟩
  · rw [if_pos rfl]
    have nd : ((List.range n).filter fun i => x i).Nodup := List.nodup_range.filter _
    have lt : ∀ i ∈ (List.range n).filter fun i => x i, i < n := fun i hi => List.mem_range.mp (List.mem_filter.mp hi).1
    refine cuts_many C hL (k := maskN ((List.range n).filter fun i => x i)) (mask_lt nd lt) (fun a b ad => ?_) _ fun m hm => row_paper B hn hm
    have bits : ∀ i, i < n → (maskN ((List.range n).filter fun i => x i)).testBit i = x i := fun i hi => by
      rw [Bool.eq_iff_iff, mask_bit nd, List.mem_filter, List.mem_range]
      exact ⟨fun z => z.2, fun z => ⟨hi, z⟩⟩
    have := bel_adj (belN_of B) ad
    rw [bits a this.1, bits b this.2]
    exact px a b ad
  · rw [if_neg (show ¬ V.str "ring" = V.str "sides" by decide), List.length_eq_zero_iff, List.filter_eq_nil_iff]
    intro m hm z
    exact no _ ((row_paper B hn (List.mem_range.mp hm)).mp z)
/-- a paper, as a datum -/
theorem tame_kd {x : Str} (h : x = "sides" ∨ x = "ring") (k : Nat) : Tame k (.str x) := by
  have z : ∀ y ∈ (["sides", "ring"] : List Str), PyData.leavesShort 200 (.str y) = true ∧ y.cps.size ≤ 12 := by decide +kernel
  have h : x ∈ (["sides", "ring"] : List Str) := by
    rcases h with rfl | rfl
    · exact List.mem_cons_self ..
    · exact List.mem_cons_of_mem _ (List.mem_cons_self ..)
  refine ⟨by simp only [PyData.showable], (z x h).1, by simp only [PyData.depth]; omega, ?_, by simp only [slimD]⟩
  have := (z x h).2
  have := bb_le k
  simp only [PyData.bulk]
  omega
def papD (kd : Str) (ns : List Nat) : PyData := .tuple [.str kd, .tuple ((ns.map fun i => ((i : Nat) : Int)).map PyData.int)]
theorem fit_pap {kd : Str} {ns : List Nat} (hk : kd = "sides" ∨ kd = "ring") (lt : ∀ k ∈ ns, k < 64) (l : ns.length ≤ 40) : Fit (papD kd ns) := by
  have t1 : Tame 3 (.tuple ((ns.map fun i => ((i : Nat) : Int)).map PyData.int)) := (tame_big (fun d hd => by
    obtain ⟨i, hi, rfl⟩ := List.mem_map.mp hd
    obtain ⟨j, hj, rfl⟩ := List.mem_map.mp hi
    exact tame_small (by have := lt j hj; omega) 0) (by rw [List.length_map, List.length_map]; exact l)).1
  have t := tame_tuple (k := 3) (ds := [.str kd, .tuple ((ns.map fun i => ((i : Nat) : Int)).map PyData.int)]) (fun d hd => by
    rcases List.mem_cons.mp hd with rfl | hd
    · exact tame_kd hk 3
    · rw [List.mem_singleton.mp hd]; exact t1) (by simp)
  have b1 : bb (3 + 1) ≤ 60000 := by decide
  unfold papD
  exact fit_of t.sh t.lv (by have := t.dp; omega) (by have := t.bk; omega)
theorem dv_pap {H : Hp} {t v : Addr} {kd : Str} {ns : List Nat} (e1 : H t = some (.tup [.str kd, .ref v])) (e2 : H v = some (.tup (ns.map natV))) : DV H Any (.ref t) (papD kd ns) := by
  rw [natV_int] at e2
  exact .tup trivial (.inl e1) rfl fun i x d z1 z2 => match i, z1, z2 with
    | 0, rfl, rfl => .str kd
    | 1, rfl, rfl => dv_lot (.inl e2)
    | n + 2, z1, z2 => by simp at z1
/-- a paper with a row, in its place -/
def PpAt (M : Hp) (v : V) (kd : Str) (ns : List Nat) : Prop := ∃ t b : Addr, v = .ref t ∧ M t = some (.tup [.str kd, .ref b]) ∧ M b = some (.tup (ns.map natV)) ∧ ns.length ≤ 40
def Pp (M : Hp) (v : V) : Prop := ∃ kd ns, PpAt M v kd ns
theorem PpAt.mono {M M' : Hp} {v : V} {kd : Str} {ns : List Nat} (h : PpAt M v kd ns) (k : ∀ a x, M a = some (.tup x) → M' a = some (.tup x)) : PpAt M' v kd ns := by
  obtain ⟨t, b, e, h1, h2, h3⟩ := h
  exact ⟨t, b, e, k _ _ h1, k _ _ h2, h3⟩
theorem Pp.mono {M M' : Hp} {v : V} (h : Pp M v) (k : ∀ a x, M a = some (.tup x) → M' a = some (.tup x)) : Pp M' v := let ⟨kd, ns, h⟩ := h; ⟨kd, ns, h.mono k⟩
theorem PpAt.ct {M : Hp} {v : V} {kd : Str} {ns : List Nat} (h : PpAt M v kd ns) : Ct M v (some (.str kd, some (ns.map natV))) := by
  obtain ⟨t, b, rfl, h1, h2, h3⟩ := h
  exact .two (.inl h1) (.str kd) (.tup (.inl h2) (fun x hx => by obtain ⟨i, _, rfl⟩ := List.mem_map.mp hx; exact ⟨_, .int _⟩) (by rw [List.length_map]; omega))
theorem PpAt.ctd {p c : Addr} {M : Hp} {v : V} {kd : Str} {ns : List Nat} (D : Deck M p c) (h : PpAt M v kd ns) : Ctd p c M v := ⟨_, fun M' k => (h.mono (k.tup D)).ct⟩
/-- rows of lots -/
def Lts (M : Hp) (us : List V) (ks : List Nat) : Prop := us.length = ks.length ∧ ∀ (i : Nat) (x : V), us[i]? = some x → ∃ (b : Addr) (k : Nat), x = .ref b ∧ ks[i]? = some k ∧ M b = some (.tup ((rowN k).map natV))
theorem Lts.mono {M M' : Hp} {us : List V} {ks : List Nat} (h : Lts M us ks) (k : ∀ a x, M a = some (.tup x) → M' a = some (.tup x)) : Lts M' us ks :=
  ⟨h.1, fun i x hx => let ⟨b, j, e1, e2, e3⟩ := h.2 i x hx; ⟨b, j, e1, e2, k _ _ e3⟩⟩
theorem Lts.snoc {M : Hp} {us : List V} {ks : List Nat} {b : Addr} {k : Nat} (h : Lts M us ks) (e : M b = some (.tup ((rowN k).map natV))) : Lts M (us ++ [.ref b]) (ks ++ [k]) := by
  refine ⟨by rw [List.length_append, List.length_append, h.1] <;> rfl, fun i x hx => ?_⟩
  rcases Nat.lt_or_ge i us.length with z | z
  · rw [List.getElem?_append_left z] at hx
    obtain ⟨b', j, e1, e2, e3⟩ := h.2 i x hx
    exact ⟨b', j, e1, by rw [List.getElem?_append_left (by rw [← h.1]; exact z)]; exact e2, e3⟩
  · rw [List.getElem?_append_right z] at hx
    have : i - us.length = 0 := by
      rcases Nat.eq_zero_or_pos (i - us.length) with q | q
      · exact q
      · rw [List.getElem?_eq_none (by rw [List.length_singleton]; omega)] at hx
        cases hx
    rw [this] at hx
    cases hx
    exact ⟨b, k, rfl, by rw [List.getElem?_append_right (by rw [← h.1]; exact z), ← h.1, this] <;> rfl, e⟩
section
variable {P : Program} {w0 : World} {K : PySem.W.Frag} {mg : Str → Option Value} {base : Heap}
/-- _law_lot, a tuple that may be bent -/
def spLLotP : Sp := fun vs H Q _ => ∃ (x : Nat), vs = [.int x] ∧ ∀ (t : Addr) (H' : Hp), Same H H' → H t = none → H' t = some (.tup ((rowN x).map natV)) → Q (.ref t) H'
theorem ok_lLotP {f : Addr} {fd : FuncData} (F : Fun K "_law_lot" "_law_lot" lLot f fd) (T : Bk mg) : FnOk P w0 K mg base CX0 1 f fd ["_law_number"] spLLotP := by
  refine F.ok scLLot (fun vs H Q E h => ?_) (fun cdv A outer s H vs Q E hr h => ?_)
  · obtain ⟨x, rfl, _⟩ := h
    rfl
  · obtain ⟨x, rfl, k⟩ := h
    refine ⟨_, pss_one (ps_ret (pe_callTy call_tuple_of (by rfl) T.tuple (by decide +kernel) (pa_cons (pe_lc (own := [("_law_at", 1)]) (g := gName 1) rfl scLLot.nd (pi_range1 (by rfl) T.range (pa_cons pe_int pa_nil))
      (blkOk_by (N := nLLot) (sc := defScope lLot) (by decide +kernel)) (fun _ _ _ _ _ => pg_name (i := 1) scLLot.nd rfl (Or.inl rfl)) (fun _ _ _ _ _ => pts_one (pt_cmpR op_eq (pe_op op_and (pe_op op_shr (pv 0) (pv 1)) pe_int) pe_int (nomark _))) (fun _ _ _ _ _ => pv 1)) pa_nil))), ?_⟩
    refine ⟨_, rfl, by decide, by decide, fun Da hD => ?_⟩
    refine lc_range (lo := 0) (n := 12) (fun i M => M Da = some (.lst ((bitsN x i).map V.int)) ∧ Same H M) ⟨upd_same, same_new hD⟩ ?_ ?_
    · rintro i M hi ⟨g1, g2⟩
      have ec : decide (V.int (Builtin.bitAnd ((x : Int) / 2 ^ ((0 : Int) + (i : Int)).toNat) 1) = V.int 1) = bitAt x i := by
        rw [← bit_one]
        by_cases h : Builtin.bitAnd ((x : Int) / 2 ^ ((0 : Int) + (i : Int)).toNat) 1 = 1
        · rw [h]; rfl
        · rw [decide_eq_false h]; exact decide_eq_false fun z => h (V.int.inj z)
      refine ⟨rfl, _, rfl, _, rfl, _, _, rfl, rfl, by omega, _, _, rfl, rfl, rfl, _, rfl, ?_⟩
      rw [ec]
      have bs := bits_succ x i
      cases h : bitAt x i with
      | true =>
        rw [if_pos h] at bs
        exact iteT ⟨_, rfl, _, g1, by rw [List.length_map, sizeLine_eq]; have := bits_len x i; omega, by rw [upd_same, bs, List.map_append, Int.zero_add] <;> rfl, fun b o e => by rw [upd_ne (ne_of_none e hD)]; exact g2 _ _ e⟩
      | false =>
        rw [if_neg (by rw [h]; exact Bool.false_ne_true)] at bs
        exact iteF ⟨by rw [bs]; exact g1, g2⟩
    · rintro M ⟨g1, g2⟩
      rw [bits_row] at g1
      exact ⟨Da, _, rfl, .inl ⟨SqL.of g1, fun t ht => k t _ (g2.trans (same_new ht)) (g2.free ht) upd_same⟩⟩
end
end K0

set_option Elab.async false
set_option linter.all false
set_option maxRecDepth 100000
set_option maxHeartbeats 8000000
/-! The law of sides: what stands while it runs. -/
namespace K0
open PySem PySem.Spec L2
open PyProof.Rows hiding St
abbrev lLaw : Stmt := top 51
/-- a statement of the law -/
abbrev stm (k : Nat) : Stmt := ((defBody lLaw).drop k).headD lLaw
structure Lw (P : Program) (w0 : World) (K : PySem.W.Frag) (mg : Str → Option Value) (base : Heap) : Prop where
  bk : Br mg
  deck : ∃ f fd, Dn P w0 K mg base "_law_deck" 1 ["_law_script"] (spDeck K) f fd
  draw : ∃ f fd, Dn P w0 K mg base "_law_draw" 1 ["_law_deck_here", "_law_many"] spDraw f fd
  pick : ∃ f fd, Dn P w0 K mg base "_law_pick" 2 ["_law_deck_here", "_law_some"] spPick f fd
  web : ∃ f fd, Dn P w0 K mg base "_law_web" 4 ["_law_deck_here", "_law_n", "_law_most"] spWeb f fd
  sides : ∃ f fd, Dn P w0 K mg base "judge_sides" 6 ["web"] spPap f fd ∧ Kw1 fd "web"
  two : ∃ f fd, Dn P w0 K mg base "_law_is_two_sided" 1 ["_law_web_here"] spTwoSided f fd
  holds : ∃ f fd, Dn P w0 K mg base "_law_holds" 4 ["_law_web_here", "_law_thing"] spSidesHold f fd
  lot : ∃ f fd, Dn P w0 K mg base "_law_lot" 1 ["_law_number"] spLLotP f fd
  walked : ∃ f fd, Dn P w0 K mg base "_law_walked" 3 ["_law_deck_here", "_law_web_here"] spWalked f fd
  trail : ∃ f fd, Dn P w0 K mg base "_law_trail" 3 ["_law_deck_here", "_law_web_here"] spTrail' f fd
  strange : ∃ f fd, Dn P w0 K mg base "_law_strange" 7 ["_law_deck_here", "_law_web_here", "_law_thing"] spStrangeP f fd
  hold : ∃ f fd, Dn P w0 K mg base "sides_hold" 6 ["web", "thing"] spSidesHold f fd ∧ Kw2 fd "web" "thing"
  parts : ∃ f fd, Dn P w0 K mg base "parts_of" 6 ["web"] spPartsOf f fd
/-- the web is drawn -/
structure LW where
  a : Addr
  p : Addr
  c : Addr
  w : Addr
  n : Nat
  L : List (Int × Int)
/-- the paper is told -/
structure LP6 where
  a : Addr
  p : Addr
  c : Addr
  w : Addr
  t : Addr
  v : Addr
  n : Nat
  L : List (Int × Int)
  kd : Str
  pns : List Nat
structure B6 (x : LP6) (M : Hp) : Prop where
  dk : Deck M x.p x.c
  gw : GW M x.w x.n x.L
  pp : IsPap x.n x.L x.kd x.pns
  et : M x.t = some (.tup [.str x.kd, .ref x.v])
  ev : M x.v = some (.tup (x.pns.map natV))
theorem B6.go {x : LP6} {M M' : Hp} (b : B6 x M) (D : Deck M' x.p x.c) (k : Kp x.p x.c M M') : B6 x M' := ⟨D, b.gw.mono (k.tup b.dk), b.pp, k.tup b.dk _ _ b.et, k.tup b.dk _ _ b.ev⟩
theorem B6.same {x : LP6} {M M' : Hp} (b : B6 x M) (s : Same M M') : B6 x M' := b.go (b.dk.same s) (kp_same s)
theorem B6.right {x : LP6} {M : Hp} (b : B6 x M) : paperO x.n x.L (some (.str x.kd, some (x.pns.map natV))) = true := b.pp.right b.gw.bel b.gw.n2
theorem B6.at {x : LP6} {M : Hp} (b : B6 x M) : PpAt M (.ref x.t) x.kd x.pns := ⟨x.t, x.v, rfl, b.et, b.ev, (b.pp.few b.gw.bel b.gw.n2 b.gw.few).1⟩
/-- the law's names -/
abbrev st6 (x : LP6) (o6 o7 o8 o9 o10 o11 o12 o13 : Option V) : L2.St := [some (.ref x.a), some (.ref x.p), some (.int (x.n : Int)), some (.ref x.w), some (.ref x.t), some (.str x.kd), o6, o7, o8, o9, o10, o11, o12, o13, none, none]
/-- the lots -/
structure L6 (x : LP6) (M : Hp) (l : Addr) (us : List V) (ks : List Nat) (m : Nat) : Prop where
  el : M l = some (.lst us)
  lp : l ≠ x.p
  lc : l ≠ x.c
  ats : Lts M us ks
  lt : ∀ k ∈ ks, k < 2 ^ x.n
  all : x.n ≤ 5 → ks = List.range (2 ^ x.n)
  few : ks.length ≤ m
theorem L6.go {x : LP6} {M M' : Hp} {l : Addr} {us : List V} {ks : List Nat} {m : Nat} (h : L6 x M l us ks m) (D : Deck M x.p x.c) (k : Kp x.p x.c M M') : L6 x M' l us ks m := ⟨k _ _ h.lp h.lc h.el, h.lp, h.lc, h.ats.mono (k.tup D), h.lt, h.all, h.few⟩
/-- the papers -/
structure X6 (x : LP6) (M : Hp) (l : Addr) (xs : List V) (m : Nat) : Prop where
  el : M l = some (.lst xs)
  lp : l ≠ x.p
  lc : l ≠ x.c
  al : ∀ y ∈ xs, Pp M y
  hd : V.ref x.t ∈ xs
  few : xs.length ≤ m
theorem X6.go {x : LP6} {M M' : Hp} {l : Addr} {xs : List V} {m : Nat} (h : X6 x M l xs m) (D : Deck M x.p x.c) (k : Kp x.p x.c M M') : X6 x M' l xs m := ⟨k _ _ h.lp h.lc h.el, h.lp, h.lc, fun y hy => (h.al y hy).mono (k.tup D), h.hd, h.few⟩
/-- things near papers -/
structure Y6 (x : LP6) (M : Hp) (l : Addr) (xs : List V) (m : Nat) : Prop where
  el : M l = some (.lst xs)
  lp : l ≠ x.p
  lc : l ≠ x.c
  al : ∀ y ∈ xs, Ctd x.p x.c M y
  few : xs.length ≤ m
theorem Y6.go {x : LP6} {M M' : Hp} {l : Addr} {xs : List V} {m : Nat} (h : Y6 x M l xs m) (k : Kp x.p x.c M M') : Y6 x M' l xs m := ⟨k _ _ h.lp h.lc h.el, h.lp, h.lc, fun y hy => (h.al y hy).mono k, h.few⟩
theorem put_tup {M : Hp} {so : Addr} {ys : List V} (zs : List V) (e : M so = some (.lst ys)) : ∀ a x, M a = some (.tup x) → (upd M so (.lst zs)) a = some (.tup x) := fun a x q => by
  rw [upd_ne (ne_of q e (by intro z; cases z))]
  exact q
theorem B6.put {x : LP6} {M : Hp} {so : Addr} {ys zs : List V} (b : B6 x M) (e : M so = some (.lst ys)) (h1 : so ≠ x.p) (h2 : so ≠ x.c) : B6 x (upd M so (.lst zs)) := ⟨b.dk.put h1 h2, b.gw.mono (put_tup zs e), b.pp, put_tup zs e _ _ b.et, put_tup zs e _ _ b.ev⟩
theorem L6.put {x : LP6} {M : Hp} {l so : Addr} {us ys zs : List V} {ks : List Nat} {m : Nat} (h : L6 x M l us ks m) (e : M so = some (.lst ys)) (ne : l ≠ so) : L6 x (upd M so (.lst zs)) l us ks m := ⟨by rw [upd_ne ne]; exact h.el, h.lp, h.lc, h.ats.mono (put_tup zs e), h.lt, h.all, h.few⟩
theorem X6.put {x : LP6} {M : Hp} {l so : Addr} {xs ys zs : List V} {m : Nat} (h : X6 x M l xs m) (e : M so = some (.lst ys)) (ne : l ≠ so) : X6 x (upd M so (.lst zs)) l xs m := ⟨by rw [upd_ne ne]; exact h.el, h.lp, h.lc, fun y hy => (h.al y hy).mono (put_tup zs e), h.hd, h.few⟩
/-! things near papers, when a list beside them changes -/
structure Chg (so : Addr) (M M' : Hp) : Prop where
  a : ∃ ys, M so = some (.lst ys)
  b : ∃ zs, M' so = some (.lst zs)
  c : ∀ b, b ≠ so → M' b = M b
theorem Chg.tt {so : Addr} {M M' : Hp} (h : Chg so M M') {a : Addr} {xs : List V} (t : TT M a xs) : TT M' a xs := by
  have ne : a ≠ so := fun z => by
    obtain ⟨ys, e⟩ := h.a
    rw [z] at t
    rcases t with t | ⟨us, t⟩ <;> rw [e] at t <;> cases t
  exact t.keep fun o q => by rw [h.c a ne]; exact q
theorem Chg.vt {so : Addr} {M M' : Hp} (h : Chg so M M') {v : V} {t : String} (q : VT M v t) : VT M' v t := by
  cases q with
  | non => exact .non
  | bl b => exact .bl b
  | int i => exact .int i
  | str x => exact .str x
  | @lst a xs e =>
    by_cases z : a = so
    · subst z
      obtain ⟨zs, e'⟩ := h.b
      exact .lst e'
    · exact .lst (by rw [h.c a z]; exact e)
  | tup e => exact .tup (h.tt e)
  | @dct a kvs e =>
    refine .dct (kvs := kvs) ?_
    rw [h.c a fun z => ?_]
    · exact e
    · obtain ⟨ys, e'⟩ := h.a
      rw [z, e'] at e
      cases e
theorem Chg.th {so : Addr} {M M' : Hp} (h : Chg so M M') {v : V} {o : Option (List V)} (q : Th M v o) : Th M' v o := by
  cases q with
  | tup e g l => exact .tup (h.tt e) (fun x hx => let ⟨t, q⟩ := g x hx; ⟨t, h.vt q⟩) l
  | oth g ne => exact .oth (h.vt g) ne
theorem Chg.ct {so : Addr} {M M' : Hp} (h : Chg so M M') {v : V} {o : Option (V × Option (List V))} (q : Ct M v o) : Ct M' v o := by
  cases q with
  | two e hx hy => exact .two (h.tt e) (h.vt hx) (h.th hy)
  | few e l => exact .few (h.tt e) l
  | oth g ne => exact .oth (h.vt g) ne
theorem Ctd.put {p c so : Addr} {M : Hp} {v : V} {ys zs : List V} (h : Ctd p c M v) (e : M so = some (.lst ys)) (h1 : so ≠ p) (h2 : so ≠ c) : Ctd p c (upd M so (.lst zs)) v := by
  obtain ⟨o, h⟩ := h
  refine ⟨o, fun M' k => ?_⟩
  have e' := k so _ h1 h2 upd_same
  have kk : Kp p c M (upd M' so (.lst ys)) := fun b u b1 b2 q => by
    by_cases z : b = so
    · subst z
      rw [e] at q
      rw [upd_same]
      exact q
    · rw [upd_ne z]
      exact k b u b1 b2 (by rw [upd_ne z]; exact q)
  exact Chg.ct (so := so) ⟨⟨ys, upd_same⟩, ⟨zs, e'⟩, fun b z => by rw [upd_ne z]⟩ (h _ kk)
/-- 12 or 6 -/
def IfT6 (σ : L2.St) (M : Hp) (Q : VK) : Prop := ∃ p c : Addr, σ[1]? = some (some (.ref p)) ∧ Deck M p c ∧ ∀ (d : Int) (M1 : Hp), (d = 12 ∨ d = 6) → Deck M1 p c → Kp p c M M1 → Q (.int d) M1
/-- 8 or 0 -/
def IfM6 (σ : L2.St) (M : Hp) (Q : VK) : Prop := ∃ n : Int, σ[2]? = some (some (.int n)) ∧ ∀ m : Int, (m = 8 ∧ 5 < n ∨ m = 0 ∧ n ≤ 5) → Q (.int m) M
/-- one list or the other -/
def IfL6 (σ : L2.St) (M : Hp) (Q : VK) : Prop := ∃ (i : Int) (r b : Addr), σ[7]? = some (some (.int i)) ∧ σ[10]? = some (some (.ref r)) ∧ σ[9]? = some (some (.ref b)) ∧ ∀ q : Addr, (q = r ∨ q = b) → Q (.ref q) M
def J3 (x : LW) : L2.St → Hp → Prop := fun σ M => σ = [some (.ref x.a), some (.ref x.p), some (.int (x.n : Int)), some (.ref x.w), none, none, none, none, none, none, none, none, none, none, none, none] ∧ Deck M x.p x.c ∧ GW M x.w x.n x.L
def J3' (x : LW) : L2.St → Hp → Prop := fun σ M => ∃ (t v : Addr) (kd : Str) (ns : List Nat), σ = st6 ⟨x.a, x.p, x.c, x.w, t, v, x.n, x.L, kd, ns⟩ none none none none none none none none ∧ B6 ⟨x.a, x.p, x.c, x.w, t, v, x.n, x.L, kd, ns⟩ M
def J4 (x : LP6) : L2.St → Hp → Prop := fun σ M => σ = st6 x none none none none none none none none ∧ B6 x M
def J5 (x : LP6) : L2.St → Hp → Prop := fun σ M => ∃ (l : Addr) (us : List V) (ks : List Nat), σ = st6 x (some (.ref l)) none none none none none none none ∧ B6 x M ∧ L6 x M l us ks 32 ∧ (6 ≤ x.n → ks = [])
def J6 (x : LP6) : L2.St → Hp → Prop := fun σ M => ∃ (l : Addr) (us : List V) (ks : List Nat) (o7 : Option V), σ = st6 x (some (.ref l)) o7 none none none none none none ∧ B6 x M ∧ L6 x M l us ks 40
def J7 (x : LP6) : L2.St → Hp → Prop := fun σ M => ∃ (l : Addr) (us : List V) (ks : List Nat) (so : Addr) (xs : List V) (o7 : Option V), σ = st6 x (some (.ref l)) o7 (some (.ref so)) none none none none none ∧ B6 x M ∧ L6 x M l us ks 40 ∧ X6 x M so xs 41 ∧ l ≠ so
def J8 (x : LP6) : L2.St → Hp → Prop := fun σ M => ∃ (l : Addr) (us : List V) (ks : List Nat) (so : Addr) (xs : List V) (o7 : Option V), σ = st6 x (some (.ref l)) o7 (some (.ref so)) none none none none none ∧ B6 x M ∧ L6 x M l us ks 40 ∧ X6 x M so xs 53 ∧ l ≠ so
def J9 (x : LP6) : L2.St → Hp → Prop := fun σ M => ∃ (l : Addr) (us : List V) (ks : List Nat) (so b r : Addr) (xs rs : List V) (o7 : Option V), σ = st6 x (some (.ref l)) o7 (some (.ref so)) (some (.ref b)) (some (.ref r)) none none none ∧ B6 x M ∧ L6 x M l us ks 40 ∧ X6 x M so xs 53 ∧ X6 x M b xs 53 ∧ X6 x M r rs 53 ∧ so ≠ b ∧ so ≠ r ∧ l ≠ so
def J11 (x : LP6) : L2.St → Hp → Prop := fun σ M => ∃ (l : Addr) (us : List V) (ks : List Nat) (so : Addr) (xs : List V) (o7 o9 o10 : Option V), σ = st6 x (some (.ref l)) o7 (some (.ref so)) o9 o10 none none none ∧ B6 x M ∧ L6 x M l us ks 40 ∧ Y6 x M so xs 63
def J12 (x : LP6) : L2.St → Hp → Prop := fun σ M => ∃ (l : Addr) (us : List V) (ks : List Nat) (o7 o8 o9 o10 o11 o12 : Option V), σ = st6 x (some (.ref l)) o7 o8 o9 o10 o11 o12 none ∧ B6 x M ∧ L6 x M l us ks 40
abbrev nLaw : List Str := ["_law_script", "_law_deck_here", "_law_n", "_law_web_here", "_law_paper", "_law_kind", "_law_lots", "_law_turn", "_law_some", "_law_base", "_law_right", "_law_thing", "_law_due", "_law_many", "_law_number", "_law_lot_here"]
theorem scLaw : FnScope nLaw ["_law_script"] (defScope lLaw) := ⟨rfl, rfl, rfl, by decide +kernel, rfl, by decide +kernel, by decide +kernel⟩
theorem ne_eq6 (v : V) : (!decide (v = v)) = false := by simp
theorem z30 {x : Nat} (h : x ≤ 1000) : x ≤ sizeLine := by rw [sizeLine_eq]; omega
section
variable (P : Program) (w0 : World) (K : PySem.W.Frag) (mg : Str → Option Value) (base : Heap) (c0 fa : Addr) (s : Shared) (H : Hp)
abbrev lawA : Around := callerA.deeper (envOfC "law" (defScope lLaw) s.heap.objs.size fa (.ref c0))
abbrev lawX : Cx := (cxOf CX0 P w0 K mg base nLaw "law" (defScope lLaw) fa (.ref c0) callerA [] s H (fun _ _ _ => False)).nox
end
end K0

set_option Elab.async false
set_option linter.all false
set_option maxRecDepth 100000
set_option maxHeartbeats 8000000
/-! The law: the paper is told and looked at. -/
namespace K0
open PySem PySem.Spec L2
open PyProof.Rows hiding St
section
variable {P : Program} {w0 : World} {K : PySem.W.Frag} {mg : Str → Option Value} {base : Heap} {c0 fa : Addr} {s : Shared} {H : Hp}
theorem law_s3 (Z : Lw P w0 K mg base) (hr : Room 10 (lawA c0 fa s)) : PS (lawX P w0 K mg base c0 fa s H) (stm 3) (tInvP J3 J3') := by
  obtain ⟨_, _, GS, _⟩ := Z.sides
  obtain ⟨_, _, G2⟩ := Z.two
  have r1 : Room 1 (lawA c0 fa s) := hr.mono (by decide)
  have r6 : Room 6 (lawA c0 fa s) := hr.mono (by decide)
  refine ps_invP (ps_asg (pe_tup (pa_cons (pe_call GS.ok r6 rfl GS.g GS.kp GS.b .nil pass0 (pa_cons (pv 3) pa_nil)) (pa_cons (pe_ifExp (pt_val (pe_call G2.ok r1 rfl G2.g G2.kp G2.b .nil pass0 (pa_cons (pv 3) pa_nil))) pe_str pe_str) pa_nil)))
    (pg_tup rfl (pgs_cons (pg_name (i := 4) scLaw.nd rfl (.inl rfl)) (pgs_cons (pg_name (i := 5) scLaw.nd rfl (.inr rfl)) pgs_nil)))) ?_
  rintro ⟨a, p, c, w, n, L⟩ D0 σ M ⟨rfl, D, G⟩ nx
  dsimp only at *
  refine ⟨_, rfl, w, n, L, rfl, G, fun kd ns hp t v M1 s1 ft et ev => ⟨_, rfl, w, n, L, rfl, G.same s1, fun b M2 s2 hb1 hb2 => ⟨_, rfl, ?_⟩⟩⟩
  have s12 := s1.trans s2
  have B : B6 ⟨a, p, c, w, t, v, n, L, kd, ns⟩ M2 := ⟨D.same s12, G.same s12, hp, s2 _ _ et, s2 _ _ ev⟩
  have go : ∀ tt : Addr, M2 tt = none → D0.nx (st6 ⟨a, p, c, w, t, v, n, L, kd, ns⟩ none none none none none none none none) (upd M2 tt (.tup [.ref t, .str kd])) := fun tt htt => nx _ _ ⟨t, v, kd, ns, rfl, B.same (same_new htt)⟩
  rcases paper_kind G.bel B.right with ⟨rfl, x, px⟩ | ⟨rfl, no⟩
  · cases b with
    | false => exact absurd px (hb2 rfl x)
    | true =>
      refine iteT ⟨by show 2 ≤ sizeLine; decide, fun tt htt => ⟨tt, _, rfl, SqT.of upd_same, rfl, _, _, rfl, _, _, rfl, rfl, ?_⟩⟩
      exact go tt htt
  · cases b with
    | true =>
      obtain ⟨x, px⟩ := hb1 rfl
      exact absurd px (no x)
    | false =>
      refine iteF ⟨by show 2 ≤ sizeLine; decide, fun tt htt => ⟨tt, _, rfl, SqT.of upd_same, rfl, _, _, rfl, _, _, rfl, rfl, ?_⟩⟩
      exact go tt htt
theorem law_s4 (Z : Lw P w0 K mg base) (hr : Room 10 (lawA c0 fa s)) : PS (lawX P w0 K mg base c0 fa s H) (stm 4) (tInvP J4 J4) := by
  have T := Z.bk
  obtain ⟨_, _, GS, kS⟩ := Z.sides
  obtain ⟨_, _, GH⟩ := Z.holds
  have hu : callerA.units + 3 + 64 < cLine := by decide +kernel
  have hgu : (lawA c0 fa s).guards = some [] := rfl
  have r4 : Room 4 (lawA c0 fa s) := hr.mono (by decide)
  have r6 : Room 6 (lawA c0 fa s) := hr.mono (by decide)
  refine ps_invP (ps_if (PW.pt (pw_or (pt_not (pt_val (pe_call GH.ok r4 rfl GH.g GH.kp GH.b .nil pass0 (pa_cons (pv 3) (pa_cons (pv 4) pa_nil))))) (pw_or (pt_cmpR op_ne (pe_ix ix_tup (pv 4) pe_int (fun _ _ => rfl)) (pv 5) (nomark _))
      (pw_or1 (pt_cmpR op_ne (pe_callB (call_repr hgu hu) (by rfl) T.repr (by decide +kernel) (pa_cons (pe_kw1 GS.ok r6 rfl GS.g GS.kp kS pass0 (pv 3)) pa_nil)) (pe_callB (call_repr hgu hu) (by rfl) T.repr (by decide +kernel) (pa_cons (pv 4) pa_nil)) (nomark _))))))
    (pss_one (ps_ret pe_bl)) pss_nil) ?_
  rintro ⟨a, p, c, w, t, v, n, L, kd, ns⟩ D0 σ M ⟨rfl, B⟩ nx
  dsimp only at *
  have ct := B.at.ct
  have hR := B.right
  have few := B.pp.few B.gw.bel B.gw.n2 B.gw.few
  dsimp only at ct hR few
  refine ⟨_, rfl, _, rfl, w, n, L, _, _, rfl, B.gw, ct, fun M1 s1 => ?_⟩
  rw [hR]
  refine ⟨_, rfl, iteF ?_⟩
  have B1 := B.same s1
  refine ⟨_, rfl, t, _, _, _, rfl, rfl, SqT.of B1.et, atI_nat (j := 0) rfl, _, rfl, rfl, _, rfl, ?_⟩
  rw [ne_eq6]
  refine iteF ⟨_, rfl, w, n, L, rfl, B1.gw, fun kd' ns' hp' t' v' M2 s2 ft' et' ev' => ?_⟩
  obtain ⟨rfl, rfl⟩ := B.pp.uniq hp'
  have B2 := B1.same s2
  have nK : ∀ kvs, papD kd ns ≠ .dict kvs := fun kvs z => by unfold papD at z; cases z
  refine ⟨t', papD kd ns, rfl, dv_pap et' ev', fit_pap few.2.2 few.2.1 few.1, nK, _, rfl, t, papD kd ns, rfl, dv_pap B2.et B2.ev, fit_pap few.2.2 few.2.1 few.1, nK, rfl, _, rfl, ?_⟩
  rw [ne_eq6]
  exact iteF (nx _ _ ⟨rfl, B2⟩)
end
end K0

set_option Elab.async false
set_option linter.all false
set_option maxRecDepth 100000
set_option maxHeartbeats 8000000
/-! The law: lots. -/
namespace K0
open PySem PySem.Spec L2
open PyProof.Rows hiding St
section
variable {P : Program} {w0 : World} {K : PySem.W.Frag} {mg : Str → Option Value} {base : Heap} {c0 fa : Addr} {s : Shared} {H : Hp}
theorem law_s5 (Z : Lw P w0 K mg base) (hr : Room 10 (lawA c0 fa s)) : PS (lawX P w0 K mg base c0 fa s H) (stm 5) (tInvP J4 J5) := by
  have T := Z.bk
  obtain ⟨_, _, GL⟩ := Z.lot
  have r1 : Room 1 (lawA c0 fa s) := hr.mono (by decide)
  refine ps_invP (ps_set (i := 6) scLaw.nd rfl (.inl rfl) (pe_ifExp (pt_cmpR op_lt (pv 2) pe_int (nomark _)) (pe_lc (own := [("_law_number", 14)]) (g := gName 14) (tt := tYes) rfl scLaw.nd (pi_range1 (by rfl) T.range (pa_cons (pe_op op_oneN pe_int (pv 2)) pa_nil))
    (blkOk_by (N := nLaw) (sc := defScope lLaw) (by decide +kernel)) (fun _ _ _ _ _ => pg_name (i := 14) scLaw.nd rfl (Or.inl rfl)) (fun _ _ _ _ _ => pts_nil) (fun _ _ _ _ _ => pe_call GL.ok r1 rfl GL.g GL.kp GL.b .nil pass0 (pa_cons (pv 14) pa_nil))) (pe_lst pa_nil))) ?_
  rintro ⟨a, p, c, w, t, v, n, L, kd, ns⟩ D0 σ M ⟨rfl, B⟩ nx
  have n2 := B.gw.n2
  have D := B.dk
  dsimp only at n2 D
  have w1 : 1 ≤ 2 ^ n := Nat.one_le_two_pow
  refine ⟨_, rfl, _, _, rfl, rfl, _, rfl, ?_⟩
  by_cases hn : (n : Int) < 6
  · rw [decide_eq_true hn]
    have p5 : 2 ^ n ≤ 2 ^ 5 := Nat.pow_le_pow_right (n := 2) (by decide) (by omega)
    refine iteT ⟨_, rfl, n, rfl, rfl, by omega, _, rfl, by omega, by omega, fun Da hD => ?_⟩
    obtain ⟨dp, dc⟩ := D.inp hD
    refine lc_range (lo := 0) (n := ((2 ^ n : Nat) : Int).toNat) (fun i N => ∃ us, N Da = some (.lst us) ∧ Same M N ∧ Lts N us (List.range i) ∧ i ≤ 32) ⟨[], upd_same, same_new hD, ⟨rfl, fun i x z => by simp at z⟩, by omega⟩ ?_ ?_
    · rintro i N hi ⟨us, g1, g2, g3, g4⟩
      refine ⟨rfl, ?_⟩
      unfold tYes
      refine iteT ⟨_, rfl, i, by rw [Int.zero_add] <;> rfl, fun b N2 s2 fb eb => ?_⟩
      have lu := g3.1
      rw [List.length_range] at lu
      refine ⟨us, s2 _ _ g1, Nat.lt_of_le_of_lt (show us.length ≤ 1000 by omega) (by rw [sizeLine_eq]; decide), us ++ [.ref b], upd_same, ?_, ?_, by omega⟩
      · exact set_same hD (g2.trans s2)
      · have nb : b ≠ Da := fun z => by rw [z, g1] at fb; cases fb
        have l2 := (g3.mono (same_tup s2)).snoc eb
        rw [List.range_succ]
        refine l2.mono fun a x e => ?_
        rw [upd_ne (ne_of e (s2 _ _ g1) (by intro z; cases z))]
        exact e
    · rintro N ⟨us, g1, g2, g3, g4⟩
      rw [Int.toNat_natCast] at g3
      refine nx _ _ ⟨Da, us, _, rfl, B.same g2, ⟨g1, dp, dc, g3, fun k hk => List.mem_range.mp hk, fun _ => rfl, by rw [List.length_range]; omega⟩, fun z => ?_⟩
      dsimp only at z
      omega
  · rw [decide_eq_false hn]
    refine iteF ⟨by show 0 ≤ sizeLine; exact Nat.zero_le _, fun l hl => ?_⟩
    obtain ⟨lp, lc⟩ := D.inp hl
    exact nx _ _ ⟨l, [], [], rfl, B.same (same_new hl), ⟨upd_same, lp, lc, ⟨rfl, fun i x z => by simp at z⟩, (fun _ z => nomatch z), fun z => by dsimp only at z; omega, Nat.zero_le _⟩, fun _ => rfl⟩
theorem law_s6 (Z : Lw P w0 K mg base) (hr : Room 10 (lawA c0 fa s)) : PS (lawX P w0 K mg base c0 fa s H) (stm 6) (tInvP J5 J6) := by
  have T := Z.bk
  obtain ⟨_, _, GL⟩ := Z.lot
  obtain ⟨_, _, GD⟩ := Z.draw
  have r1 : Room 1 (lawA c0 fa s) := hr.mono (by decide)
  refine ps_invP (ps_for PassesOwn.never rfl (pi_range1 (by rfl) T.range (pa_cons (pe_imp (t' := IfM6) (pe_ifExp (pt_cmpR op_gt (pv 2) pe_int (nomark _)) pe_int pe_int) ?ifx) pa_nil)) (pg_name (i := 7) scLaw.nd rfl (.inl rfl))
    (pss_one (ps_expr (pe_bm PySem.F.plainAttrs_list PySem.F.slot_list_append PySem.F.type_list_append mt_append (pv 6) (pa_cons (pe_call GL.ok r1 rfl GL.g GL.kp GL.b .nil pass0 (pa_cons (pe_call GD.ok r1 rfl GD.g GD.kp GD.b .nil pass0 (pa_cons (pv 1) (pa_cons (pe_op op_oneN pe_int (pv 2)) pa_nil))) pa_nil)) pa_nil))))) ?_
  case ifx =>
    rintro σ M Q ⟨n, hs, k⟩
    refine ⟨_, hs, _, _, rfl, rfl, _, rfl, ?_⟩
    by_cases h : n > 5
    · rw [decide_eq_true h]
      exact iteT (k _ (.inl ⟨rfl, h⟩))
    · rw [decide_eq_false h]
      exact iteF (k _ (.inr ⟨rfl, by omega⟩))
  rintro ⟨a, p, c, w, t, v, n, L, kd, ns⟩ D0 σ M ⟨l, us, ks, rfl, B, X, h6⟩ nx
  dsimp only at *
  have n1 := B.gw.n1
  have n2 := B.gw.n2
  dsimp only at n1 n2
  have w1 : 1 ≤ 2 ^ n := Nat.one_le_two_pow
  have w2 : 2 ^ n ≤ 4096 := Nat.pow_le_pow_right (n := 2) (by decide) n2
  refine ⟨_, rfl, fun m hm => ?_⟩
  have hm : m = 8 ∧ 5 < (n : Int) ∨ m = 0 ∧ (n : Int) ≤ 5 := hm
  refine ⟨_, rfl, by omega, by omega, ?_⟩
  have x0 : L6 ⟨a, p, c, w, t, v, n, L, kd, ns⟩ M l us ks 40 := ⟨X.el, X.lp, X.lc, X.ats, X.lt, X.all, by have := X.few; omega⟩
  refine for_range (lo := 0) (n := m.toNat) (fun i σ M => ∃ (us : List V) (ks : List Nat) (o7 : Option V), σ = st6 ⟨a, p, c, w, t, v, n, L, kd, ns⟩ (some (.ref l)) o7 none none none none none none ∧ B6 ⟨a, p, c, w, t, v, n, L, kd, ns⟩ M ∧ L6 ⟨a, p, c, w, t, v, n, L, kd, ns⟩ M l us ks 40 ∧ ks.length ≤ 32 + i)
    ⟨us, ks, none, rfl, B, x0, X.few⟩ ?_ ?_
  · rintro i σ M hi ⟨us, ks, o7, rfl, B, X, few⟩
    have n5 : 5 < n := by omega
    have D := B.dk
    dsimp only at D
    refine ⟨_, rfl, .inl ⟨rfl, _, SqL.of X.el⟩, _, rfl, _, rfl, n, rfl, rfl, by omega, p, c, _, rfl, D, by omega, by omega, fun r M1 r0 r1' D1 K1 => ?_⟩
    obtain ⟨x, rfl⟩ : ∃ x : Nat, r = x := ⟨r.toNat, by omega⟩
    have hx : x < 2 ^ n := by omega
    refine ⟨x, rfl, fun b M2 s2 fb eb => ?_⟩
    have B2 := (B.go D1 K1).same s2
    have K2 := K1.trans (kp_same (p := p) (c := c) s2)
    have X2 := X.go D K2
    have ul := X.ats.1
    have im : i ≤ 8 := by omega
    refine ⟨l, us, _, rfl, rfl, X2.el, Nat.lt_of_le_of_lt (show us.length ≤ 1000 by omega) (by rw [sizeLine_eq]; decide), ?_⟩
    have lx := X2.ats.snoc eb
    have D2 := B2.dk
    dsimp only at D2
    have lp := X.lp
    have lc := X.lc
    dsimp only at lp lc
    have st : ∀ a x, M2 a = some (.tup x) → (upd M2 l (.lst (us ++ [.ref b]))) a = some (.tup x) := fun a x e => by
      rw [upd_ne (ne_of e X2.el (by intro z; cases z))]
      exact e
    refine ⟨us ++ [.ref b], ks ++ [x], _, rfl, ⟨D2.put lp lc, B2.gw.mono st, B2.pp, st _ _ B2.et, st _ _ B2.ev⟩, ⟨upd_same, lp, lc, lx.mono st, fun k hk => ?_, fun z => ?_, ?_⟩, ?_⟩
    · rcases List.mem_append.mp hk with hk | hk
      · exact X.lt k hk
      · rw [List.mem_singleton.mp hk]; exact hx
    · dsimp only at z
      omega
    · rw [List.length_append, List.length_singleton]; omega
    · rw [List.length_append, List.length_singleton]; omega
  · rintro σ M ⟨us, ks, o7, rfl, B, X, few⟩
    exact nx _ _ ⟨l, us, ks, o7, rfl, B, X⟩
end
end K0

set_option Elab.async false
set_option linter.all false
set_option maxRecDepth 100000
set_option maxHeartbeats 8000000
/-! The law: papers. -/
namespace K0
open PySem PySem.Spec L2
open PyProof.Rows hiding St
section
variable {P : Program} {w0 : World} {K : PySem.W.Frag} {mg : Str → Option Value} {base : Heap} {c0 fa : Addr} {s : Shared} {H : Hp}
theorem law_s7 (Z : Lw P w0 K mg base) (hr : Room 10 (lawA c0 fa s)) : PS (lawX P w0 K mg base c0 fa s H) (stm 7) (tInvP J6 J7) := by
  refine ps_invP (ps_set (i := 8) scLaw.nd rfl (.inl rfl) (pe_op op_cat (pe_lst (pa_cons (pv 4) pa_nil)) (pe_lc (own := [("_law_lot_here", 15)]) (g := gName 15) (tt := tYes) rfl scLaw.nd (pi_list (pv 6))
    (blkOk_by (N := nLaw) (sc := defScope lLaw) (by decide +kernel)) (fun _ _ _ _ _ => pg_name (i := 15) scLaw.nd rfl (Or.inl rfl)) (fun _ _ _ _ _ => pts_nil) (fun _ _ _ _ _ => pe_tup (pa_cons pe_str (pa_cons (pv 15) pa_nil)))))) ?_
  rintro ⟨a, p, c, w, t, v, n, L, kd, ns⟩ D0 σ M ⟨l, us, ks, o7, rfl, B, X⟩ nx
  dsimp only at *
  have D := B.dk
  dsimp only at D
  have ul := X.ats.1
  have uf := X.few
  refine ⟨_, rfl, by show 1 ≤ sizeLine; decide, fun l0 hl0 => ⟨_, rfl, l, rfl, ⟨_, SqL.of (same_new hl0 _ _ X.el)⟩, fun Da hD => ?_⟩⟩
  have s0 : Same M (upd M l0 (.lst [.ref t])) := same_new hl0
  have e0 : (upd M l0 (.lst [.ref t])) l0 = some (.lst [.ref t]) := upd_same
  have B0 := B.same s0
  have X0 := X.go D (kp_same s0)
  have D1 := B0.dk
  dsimp only at D1
  generalize upd M l0 (.lst [.ref t]) = M1 at s0 e0 B0 X0 D1 hD ⊢
  have nl : l0 ≠ Da := ne_of_none e0 hD
  refine lc_it (walk_list (xs := us)) (fun i N => ∃ xs, N Da = some (.lst xs) ∧ Same M1 N ∧ (∀ y ∈ xs, Pp N y) ∧ xs.length ≤ i) ⟨[], upd_same, same_new hD, (fun _ z => nomatch z), Nat.zero_le _⟩ (fun i N _ ⟨_, _, g2, _⟩ => SqL.of (g2 _ _ X0.el)) ?_ ?_
  · rintro i y N N' hi ⟨xs, g1, g2, g3, g4⟩ ⟨rfl, hy⟩
    obtain ⟨b, k, rfl, hk, hb⟩ := X0.ats.2 i y hy
    refine ⟨rfl, ?_⟩
    unfold tYes
    refine iteT ⟨_, rfl, by show 2 ≤ sizeLine; decide, fun tt htt => ?_⟩
    have s2 : Same N' (upd N' tt (.tup [.str "sides", .ref b])) := same_new htt
    have g1' := s2 _ _ g1
    refine ⟨xs, g1', Nat.lt_of_le_of_lt (show xs.length ≤ 1000 by omega) (by rw [sizeLine_eq]; decide), xs ++ [.ref tt], upd_same, set_same hD (g2.trans s2), ?_, by rw [List.length_append, List.length_singleton]; omega⟩
    have st : ∀ a x, (upd N' tt (.tup [.str "sides", .ref b])) a = some (.tup x) → (upd (upd N' tt (.tup [.str "sides", .ref b])) Da (.lst (xs ++ [.ref tt]))) a = some (.tup x) := fun a x e => by
      rw [upd_ne (ne_of e g1' (by intro z; cases z))]
      exact e
    intro y hy
    rcases List.mem_append.mp hy with hy | hy
    · exact ((g3 y hy).mono (same_tup s2)).mono st
    · rw [List.mem_singleton.mp hy]
      have := row_few k
      exact ⟨"sides", rowN k, tt, b, rfl, st _ _ upd_same, st _ _ (s2 _ _ (g2 _ _ hb)), by omega⟩
  · rintro N ⟨xs, g1, g2, g3, g4⟩
    have gl := g2 _ _ e0
    have BN := B0.same g2
    have XN := X0.go D1 (kp_same g2)
    have DN := BN.dk
    dsimp only at DN
    refine ⟨l0, Da, _, _, rfl, rfl, gl, g1, by show 1 + xs.length ≤ sizeLine; exact z30 (by omega), fun so hso => ?_⟩
    obtain ⟨sp, sc⟩ := DN.inp hso
    have s3 : Same N (upd N so (.lst ([.ref t] ++ xs))) := same_new hso
    have B3 := BN.same s3
    refine nx _ _ ⟨l, us, ks, so, _, o7, rfl, B3, XN.go DN (kp_same s3), ⟨upd_same, sp, sc, fun y hy => ?_, List.mem_append_left _ (List.mem_singleton.mpr rfl), by rw [List.length_append, List.length_singleton]; show 1 + xs.length ≤ 41; omega⟩, ne_of_none XN.el hso⟩
    rcases List.mem_append.mp hy with hy | hy
    · rw [List.mem_singleton.mp hy]
      exact ⟨kd, ns, B3.at⟩
    · exact (g3 y hy).mono (same_tup s3)
theorem law_s8 (Z : Lw P w0 K mg base) (hr : Room 10 (lawA c0 fa s)) : PS (lawX P w0 K mg base c0 fa s H) (stm 8) (tInvP J7 J8) := by
  have T := Z.bk
  obtain ⟨_, _, GWk⟩ := Z.walked
  obtain ⟨_, _, GT⟩ := Z.trail
  have r3 : Room 3 (lawA c0 fa s) := hr.mono (by decide)
  refine ps_invP (ps_for PassesOwn.never rfl (pi_range1 (by rfl) T.range (pa_cons pe_int pa_nil)) (pg_name (i := 7) scLaw.nd rfl (.inl rfl))
    (pss_one (ps_set (i := 8) scLaw.nd rfl (.inl rfl) (pe_op op_cat (pv 8) (pe_lst (pa_cons (pe_tup (pa_cons pe_str (pa_cons (pe_call GWk.ok r3 rfl GWk.g GWk.kp GWk.b .nil pass0 (pa_cons (pv 1) (pa_cons (pv 3) pa_nil))) pa_nil)))
      (pa_cons (pe_tup (pa_cons pe_str (pa_cons (pe_call GT.ok r3 rfl GT.g GT.kp GT.b .nil pass0 (pa_cons (pv 1) (pa_cons (pv 3) pa_nil))) pa_nil))) pa_nil))))))) ?_
  rintro ⟨a, p, c, w, t, v, n, L, kd, ns⟩ D0 σ M ⟨l, us, ks, so, xs, o7, rfl, B, X, Y, ne⟩ nx
  refine ⟨_, rfl, by decide, by decide, ?_⟩
  refine for_range (lo := 0) (n := 6) (fun i σ M => ∃ (so : Addr) (xs : List V) (o7 : Option V), σ = st6 ⟨a, p, c, w, t, v, n, L, kd, ns⟩ (some (.ref l)) o7 (some (.ref so)) none none none none none ∧ B6 ⟨a, p, c, w, t, v, n, L, kd, ns⟩ M ∧ L6 ⟨a, p, c, w, t, v, n, L, kd, ns⟩ M l us ks 40 ∧ X6 ⟨a, p, c, w, t, v, n, L, kd, ns⟩ M so xs (41 + 2 * i) ∧ l ≠ so)
    ⟨so, xs, o7, rfl, B, X, Y, ne⟩ ?_ ?_
  · rintro i σ M hi ⟨so, xs, o7, rfl, B, X, Y, ne⟩
    have D := B.dk
    have yf := Y.few
    dsimp only at D
    refine ⟨_, rfl, _, rfl, _, rfl, p, c, w, n, L, rfl, B.gw, D, fun tr ms M1 _ _ lm em D1 K1 => ?_⟩
    have B1 := B.go D1 K1
    have X1 := X.go D K1
    have Y1 := Y.go D K1
    refine ⟨by show 2 ≤ sizeLine; decide, fun t1 ht1 => ?_⟩
    have s1 : Same M1 (upd M1 t1 (.tup [.str "ring", .ref tr])) := same_new ht1
    have p1 : Pp (upd M1 t1 (.tup [.str "ring", .ref tr])) (.ref t1) := ⟨"ring", ms, t1, tr, rfl, upd_same, s1 _ _ em, by omega⟩
    have B2 := B1.same s1
    have X2 := X1.go D1 (kp_same s1)
    have Y2 := Y1.go D1 (kp_same s1)
    have D2 := B2.dk
    dsimp only at D2
    generalize upd M1 t1 (.tup [.str "ring", .ref tr]) = M2 at p1 B2 X2 Y2 D2 ⊢
    refine ⟨_, rfl, _, rfl, p, c, w, n, L, rfl, B2.gw, D2, fun v2 M3 q3 => ?_⟩
    obtain ⟨tr2, ms2, rfl, lm2, _, em2, D3, K3⟩ := q3
    have B3 := B2.go D3 K3
    have X3 := X2.go D2 K3
    have Y3 := Y2.go D2 K3
    have p3 := p1.mono (K3.tup D2)
    refine ⟨by show 2 ≤ sizeLine; decide, fun t2 ht2 => ?_⟩
    have s3 : Same M3 (upd M3 t2 (.tup [.str "ring", .ref tr2])) := same_new ht2
    have q4 : Pp (upd M3 t2 (.tup [.str "ring", .ref tr2])) (.ref t2) := ⟨"ring", ms2, t2, tr2, rfl, upd_same, s3 _ _ em2, by omega⟩
    have p4 := p3.mono (same_tup s3)
    have B4 := B3.same s3
    have X4 := X3.go D3 (kp_same s3)
    have Y4 := Y3.go D3 (kp_same s3)
    have D4 := B4.dk
    dsimp only at D4
    generalize upd M3 t2 (.tup [.str "ring", .ref tr2]) = M4 at p4 q4 B4 X4 Y4 D4 ⊢
    refine ⟨by show 2 ≤ sizeLine; decide, fun l3 hl3 => ?_⟩
    have s4 : Same M4 (upd M4 l3 (.lst [.ref t1, .ref t2])) := same_new hl3
    refine ⟨so, l3, xs, [.ref t1, .ref t2], rfl, rfl, s4 _ _ Y4.el, upd_same, by show xs.length + 2 ≤ sizeLine; exact z30 (by omega), fun so' hso' => ?_⟩
    obtain ⟨sp', sc'⟩ := (D4.same s4).inp hso'
    have s5 := s4.trans (same_new (o := .lst (xs ++ [.ref t1, .ref t2])) hso')
    refine ⟨so', xs ++ [.ref t1, .ref t2], _, rfl, B4.same s5, X4.go D4 (kp_same s5), ⟨upd_same, sp', sc', fun y hy => ?_, List.mem_append_left _ Y4.hd, by rw [List.length_append]; show xs.length + 2 ≤ _; omega⟩, ne_of_none (s4 _ _ X4.el) hso'⟩
    rcases List.mem_append.mp hy with hy | hy
    · exact (Y4.al y hy).mono (same_tup s5)
    · simp only [List.mem_cons, List.not_mem_nil, or_false] at hy
      rcases hy with rfl | rfl
      · exact p4.mono (same_tup s5)
      · exact q4.mono (same_tup s5)
  · rintro σ M ⟨so, xs, o7, rfl, B, X, Y, ne⟩
    exact nx _ _ ⟨l, us, ks, so, xs, o7, rfl, B, X, Y, ne⟩
end
end K0

set_option Elab.async false
set_option linter.all false
set_option maxRecDepth 100000
set_option maxHeartbeats 8000000
/-! The law: right papers; no right paper of the other kind. -/
namespace K0
open PySem PySem.Spec L2
open PyProof.Rows hiding St
section
variable {P : Program} {w0 : World} {K : PySem.W.Frag} {mg : Str → Option Value} {base : Heap} {c0 fa : Addr} {s : Shared} {H : Hp}
theorem law_s9 (Z : Lw P w0 K mg base) (hr : Room 10 (lawA c0 fa s)) : PS (lawX P w0 K mg base c0 fa s H) (stm 9) (tInvP J8 J9) := by
  have T := Z.bk
  obtain ⟨_, _, GH⟩ := Z.holds
  have r4 : Room 4 (lawA c0 fa s) := hr.mono (by decide)
  refine ps_invP (ps_par (i := 9) (j := 10) rfl scLaw.nd rfl rfl (by decide) rfl rfl (pa_cons (pe_callTy call_list_of (by rfl) T.list (by decide +kernel) (pa_cons (pv 8) pa_nil)) (pa_cons (pe_lc (own := [("_law_thing", 11)]) (g := gName 11) rfl scLaw.nd (pi_list (pv 8))
      (blkOk_by (N := nLaw) (sc := defScope lLaw) (by decide +kernel)) (fun _ _ _ _ _ => pg_name (i := 11) scLaw.nd rfl (Or.inl rfl)) (fun _ _ _ _ _ => pts_one (pt_val (pe_call GH.ok r4 rfl GH.g GH.kp GH.b .nil pass0 (pa_cons (pv 3) (pa_cons (pv 11) pa_nil))))) (fun _ _ _ _ _ => pv 11)) pa_nil)) (by rfl)) ?_
  rintro ⟨a, p, c, w, t, v, n, L, kd, ns⟩ D0 σ M ⟨l, us, ks, so, xs, o7, rfl, B, X, Y, ne⟩ nx
  dsimp only at *
  have D := B.dk
  have yf := Y.few
  dsimp only at D
  refine ⟨_, rfl, so, xs, rfl, .inl (SqL.of Y.el), fun b hb => ?_⟩
  obtain ⟨bp, bc⟩ := D.inp hb
  have s0 : Same M (upd M b (.lst xs)) := same_new hb
  have eb : (upd M b (.lst xs)) b = some (.lst xs) := upd_same
  have nsb : so ≠ b := ne_of_none Y.el hb
  have B0 := B.same s0
  have X0 := X.go D (kp_same s0)
  have Y0 := Y.go D (kp_same s0)
  have D1 := B0.dk
  dsimp only at D1
  generalize upd M b (.lst xs) = M1 at s0 eb B0 X0 Y0 D1 ⊢
  refine ⟨_, rfl, so, rfl, ⟨_, SqL.of Y0.el⟩, fun Da hD => ?_⟩
  have nsd : so ≠ Da := ne_of_none Y0.el hD
  have nbd : b ≠ Da := ne_of_none eb hD
  obtain ⟨dp, dc⟩ := D1.inp hD
  refine lc_it (walk_list (xs := xs)) (fun i N => ∃ rs, N Da = some (.lst rs) ∧ Same M1 N ∧ (∀ y ∈ rs, y ∈ xs) ∧ rs.length ≤ i ∧ ((V.ref t) ∈ xs.take i → V.ref t ∈ rs)) ⟨[], upd_same, same_new hD, (fun _ z => nomatch z), Nat.zero_le _, fun z => by simp at z⟩ (fun i N _ ⟨_, _, g2, _⟩ => SqL.of (g2 _ _ Y0.el)) ?_ ?_
  · rintro i y N N' hi ⟨rs, g1, g2, g3, g4, g5⟩ ⟨rfl, hy⟩
    have ym := List.mem_of_getElem? hy
    obtain ⟨kd', ms, pa⟩ := Y0.al y ym
    have BN := B0.same g2
    have ct := (pa.mono (same_tup g2)).ct
    refine ⟨rfl, _, rfl, _, rfl, w, n, L, y, _, rfl, BN.gw, ct, fun N2 s2 => ⟨_, rfl, ?_⟩⟩
    cases hp : paperO n L (some (.str kd', some (ms.map natV))) with
    | true =>
      refine iteT ⟨_, rfl, rs, s2 _ _ g1, Nat.lt_of_le_of_lt (show rs.length ≤ 1000 by omega) (by rw [sizeLine_eq]; decide), rs ++ [y], upd_same, set_same hD (g2.trans s2), fun z hz => ?_, by rw [List.length_append, List.length_singleton]; omega, fun z => ?_⟩
      · rcases List.mem_append.mp hz with hz | hz
        · exact g3 z hz
        · rw [List.mem_singleton.mp hz]; exact ym
      · rw [take_snoc hy] at z
        rcases List.mem_append.mp z with z | z
        · exact List.mem_append_left _ (g5 z)
        · exact List.mem_append_right _ z
    | false =>
      refine iteF ⟨rs, s2 _ _ g1, g2.trans s2, g3, by omega, fun z => ?_⟩
      rw [take_snoc hy] at z
      rcases List.mem_append.mp z with z | z
      · exact g5 z
      · exfalso
        obtain ⟨t2, b2, e, h1, h2, _⟩ := pa
        rw [← List.mem_singleton.mp z] at e
        cases e
        have e1 := B0.et
        have e2 := B0.ev
        have hR := B0.right
        dsimp only at e1 e2 hR
        rw [e1] at h1
        cases h1
        rw [e2] at h2
        have h2 := HO.tup.inj (Option.some.inj h2)
        rw [h2] at hR
        rw [hR] at hp
        cases hp
  · rintro N ⟨rs, g1, g2, g3, g4, g5⟩
    rw [List.take_length] at g5
    have g5 := g5 Y0.hd
    have BN := B0.same g2
    have XN := X0.go D1 (kp_same g2)
    have YN := Y0.go D1 (kp_same g2)
    have DN := BN.dk
    dsimp only at DN
    refine ⟨_, _, rfl, ?_⟩
    exact nx _ _ ⟨l, us, ks, so, b, Da, xs, rs, o7, rfl, BN, XN, YN, ⟨g2 _ _ eb, bp, bc, YN.al, YN.hd, YN.few⟩, ⟨g1, dp, dc, fun y hy => YN.al y (g3 y hy), g5, by show rs.length ≤ 53; omega⟩, nsb, nsd, ne⟩
theorem law_s10 (Z : Lw P w0 K mg base) (hr : Room 10 (lawA c0 fa s)) : PS (lawX P w0 K mg base c0 fa s H) (stm 10) (tInvP J9 J9) := by
  obtain ⟨_, _, GS, _⟩ := Z.hold
  have hu0 : (lawA c0 fa s).units < cLine := hr.units0
  have r6 : Room 6 (lawA c0 fa s) := hr.mono (by decide)
  refine ps_invP (ps_if (pt_cmpR (op_ne0 hu0) (pe_lc (own := [("_law_thing", 11)]) (g := gName 11) rfl scLaw.nd (pi_list (pv 9)) (blkOk_by (N := nLaw) (sc := defScope lLaw) (by decide +kernel))
      (fun _ _ _ _ _ => pg_name (i := 11) scLaw.nd rfl (Or.inl rfl)) (fun _ _ _ _ _ => pts_one (PW.pt (pw_and (pt_cmpR op_ne (pe_ix (show IxR _ (rIxT K) from ix_tup) (pv 11) pe_int (fun _ _ => rfl)) (pv 5) (nomark _)) (pw_and1 (pt_val (pe_call GS.ok r6 rfl GS.g GS.kp GS.b .nil pass0 (pa_cons (pv 3) (pa_cons (pv 11) pa_nil)))))))) (fun _ _ _ _ _ => pv 11))
      (pe_lst pa_nil) (nomark _)) (pss_one (ps_ret pe_bl)) pss_nil) ?_
  rintro ⟨a, p, c, w, t, v, n, L, kd, ns⟩ D0 σ M ⟨l, us, ks, so, b, r, xs, rs, o7, rfl, B, X, Y, YB, YR, n1, n2, n3⟩ nx
  dsimp only at *
  have D := B.dk
  dsimp only at D
  refine ⟨_, rfl, b, rfl, ⟨_, SqL.of YB.el⟩, fun Da hD => ?_⟩
  refine lc_it (walk_list (xs := xs)) (fun i N => N Da = some (.lst []) ∧ Same M N) ⟨upd_same, same_new hD⟩ (fun i N _ ⟨_, g2⟩ => SqL.of (g2 _ _ YB.el)) ?_ ?_
  · rintro i y N N' hi ⟨g1, g2⟩ ⟨rfl, hy⟩
    obtain ⟨kd', ms, pa⟩ := YB.al y (List.mem_of_getElem? hy)
    have BN := B.same g2
    have paN := pa.mono (same_tup g2)
    have ct := paN.ct
    obtain ⟨t2, b2, rfl, h1, h2, _⟩ := paN
    refine ⟨rfl, _, rfl, t2, _, _, _, rfl, rfl, SqT.of h1, atI_nat (j := 0) rfl, _, rfl, rfl, _, rfl, ?_⟩
    by_cases hk : V.str kd' = V.str kd
    · rw [decide_eq_true hk]
      exact iteF ⟨g1, g2⟩
    · rw [decide_eq_false hk]
      refine iteT ⟨_, rfl, _, rfl, w, n, L, _, _, rfl, BN.gw, ct, fun N2 s2 => ⟨_, rfl, ?_⟩⟩
      cases hp : paperO n L (some (.str kd', some (ms.map natV))) with
      | true =>
        have := paper_one B.gw.bel hp B.right
        dsimp only at this
        rw [this] at hk
        exact absurd rfl hk
      | false => exact iteF ⟨s2 _ _ g1, g2.trans s2⟩
  · rintro N ⟨g1, g2⟩
    refine ⟨by show 0 ≤ sizeLine; exact Nat.zero_le _, fun e he => ?_⟩
    have s3 : Same N (upd N e (.lst [])) := same_new he
    have s4 := g2.trans s3
    refine ⟨Da, e, [], rfl, rfl, SqL.of (s3 _ _ g1), SqL.of upd_same, _, rfl, ?_⟩
    exact iteF (nx _ _ ⟨l, us, ks, so, b, r, xs, rs, o7, rfl, B.same s4, X.go D (kp_same s4), Y.go D (kp_same s4), YB.go D (kp_same s4), YR.go D (kp_same s4), n1, n2, n3⟩)
end
end K0

set_option Elab.async false
set_option linter.all false
set_option maxRecDepth 100000
set_option maxHeartbeats 8000000
/-! The law: things near papers, each looked at. -/
namespace K0
open PySem PySem.Spec L2
open PyProof.Rows hiding St
theorem bb_its6 {H : Hp} (a b : Bool) : ∀ (i : Nat) (v : V) (e : PyData), [V.bl a, V.bl b][i]? = some v → [PyData.bool a, PyData.bool b][i]? = some e → DV H Any v e := fun i v e z1 z2 => match i, z1, z2 with
  | 0, rfl, rfl => .bl a
  | 1, rfl, rfl => .bl b
  | n + 2, z1, z2 => by simp at z1
theorem fit_b26 (a b : Bool) : Fit (.tuple [.bool a, .bool b]) := by
  have t := tame_tuple (k := 0) (ds := [.bool a, .bool b]) (fun d hd => by
    rcases List.mem_cons.mp hd with rfl | hd
    · exact tame_plain (.inl ⟨a, rfl⟩) 0
    · rw [List.mem_singleton.mp hd]; exact tame_plain (.inl ⟨b, rfl⟩) 0) (by simp)
  have b1 : bb (0 + 1) ≤ 1000 := by decide
  exact fit_of t.sh t.lv (by have := t.dp; omega) (by have := t.bk; omega)
section
variable {P : Program} {w0 : World} {K : PySem.W.Frag} {mg : Str → Option Value} {base : Heap} {c0 fa : Addr} {s : Shared} {H : Hp}
theorem law_s11 (Z : Lw P w0 K mg base) (hr : Room 10 (lawA c0 fa s)) : PS (lawX P w0 K mg base c0 fa s H) (stm 11) (tInvP J9 J11) := by
  have T := Z.bk
  obtain ⟨_, _, GP⟩ := Z.pick
  obtain ⟨_, _, GS⟩ := Z.strange
  have r2 : Room 2 (lawA c0 fa s) := hr.mono (by decide)
  have r7 : Room 7 (lawA c0 fa s) := hr.mono (by decide)
  refine ps_invP (ps_for PassesOwn.never rfl (pi_range1 (by rfl) T.range (pa_cons pe_int pa_nil)) (pg_name (i := 7) scLaw.nd rfl (.inl rfl))
    (pss_one (ps_expr (pe_bm PySem.F.plainAttrs_list PySem.F.slot_list_append PySem.F.type_list_append mt_append (pv 8) (pa_cons (pe_call GS.ok r7 rfl GS.g GS.kp GS.b .nil pass0 (pa_cons (pv 1) (pa_cons (pv 3) (pa_cons
      (pe_call GP.ok r2 rfl GP.g GP.kp GP.b .nil pass0 (pa_cons (pv 1) (pa_cons (pe_imp (t' := IfL6) (pe_ifExp (pt_cmpR op_lt (pv 7) pe_int (nomark _)) (pv 10) (pv 9)) ?ifx) pa_nil))) pa_nil)))) pa_nil))))) ?_
  case ifx =>
    rintro σ M Q ⟨i, r, b, h7, h10, h9, k⟩
    exact ⟨_, h7, _, _, rfl, rfl, _, rfl, ite2 (fun _ => ⟨_, h10, k _ (.inl rfl)⟩) (fun _ => ⟨_, h9, k _ (.inr rfl)⟩)⟩
  rintro ⟨a, p, c, w, t, v, n, L, kd, ns⟩ D0 σ M ⟨l, us, ks, so, b, r, xs, rs, o7, rfl, B, X, Y, YB, YR, n1, n2, n3⟩ nx
  dsimp only at *
  have DD := B.dk
  dsimp only at DD
  have sop := Y.lp
  have soc := Y.lc
  dsimp only at sop soc
  refine ⟨_, rfl, by decide, by decide, ?_⟩
  refine for_range (lo := 0) (n := 10) (fun i σ M => ∃ (ys : List V) (o7 : Option V), σ = st6 ⟨a, p, c, w, t, v, n, L, kd, ns⟩ (some (.ref l)) o7 (some (.ref so)) (some (.ref b)) (some (.ref r)) none none none ∧ B6 ⟨a, p, c, w, t, v, n, L, kd, ns⟩ M ∧ L6 ⟨a, p, c, w, t, v, n, L, kd, ns⟩ M l us ks 40 ∧
      Y6 ⟨a, p, c, w, t, v, n, L, kd, ns⟩ M so ys (53 + i) ∧ X6 ⟨a, p, c, w, t, v, n, L, kd, ns⟩ M b xs 53 ∧ X6 ⟨a, p, c, w, t, v, n, L, kd, ns⟩ M r rs 53)
    ⟨xs, o7, rfl, B, X, ⟨Y.el, sop, soc, fun y hy => let ⟨_, _, h⟩ := Y.al y hy; h.ctd DD, Y.few⟩, YB, YR⟩ ?_ ?_
  · rintro i σ M hi ⟨ys, o7, rfl, B, X, Y, YB, YR⟩
    have D := B.dk
    dsimp only at D
    refine ⟨_, rfl, .inl ⟨rfl, _, SqL.of Y.el⟩, _, rfl, _, rfl, _, rfl, _, r, b, rfl, rfl, rfl, fun q hq => ?_⟩
    obtain ⟨zs, YQ⟩ : ∃ zs, X6 ⟨a, p, c, w, t, v, n, L, kd, ns⟩ M q zs 53 := by
      rcases hq with rfl | rfl
      · exact ⟨_, YR⟩
      · exact ⟨_, YB⟩
    have z1 : 1 ≤ zs.length := List.length_pos_of_mem YQ.hd
    have z2 := YQ.few
    refine ⟨p, c, q, zs, rfl, D, YQ.el, YQ.lp, YQ.lc, z1, by omega, fun j y M1 hj D1 K1 => ?_⟩
    obtain ⟨kd', ms, pa⟩ := YQ.al y (List.mem_of_getElem? hj)
    obtain ⟨t1, b1, rfl, h1, h2, h3⟩ := pa
    have B1 := B.go D1 K1
    refine ⟨p, c, w, t1, b1, n, L, kd', ms, rfl, B1.gw, D1, K1.tup D _ _ h1, K1.tup D _ _ h2, h3, fun y M2 cy D2 K2 => ?_⟩
    have B2 := B1.go D2 K2
    have K12 := K1.trans K2
    have X2 := X.go D K12
    have Y2 := Y.go K12
    have YB2 := YB.go D K12
    have YR2 := YR.go D K12
    have y2 := Y2.few
    refine ⟨so, ys, _, rfl, rfl, Y2.el, Nat.lt_of_le_of_lt (show ys.length ≤ 1000 by omega) (by rw [sizeLine_eq]; decide), ?_⟩
    refine ⟨ys ++ [y], _, rfl, B2.put Y2.el sop soc, X2.put Y2.el n3, ⟨upd_same, sop, soc, fun z hz => ?_, by rw [List.length_append, List.length_singleton]; omega⟩, YB2.put Y2.el n1.symm, YR2.put Y2.el n2.symm⟩
    rcases List.mem_append.mp hz with hz | hz
    · exact (Y2.al z hz).put Y2.el sop soc
    · rw [List.mem_singleton.mp hz]
      exact Ctd.put (p := p) (c := c) cy Y2.el sop soc
  · rintro σ M ⟨ys, o7, rfl, B, X, Y, YB, YR⟩
    exact nx _ _ ⟨l, us, ks, so, ys, o7, _, _, rfl, B, X, Y⟩
theorem law_s12 (Z : Lw P w0 K mg base) (hr : Room 10 (lawA c0 fa s)) : PS (lawX P w0 K mg base c0 fa s H) (stm 12) (tInvP J11 J12) := by
  have T := Z.bk
  obtain ⟨_, _, GH⟩ := Z.holds
  obtain ⟨_, _, GS, kS⟩ := Z.hold
  have hu : callerA.units + 3 + 64 < cLine := by decide +kernel
  have hgu : (lawA c0 fa s).guards = some [] := rfl
  have r4 : Room 4 (lawA c0 fa s) := hr.mono (by decide)
  have r6 : Room 6 (lawA c0 fa s) := hr.mono (by decide)
  refine ps_invP (ps_for PassesOwn.never rfl (pi_list (pv 8)) (pg_name (i := 11) scLaw.nd rfl (.inl rfl))
    (pss_cons (ps_set (i := 12) scLaw.nd rfl (.inl rfl) (pe_call GH.ok r4 rfl GH.g GH.kp GH.b .nil pass0 (pa_cons (pv 3) (pa_cons (pv 11) pa_nil))))
    <| pss_one (ps_if (pt_cmpR op_ne (pe_callB (call_repr hgu hu) (by rfl) T.repr (by decide +kernel) (pa_cons (pe_tup (pa_cons (pe_call GS.ok r6 rfl GS.g GS.kp GS.b .nil pass0 (pa_cons (pv 3) (pa_cons (pv 11) pa_nil)))
          (pa_cons (pe_kw2r GS.ok r6 rfl GS.g GS.kp kS pass0 (pv 11) (pv 3)) pa_nil))) pa_nil))
        (pe_callB (call_repr hgu hu) (by rfl) T.repr (by decide +kernel) (pa_cons (pe_tup (pa_cons (pv 12) (pa_cons (pv 12) pa_nil))) pa_nil)) (nomark _)) (pss_one (ps_ret pe_bl)) pss_nil))) ?_
  rintro ⟨a, p, c, w, t, v, n, L, kd, ns⟩ D0 σ M ⟨l, us, ks, so, xs, o7, o9, o10, rfl, B, X, Y⟩ nx
  dsimp only at *
  have nK : ∀ {ds : List PyData} (kvs), PyData.tuple ds ≠ .dict kvs := fun _ z => nomatch z
  refine ⟨_, rfl, so, rfl, ⟨_, SqL.of Y.el⟩, ?_⟩
  refine for_list (K := K) (a := so) (xs := xs) (fun i σ M => ∃ (o11 o12 : Option V), σ = st6 ⟨a, p, c, w, t, v, n, L, kd, ns⟩ (some (.ref l)) o7 (some (.ref so)) o9 o10 o11 o12 none ∧ B6 ⟨a, p, c, w, t, v, n, L, kd, ns⟩ M ∧ L6 ⟨a, p, c, w, t, v, n, L, kd, ns⟩ M l us ks 40 ∧ Y6 ⟨a, p, c, w, t, v, n, L, kd, ns⟩ M so xs 63)
    ⟨none, none, rfl, B, X, Y⟩ (fun i σ M _ ⟨_, _, _, _, _, Y⟩ => SqL.of Y.el) ?_ ?_
  · rintro i y σ M hy ⟨o11, o12, rfl, B, X, Y⟩
    obtain ⟨o, ho⟩ := Y.al y (List.mem_of_getElem? hy)
    have ct := ho M kp_refl
    have D := B.dk
    dsimp only at D
    refine ⟨_, rfl, _, rfl, w, n, L, y, o, rfl, B.gw, ct, fun M1 s1 => ?_⟩
    refine ⟨_, rfl, _, rfl, w, n, L, y, o, rfl, B.gw.same s1, ct.same s1, fun M2 s2 => ⟨_, rfl, _, rfl, w, n, L, y, o, rfl, B.gw.same (s1.trans s2), ct.same (s1.trans s2), fun M3 s3 => ?_⟩⟩
    have s03 := (s1.trans s2).trans s3
    refine ⟨by show 2 ≤ sizeLine; exact z30 (by decide), fun y1 hy1 => ⟨y1, .tuple [.bool (paperO n L o), .bool (paperO n L o)], rfl, .tup trivial (.inl upd_same) rfl (bb_its6 _ _), fit_b26 _ _, nK, ?_⟩⟩
    refine ⟨_, rfl, _, rfl, by show 2 ≤ sizeLine; exact z30 (by decide), fun y2 hy2 => ⟨y2, .tuple [.bool (paperO n L o), .bool (paperO n L o)], rfl, .tup trivial (.inl upd_same) rfl (bb_its6 _ _), fit_b26 _ _, nK, ?_⟩⟩
    refine ⟨rfl, _, rfl, ?_⟩
    rw [ne_eq6]
    have s05 := (s03.trans (same_new (o := .tup [.bl (paperO n L o), .bl (paperO n L o)]) hy1)).trans (same_new (o := .tup [.bl (paperO n L o), .bl (paperO n L o)]) hy2)
    exact iteF ⟨_, _, rfl, B.same s05, X.go D (kp_same s05), Y.go (kp_same s05)⟩
  · rintro σ M ⟨o11, o12, rfl, B, X, Y⟩
    exact nx _ _ ⟨l, us, ks, o7, _, o9, o10, o11, o12, rfl, B, X⟩
end
end K0

set_option Elab.async false
set_option linter.all false
set_option maxRecDepth 100000
set_option maxHeartbeats 8000000
/-! The law of sides, whole. -/
namespace K0
open PySem PySem.Spec L2
open PyProof.Rows hiding St
section
variable {P : Program} {w0 : World} {K : PySem.W.Frag} {mg : Str → Option Value} {base : Heap} {c0 fa a : Addr}
theorem law_body (Z : Lw P w0 K mg base) {s : Shared} {H : Hp} {ns : List Int} (hS : SqL K H a (ns.map V.int)) (hr : Room 10 (lawA c0 fa s)) :
    ∃ t, PSs (lawX P w0 K mg base c0 fa s H) (defBody lLaw) t ∧ t { nx := fun _ H' => (V.non = .bl true : Prop), rt := fun v _ => v = .bl true } (start nLaw [.ref a]) H := by
  have T := Z.bk
  obtain ⟨_, _, GDk⟩ := Z.deck
  obtain ⟨_, _, GD⟩ := Z.draw
  obtain ⟨_, _, GP⟩ := Z.pick
  obtain ⟨_, _, GWb⟩ := Z.web
  obtain ⟨_, _, GS, _⟩ := Z.hold
  obtain ⟨_, _, GPo⟩ := Z.parts
  have r1 : Room 1 (lawA c0 fa s) := hr.mono (by decide)
  have r2 : Room 2 (lawA c0 fa s) := hr.mono (by decide)
  have r4 : Room 4 (lawA c0 fa s) := hr.mono (by decide)
  have r6 : Room 6 (lawA c0 fa s) := hr.mono (by decide)
  refine ⟨_, pss_cons (ps_set (i := 1) scLaw.nd rfl (.inl rfl) (pe_call GDk.ok r1 rfl GDk.g GDk.kp GDk.b .nil pass0 (pa_cons (pv 0) pa_nil)))
    <| pss_cons (ps_set (i := 2) scLaw.nd rfl (.inl rfl) (pe_op op_add pe_int (pe_call GD.ok r1 rfl GD.g GD.kp GD.b .nil pass0 (pa_cons (pv 1) (pa_cons (pe_imp (t' := IfT6) (pe_ifExp (pt_cmpR op_eq (pe_call GD.ok r1 rfl GD.g GD.kp GD.b .nil pass0 (pa_cons (pv 1) (pa_cons pe_int pa_nil))) pe_int (nomark _)) pe_int pe_int) ?ifx) pa_nil)))))
    <| pss_cons (ps_set (i := 3) scLaw.nd rfl (.inr rfl) (pe_call GWb.ok r4 rfl GWb.g GWb.kp GWb.b .nil pass0 (pa_cons (pv 1) (pa_cons (pv 2) (pa_cons (pe_call GP.ok r2 rfl GP.g GP.kp GP.b .nil pass0 (pa_cons (pv 1) (pa_cons (pe_lst (pa_cons pe_int (pa_cons pe_int (pa_cons pe_int pa_nil)))) pa_nil))) pa_nil)))))
    <| pss_cons (law_s3 Z hr) <| pss_cons (law_s4 Z hr) <| pss_cons (law_s5 Z hr) <| pss_cons (law_s6 Z hr) <| pss_cons (law_s7 Z hr) <| pss_cons (law_s8 Z hr) <| pss_cons (law_s9 Z hr) <| pss_cons (law_s10 Z hr) <| pss_cons (law_s11 Z hr) <| pss_cons (law_s12 Z hr)
    <| pss_cons (ps_if (pt_cmpR op_gt (pv 2) pe_int (nomark _)) (pss_one (ps_ret pe_bl)) pss_nil)
    <| pss_cons (ps_set (i := 13) scLaw.nd rfl (.inl rfl) (pe_callB call_len_seq (by rfl) T.len PySem.boot_len (pa_cons (pe_lc (own := [("_law_lot_here", 15)]) (g := gName 15) rfl scLaw.nd (pi_list (pv 6)) (blkOk_by (N := nLaw) (sc := defScope lLaw) (by decide +kernel))
        (fun _ _ _ _ _ => pg_name (i := 15) scLaw.nd rfl (Or.inl rfl)) (fun _ _ _ _ _ => pts_one (pt_val (pe_call GS.ok r6 rfl GS.g GS.kp GS.b .nil pass0 (pa_cons (pv 3) (pa_cons (pe_tup (pa_cons pe_str (pa_cons (pv 15) pa_nil))) pa_nil))))) (fun _ _ _ _ _ => pv 15)) pa_nil)))
    <| pss_one (ps_ret (pe_cmpR op_eq (pv 13) (pe_ifExp (pt_cmpR op_eq (pv 5) pe_str (nomark _)) (pe_op op_oneN pe_int (pe_callB call_len_seq (by rfl) T.len PySem.boot_len (pa_cons (pe_call GPo.ok r6 rfl GPo.g GPo.kp GPo.b .nil pass0 (pa_cons (pv 3) pa_nil)) pa_nil))) pe_int) (nomark _))), ?main⟩
  case ifx =>
    rintro σ M Q ⟨p, c, hs, D, k⟩
    exact ⟨_, hs, p, c, _, rfl, D, by decide, by decide, fun r M1 r0 r1 D1 K1 => ⟨rfl, _, rfl, ite2 (fun _ => k _ _ (.inl rfl) D1 K1) (fun _ => k _ _ (.inr rfl) D1 K1)⟩⟩
  case main =>
    refine ⟨_, rfl, a, ns, rfl, hS, fun p c H1 D1 s1 hp hc => ?_⟩
    refine ⟨_, rfl, ⟨p, c, rfl, D1, fun d H2 hd D2 K2 => ⟨p, c, d, rfl, D2, by omega, by omega, fun r H3 r0 r1 D3 K3 => ⟨_, _, rfl, rfl, ?_⟩⟩⟩⟩
    obtain ⟨n, hn⟩ : ∃ n : Nat, 1 + r = n := ⟨(1 + r).toNat, by omega⟩
    have n1 : 1 ≤ n := by omega
    have n2 : n ≤ 12 := by omega
    show gName 2 (.int (1 + r)) _ _ _
    rw [hn]
    clear hn hd K2 K3 D2 s1 D1
    refine ⟨_, rfl, _, rfl, _, rfl, by show 3 ≤ sizeLine; exact z30 (by decide), fun lm hlm => ?_⟩
    obtain ⟨lmp, lmc⟩ := D3.inp hlm
    refine ⟨p, c, lm, _, rfl, D3.new hlm, upd_same, lmp, lmc, by show 1 ≤ 3; decide, by show 3 < 1000; decide, fun i v H4 hi D4 K4 => ?_⟩
    obtain ⟨m, rfl, hm⟩ : ∃ m : Nat, v = .int (m : Int) ∧ m ≤ 40 := by
      have hv := List.mem_of_getElem? hi
      simp only [List.mem_cons, List.not_mem_nil, or_false] at hv
      rcases hv with rfl | rfl | rfl
      · exact ⟨5, rfl, by decide⟩
      · exact ⟨10, rfl, by decide⟩
      · exact ⟨40, rfl, by decide⟩
    refine ⟨p, c, n, m, rfl, n1, n2, hm, D4, fun w L H5 hw W hB srt lm' D5 K5 => ?_⟩
    have G5 : GW H5 w n L := ⟨W, n1, n2, hB, srt, by omega⟩
    clear hi K4 D4 hw W lmp lmc hlm D3 K5 srt lm' hm
    refine ⟨⟨a, p, c, w, n, L⟩, ⟨rfl, D5, G5⟩, fun σ M h => ?_⟩
    clear D5 G5 hB
    obtain ⟨t, v, kd, pns, rfl, B⟩ := h
    refine ⟨⟨a, p, c, w, t, v, n, L, kd, pns⟩, ⟨rfl, B⟩, fun σ M h => ⟨_, h, fun σ M h => ⟨_, h, fun σ M h => ⟨_, h, fun σ M h => ⟨_, h, fun σ M h => ⟨_, h, fun σ M h => ⟨_, h, fun σ M h => ⟨_, h, fun σ M h => ⟨_, h, fun σ M h => ?_⟩⟩⟩⟩⟩⟩⟩⟩⟩
    clear B
    obtain ⟨l, us, ks, o7, o8, o9, o10, o11, o12, rfl, B, X⟩ := h
    have D := B.dk
    have hR := B.right
    have Bel := B.gw.bel
    have PP := B.pp
    dsimp only at D hR Bel PP
    refine ⟨_, rfl, _, _, rfl, rfl, _, rfl, ?_⟩
    by_cases h5 : (n : Int) > 5
    · rw [decide_eq_true h5]
      exact iteT rfl
    rw [decide_eq_false h5]
    have n5 : n ≤ 5 := by omega
    have ek : ks = List.range (2 ^ n) := X.all n5
    have kf := X.few
    have ul := X.ats.1
    refine iteF ⟨_, rfl, l, rfl, ⟨_, SqL.of X.el⟩, fun Da hD => ?_⟩
    refine lc_it (walk_list (xs := us)) (fun i N => (∃ rs, N Da = some (.lst rs) ∧ rs.length = ((ks.take i).filter fun x => paperO n L (some (.str "sides", some ((rowN x).map natV)))).length) ∧ Same M N) ⟨⟨[], upd_same, rfl⟩, same_new hD⟩ (fun i N _ ⟨_, g2⟩ => SqL.of (g2 _ _ X.el)) ?_ ?_
    · rintro i y N N' hi ⟨⟨rs, g1, g3⟩, g2⟩ ⟨rfl, hy⟩
      obtain ⟨b, k, rfl, hk, hb⟩ := X.ats.2 i y hy
      have fl := List.length_filter_le (fun x => paperO n L (some (.str "sides", some ((rowN x).map natV)))) (ks.take i)
      rw [List.length_take] at fl
      have tk : (ks.take (i + 1)).filter (fun x => paperO n L (some (.str "sides", some ((rowN x).map natV)))) = (ks.take i).filter (fun x => paperO n L (some (.str "sides", some ((rowN x).map natV)))) ++ [k].filter fun x => paperO n L (some (.str "sides", some ((rowN x).map natV))) := by rw [take_snoc hk, List.filter_append]
      refine ⟨rfl, _, rfl, _, rfl, by show 2 ≤ sizeLine; exact z30 (by decide), fun tt htt => ?_⟩
      have s2 : Same N' (upd N' tt (.tup [.str "sides", .ref b])) := same_new htt
      have pa : PpAt (upd N' tt (.tup [.str "sides", .ref b])) (.ref tt) "sides" (rowN k) := ⟨tt, b, rfl, upd_same, s2 _ _ (g2 _ _ hb), by have := row_few k; omega⟩
      refine ⟨w, n, L, _, _, rfl, (B.gw.same g2).same s2, pa.ct, fun N2 s3 => ⟨_, rfl, ?_⟩⟩
      have s23 := s2.trans s3
      cases hp : paperO n L (some (.str "sides", some ((rowN k).map natV))) with
      | true =>
        refine iteT ⟨_, rfl, rs, s23 _ _ g1, Nat.lt_of_le_of_lt (show rs.length ≤ 1000 by omega) (by rw [sizeLine_eq]; decide), ⟨rs ++ [.ref b], upd_same, ?_⟩, set_same hD (g2.trans s23)⟩
        rw [tk, List.filter_cons_of_pos (p := fun x => paperO n L (some (.str "sides", some ((rowN x).map natV)))) hp, List.filter_nil, List.length_append, List.length_append, g3] <;> rfl
      | false =>
        refine iteF ⟨⟨rs, s23 _ _ g1, ?_⟩, g2.trans s23⟩
        rw [tk, List.filter_cons_of_neg (p := fun x => paperO n L (some (.str "sides", some ((rowN x).map natV)))) (by rw [hp]; decide), List.filter_nil, List.append_nil, g3]
    rintro N ⟨⟨rs, g1, g3⟩, g2⟩
    rw [ul, List.take_length, ek] at g3
    have BN := B.same g2
    refine ⟨Da, _, rfl, .inl (SqL.of g1), ?_⟩
    refine ⟨_, rfl, _, rfl, rfl, _, rfl, ?_⟩
    by_cases hk : V.str kd = V.str "sides"
    · rw [decide_eq_true hk]
      refine iteT ⟨_, rfl, w, n, L, rfl, BN.gw, fun tp us' ys M2 s2 fr ep tp' ip => ?_⟩
      have cl := lots_many Bel n2 PP ip.cls
      rw [if_pos hk] at cl
      have yl := tp'.len
      have yf : ys.length ≤ 5 := by
        have fl := List.length_filter_le (fun x => paperO n L (some (.str "sides", some ((rowN x).map natV)))) (List.range (2 ^ n))
        rw [cl, List.length_range] at fl
        have p5 : 2 ^ n ≤ 2 ^ 5 := Nat.pow_le_pow_right (n := 2) (by decide) n5
        rcases Nat.lt_or_ge 5 ys.length with z | z
        · have := Nat.pow_le_pow_right (n := 2) (by decide) (show 6 ≤ ys.length from z)
          omega
        · exact z
      refine ⟨tp, us', rfl, .inr (SqT.of ep), us'.length, rfl, rfl, by omega, ?_⟩
      rw [yl, g3, cl]
      exact ⟨rfl, by simp⟩
    · rw [decide_eq_false hk]
      have yl := lots_many Bel n2 PP (ys := (PP.choose)) PP.choose_spec.1
      rw [if_neg hk] at yl
      refine iteF ?_
      rw [g3, yl]
      exact ⟨rfl, by simp⟩
end
end K0

set_option Elab.async false
set_option linter.all false
set_option maxRecDepth 100000
set_option maxHeartbeats 4000000
/-! What the top has written, put together. -/
namespace K0
open PySem PySem.Spec L2
open PyProof.Rows hiding St
open PySem.W (Frag)
open LamX (ExtN Tabs TabB TabS)
/-- a def of the row -/
def Df (K : Frag) (mg : Str → Option Value) (n : Str) (st : Stmt) (f : Addr) (fd : FuncData) : Prop := mg n = some (.ref f) ∧ PySem.W.keepIn K (.ref f) = true ∧ Fun K n n st f fd
theorem df_mk {K : Frag} {h : Heap} {mg : Str → Option Value} {n : Str} {st : Stmt} {f : Addr} {oc : Value} {od an : Option Addr} {osl : Array (Option Value)} {kV doc pm cdv ct : Value} (X : K.In h) (G : h.Ns mainGlobals mg)
    (a : PySem.W.nsIn K mainGlobals n = some (some (.ref f))) (l : K.lookup f = some ⟨oc, od, .func (PySem.W.fnOf n n (defArgs st) (defBody st) (defScope st) .none kV doc pm an cdv ct), osl⟩)
    (c : PySem.W.codeIn K cdv n = true) (k : PySem.W.keepIn K (.ref f) = true) : Df K mg n st f (PySem.W.fnOf n n (defArgs st) (defBody st) (defScope st) .none kV doc pm an cdv ct) := ⟨PySem.W.mg_of X G a, k, fun_mk l c k⟩

/-- a def of the row, its code object told -/
def DfC (K : Frag) (mg : Str → Option Value) (n : Str) (st : Stmt) (f c : Addr) (fd : FuncData) : Prop := mg n = some (.ref f) ∧ PySem.W.keepIn K (.ref f) = true ∧ FunC K n n st f fd c
theorem dfc_mk {K : Frag} {h : Heap} {mg : Str → Option Value} {n : Str} {st : Stmt} {f c : Addr} {oc : Value} {od an : Option Addr} {osl : Array (Option Value)} {kV doc pm ct : Value} (X : K.In h) (G : h.Ns mainGlobals mg)
    (a : PySem.W.nsIn K mainGlobals n = some (some (.ref f))) (l : K.lookup f = some ⟨oc, od, .func (PySem.W.fnOf n n (defArgs st) (defBody st) (defScope st) .none kV doc pm an (.ref c) ct), osl⟩)
    (z : PySem.W.codeIn K (.ref c) n = true) (k : PySem.W.keepIn K (.ref f) = true) : DfC K mg n st f c (PySem.W.fnOf n n (defArgs st) (defBody st) (defScope st) .none kV doc pm an (.ref c) ct) := ⟨PySem.W.mg_of X G a, k, ⟨_, _, _, _, _, _, _, _, rfl, l, z⟩, k⟩
theorem kw2_mk {K : Frag} {x qual : Str} {st : Stmt} {f : Addr} {fd : FuncData} {k1 k2 : Str} (F : Fun K x qual st f fd)
    (h : ∀ (kV doc pm : Value) (an : Option Addr) (cdv ct a b : Value), bindArgs (PySem.W.fnOf x qual (defArgs st) (defBody st) (defScope st) .none kV doc pm an cdv ct) ⟨[], [(k1, a), (k2, b)]⟩ = pure [(k1, a), (k2, b)] ∧
      bindArgs (PySem.W.fnOf x qual (defArgs st) (defBody st) (defScope st) .none kV doc pm an cdv ct) ⟨[], [(k2, b), (k1, a)]⟩ = pure [(k1, a), (k2, b)]) : Kw2 fd k1 k2 := by
  obtain ⟨oc, od, kV, doc, pm, an, cdv, ct, osl, rfl, _, _⟩ := F.ex
  exact fun s a b => ⟨.of_eq (h ..).1, .of_eq (h ..).2⟩
theorem kw1_mk {K : Frag} {x qual : Str} {st : Stmt} {f : Addr} {fd : FuncData} {k1 : Str} (F : Fun K x qual st f fd) (h : ∀ (kV doc pm : Value) (an : Option Addr) (cdv ct a : Value), bindArgs (PySem.W.fnOf x qual (defArgs st) (defBody st) (defScope st) .none kV doc pm an cdv ct) ⟨[], [(k1, a)]⟩ = pure [(k1, a)]) : Kw1 fd k1 := by
  obtain ⟨oc, od, kV, doc, pm, an, cdv, ct, osl, rfl, _, _⟩ := F.ex
  exact fun s a => .of_eq (h ..)
/-- the names that are nobody's own -/
def free : List Str := ["int", "max", "len", "list", "range", "tuple", "min", "sorted", "set", "all", "isinstance", "enumerate", "bool", "repr", "super", "any", "sum", "str"]
def freeB (K : Frag) : Bool := free.all fun x => decide (PySem.W.nsIn K mainGlobals x = some none)
theorem free_mk {K : Frag} {h : Heap} {mg : Str → Option Value} (X : K.In h) (G : h.Ns mainGlobals mg) (e : freeB K = true) : ∀ x ∈ free, mg x = none := fun x hx => PySem.W.mg_none_of X G (of_decide_eq_true (List.all_eq_true.mp e x hx))
/-- what the end asks of the law -/
def LawEnd (P : Program) (w : World) (K : Frag) (mg : Str → Option Value) (fa : Addr) (h : Heap) : Prop := ∃ (fd : FuncData) (c0 : Addr), FunC K "law" "law" lLaw fa fd c0 ∧ (∀ (s : Shared) (u : Value), BindsTo s fd ⟨[u], []⟩ [("_law_script", u)]) ∧ ∀ base : Heap, K.In base → base.Ns mainGlobals mg → Lw P w K mg base
theorem walk_out {l : PySem.W.OpenLaw} {q : Program} {loose : List Str} {XP : (Str → Option Value) → Heap → Prop} {YP : World → Heap → Prop} {d : DefRec} {K : Params → Frag} (hn : l.most = some 63) (hdf : d.params.defaults = []) (hY : ∀ (w : World) (h : Heap), YP w h → (K w.params).In h)
    (F : ∀ (w : World) (mg : Str → Option Value) (fa : Addr) (h : Heap), (K w.params).In h → h.Ns mainGlobals mg → mg d.name = some (.ref fa) → LawEnd l.prog w (K w.params) mg fa h) :
    PySem.W.WalkO q loose XP YP l.row.toRowW d [] (fun f vs => PySem.call f vs) := by
  refine Att.attach_callB hn hdf fun w s₀ s₁ mg mb fa o pm cd doc a vs ns G Y ho hd hcd hmg hobj hints hlen _ hg => ?_
  have KX := hY w _ Y
  obtain ⟨fd, c0, FL, hb, rest⟩ := F w mg fa _ KX G.T.g hmg
  refine law_outT (k := 10) (cs := []) FL scLaw KX G.T.g G.T.b G.T.builtins G.T.nolimit hg G.T.bmain (fun p hp => nomatch hp) hobj hints (Nat.le_trans hlen (by rw [sizeLine_eq]; decide)) ⟨rfl, by decide, by decide⟩ hb fun base H s KB GB _ _ hS hr => ?_
  exact law_body (rest base KB GB) hS hr
set_option maxHeartbeats 16000000 in
theorem all_mk {P : Program} {w : World} {K : Frag} {h : Heap} {mg : Str → Option Value} {fa f_lot_of f_full_mask f_near_masks f_part_from f_part_masks f_is_whole f_is_below f_is_pair f_is_told f_is_tie f_is_web f_check_web f_is_lot_of f_is_tie_number f_part_lots f_parts_of f_ways_from f_closed_ring f_judge_sides f_are_sides f_leads_round f_is_ring_of f_sides_hold f__law_deck f__law_draw f__law_pick f__law_order f__law_pair f__law_pairs f__law_drawn_ties f__law_web f__law_lot f__law_cut f__law_is_whole f__law_is_lot f__law_are_whole f__law_is_ring f__law_is_two_sided f__law_walked f__law_trail f__law_bent_numbers f__law_any f__law_holds f__law_strange f_law c_law : Addr} {d_lot_of d_full_mask d_near_masks d_part_from d_part_masks d_is_whole d_is_below d_is_pair d_is_told d_is_tie d_is_web d_check_web d_is_lot_of d_is_tie_number d_part_lots d_parts_of d_ways_from d_closed_ring d_judge_sides d_are_sides d_leads_round d_is_ring_of d_sides_hold d__law_deck d__law_draw d__law_pick d__law_order d__law_pair d__law_pairs d__law_drawn_ties d__law_web d__law_lot d__law_cut d__law_is_whole d__law_is_lot d__law_are_whole d__law_is_ring d__law_is_two_sided d__law_walked d__law_trail d__law_bent_numbers d__law_any d__law_holds d__law_strange d_law : FuncData} {tM : Tok} (X : K.In h) (G : h.Ns mainGlobals mg) (hfa : mg "law" = some (.ref fa))
    (aM : PySem.W.nsIn K mainGlobals "MOST_PLACES" = some (some (.int 12 tM))) (fr : freeB K = true)
    (g_lot_of : Df K mg "lot_of" pLotOf f_lot_of d_lot_of)
    (g_full_mask : Df K mg "full_mask" pFull f_full_mask d_full_mask)
    (g_near_masks : Df K mg "near_masks" pNear f_near_masks d_near_masks)
    (g_part_from : Df K mg "part_from" pPart f_part_from d_part_from)
    (g_part_masks : Df K mg "part_masks" pParts f_part_masks d_part_masks)
    (g_is_whole : Df K mg "is_whole" pWhole f_is_whole d_is_whole)
    (g_is_below : Df K mg "is_below" pBelow f_is_below d_is_below)
    (g_is_pair : Df K mg "is_pair" pPair2 f_is_pair d_is_pair)
    (g_is_told : Df K mg "is_told" pIsTold f_is_told d_is_told)
    (g_is_tie : Df K mg "is_tie" pTie f_is_tie d_is_tie)
    (g_is_web : Df K mg "is_web" pWeb f_is_web d_is_web)
    (g_check_web : Df K mg "check_web" pCheckWeb f_check_web d_check_web)
    (g_is_lot_of : Df K mg "is_lot_of" pIsLotOf f_is_lot_of d_is_lot_of)
    (g_is_tie_number : Df K mg "is_tie_number" pIsTieNo f_is_tie_number d_is_tie_number)
    (g_part_lots : Df K mg "part_lots" pPartLots f_part_lots d_part_lots)
    (g_parts_of : Df K mg "parts_of" pPartsOf f_parts_of d_parts_of)
    (g_ways_from : Df K mg "ways_from" pWays f_ways_from d_ways_from)
    (g_closed_ring : Df K mg "closed_ring" pClosed f_closed_ring d_closed_ring)
    (g_judge_sides : Df K mg "judge_sides" pSides f_judge_sides d_judge_sides)
    (g_are_sides : Df K mg "are_sides" pAreSides f_are_sides d_are_sides)
    (g_leads_round : Df K mg "leads_round" pLeads f_leads_round d_leads_round)
    (g_is_ring_of : Df K mg "is_ring_of" pIsRingOf f_is_ring_of d_is_ring_of)
    (g_sides_hold : Df K mg "sides_hold" pSidesHold f_sides_hold d_sides_hold)
    (g__law_deck : Df K mg "_law_deck" sDeck f__law_deck d__law_deck)
    (g__law_draw : Df K mg "_law_draw" sDraw f__law_draw d__law_draw)
    (g__law_pick : Df K mg "_law_pick" sPick f__law_pick d__law_pick)
    (g__law_order : Df K mg "_law_order" sOrder f__law_order d__law_order)
    (g__law_pair : Df K mg "_law_pair" sPair f__law_pair d__law_pair)
    (g__law_pairs : Df K mg "_law_pairs" sPairs f__law_pairs d__law_pairs)
    (g__law_drawn_ties : Df K mg "_law_drawn_ties" sTies f__law_drawn_ties d__law_drawn_ties)
    (g__law_web : Df K mg "_law_web" sWeb f__law_web d__law_web)
    (g__law_lot : Df K mg "_law_lot" lLot f__law_lot d__law_lot)
    (g__law_cut : Df K mg "_law_cut" lCut f__law_cut d__law_cut)
    (g__law_is_whole : Df K mg "_law_is_whole" lWhole f__law_is_whole d__law_is_whole)
    (g__law_is_lot : Df K mg "_law_is_lot" lIsLot f__law_is_lot d__law_is_lot)
    (g__law_are_whole : Df K mg "_law_are_whole" lAreWhole f__law_are_whole d__law_are_whole)
    (g__law_is_ring : Df K mg "_law_is_ring" lIsRing f__law_is_ring d__law_is_ring)
    (g__law_is_two_sided : Df K mg "_law_is_two_sided" lTwoSided f__law_is_two_sided d__law_is_two_sided)
    (g__law_walked : Df K mg "_law_walked" lWalked f__law_walked d__law_walked)
    (g__law_trail : Df K mg "_law_trail" lTrail f__law_trail d__law_trail)
    (g__law_bent_numbers : Df K mg "_law_bent_numbers" lBentN f__law_bent_numbers d__law_bent_numbers)
    (g__law_any : Df K mg "_law_any" sAny f__law_any d__law_any)
    (g__law_holds : Df K mg "_law_holds" lHolds f__law_holds d__law_holds)
    (g__law_strange : Df K mg "_law_strange" lStrangeP f__law_strange d__law_strange)
    (g_law : DfC K mg "law" lLaw f_law c_law d_law) : LawEnd P w K mg fa h := by
  have eL := hfa.symm.trans g_law.1
  cases eL
  have n := free_mk X G fr
  have B : Br mg := { toBq := { toBk := { int := n _ (by decide), max := n _ (by decide), len := n _ (by decide), list := n _ (by decide), range := n _ (by decide), tuple := n _ (by decide), min := n _ (by decide), sorted := n _ (by decide), set := n _ (by decide), all := n _ (by decide), isi := n _ (by decide), enu := n _ (by decide), bool := n _ (by decide), repr := n _ (by decide), sup := n _ (by decide), most := ⟨_, PySem.W.mg_of X G aM⟩ }, any := n _ (by decide), sum := n _ (by decide) }, str := n _ (by decide) }
  have b_lot_of := g_lot_of.2.2.binds (ps := ["mask"]) fun _ _ _ _ _ _ us hl => match us, hl with | [_], _ => rfl
  have b_full_mask := g_full_mask.2.2.binds (ps := ["web"]) fun _ _ _ _ _ _ us hl => match us, hl with | [_], _ => rfl
  have b_near_masks := g_near_masks.2.2.binds (ps := ["web"]) fun _ _ _ _ _ _ us hl => match us, hl with | [_], _ => rfl
  have b_part_from := g_part_from.2.2.binds (ps := ["near", "mask", "start"]) fun _ _ _ _ _ _ us hl => match us, hl with | [_, _, _], _ => rfl
  have b_part_masks := g_part_masks.2.2.binds (ps := ["near", "mask"]) fun _ _ _ _ _ _ us hl => match us, hl with | [_, _], _ => rfl
  have b_is_whole := g_is_whole.2.2.binds (ps := ["thing"]) fun _ _ _ _ _ _ us hl => match us, hl with | [_], _ => rfl
  have b_is_below := g_is_below.2.2.binds (ps := ["thing", "bound"]) fun _ _ _ _ _ _ us hl => match us, hl with | [_, _], _ => rfl
  have b_is_pair := g_is_pair.2.2.binds (ps := ["thing"]) fun _ _ _ _ _ _ us hl => match us, hl with | [_], _ => rfl
  have b_is_told := g_is_told.2.2.binds (ps := ["thing", "word", "many"]) fun _ _ _ _ _ _ us hl => match us, hl with | [_, _, _], _ => rfl
  have b_is_tie := g_is_tie.2.2.binds (ps := ["thing", "places"]) fun _ _ _ _ _ _ us hl => match us, hl with | [_, _], _ => rfl
  have b_is_web := g_is_web.2.2.binds (ps := ["thing"]) fun _ _ _ _ _ _ us hl => match us, hl with | [_], _ => rfl
  have b_check_web := g_check_web.2.2.binds (ps := ["thing"]) fun _ _ _ _ _ _ us hl => match us, hl with | [_], _ => rfl
  have b_is_lot_of := g_is_lot_of.2.2.binds (ps := ["web", "thing"]) fun _ _ _ _ _ _ us hl => match us, hl with | [_, _], _ => rfl
  have b_is_tie_number := g_is_tie_number.2.2.binds (ps := ["web", "thing"]) fun _ _ _ _ _ _ us hl => match us, hl with | [_, _], _ => rfl
  have b_part_lots := g_part_lots.2.2.binds (ps := ["web"]) fun _ _ _ _ _ _ us hl => match us, hl with | [_], _ => rfl
  have b_parts_of := g_parts_of.2.2.binds (ps := ["web"]) fun _ _ _ _ _ _ us hl => match us, hl with | [_], _ => rfl
  have b_ways_from := g_ways_from.2.2.binds (ps := ["web", "root"]) fun _ _ _ _ _ _ us hl => match us, hl with | [_, _], _ => rfl
  have b_closed_ring := g_closed_ring.2.2.binds (ps := ["near", "number", "far"]) fun _ _ _ _ _ _ us hl => match us, hl with | [_, _, _], _ => rfl
  have b_judge_sides := g_judge_sides.2.2.binds (ps := ["web"]) fun _ _ _ _ _ _ us hl => match us, hl with | [_], _ => rfl
  have b_are_sides := g_are_sides.2.2.binds (ps := ["web", "lot"]) fun _ _ _ _ _ _ us hl => match us, hl with | [_, _], _ => rfl
  have b_leads_round := g_leads_round.2.2.binds (ps := ["web", "ring", "start"]) fun _ _ _ _ _ _ us hl => match us, hl with | [_, _, _], _ => rfl
  have b_is_ring_of := g_is_ring_of.2.2.binds (ps := ["web", "thing"]) fun _ _ _ _ _ _ us hl => match us, hl with | [_, _], _ => rfl
  have b_sides_hold := g_sides_hold.2.2.binds (ps := ["web", "thing"]) fun _ _ _ _ _ _ us hl => match us, hl with | [_, _], _ => rfl
  have b__law_deck := g__law_deck.2.2.binds (ps := ["_law_script"]) fun _ _ _ _ _ _ us hl => match us, hl with | [_], _ => rfl
  have b__law_draw := g__law_draw.2.2.binds (ps := ["_law_deck_here", "_law_many"]) fun _ _ _ _ _ _ us hl => match us, hl with | [_, _], _ => rfl
  have b__law_pick := g__law_pick.2.2.binds (ps := ["_law_deck_here", "_law_some"]) fun _ _ _ _ _ _ us hl => match us, hl with | [_, _], _ => rfl
  have b__law_order := g__law_order.2.2.binds (ps := ["_law_deck_here", "_law_n"]) fun _ _ _ _ _ _ us hl => match us, hl with | [_, _], _ => rfl
  have b__law_pair := g__law_pair.2.2.binds (ps := ["_law_one", "_law_other"]) fun _ _ _ _ _ _ us hl => match us, hl with | [_, _], _ => rfl
  have b__law_pairs := g__law_pairs.2.2.binds (ps := ["_law_n"]) fun _ _ _ _ _ _ us hl => match us, hl with | [_], _ => rfl
  have b__law_drawn_ties := g__law_drawn_ties.2.2.binds (ps := ["_law_deck_here", "_law_n"]) fun _ _ _ _ _ _ us hl => match us, hl with | [_, _], _ => rfl
  have b__law_web := g__law_web.2.2.binds (ps := ["_law_deck_here", "_law_n", "_law_most"]) fun _ _ _ _ _ _ us hl => match us, hl with | [_, _, _], _ => rfl
  have b__law_lot := g__law_lot.2.2.binds (ps := ["_law_number"]) fun _ _ _ _ _ _ us hl => match us, hl with | [_], _ => rfl
  have b__law_cut := g__law_cut.2.2.binds (ps := ["_law_web_here", "_law_lot_here"]) fun _ _ _ _ _ _ us hl => match us, hl with | [_, _], _ => rfl
  have b__law_is_whole := g__law_is_whole.2.2.binds (ps := ["_law_thing"]) fun _ _ _ _ _ _ us hl => match us, hl with | [_], _ => rfl
  have b__law_is_lot := g__law_is_lot.2.2.binds (ps := ["_law_n", "_law_thing"]) fun _ _ _ _ _ _ us hl => match us, hl with | [_, _], _ => rfl
  have b__law_are_whole := g__law_are_whole.2.2.binds (ps := ["_law_thing"]) fun _ _ _ _ _ _ us hl => match us, hl with | [_], _ => rfl
  have b__law_is_ring := g__law_is_ring.2.2.binds (ps := ["_law_web_here", "_law_thing"]) fun _ _ _ _ _ _ us hl => match us, hl with | [_, _], _ => rfl
  have b__law_is_two_sided := g__law_is_two_sided.2.2.binds (ps := ["_law_web_here"]) fun _ _ _ _ _ _ us hl => match us, hl with | [_], _ => rfl
  have b__law_walked := g__law_walked.2.2.binds (ps := ["_law_deck_here", "_law_web_here"]) fun _ _ _ _ _ _ us hl => match us, hl with | [_, _], _ => rfl
  have b__law_trail := g__law_trail.2.2.binds (ps := ["_law_deck_here", "_law_web_here"]) fun _ _ _ _ _ _ us hl => match us, hl with | [_, _], _ => rfl
  have b__law_bent_numbers := g__law_bent_numbers.2.2.binds (ps := ["_law_deck_here", "_law_some", "_law_most"]) fun _ _ _ _ _ _ us hl => match us, hl with | [_, _, _], _ => rfl
  have b__law_any := g__law_any.2.2.binds (ps := ["_law_deck_here", "_law_deep"]) fun _ _ _ _ _ _ us hl => match us, hl with | [_, _], _ => rfl
  have b__law_holds := g__law_holds.2.2.binds (ps := ["_law_web_here", "_law_thing"]) fun _ _ _ _ _ _ us hl => match us, hl with | [_, _], _ => rfl
  have b__law_strange := g__law_strange.2.2.binds (ps := ["_law_deck_here", "_law_web_here", "_law_thing"]) fun _ _ _ _ _ _ us hl => match us, hl with | [_, _, _], _ => rfl
  have b_law := g_law.2.2.fun.binds (ps := ["_law_script"]) fun _ _ _ _ _ _ us hl => match us, hl with | [_], _ => rfl
  have k_judge_sides : Kw1 d_judge_sides "web" := kw1_mk g_judge_sides.2.2 fun _ _ _ _ _ _ _ => rfl
  have k_sides_hold : Kw2 d_sides_hold "web" "thing" := kw2_mk g_sides_hold.2.2 fun _ _ _ _ _ _ _ _ => ⟨rfl, rfl⟩
  refine ⟨d_law, c_law, g_law.2.2, fun s u => ?_, fun base KB GB => ?_⟩
  · obtain ⟨oc, od, kV, doc, pm, an, ct, osl, rfl, _, _⟩ := g_law.2.2.ex
    exact .of_eq rfl
  have G_lot_of : Dn P w K mg base "lot_of" 1 ["mask"] spLotOf f_lot_of d_lot_of := ⟨g_lot_of.1, g_lot_of.2.1, b_lot_of, ok_lotOf g_lot_of.2.2 B.toBq.toBk.toBj⟩
  have G_full_mask : Dn P w K mg base "full_mask" 1 ["web"] spFull f_full_mask d_full_mask := ⟨g_full_mask.1, g_full_mask.2.1, b_full_mask, ok_full g_full_mask.2.2⟩
  have G_near_masks : Dn P w K mg base "near_masks" 1 ["web"] spNear f_near_masks d_near_masks := ⟨g_near_masks.1, g_near_masks.2.1, b_near_masks, ok_near g_near_masks.2.2⟩
  have G_part_from : Dn P w K mg base "part_from" 2 ["near", "mask", "start"] spPart f_part_from d_part_from := ⟨g_part_from.1, g_part_from.2.1, b_part_from, ok_part g_part_from.2.2 G_lot_of⟩
  have G_part_masks : Dn P w K mg base "part_masks" 3 ["near", "mask"] spParts f_part_masks d_part_masks := ⟨g_part_masks.1, g_part_masks.2.1, b_part_masks, ok_parts g_part_masks.2.2 G_part_from⟩
  have G_is_whole : Dn P w K mg base "is_whole" 1 ["thing"] spWhole f_is_whole d_is_whole := ⟨g_is_whole.1, g_is_whole.2.1, b_is_whole, ok_whole g_is_whole.2.2 B.toBq.toBk.toBj⟩
  have G_is_below : Dn P w K mg base "is_below" 2 ["thing", "bound"] spBelow f_is_below d_is_below := ⟨g_is_below.1, g_is_below.2.1, b_is_below, ok_below g_is_below.2.2 G_is_whole⟩
  have G_is_pair : Dn P w K mg base "is_pair" 1 ["thing"] spIsPair f_is_pair d_is_pair := ⟨g_is_pair.1, g_is_pair.2.1, b_is_pair, ok_isPair g_is_pair.2.2 B.toBq.toBk.toBj⟩
  have G_is_told : Dn P w K mg base "is_told" 1 ["thing", "word", "many"] spIsTold f_is_told d_is_told := ⟨g_is_told.1, g_is_told.2.1, b_is_told, ok_isTold g_is_told.2.2 B.toBq.toBk.toBj⟩
  have G_is_tie : Dn P w K mg base "is_tie" 3 ["thing", "places"] spIsTie f_is_tie d_is_tie := ⟨g_is_tie.1, g_is_tie.2.1, b_is_tie, ok_isTie g_is_tie.2.2 G_is_pair G_is_below⟩
  have G_is_web : Dn P w K mg base "is_web" 4 ["thing"] spIsWeb f_is_web d_is_web := ⟨g_is_web.1, g_is_web.2.1, b_is_web, ok_isWeb g_is_web.2.2 B.toBq.toBk G_is_pair G_is_whole G_is_tie⟩
  have G_check_web : Dn P w K mg base "check_web" 5 ["thing"] spCheckWeb f_check_web d_check_web := ⟨g_check_web.1, g_check_web.2.1, b_check_web, ok_checkWeb g_check_web.2.2 G_is_web⟩
  have G_is_lot_of : Dn P w K mg base "is_lot_of" 3 ["web", "thing"] spIsLotOf f_is_lot_of d_is_lot_of := ⟨g_is_lot_of.1, g_is_lot_of.2.1, b_is_lot_of, ok_isLotOf g_is_lot_of.2.2 B.toBq.toBk G_is_below⟩
  have G_is_tie_number : Dn P w K mg base "is_tie_number" 3 ["web", "thing"] spIsTieNo f_is_tie_number d_is_tie_number := ⟨g_is_tie_number.1, g_is_tie_number.2.1, b_is_tie_number, ok_isTieNo g_is_tie_number.2.2 B.toBq.toBk G_is_below⟩
  have G_part_lots : Dn P w K mg base "part_lots" 4 ["web"] spPartLots f_part_lots d_part_lots := ⟨g_part_lots.1, g_part_lots.2.1, b_part_lots, ok_partLots g_part_lots.2.2 B.toBq.toBk.toBj G_lot_of G_part_masks G_near_masks G_full_mask⟩
  have G_parts_of : Dn P w K mg base "parts_of" 6 ["web"] spPartsOf f_parts_of d_parts_of := ⟨g_parts_of.1, g_parts_of.2.1, b_parts_of, ok_partsOf g_parts_of.2.2 G_check_web G_part_lots⟩
  have G_ways_from : Dn P w K mg base "ways_from" 1 ["web", "root"] spWaysX f_ways_from d_ways_from := ⟨g_ways_from.1, g_ways_from.2.1, b_ways_from, ok_waysX g_ways_from.2.2 B.toBq.toBk.toBj⟩
  have G_closed_ring : Dn P w K mg base "closed_ring" 1 ["near", "number", "far"] spClosedX f_closed_ring d_closed_ring := ⟨g_closed_ring.1, g_closed_ring.2.1, b_closed_ring, ok_closedX g_closed_ring.2.2 B.toBq.toBk.toBj⟩
  have G_judge_sides : Dn P w K mg base "judge_sides" 6 ["web"] spPap f_judge_sides d_judge_sides := ⟨g_judge_sides.1, g_judge_sides.2.1, b_judge_sides, K0.FnOk.weak (ok_sidesX g_judge_sides.2.2 B.toBq.toBk.toBj G_check_web G_part_lots G_ways_from G_closed_ring) pap_sides⟩
  have G_are_sides : Dn P w K mg base "are_sides" 1 ["web", "lot"] spAreSides f_are_sides d_are_sides := ⟨g_are_sides.1, g_are_sides.2.1, b_are_sides, ok_areSides g_are_sides.2.2 B.toBq.toBk⟩
  have G_leads_round : Dn P w K mg base "leads_round" 1 ["web", "ring", "start"] spLeads f_leads_round d_leads_round := ⟨g_leads_round.1, g_leads_round.2.1, b_leads_round, ok_leads g_leads_round.2.2⟩
  have G_is_ring_of : Dn P w K mg base "is_ring_of" 4 ["web", "thing"] spIsRingOf f_is_ring_of d_is_ring_of := ⟨g_is_ring_of.1, g_is_ring_of.2.1, b_is_ring_of, ok_isRingOf g_is_ring_of.2.2 B.toBq G_is_tie_number G_leads_round⟩
  have G_sides_hold : Dn P w K mg base "sides_hold" 6 ["web", "thing"] spSidesHold f_sides_hold d_sides_hold := ⟨g_sides_hold.1, g_sides_hold.2.1, b_sides_hold, ok_sidesHold g_sides_hold.2.2 B.toBq.toBk.toBj G_check_web G_is_told G_is_lot_of G_are_sides G_is_ring_of⟩
  have G__law_deck : Dn P w K mg base "_law_deck" 1 ["_law_script"] (spDeck K) f__law_deck d__law_deck := ⟨g__law_deck.1, g__law_deck.2.1, b__law_deck, ok_deck g__law_deck.2.2 B.toBq.toBk.toBj.toBi⟩
  have G__law_draw : Dn P w K mg base "_law_draw" 1 ["_law_deck_here", "_law_many"] spDraw f__law_draw d__law_draw := ⟨g__law_draw.1, g__law_draw.2.1, b__law_draw, ok_draw g__law_draw.2.2 B.toBq.toBk.toBj.toBi⟩
  have G__law_pick : Dn P w K mg base "_law_pick" 2 ["_law_deck_here", "_law_some"] spPick f__law_pick d__law_pick := ⟨g__law_pick.1, g__law_pick.2.1, b__law_pick, ok_pick g__law_pick.2.2 B.toBq.toBk.toBj.toBi G__law_draw⟩
  have G__law_order : Dn P w K mg base "_law_order" 2 ["_law_deck_here", "_law_n"] spOrder f__law_order d__law_order := ⟨g__law_order.1, g__law_order.2.1, b__law_order, ok_order g__law_order.2.2 B.toBq.toBk.toBj G__law_draw⟩
  have G__law_pair : Dn P w K mg base "_law_pair" 1 ["_law_one", "_law_other"] spPair f__law_pair d__law_pair := ⟨g__law_pair.1, g__law_pair.2.1, b__law_pair, ok_pair g__law_pair.2.2 B.toBq.toBk.toBj⟩
  have G__law_pairs : Dn P w K mg base "_law_pairs" 1 ["_law_n"] spPairs f__law_pairs d__law_pairs := ⟨g__law_pairs.1, g__law_pairs.2.1, b__law_pairs, ok_pairs g__law_pairs.2.2 B.toBq.toBk.toBj⟩
  have G__law_drawn_ties : Dn P w K mg base "_law_drawn_ties" 3 ["_law_deck_here", "_law_n"] spTies f__law_drawn_ties d__law_drawn_ties := ⟨g__law_drawn_ties.1, g__law_drawn_ties.2.1, b__law_drawn_ties, ok_ties g__law_drawn_ties.2.2 B.toBq.toBk.toBj G__law_draw G__law_order G__law_pair G__law_pairs⟩
  have G__law_web : Dn P w K mg base "_law_web" 4 ["_law_deck_here", "_law_n", "_law_most"] spWeb f__law_web d__law_web := ⟨g__law_web.1, g__law_web.2.1, b__law_web, ok_web g__law_web.2.2 B.toBq.toBk.toBj G__law_draw G__law_order G__law_pair G__law_drawn_ties G__law_pick⟩
  have G__law_lot : Dn P w K mg base "_law_lot" 1 ["_law_number"] spLLotP f__law_lot d__law_lot := ⟨g__law_lot.1, g__law_lot.2.1, b__law_lot, ok_lLotP g__law_lot.2.2 B.toBq.toBk⟩
  have G__law_cut : Dn P w K mg base "_law_cut" 1 ["_law_web_here", "_law_lot_here"] spLCut f__law_cut d__law_cut := ⟨g__law_cut.1, g__law_cut.2.1, b__law_cut, ok_lCut g__law_cut.2.2 B.toBq.toBk⟩
  have G__law_is_whole : Dn P w K mg base "_law_is_whole" 1 ["_law_thing"] spWhole f__law_is_whole d__law_is_whole := ⟨g__law_is_whole.1, g__law_is_whole.2.1, b__law_is_whole, ok_lWhole g__law_is_whole.2.2 B.toBq.toBk.toBj⟩
  have G__law_is_lot : Dn P w K mg base "_law_is_lot" 2 ["_law_n", "_law_thing"] spLIsLot f__law_is_lot d__law_is_lot := ⟨g__law_is_lot.1, g__law_is_lot.2.1, b__law_is_lot, ok_lIsLot g__law_is_lot.2.2 B.toBq.toBk G__law_is_whole⟩
  have G__law_are_whole : Dn P w K mg base "_law_are_whole" 2 ["_law_thing"] spAreWhole f__law_are_whole d__law_are_whole := ⟨g__law_are_whole.1, g__law_are_whole.2.1, b__law_are_whole, ok_areWhole g__law_are_whole.2.2 B.toBq.toBk G__law_is_whole⟩
  have G__law_is_ring : Dn P w K mg base "_law_is_ring" 3 ["_law_web_here", "_law_thing"] spIsRingOf f__law_is_ring d__law_is_ring := ⟨g__law_is_ring.1, g__law_is_ring.2.1, b__law_is_ring, ok_lIsRing g__law_is_ring.2.2 B.toBq G__law_is_lot G__law_are_whole⟩
  have G__law_is_two_sided : Dn P w K mg base "_law_is_two_sided" 1 ["_law_web_here"] spTwoSided f__law_is_two_sided d__law_is_two_sided := ⟨g__law_is_two_sided.1, g__law_is_two_sided.2.1, b__law_is_two_sided, ok_twoSided g__law_is_two_sided.2.2 B.toBq⟩
  have G__law_walked : Dn P w K mg base "_law_walked" 3 ["_law_deck_here", "_law_web_here"] spWalked f__law_walked d__law_walked := ⟨g__law_walked.1, g__law_walked.2.1, b__law_walked, ok_walked g__law_walked.2.2 B.toBq G__law_draw G__law_pick⟩
  have G__law_trail : Dn P w K mg base "_law_trail" 3 ["_law_deck_here", "_law_web_here"] spTrail' f__law_trail d__law_trail := ⟨g__law_trail.1, g__law_trail.2.1, b__law_trail, ok_trail g__law_trail.2.2 B.toBq G__law_draw G__law_pick⟩
  have G__law_bent_numbers : Dn P w K mg base "_law_bent_numbers" 3 ["_law_deck_here", "_law_some", "_law_most"] spBentN f__law_bent_numbers d__law_bent_numbers := ⟨g__law_bent_numbers.1, g__law_bent_numbers.2.1, b__law_bent_numbers, ok_bentN g__law_bent_numbers.2.2 B.toBq G__law_draw G__law_pick⟩
  have G__law_any : Dn P w K mg base "_law_any" 6 ["_law_deck_here", "_law_deep"] (spAny 4) f__law_any d__law_any := ⟨g__law_any.1, g__law_any.2.1, b__law_any, (ok_any (P := P) (w := w) (base := base) g__law_any.2.2 g__law_any.1 b__law_any B.toBq.toBk.toBj.toBi G__law_draw G__law_pick 4)⟩
  have G__law_holds : Dn P w K mg base "_law_holds" 4 ["_law_web_here", "_law_thing"] spSidesHold f__law_holds d__law_holds := ⟨g__law_holds.1, g__law_holds.2.1, b__law_holds, ok_lHolds g__law_holds.2.2 B G__law_is_lot G__law_cut G__law_is_ring⟩
  have G__law_strange : Dn P w K mg base "_law_strange" 7 ["_law_deck_here", "_law_web_here", "_law_thing"] spStrangeP f__law_strange d__law_strange := ⟨g__law_strange.1, g__law_strange.2.1, b__law_strange, ok_strangeP g__law_strange.2.2 B.toBq G__law_draw G__law_pick G__law_bent_numbers G__law_any⟩
  exact { bk := B, deck := ⟨_, _, G__law_deck⟩, draw := ⟨_, _, G__law_draw⟩, pick := ⟨_, _, G__law_pick⟩, web := ⟨_, _, G__law_web⟩, sides := ⟨_, _, G_judge_sides, k_judge_sides⟩, two := ⟨_, _, G__law_is_two_sided⟩, holds := ⟨_, _, G__law_holds⟩, lot := ⟨_, _, G__law_lot⟩, walked := ⟨_, _, G__law_walked⟩, trail := ⟨_, _, G__law_trail⟩, strange := ⟨_, _, G__law_strange⟩, hold := ⟨_, _, G_sides_hold, k_sides_hold⟩, parts := ⟨_, _, G_parts_of⟩ }
end K0

set_option Elab.async false
set_option maxRecDepth 100000
open PySem PySem.W PyProof.Rows
set_option maxRecDepth 100000 in
set_option maxHeartbeats 0 in
theorem PySem.Challenge.cw_oncecrossed_k06_sides_or_a_ring_of_odd_l_holds : PySem.Challenge.rw_oncecrossed_k06_sides_or_a_ring_of_odd_l.Holds := by
  w_on; o_law; k_head; (case hw => w_witness2)
  k_fill
  refine K0.walk_out (l := PySem.Challenge.rw_oncecrossed_k06_sides_or_a_ring_of_odd_l) rfl rfl (fun w h Y => PySem.W.kIn_of Y) ?F
  case F =>
    intro w mg fa h KX G hmg
    refine' K0.all_mk KX G hmg ?yaM ?yfr ?yg0 ?yg1 ?yg2 ?yg3 ?yg4 ?yg5 ?yg6 ?yg7 ?yg8 ?yg9 ?yg10 ?yg11 ?yg12 ?yg13 ?yg14 ?yg15 ?yg16 ?yg17 ?yg18 ?yg19 ?yg20 ?yg21 ?yg22 ?yg23 ?yg24 ?yg25 ?yg26 ?yg27 ?yg28 ?yg29 ?yg30 ?yg31 ?yg32 ?yg33 ?yg34 ?yg35 ?yg36 ?yg37 ?yg38 ?yg39 ?yg40 ?yg41 ?yg42 ?yg43 ?yh0
    (case yaM => k_is); (case yfr => kernel_rfl)
    (case yg0 => (refine' K0.df_mk KX G ?yga0 ?ygl0 ?ygc0 ?ygk0; (case yga0 => k_is); (case ygl0 => k_is); (case ygc0 => k_is); (case ygk0 => k_is)))
    (case yg1 => (refine' K0.df_mk KX G ?yga1 ?ygl1 ?ygc1 ?ygk1; (case yga1 => k_is); (case ygl1 => k_is); (case ygc1 => k_is); (case ygk1 => k_is)))
    (case yg2 => (refine' K0.df_mk KX G ?yga2 ?ygl2 ?ygc2 ?ygk2; (case yga2 => k_is); (case ygl2 => k_is); (case ygc2 => k_is); (case ygk2 => k_is)))
    (case yg3 => (refine' K0.df_mk KX G ?yga3 ?ygl3 ?ygc3 ?ygk3; (case yga3 => k_is); (case ygl3 => k_is); (case ygc3 => k_is); (case ygk3 => k_is)))
    (case yg4 => (refine' K0.df_mk KX G ?yga4 ?ygl4 ?ygc4 ?ygk4; (case yga4 => k_is); (case ygl4 => k_is); (case ygc4 => k_is); (case ygk4 => k_is)))
    (case yg5 => (refine' K0.df_mk KX G ?yga5 ?ygl5 ?ygc5 ?ygk5; (case yga5 => k_is); (case ygl5 => k_is); (case ygc5 => k_is); (case ygk5 => k_is)))
    (case yg6 => (refine' K0.df_mk KX G ?yga6 ?ygl6 ?ygc6 ?ygk6; (case yga6 => k_is); (case ygl6 => k_is); (case ygc6 => k_is); (case ygk6 => k_is)))
    (case yg7 => (refine' K0.df_mk KX G ?yga7 ?ygl7 ?ygc7 ?ygk7; (case yga7 => k_is); (case ygl7 => k_is); (case ygc7 => k_is); (case ygk7 => k_is)))
    (case yg8 => (refine' K0.df_mk KX G ?yga8 ?ygl8 ?ygc8 ?ygk8; (case yga8 => k_is); (case ygl8 => k_is); (case ygc8 => k_is); (case ygk8 => k_is)))
    (case yg9 => (refine' K0.df_mk KX G ?yga9 ?ygl9 ?ygc9 ?ygk9; (case yga9 => k_is); (case ygl9 => k_is); (case ygc9 => k_is); (case ygk9 => k_is)))
    (case yg10 => (refine' K0.df_mk KX G ?yga10 ?ygl10 ?ygc10 ?ygk10; (case yga10 => k_is); (case ygl10 => k_is); (case ygc10 => k_is); (case ygk10 => k_is)))
    (case yg11 => (refine' K0.df_mk KX G ?yga11 ?ygl11 ?ygc11 ?ygk11; (case yga11 => k_is); (case ygl11 => k_is); (case ygc11 => k_is); (case ygk11 => k_is)))
    (case yg12 => (refine' K0.df_mk KX G ?yga12 ?ygl12 ?ygc12 ?ygk12; (case yga12 => k_is); (case ygl12 => k_is); (case ygc12 => k_is); (case ygk12 => k_is)))
    (case yg13 => (refine' K0.df_mk KX G ?yga13 ?ygl13 ?ygc13 ?ygk13; (case yga13 => k_is); (case ygl13 => k_is); (case ygc13 => k_is); (case ygk13 => k_is)))
    (case yg14 => (refine' K0.df_mk KX G ?yga14 ?ygl14 ?ygc14 ?ygk14; (case yga14 => k_is); (case ygl14 => k_is); (case ygc14 => k_is); (case ygk14 => k_is)))
    (case yg15 => (refine' K0.df_mk KX G ?yga15 ?ygl15 ?ygc15 ?ygk15; (case yga15 => k_is); (case ygl15 => k_is); (case ygc15 => k_is); (case ygk15 => k_is)))
    (case yg16 => (refine' K0.df_mk KX G ?yga16 ?ygl16 ?ygc16 ?ygk16; (case yga16 => k_is); (case ygl16 => k_is); (case ygc16 => k_is); (case ygk16 => k_is)))
    (case yg17 => (refine' K0.df_mk KX G ?yga17 ?ygl17 ?ygc17 ?ygk17; (case yga17 => k_is); (case ygl17 => k_is); (case ygc17 => k_is); (case ygk17 => k_is)))
    (case yg18 => (refine' K0.df_mk KX G ?yga18 ?ygl18 ?ygc18 ?ygk18; (case yga18 => k_is); (case ygl18 => k_is); (case ygc18 => k_is); (case ygk18 => k_is)))
    (case yg19 => (refine' K0.df_mk KX G ?yga19 ?ygl19 ?ygc19 ?ygk19; (case yga19 => k_is); (case ygl19 => k_is); (case ygc19 => k_is); (case ygk19 => k_is)))
    (case yg20 => (refine' K0.df_mk KX G ?yga20 ?ygl20 ?ygc20 ?ygk20; (case yga20 => k_is); (case ygl20 => k_is); (case ygc20 => k_is); (case ygk20 => k_is)))
    (case yg21 => (refine' K0.df_mk KX G ?yga21 ?ygl21 ?ygc21 ?ygk21; (case yga21 => k_is); (case ygl21 => k_is); (case ygc21 => k_is); (case ygk21 => k_is)))
    (case yg22 => (refine' K0.df_mk KX G ?yga22 ?ygl22 ?ygc22 ?ygk22; (case yga22 => k_is); (case ygl22 => k_is); (case ygc22 => k_is); (case ygk22 => k_is)))
    (case yg23 => (refine' K0.df_mk KX G ?yga23 ?ygl23 ?ygc23 ?ygk23; (case yga23 => k_is); (case ygl23 => k_is); (case ygc23 => k_is); (case ygk23 => k_is)))
    (case yg24 => (refine' K0.df_mk KX G ?yga24 ?ygl24 ?ygc24 ?ygk24; (case yga24 => k_is); (case ygl24 => k_is); (case ygc24 => k_is); (case ygk24 => k_is)))
    (case yg25 => (refine' K0.df_mk KX G ?yga25 ?ygl25 ?ygc25 ?ygk25; (case yga25 => k_is); (case ygl25 => k_is); (case ygc25 => k_is); (case ygk25 => k_is)))
    (case yg26 => (refine' K0.df_mk KX G ?yga26 ?ygl26 ?ygc26 ?ygk26; (case yga26 => k_is); (case ygl26 => k_is); (case ygc26 => k_is); (case ygk26 => k_is)))
    (case yg27 => (refine' K0.df_mk KX G ?yga27 ?ygl27 ?ygc27 ?ygk27; (case yga27 => k_is); (case ygl27 => k_is); (case ygc27 => k_is); (case ygk27 => k_is)))
    (case yg28 => (refine' K0.df_mk KX G ?yga28 ?ygl28 ?ygc28 ?ygk28; (case yga28 => k_is); (case ygl28 => k_is); (case ygc28 => k_is); (case ygk28 => k_is)))
    (case yg29 => (refine' K0.df_mk KX G ?yga29 ?ygl29 ?ygc29 ?ygk29; (case yga29 => k_is); (case ygl29 => k_is); (case ygc29 => k_is); (case ygk29 => k_is)))
    (case yg30 => (refine' K0.df_mk KX G ?yga30 ?ygl30 ?ygc30 ?ygk30; (case yga30 => k_is); (case ygl30 => k_is); (case ygc30 => k_is); (case ygk30 => k_is)))
    (case yg31 => (refine' K0.df_mk KX G ?yga31 ?ygl31 ?ygc31 ?ygk31; (case yga31 => k_is); (case ygl31 => k_is); (case ygc31 => k_is); (case ygk31 => k_is)))
    (case yg32 => (refine' K0.df_mk KX G ?yga32 ?ygl32 ?ygc32 ?ygk32; (case yga32 => k_is); (case ygl32 => k_is); (case ygc32 => k_is); (case ygk32 => k_is)))
    (case yg33 => (refine' K0.df_mk KX G ?yga33 ?ygl33 ?ygc33 ?ygk33; (case yga33 => k_is); (case ygl33 => k_is); (case ygc33 => k_is); (case ygk33 => k_is)))
    (case yg34 => (refine' K0.df_mk KX G ?yga34 ?ygl34 ?ygc34 ?ygk34; (case yga34 => k_is); (case ygl34 => k_is); (case ygc34 => k_is); (case ygk34 => k_is)))
    (case yg35 => (refine' K0.df_mk KX G ?yga35 ?ygl35 ?ygc35 ?ygk35; (case yga35 => k_is); (case ygl35 => k_is); (case ygc35 => k_is); (case ygk35 => k_is)))
    (case yg36 => (refine' K0.df_mk KX G ?yga36 ?ygl36 ?ygc36 ?ygk36; (case yga36 => k_is); (case ygl36 => k_is); (case ygc36 => k_is); (case ygk36 => k_is)))
    (case yg37 => (refine' K0.df_mk KX G ?yga37 ?ygl37 ?ygc37 ?ygk37; (case yga37 => k_is); (case ygl37 => k_is); (case ygc37 => k_is); (case ygk37 => k_is)))
    (case yg38 => (refine' K0.df_mk KX G ?yga38 ?ygl38 ?ygc38 ?ygk38; (case yga38 => k_is); (case ygl38 => k_is); (case ygc38 => k_is); (case ygk38 => k_is)))
    (case yg39 => (refine' K0.df_mk KX G ?yga39 ?ygl39 ?ygc39 ?ygk39; (case yga39 => k_is); (case ygl39 => k_is); (case ygc39 => k_is); (case ygk39 => k_is)))
    (case yg40 => (refine' K0.df_mk KX G ?yga40 ?ygl40 ?ygc40 ?ygk40; (case yga40 => k_is); (case ygl40 => k_is); (case ygc40 => k_is); (case ygk40 => k_is)))
    (case yg41 => (refine' K0.df_mk KX G ?yga41 ?ygl41 ?ygc41 ?ygk41; (case yga41 => k_is); (case ygl41 => k_is); (case ygc41 => k_is); (case ygk41 => k_is)))
    (case yg42 => (refine' K0.df_mk KX G ?yga42 ?ygl42 ?ygc42 ?ygk42; (case yga42 => k_is); (case ygl42 => k_is); (case ygc42 => k_is); (case ygk42 => k_is)))
    (case yg43 => (refine' K0.df_mk KX G ?yga43 ?ygl43 ?ygc43 ?ygk43; (case yga43 => k_is); (case ygl43 => k_is); (case ygc43 => k_is); (case ygk43 => k_is)))
    (case yh0 => (refine' K0.dfc_mk KX G ?yha0 ?yhl0 ?yhc0 ?yhk0; (case yha0 => k_is); (case yhl0 => k_is); (case yhc0 => k_is); (case yhk0 => k_is)))
