import PyProof.Rows.All
import Wide.All
import OpenK.AllK
import Wide.FinOn
import HandS.ForMost
import HandS.SetFor
import HandS.Strs
import HandS.TupSets
import HandS.IsInst
import HandS.Small
import PyProof.TupleOfSeq
import HandS.Walk
import HandS.TupAny
import KE.KIndexOf
import KE.KRevSl
import KE.GoesEnum
import KE.GoesMore
import HandS.WideBits
import HandS.Dict
import PyProof.DictUpdate
import HandS.Conv
import PyProof.ReprRoads
import PyProof.ReprBulk
import HandS.Wide
import HandS.Flow
import PySem.Challenge.RW_oncecrossed_k33_threefold_webs_of_any_ki
import HandS.Style
import HandS.Iter
import PyProof.EqAt
import PyProof.EqKinds
import PyProof.TupleCall
import KE.KExcSuper
import HandS.ForExc
import HandS.ExcSuper
import KE.KExcIs
import HandS.TryMany
import HandS.ExcField
import HandS.ExcValue
import HandS.Defaults
import HandS.DictComp
import HandS.Text
import HandS.Evl
import HandS.SortOrd
import HandS.SortRule
import HandS.NamedTupSort
import KE.KSortTupAny
import HandS.SortInts
import HandS.Zip
import HandS.Deep
import HandS.Lambda
import HandS.ExcIs
import HandS.EndTab
import KE.KNest
set_option Elab.async false
set_option linter.all false
set_option maxRecDepth 100000
set_option maxHeartbeats 4000000
/-! Rules for what stands in a tuple: set(t) of ints, set(t) and sorted(t) of pairs. -/
namespace KR
open PySem PySem.Spec L2
open PyProof.Rows hiding St
section
variable {prog : Program} {w : World} {A : Around} {E : Value → Shared → Prop} {s : Shared}
/-- the items of a tuple, gathered: the heap only grows -/
theorem gather_tup {G : List Value → Shared → Prop} {t : Addr} {ob : Obj} {us : Array Value} {ep : Nat} (at_ : s.heap.get? t = some ob) (cl : ob.cls = .type "tuple") (da : ob.data = .seq us ep) (fits : us.size ≤ sizeLine)
    (g : ∀ hN, (∀ b u, s.heap.get? b = some u → hN.get? b = some u) → s.heap.objs.size ≤ hN.objs.size → G us.toList { s with heap := hN }) : wpAny (model prog w) A (collect (.ref t)) G E s := by
  have new0 : (s.heap.push { cls := .type "list", data := .seq ([] : List Value).toArray }).get? s.heap.objs.size = some { cls := .type "list", data := .seq #[] 0 } := Heap.get?_push_size _ rfl
  have new1 := Heap.get?_update_self (Obj.mapSeq (· ++ us)) new0 rfl
  have done_ : wpAny (model prog w) A ((load s.heap.objs.size) >>= fun oL => (match oL.data with
      | Data.seq xs _ => pure xs.toList
      | _ => unsupported "internal:collect" : Sem (List Value))) G E { s with heap := (s.heap.push { cls := .type "list", data := .seq ([] : List Value).toArray }).update s.heap.objs.size (Obj.mapSeq (· ++ us)) } := by
    refine wpAny_bind (wpAny_load new1 (wpAny_pure ?_))
    show G ((#[] : Array Value) ++ us).toList _
    rw [show ((#[] : Array Value) ++ us).toList = us.toList by simp]
    refine g _ (fun b u e => (Heap.get?_update_other _ _ (Nat.ne_of_gt (Heap.lt_size e))).trans (Heap.get?_push_of_some _ e)) ?_
    rw [Heap.size_update, Heap.size_push]
    exact Nat.le_succ _
  unfold collect
  refine wpAny_bind (wpAny_runValue (codeAny_builtin F.entry_proto_collect ?_))
  rw [Around.under_plainId F.plain_proto_collect _]
  show wpAny _ A.in1 (newList [] >>= fun l => again (.builtin "list.__iadd__" ⟨[l, .ref t], []⟩)) _ _ s
  refine wpAny_bind (wpAny_newObj_type (wpAny_pure ⟨plainId_quiet F.plain_list_iadd _, codeAny_builtin F.entry_list_iadd ?_⟩))
  rw [Around.under_plainId F.plain_list_iadd _]
  refine wpAny_mono (wpAny_extend_seq (hsz := fits) (A := A) (R := fun r z => r = .ok (.ret (.ref s.heap.objs.size)) ∧ z = { s with heap := (s.heap.push { cls := .type "list", data := .seq ([] : List Value).toArray }).update s.heap.objs.size (Obj.mapSeq (· ++ us)) })
    (s := { s with heap := s.heap.push { cls := .type "list", data := .seq ([] : List Value).toArray } }) _ t _ 0 (.inr rfl) new0 (Heap.get?_push_of_some _ at_) cl da ⟨rfl, rfl⟩) (fun fin z hz => ?_) (fun e z hz => absurd hz.1 (by simp))
  cases fin with
  | done f =>
    obtain ⟨e, rfl⟩ := hz
    cases e
    exact done_
  | again c' => exact ⟨hz.1, codeAny_mono hz.2 fun r z hr => by obtain ⟨rfl, rfl⟩ := hr; exact done_⟩
end
section
variable {X : Cx}
/-- set(t), t a tuple of ints -/
def rSetTI (K : PySem.W.Frag) (w : World) : List V → Hp → VK → Prop := fun xs H Q => ∃ (t : Addr) (ns : List Int), xs = [V.ref t] ∧ SqT K H t (ns.map V.int) ∧ ns.length ≤ 1000 ∧
  ∀ (a : Addr) (c : Nat), H a = none → c ≤ ns.length → Q (.ref a) (upd H a (SetO w a (fun j => decide (j ∈ ns)) c))
theorem cr_setTI (hc : X.calm = true) : CallR X (.type "set") (rSetTI X.K X.w) := by
  intro pins s σ H xs us Q I r h
  obtain ⟨t, ns, rfl, ht, hn, q⟩ := h
  rw [Vals.ref1 r]
  obtain ⟨its, rv, tp, hz⟩ := I.tuple ht
  have hf : H s.heap.objs.size = none := I.hok.fresh (Nat.le_refl _)
  refine call_set_tupI (P := X.prog) (w := X.w) ns (I.ok.hd hc) tp ?_ (Nat.lt_of_le_of_lt (Nat.succ_le_succ hn) (by decide)) fun h' tk c R hcn k => ?_
  · simpa using Vals.ints rv
  · exact ⟨.ref s.heap.objs.size, upd H s.heap.objs.size (SetO X.w s.heap.objs.size (fun j => decide (j ∈ ns)) c), I.laid (t' := tk) k (Nat.le_refl _) (setO_new R), rfl, q _ c hf hcn⟩
/-- sorted(t), t a tuple of tuples of d ints in [0, B) -/
def rSortTT (K : PySem.W.Frag) (d : Nat) (B : Int) : List V → Hp → VK → Prop := fun vs H Q => ∃ (a : Addr) (xs : List V), vs = [V.ref a] ∧ SqT K H a xs ∧ xs.length < 64 ∧ (∀ x ∈ xs, ∃ ns, TupI K H x ns ∧ ns.length = d ∧ TS.Bd B ns) ∧
  ∀ (ys : List V) (p : Addr), ys.Perm xs → ys.Pairwise (fun x y => ∀ n m, TupI K H x n → TupI K H y m → TS.code B n ≤ TS.code B m) → H p = none → Q (.ref p) (upd H p (.lst ys))
theorem cr_sortTT {d : Nat} {B : Int} (hd : 1 ≤ d) : CallR X (.builtin "sorted") (rSortTT X.K d B) := by
  intro pins s σ H vs us Q I r h
  obtain ⟨a, xs, rfl, hs, few, hx, q⟩ := h
  obtain ⟨its, rv, tp, hz⟩ := I.tuple hs
  rw [Vals.ref1 r]
  have bk := bkV_refs rv fun x m => by
    obtain ⟨_, ⟨t, e, _⟩, _⟩ := hx x m
    exact ⟨t, e⟩
  have len : its.length < 64 := by rw [← rv.length]; exact few
  obtain ⟨o, ho, hcl, n, hda⟩ := id tp
  refine Calls.call_function_entry kind_sorted plain_sorted entry_sorted (args_sorted1 _) ?_
  unfold Builtin.«sorted»
  refine wpAny_bind (m := checkCount "sorted" 1 1 _) (wpAny_pure ?_)
  refine wpAny_bind (gather_tup ho hcl hda (by show its.toArray.size ≤ sizeLine; rw [List.size_toArray, sizeLine_eq]; omega) fun h1 k1 ge => ?_)
  refine wpAny_bind (wpAny_newList ?_ (by rw [sizeLine_eq]; show its.length ≤ _; omega))
  have atL : (h1.push (seqObj "list" its.toArray 0)).get? h1.objs.size = some (seqObj "list" its.toArray 0) := Heap.get?_push_size _ rfl
  have keep : ∀ b u, s.heap.get? b = some u → (h1.push (seqObj "list" its.toArray 0)).get? b = some u := fun b u e => Heap.get?_push_of_some _ (k1 b u e)
  have raw : ∀ {u : Value}, u ∈ its → ∃ t ns, u = .ref t ∧ TupI X.K H (V.ref t) ns ∧ TS.TupInts (h1.push (seqObj "list" its.toArray 0)) u ns ∧ ns.length = d ∧ TS.Bd B ns := fun {u} hu => by
    obtain ⟨t, rfl⟩ := bk.2 u hu
    have hm : V.ref t ∈ xs := by
      rw [bk.1]
      exact List.mem_map.mpr ⟨_, hu, rfl⟩
    obtain ⟨ns, ⟨t', e, ht⟩, hn, hb⟩ := hx _ hm
    cases e
    exact ⟨t, ns, rfl, ⟨t, rfl, ht⟩, (tupI_raw I ht).keeps fun b o e _ => keep b o e, hn, hb⟩
  have ok : TS.TupsOk (h1.push (seqObj "list" its.toArray 0)) d B its := fun v hv => by
    obtain ⟨t, ns, _, _, h2, h3, h4⟩ := raw hv
    exact ⟨ns, h2, h3, h4⟩
  have atL' : (h1.push (seqObj "list" (its.toArray.toList.toArray) 0)).get? h1.objs.size = some (seqObj "list" its.toArray 0) := by simpa using atL
  have red : its.toArray.toList = its := by simp
  rw [red]
  refine wpAny_bind (wpAny_holding (TS.call_sort_tups (s := { s with heap := h1.push (seqObj "list" its.toArray 0) }) atL len hd ok fun out p1 p2 => ?_))
  obtain ⟨c, hc⟩ := sortedHeap_at (vs := its) (out := out) atL
  have refs : ∀ u ∈ out.toList, ∃ t, u = Value.ref t := fun u hu => bk.2 u (p1.mem_iff.mp hu)
  have pm : (out.toList.map bkV).Perm xs := by rw [bk.1]; exact p1.map bkV
  have szs : (out.toList.map bkV).length ≤ sizeLine := by rw [pm.length_eq]; exact hz
  have old : ∀ b u, s.heap.get? b = some u → (sortedHeap (h1.push (seqObj "list" its.toArray 0)) h1.objs.size its out).get? b = some u := fun b u e => by
    have lt := Heap.lt_size (k1 b u e)
    rw [sortedHeap_old (Nat.ne_of_lt lt) (by rw [size_push']; exact Nat.lt_succ_of_lt lt)]
    exact keep b u e
  refine wpAny_pure ⟨_, rfl, .ref h1.objs.size, upd H h1.objs.size (.lst (out.toList.map bkV)), I.laid (t' := s.toks) old ge ⟨szs, out.toList, c, bkV_vals refs, hc⟩, rfl, q _ _ pm ?_ (I.hok.fresh ge)⟩
  rw [List.pairwise_map]
  refine List.Pairwise.imp_of_mem (fun {u v} hu hv huv n m hn hm => ?_) p2
  obtain ⟨t, ns, e1, t1, r1, _⟩ := raw (p1.mem_iff.mp hu)
  obtain ⟨t', ns', e2, t2, r2, _⟩ := raw (p1.mem_iff.mp hv)
  obtain ⟨a1, z1, y1⟩ := hn
  obtain ⟨a2, z2, y2⟩ := hm
  have i1 := ((tupI_raw I y1).keeps fun b o e _ => keep b o e).ints
  have i2 := ((tupI_raw I y2).keeps fun b o e _ => keep b o e).ints
  rw [← bkV_ref z1] at i1
  rw [← bkV_ref z2] at i2
  rw [← i1, ← i2]
  exact huv
end
/-! ### set(t) of a tuple of tuples of ints -/
abbrev set0 (w : World) : Obj := { cls := .type "set", dict := none, data := .set #[] 0 (.fresh 0 0 (!w.params.followText "set-order")) }
section
variable {P : Program} {w : World} {A : Around} {E : Value → Shared → Prop} {s : Shared}
set_option maxRecDepth 100000 in
set_option maxHeartbeats 3200000 in
theorem make_setTT {t : Addr} {us : Array Value} (ks : List (Addr × List Int)) {G : Value → Shared → Prop} (calm : A.handled = none) (tp : s.heap.IsTuple t us) (are : us.toList = ks.map fun p => Value.ref p.1)
    (ok : ∀ p ∈ ks, IsT P w s.heap p.2 p.1) (few : ks.length < 64) (room : A.units + 3 < cLine)
    (g : ∀ (hN : Heap) (tk : Nat) L es ep tb, SetTR P w hN s.heap.objs.size L es ep tb → Got ks ks.length L → (∀ b o, s.heap.get? b = some o → hN.get? b = some o) → G (.ref s.heap.objs.size) { s with heap := hN, toks := tk }) :
    wpAny (model P w) A (call (.type "set") [.ref t]) G E s := by
  have size : us.size = ks.length := by have q := congrArg List.length are; rwa [Array.length_toList, List.length_map] at q
  obtain ⟨c, tl, h0⟩ := F.called_set.mro
  have h1 := F.called_set.made
  have h2 := F.called_set.sub
  refine wpAny_call (codeAny_of_tree ?_)
  show wpAny _ _ (callAny (.type "set") ⟨[.ref t], []⟩) _ _ s
  refine wpAny_pure ⟨Code.quiet_builtin _ (by decide +kernel), codeAny_builtin F.entry_type_call ?_⟩
  rw [Around.under_plain (weight_type_call_type "set" [.ref t] []) rfl]
  have h3 := F.called_set.notType
  have h4 := F.called_set.canCreate
  have h5 := F.typeCall_set_1 (.ref t)
  repeat (any_goals (first | assumption | wp_step))
  generalize hn : s.heap.objs.size = N at *
  refine codeAny_mono (code_set_led1 (.ref t) (E := E) (Q₁ := fun u z => u = .ref N ∧ z = { s with heap := s.heap.push (set0 w) }) ⟨by rw [hn], rfl⟩) fun r z hz => ?_
  cases r with
  | error e => exact hz
  | ok fl =>
    cases fl with
    | next => exact hz.elim
    | brk => exact hz.elim
    | cont => exact hz.elim
    | ret u =>
      obtain ⟨rfl, rfl⟩ := hz
      have new : (s.heap.push (set0 w)).get? N = some (set0 w) := by rw [← hn]; exact Heap.get?_push_size _ rfl
      have ty : Shared.TypeIs { s with heap := s.heap.push (set0 w) } (.ref N) "set" := ⟨_, new, rfl⟩
      have h6 := F.called_set.init.lookup
      have h7 := F.called_set.init.bind (.ref N)
      repeat (any_goals (first | assumption | wp_step))
      refine codeAny_mono (codeAny_call_builtin (R := wants (fun r z => r = .none ∧ ∃ hN tk L es ep tb, z = { s with heap := hN, toks := tk } ∧ SetTR P w hN N L es ep tb ∧ Got ks ks.length L ∧ ∀ b o, s.heap.get? b = some o → hN.get? b = some o) E)
        F.called_set.init.plain F.entry_set_init (check_set_init_1 ty ?_)) fun r z hz => ?_
      · obtain ⟨ob, at_, cl, ep, da⟩ := id tp
        obtain ⟨ocl, odi, oda, osl⟩ := ob
        simp only at cl da
        subst cl; subst da
        have at1 : (s.heap.push (set0 w)).get? t = some { cls := .type "tuple", dict := odi, data := .seq us ep, slots := osl } := Heap.get?_push_of_some _ at_
        have n1 := F.sub_tuple_set
        have n2 := F.sub_tuple_frozenset
        have n3 : (Value.type "tuple" == Value.type "dict") = false := by decide
        have tp1 : (s.heap.push (set0 w)).IsTuple t us := ⟨_, at1, rfl, ep, rfl⟩
        unfold Builtin.«set.__init__» noKeywords Builtin.Frozenset.updateFrom
        generalize hPI : pyIter = PI
        wp_walk
        subst hPI
        refine wpAny_pyIter_tuple tp1 (wpAny_bind (wpAny_runValue ?_))
        have lt : t < N := by rw [← hn]; exact Heap.lt_size at_
        have sz : (s.heap.push (set0 w)).objs.size = N + 1 := by rw [Heap.size_push, hn]
        have ne : t ≠ (s.heap.push (set0 w)).objs.size := by rw [sz]; exact Nat.ne_of_lt (Nat.lt_succ_of_lt lt)
        have fresh : ∀ b, N ≤ b → s.heap.get? b = none := fun b hb => by
          cases q : s.heap.get? b with
          | none => rfl
          | some o => exact absurd (Nat.lt_of_lt_of_le (Heap.lt_size q) (by rw [hn]; exact hb)) (Nat.lt_irrefl _)
        have items : ∀ (i : Nat) (v : Value), us[i]? = some v → ∃ p, ks[i]? = some p ∧ v = .ref p.1 := fun i v hv => by
          rw [← Array.getElem?_toList, are, List.getElem?_map] at hv
          cases q : ks[i]? with
          | none => rw [q] at hv; cases hv
          | some p => rw [q] at hv; exact ⟨p, rfl, (Option.some.inj hv).symm⟩
        refine set_update_tups ((Walks.tuple (by simp [calm]) _ t ne us).toS) N (by rw [sz]; simp only [List.mem_cons, List.not_mem_nil, or_false, not_or]; exact ⟨Nat.ne_of_lt (Nat.lt_succ_self _), Nat.ne_of_gt lt⟩) ks size few items s.heap ok (fresh _ (Nat.le_refl _))
          (fun b hb => fresh b (by rw [List.mem_singleton.mp hb, sz]; exact Nat.le_succ _)) room (us.size - 0) 0 _ (by omega) (Nat.zero_le _) ⟨⟨_, Heap.get?_push_size _ rfl, rfl, rfl⟩, tp1.push _⟩ (fun b o e => Heap.get?_push_of_some _ (Heap.get?_push_of_some _ e))
          ⟨[], #[], 0, _, setTR_fresh (Heap.get?_push_of_some _ new), Got.zero ks⟩ fun z L es ep tb mv R got kp => ?_
        obtain ⟨hN, gN, dN, tN, oN⟩ := z
        obtain rfl : gN = s.gens := mv.gens
        obtain rfl : dN = s.drawn := mv.drawn
        obtain rfl : oN = s.os := mv.os
        show wpAny _ _ _ _ _ _
        refine wpAny_pure ?_
        show wpAny _ _ (ret Value.none) _ _ _
        rw [size] at got
        exact wpAny_pure ⟨rfl, hN, tN, L, es, ep, tb, rfl, R, got, kp⟩
      · cases r with
        | error e => exact hz
        | ok fl =>
          cases fl with
          | next => exact hz.elim
          | brk => exact hz.elim
          | cont => exact hz.elim
          | ret r =>
            obtain ⟨rfl, hN, tk, L, es, ep, tb, rfl, R, got, kp⟩ := hz
            repeat (any_goals (first | assumption | wp_step))
            exact g _ _ _ _ _ _ R got kp
end
section
variable {X : Cx}
/-- set(t), t a tuple of tuples of ints -/
def rSetTT (K : PySem.W.Frag) (P : Program) (w : World) : List V → Hp → VK → Prop := fun xs H Q => ∃ (t : Addr) (ks : List (Addr × List Int)), xs = [V.ref t] ∧ SqT K H t (ks.map fun p => V.ref p.1) ∧ (∀ p ∈ ks, SqT K H p.1 (p.2.map V.int)) ∧ ks.length < 64 ∧
  ∀ a L, H a = none → (∀ p ∈ L, p ∈ ks) → (∀ p ∈ ks, p.2 ∈ L.map (·.2)) → Q (.ref a) (upd H a (SetTO P w a L))
theorem cr_setTT (hc : X.calm = true) (hu : X.A.units + 64 < cLine) : CallR X (.type "set") (rSetTT X.K X.prog X.w) := by
  intro pins s σ H xs us Q I r h
  obtain ⟨t, ks, rfl, ht, hk, few, q⟩ := h
  rw [Vals.ref1 r]
  obtain ⟨its, rv, tp, hz⟩ := I.tuple ht
  refine make_setTT (P := X.prog) (w := X.w) ks (I.ok.hd hc) tp (by simpa using refs_of_vals rv) (fun p hp => I.isT (hk p hp)) few (by omega) fun hN tk L es ep tb R got kp => ?_
  exact ⟨.ref s.heap.objs.size, upd H s.heap.objs.size (SetTO X.prog X.w s.heap.objs.size L), I.laid (t' := tk) kp (Nat.le_refl _) (setTO_new R.t0), rfl,
    q _ L (I.hok.fresh (Nat.le_refl _)) (fun p hp => List.mem_of_mem_take (got.sub p hp)) fun p hp => got.all p (by rw [List.take_length]; exact hp)⟩
end
end KR

set_option Elab.async false
set_option linter.all false
set_option maxRecDepth 100000
set_option maxHeartbeats 4000000
/-! Rules for tuples: index, a reversed copy, enumerate. -/
namespace KR
open PySem PySem.Spec L2
open PyProof.Rows hiding St
section
variable {X : Cx}
/-- t.index(k), k in the tuple of ints -/
def rTIx (K : PySem.W.Frag) : V → List V → Hp → VK → Prop := fun x xs H Q => ∃ (t : Addr) (ns : List Int) (k : Int), x = .ref t ∧ xs = [.int k] ∧ SqT K H t (ns.map V.int) ∧ k ∈ ns ∧ Q (.int (ns.idxOf k : Nat)) H
theorem mt_tindex : MtR X "tuple.index" (rTIx X.K) := by
  intro pins s σ H x xs v us Q I rx rxs h
  obtain ⟨t, ns, k, rfl, rfl, ht, hk, q⟩ := h
  cases rx
  obtain ⟨u, rfl, tk, rfl⟩ := rxs.one
  obtain ⟨its, rv, tp, _⟩ := I.tuple ht
  exact PySem.SeqAt.tuple_index_ints tp (Vals.ints rv) hk ⟨.int (ns.idxOf k : Nat), H, I.tok _, ⟨_, rfl⟩, q⟩

/-- t[::-1] -/
def tRevT (K : PySem.W.Frag) (te : TE) : TE := fun σ H Q => te σ H fun x H1 => ∃ a xs, x = .ref a ∧ SqT K H1 a xs ∧ ∀ p, H1 p = none → Q (.ref p) (upd H1 p (.tup xs.reverse))
end
section
variable {prog : Program} {w : World} {A : Around} {E : Value → Shared → Prop} {s : Shared}
theorem fm_congr {α β : Type} {f g : α → Option β} : ∀ l : List α, (∀ x ∈ l, f x = g x) → l.filterMap f = l.filterMap g
  | [], _ => rfl
  | a :: l, h => by
    rw [List.filterMap_cons, List.filterMap_cons, h a (List.mem_cons_self ..), fm_congr l fun x z => h x (List.mem_cons_of_mem _ z)]
theorem back_places (n : Nat) : Builtin.Slice.sliceAdjust none none (-1) (n : Int) = ((n : Int) - 1, -1) ∧ Builtin.Slice.slicePlaces ((n : Int) - 1) (-1) (-1) = n := by
  refine ⟨by unfold Builtin.Slice.sliceAdjust; rfl, ?_⟩
  unfold Builtin.Slice.slicePlaces
  rw [if_neg (by decide)]
  by_cases h : (n : Int) - 1 > -1
  · rw [if_pos h, show (-(-1 : Int)) = 1 by decide, Int.ediv_one]
    omega
  · rw [if_neg h]
    omega
theorem back_pick (xs : Array Value) : ((List.range xs.size).filterMap fun (k : Nat) => xs[(((xs.size : Int) - 1) + (k : Int) * (-1)).toNat]?).toArray = xs.toList.reverse.toArray := by
  have h := PySem.W.krv_pick xs
  unfold slicePick at h
  rw [PySem.W.krv_bounds] at h
  have h' : ((sliceRange ((xs.size : Int) - 1) (-1) (-1)).filterMap (xs[·]?)).toArray = xs.toList.reverse.toArray := h
  rw [PySem.W.krv_sliceRange, List.filterMap_map] at h'
  rw [← h']
  congr 1
  refine fm_congr _ fun k hk => ?_
  have := List.mem_range.mp hk
  show xs[_]? = xs[xs.size - 1 - k]?
  congr 1
  omega
theorem back_tup {t sl : Addr} {us : Array Value} {vs : Value} {G : Value → Shared → Prop} (tp : IsTup s.heap t us) (hs : s.heap.IsSliceOf sl .none .none vs) (ps : IsPart vs (some (-1))) (fits : us.size ≤ sizeLine)
    (g : G (.ref s.heap.objs.size) { s with heap := s.heap.push { cls := .type "tuple", data := .seq us.toList.reverse.toArray } }) : wpAny (model prog w) A (getItem (.ref t) (.ref sl)) G E s := by
  have ok : sizeOk (.seq us.toList.reverse.toArray) := by
    show us.toList.reverse.toArray.size ≤ sizeLine
    rw [List.size_toArray, List.length_reverse, Array.length_toList]
    exact fits
  obtain ⟨os, e1, e2, e3⟩ := id hs
  have ty : s.TypeIs (.ref sl) "slice" := ⟨os, e1, e2⟩
  unfold getItem
  try with_reducible refine wpAny_holding ?_
  first | refine wpAny_bind (wpAny_pure ?_) | skip
  refine wpAny_bind (wpAny_sequenceKey tp.typeIs (by decide) (wpAny_bind (wpAny_callSpecial?_slot (name := Str.ofString "__getitem__") tp.typeIs PyProof.Rows.slot_tuple_getitem
    (wpAny_call_entry PyProof.Rows.slot_tuple_getitem tp.typeIs entry_tuple_getitem ?_ (args_tuple_getitem _ _)))))
  show wpAny _ _ (Builtin.Tuple.tupleItemsOf (.ref t) >>= _) _ _ s
  refine wpAny_bind (tupleItemsOf_ tp (wpAny_bind (wpAny_typeOf ty ?_)))
  rw [if_pos (by decide)]
  have app : ∀ {R : Int × Int × Nat → Shared → Prop} {B : Around} {F : Value → Shared → Prop}, R ((us.size : Int) - 1, -1, us.size) s → wpAny (model prog w) B (Builtin.Slice.sliceApplied (.ref sl) (pure (us.size : Int))) R F s := fun r => by
    unfold Builtin.Slice.sliceApplied Builtin.Slice.sliceFields
    refine wpAny_bind (wpAny_bind (wpAny_field e1 e3 (x := .none) rfl (wpAny_bind (wpAny_field e1 e3 (x := .none) rfl (wpAny_bind (wpAny_field e1 e3 (x := vs) rfl (wpAny_pure ?_)))))))
    refine wpAny_bind (HT.slicePart_ ps ?_)
    show wpAny _ _ (if ((-1 : Int) == 0) = true then _ else _) _ _ s
    rw [if_neg (by decide)]
    refine wpAny_bind (HT.slicePart_ .none (wpAny_bind (HT.slicePart_ .none (wpAny_bind (wpAny_pure ?_)))))
    show wpAny _ _ (match Builtin.Slice.sliceAdjust none none (-1) (us.size : Int) with | (lo, hi) => pure (lo, (-1 : Int), Builtin.Slice.slicePlaces lo hi (-1))) _ _ s
    rw [(back_places us.size).1]
    show wpAny _ _ (pure ((us.size : Int) - 1, (-1 : Int), Builtin.Slice.slicePlaces ((us.size : Int) - 1) (-1) (-1))) _ _ s
    rw [(back_places us.size).2]
    exact wpAny_pure r
  refine wpAny_bind (app ?_)
  have no : ¬ ((((us.size : Int) - 1) == 0 && (-1 : Int) == 1 && us.size == us.size) = true) := by
    rw [show ((-1 : Int) == 1) = false by decide, Bool.and_false, Bool.false_and]
    exact Bool.false_ne_true
  show wpAny _ _ (if (((us.size : Int) - 1) == 0 && (-1 : Int) == 1 && us.size == us.size) = true then _ else _) _ _ s
  rw [if_neg no, back_pick]
  first
    | exact wpAny_bind (m := Builtin.Tuple.tupleExact _) (wpAny_newObj_type (wpAny_pure ⟨_, rfl, wpAny_pure g⟩) ok)
    | exact wpAny_bind (m := Builtin.Tuple.tupleExact _) (wpAny_newObj_type (wpAny_bind (wpAny_pure (wpAny_pure ⟨_, rfl, wpAny_pure g⟩))) ok)
    | exact wpAny_bind (wpAny_bind (m := Builtin.Tuple.tupleExact _) (wpAny_newObj_type (wpAny_pure (wpAny_pure ⟨_, rfl, wpAny_pure g⟩)) ok))
    | exact wpAny_bind (wpAny_bind (m := Builtin.Tuple.tupleExact _) (wpAny_newObj_type (wpAny_pure ⟨_, rfl, wpAny_pure g⟩) ok))
end
section
variable {X : Cx}
theorem pe_revT {e : Expr} {te : TE} {k : Nat} {p1 p2 p3 pos : Pos} (he : PE X e te) : PE X (.Subscript e (.Slice none none (some (.UnaryOp .USub (.Constant (.int 1) k p1) p2)) p3) pos) (tRevT X.K te) := by
  refine ⟨fun pins s σ H Q I h => Subscript_ (thn (he.run pins s σ H _ I h) fun v s1 ⟨x, H1, I1, r1, a, xs, ex, hx, q⟩ => ?_)⟩
  subst ex
  cases r1
  have step : PO X (some (.UnaryOp .USub (.Constant (.int 1) k p1) p2)) (tPart (tUn (rU fun i => .int (-i)) (tC (.int 1)))) := po_some (pe_un un_neg pe_int)
  refine wpAny_Slice (thn (po_none.run pins s1 σ H1 (fun o J => o = none ∧ J = H1) I1 ⟨rfl, rfl⟩) fun vl s2 ⟨l, H2, I2, pl, el, e2⟩ => ?_)
  subst el e2
  refine thn (po_none.run pins s2 σ H2 (fun o J => o = none ∧ J = H2) I2 ⟨rfl, rfl⟩) fun vu s3 ⟨u, H3, I3, pu, eu, e3⟩ => ?_
  subst eu e3
  refine thn (step.run pins s3 σ H3 (fun o J => o = some (-1) ∧ J = H3) I3 ⟨1, rfl, -1, rfl, rfl, rfl⟩) fun vs s4 ⟨o, H4, I4, ps, eo, e4⟩ => ?_
  subst eo e4
  have I5 : Inv X pins σ H4 { s4 with heap := s4.heap.push { cls := .type "slice", data := .fields #[vl, vu, vs] } } := I4.kept (t' := s4.toks) fun b ob z => Heap.get?_push_of_some _ z
  obtain ⟨its, r, tp, hz⟩ := I5.tuple hx
  cases pl
  cases pu
  show wpAny (model X.prog X.w) X.A (subscriptTail e (.Slice none none (some (.UnaryOp .USub (.Constant (.int 1) k p1) p2)) p3) (.ref a) (.ref s4.heap.objs.size)) (EP X pins σ Q) X.xe { s4 with heap := s4.heap.push { cls := .type "slice", data := .fields #[.none, .none, vs] } }
  refine tail_any (ops := [.ref a, .ref s4.heap.objs.size]) tp.typeIs (PyProof.Rows.slot_tuple_getitem.lookup) ?_ (by with_unfolding_all rfl)
  refine back_tup tp (Heap.IsSliceOf.new _ .none .none vs) ps (by rw [List.size_toArray, ← r.length]; exact hz) ?_
  refine ⟨.ref _, _, I5.laid (t' := s4.toks) (o := .tup xs.reverse) (fun b ob z => Heap.get?_push_of_some _ z) (Nat.le_refl _) ?_, rfl, q _ (I5.hok.fresh (Nat.le_refl _))⟩
  exact ⟨by rw [List.length_reverse]; exact hz, _, r.reverse, ⟨_, Heap.get?_push_size _ rfl, rfl, 0, by simp⟩⟩
end
/-! ### enumerate(t), t a tuple -/
abbrev tIter (t : Addr) : Obj := { cls := .type "tuple_iterator", data := .fields #[.ref t, .int 0 0] }
abbrev tEnum (it : Addr) : Obj := { cls := .type "enumerate", data := .fields #[.none, .bool false, .ref it, rawInt 0, .none, .none] }
theorem meets_enumT (t : Addr) (us : Array Value) (n : Nat) (dd : Option Addr) (sl : Array (Option Value)) :
    Meets (Builtin.«enumerate.__new__» ⟨[.type "enumerate", .ref t], []⟩) (fun _ R s => s.heap.get? t = some { cls := .type "tuple", dict := dd, data := .seq us n, slots := sl } ∧
      R (.ok (.ret (.ref (s.heap.push (tIter t)).objs.size))) { s with heap := (s.heap.push (tIter t)).push (tEnum s.heap.objs.size) }) :=
  .of_wp fun prog w A R z hz => by
    obtain ⟨h0, g0, d0, k0, o0⟩ := z
    obtain ⟨at_, fin⟩ := hz
    have sub_ := sub_enumerate
    have tp : Heap.IsTuple (Shared.heap ⟨h0, g0, d0, k0, o0⟩) t us := ⟨_, at_, rfl, n, rfl⟩
    wp_walk using AutoSeq1.wpAny_loadPart' at_
    refine wpAny_stack_any fun stk => wpAny_pure ?_
    split
    · rename_i c _ _ _ _ _
      cases (c == Value.type "enumerate") <;>
      · wp_walk using AutoSeq1.wpAny_loadPart' at_, wpAny_pyIter_tuple tp
        exact ⟨_, rfl, fin⟩
    · wp_walk using AutoSeq1.wpAny_loadPart' at_, wpAny_pyIter_tuple tp
      exact ⟨_, rfl, fin⟩
section
variable {prog : Program} {w : World} {A : Around} {E : Value → Shared → Prop} {s : Shared}
theorem make_enumT {t : Addr} {us : Array Value} {G : Value → Shared → Prop} (tp : s.heap.IsTuple t us)
    (g : ∀ hN, IsEnum hN (s.heap.objs.size + 1) s.heap.objs.size 0 .none → hN.IsTupleIter s.heap.objs.size t 0 → (∀ b o, s.heap.get? b = some o → hN.get? b = some o) → G (.ref (s.heap.objs.size + 1)) { s with heap := hN }) :
    wpAny (model prog w) A (call (.type "enumerate") [.ref t]) G E s := by
  obtain ⟨⟨c, dd, dt, sl⟩, at_, cl, n, da⟩ := tp
  obtain rfl : c = .type "tuple" := cl
  obtain rfl : dt = .seq us n := da
  refine callType_new F.called_enumerate (by decide) (F.typeCall_enumerate_1 _) (F.newCall_enumerate_1 _) (fun obj => F.args_object_init_2 obj _) F.entry_enumerate_new (meets_enumT t us n dd sl) ⟨at_, ?_⟩
  have sz : (s.heap.push (tIter t)).objs.size = s.heap.objs.size + 1 := Heap.size_push ..
  show _ ∧ _
  rw [sz]
  have en : IsEnum ((s.heap.push (tIter t)).push (tEnum s.heap.objs.size)) (s.heap.objs.size + 1) s.heap.objs.size 0 .none := by
    have q := Heap.get?_push_size (s.heap.push (tIter t)) (o := tEnum s.heap.objs.size) rfl
    rw [sz] at q
    exact q
  exact ⟨⟨_, en, rfl⟩, g _ en ⟨_, Heap.get?_push_of_some _ (Heap.get?_push_size _ rfl), rfl, rfl⟩ fun b o x => Heap.get?_push_of_some _ (Heap.get?_push_of_some _ x)⟩
end
/-- the tuple at a, each item in a new pair -/
def Itet (K : PySem.W.Frag) (a : Addr) : It :=
  ⟨fun i H => ∃ (xs : List V) (x : V), SqT K H a xs ∧ xs[i]? = some x, fun i H v H' => ∃ T x, v = .ref T ∧ H T = none ∧ H' = upd H T (.tup [.int (i : Nat), x]) ∧ ∀ xs, SqT K H a xs → xs[i]? = some x, fun i H => ∃ xs : List V, SqT K H a xs ∧ xs.length = i⟩
theorem turn_enumT {P : Program} {w : World} {K : PySem.W.Frag} {elts : List Expr} {kk : Nat} {tpos : Pos} (a e it : Addr) :
    Turn P w K (.Tuple elts kk tpos) (Itet K a) [e, it] e (fun i h => (∃ old, IsEnum h e it ((i : Nat) : Int) old) ∧ h.IsTupleIter it a i ∧ e ≠ it ∧ e ≠ a ∧ a ≠ it) where
  mem := by simp
  obj := fun i h st b hb => by
    obtain ⟨⟨old, he⟩, ⟨o, ho, _, hd⟩, _⟩ := st
    rcases (by simpa using hb : b = e ∨ b = it) with z | z
    · rw [z]; exact ⟨_, he, fun v q => nomatch q⟩
    · rw [z]; exact ⟨o, ho, fun v q => by rw [hd] at q; cases q⟩
  keep := fun i h h' st k => let ⟨⟨old, he⟩, hi, r⟩ := st; ⟨⟨old, k e (by simp) _ he⟩, hi.at fun o q => k it (by simp) o q, r⟩
  item := by
    intro X hP hw hK hc i pins s σ H E I hf st hg
    subst hP hw hK
    obtain ⟨⟨old, he⟩, hit, ne1, ne2, ne3⟩ := st
    obtain ⟨xs, x, hq, hx⟩ := hg
    obtain ⟨its, rv, tp, _⟩ := I.tuple hq
    obtain ⟨u, hu, ru⟩ := rv.get hx
    have le : e < s.heap.objs.size := Heap.lt_size he
    have li : it < s.heap.objs.size := by obtain ⟨_, q, _⟩ := hit; exact Heap.lt_size q
    have hi : i < its.toArray.size := by rw [List.size_toArray]; exact (List.getElem?_eq_some_iff.mp hu).1
    have calm : X.A.in1.handled = none := by have := I.ok.hd hc; simpa using this
    refine wpAny_pyNext_enum_itemD (Draws.tuple calm it a ne3 its.toArray) he ⟨hit, tp⟩ hi ne1 (by simp only [List.mem_cons, List.not_mem_nil, or_false, not_or]; exact ⟨ne1, ne2⟩) fun y h' tk hy ho st' hT _ hk => ?_
    obtain rfl : y = u := by
      have q : its[i]? = some y := by rw [← List.getElem?_toArray]; exact hy
      exact Option.some.inj (q.symm.trans hu)
    refine ⟨_, rfl, wpAny_letOwnedTupleGo_enum (s := { s with heap := h', toks := tk + 1 }) ho fun h'' he' sb => ?_⟩
    have hT2 : h''.get? s.heap.objs.size = some { cls := .type "tuple", data := .seq #[.int i tk, y] } := (sb.2 _ (Nat.ne_of_gt le)).trans hT
    have I1 : Inv X pins σ (upd H s.heap.objs.size (.tup [.int (i : Nat), x])) { s with heap := h'', toks := tk + 1 } :=
      I.turnedNew (ch := [e, it]) (fun b ob hb q => (sb.2 b (fun z => hb (by simp [z]))).trans (hk b ob (fun z => hb (by simp [z])) (fun z => hb (by simp [z])) q)) hf (Nat.le_refl _)
        ⟨by show 2 ≤ sizeLine; decide, [.int i tk, y], .cons ⟨_, rfl⟩ (.cons ru .nil), ⟨_, hT2, rfl, _, rfl⟩⟩
    refine ⟨.ref s.heap.objs.size, _, I1, rfl, ⟨_, x, rfl, I.hok.fresh (Nat.le_refl _), rfl, fun ys hy => by rw [I.tuple_inj hy hq]; exact hx⟩, ⟨⟨y, ?_⟩, st'.1.at fun o q => (sb.2 it (Ne.symm ne1)).trans q, ne1, ne2, ne3⟩, fun b hb => ?_⟩
    · rw [show ((i + 1 : Nat) : Int) = (i : Int) + 1 by omega]
      exact he'
    · have lb : b < s.heap.objs.size := by
        rcases (by simpa using hb : b = e ∨ b = it) with z | z
        · rw [z]; exact le
        · rw [z]; exact li
      rw [upd_ne (Nat.ne_of_lt lb)]
      exact (hf b hb).1
  done := by
    intro X hP hw hK hc i pins s σ H E I hf st hg
    subst hP hw hK
    obtain ⟨⟨old, he⟩, hit, ne1, ne2, ne3⟩ := st
    obtain ⟨xs, hq, hx⟩ := hg
    obtain ⟨its, rv, tp, _⟩ := I.tuple hq
    obtain ⟨f0, f1, f2, f3, f4, f5⟩ := hf it (by simp)
    have calm : X.A.in1.handled = none := by have := I.ok.hd hc; simpa using this
    have hn : its.toArray.size = i := by rw [List.size_toArray, ← rv.length, hx]
    exact wpAny_pyNext_enum_endD (Draws.tuple calm it a ne3 its.toArray) he ⟨by rw [hn]; exact hit, tp⟩ fun h' eb => ⟨rfl, I.turned (t' := s.toks) (fun b o hb q => eb b o hb q) f0 f1 f3 f4 f5⟩
  self := fun A i s Q E st h => let ⟨⟨_, he⟩, _⟩ := st; wpAny_pyIter_enum he h
def iEnumT (K : PySem.W.Frag) (ta : TA) : TI := fun σ H R => ta σ H fun vs H1 => ∃ a xs, vs = [.ref a] ∧ SqT K H1 a xs ∧ R (Itet K a) H1
theorem pi_enumT {X : Cx} {e : Expr} {ta : TA} {p pos tpos : Pos} {elts : List Expr} {kk : Nat} (hg : Gl X "enumerate") (hm : X.mg "enumerate" = none) (ha : PA X [e] ta) (hs : starEach [e] X.env = [(false, eval e X.env)] := by rfl) :
    PI X (.Tuple elts kk tpos) (.Call (.Name "enumerate" p) [e] [] pos) (iEnumT X.K ta) := by
  refine ⟨fun pins s σ H R I h => Call_ (ld_blt I hg hm boot_enumerate (PyProof.Rows.callWith_type1 (thn (ha.run pos pins s σ H _ I h) fun us s1 ⟨vs, H1, I1, r1, a, xs, ex, hq, q⟩ => ?_) hs rfl))⟩
  subst ex
  obtain ⟨its, rv, tp, _⟩ := I1.tuple hq
  have la : a < s1.heap.objs.size := by obtain ⟨_, z, _⟩ := tp; exact Heap.lt_size z
  rw [Vals.ref1 r1]
  refine make_enumT tp fun hN he hit kp => wpAny_pyIter_enum he ?_
  refine ⟨s1.heap.objs.size + 1, [s1.heap.objs.size + 1, s1.heap.objs.size], _, _, H1, rfl, I1.kept (t' := s1.toks) kp, turn_enumT a (s1.heap.objs.size + 1) s1.heap.objs.size, ⟨⟨.none, he⟩, hit, Nat.succ_ne_self _, Nat.ne_of_gt (Nat.lt_succ_of_lt la), Nat.ne_of_lt la⟩, fun b hb => ?_, q⟩
  have le : s1.heap.objs.size ≤ b := by
    rcases (by simpa using hb : b = s1.heap.objs.size + 1 ∨ b = s1.heap.objs.size) with z | z
    · rw [z]; exact Nat.le_succ _
    · rw [z]; exact Nat.le_refl _
  exact I1.fpOk le (I1.hok.fresh le)
theorem walk_enumT {K : PySem.W.Frag} {a : Addr} {xs : List V} : Walk (Itet K a) xs.length (fun H => SqT K H a xs) (YPair (fun i => some (.int (i : Nat))) (fun i => xs[i]?)) := by
  refine ⟨fun i _ hi q => ⟨xs, xs[i], q, by simp [hi]⟩, fun _ q => ⟨xs, q, rfl⟩, fun i H v H' _ q y => ?_⟩
  obtain ⟨T, x, h1, h2, h3, h4⟩ := y
  exact ⟨T, .int (i : Nat), x, h1, h2, h3, rfl, h4 xs q⟩
end KR

set_option Elab.async false
set_option linter.all false
set_option maxRecDepth 100000
set_option maxHeartbeats 4000000
/-! Rules: the item of a list under an augmented store; a dict brought up to date from another one. -/
namespace KR
open PySem PySem.Spec L2
open PyProof.Rows hiding St
section
variable {X : Cx}
def rGetL : V → V → Hp → VK → Prop := fun o i H Q => ∃ p xs k z, o = .ref p ∧ i = .int k ∧ H p = some (.lst xs) ∧ 0 ≤ k ∧ xs[k.toNat]? = some z ∧ Q z H
theorem get_list : PGet X rGetL := by
  intro pins s σ H o i ov iv Q I ro ri h
  obtain ⟨p, xs, k, z, rfl, rfl, hp, h0, hx, q⟩ := h
  cases ro
  obtain ⟨t, rfl⟩ := ri
  obtain ⟨its, r, pl, hz⟩ := I.list (SqL.of hp)
  obtain ⟨w, ew, rw'⟩ := r.get hx
  have hl := r.length
  have hn := line63
  have lt := (List.getElem?_eq_some_iff.mp hx).1
  refine wpAny_getItem_list pl.isList h0 ?_ (by simpa using ew) ⟨z, H, I, rw', q⟩
  omega
/-- d.update(e), two dicts -/
def tDUpd (td ty : TE) : TE := fun σ H Q => td σ H fun x H1 => ∃ a, x = .ref a ∧ IsD H1 a ∧ ty σ H1 fun y H2 => ∃ b kvs more, y = .ref b ∧ H2 a = some (.dK kvs) ∧ H2 b = some (.dK more) ∧ a ≠ b ∧ kvs.length + more.length ≤ sizeLine ∧ Q .non (upd H2 a (.dK (mergeK kvs more)))
variable {o e : Expr} {td ty : TE} {apos cpos : Pos}
theorem pe_dupd (ho : PE X o td) (he : PE X e ty) (m : M1 X o "update" apos e cpos) : PE X (.Call (.Attribute o "update" apos) [e] [] cpos) (tDUpd td ty) := by
  refine ⟨fun pins s σ H Q I h => ?_⟩
  refine wpAny_Call_method m.base m.few m.line PySem.F.plainAttrs_dict PySem.F.slot_dict_update PySem.F.type_dict_update (thn (ho.run pins s σ H _ I h) fun u s1 ⟨x, H1, I1, rx, a, ex, d, q1⟩ => ?_)
  subst ex
  obtain rfl : u = Value.ref a := rx
  obtain ⟨t1, t2, _⟩ := isD_at I1 d
  refine ⟨t1, t2, ?_⟩
  rw [m.trees]
  refine Calls.callWith_builtin rfl (Calls.evalArgs_plain (Calls.spliced_cons (thn (he.run pins s1 σ H1 _ I1 q1) fun iv s2 ⟨y, H2, I2, ry, b, kvs, more, ey, ea, eb, ne, sz, q2⟩ => Calls.spliced_nil ?_)))
  subst ey
  obtain rfl : iv = Value.ref b := ry
  obtain ⟨za, hda, vs, rel, dd⟩ := dk_of I2.hok ea
  obtain ⟨zb, hdb, ws, rel2, dd2⟩ := dk_of I2.hok eb
  refine call_meetsIn PySem.F.slot_dict_update dd.typeIs PySem.F.entry_dict_update (PySem.F.args_dict_update_2 _ _) (meets_dict_update (mixKind X.prog X.w) a b ne hdb)
    ⟨vs, ws, dd, dd2, by rw [← rel.length, ← rel2.length]; exact sz, fun h' dd' _ hs => ⟨.non, _, ?_, rfl, q2⟩⟩
  have he : ∃ q, h'.get? a = some q := let ⟨q, _, _, hq, _⟩ := dd'; ⟨q, hq⟩
  exact d_write I2 (by rw [ea]; exact True.intro) hs he (dk_new (Nat.le_trans (length_mergeK more kvs) sz) hda (KV.merge rel2 rel) dd')
end
end KR

set_option Elab.async false
set_option linter.all false
set_option maxRecDepth 100000
set_option maxHeartbeats 4000000
/-! Tuples that are known to the last field: locked as they were made. -/
namespace KR
open PySem PySem.Spec L2
open PyProof.Rows hiding St
abbrev tobj (us : List Value) : Obj := { cls := .type "tuple", data := .seq us.toArray }
/-- at a stands a tuple of xs, made by a display's rule or another one of this file -/
def TupX (H : Hp) (a : Addr) (xs : List V) : Prop := ∃ us, H a = some (.frz (tobj us) (.tup xs))
theorem TupX.rd {H : Hp} {a : Addr} {xs : List V} (t : TupX H a xs) : Rd H a (.tup xs) := let ⟨us, e⟩ := t; .inr ⟨_, e⟩
theorem TupX.sq {K : PySem.W.Frag} {H : Hp} {a : Addr} {xs : List V} (t : TupX H a xs) : SqT K H a xs := .inl t.rd
theorem TupX.inj {H : Hp} {a : Addr} {xs ys : List V} (t : TupX H a xs) (u : TupX H a ys) : xs = ys := by
  obtain ⟨us, e⟩ := t
  obtain ⟨vs, e'⟩ := u
  rw [e] at e'
  cases e'
  rfl
theorem TupX.of {H : Hp} {a : Addr} {us : List Value} {xs : List V} : TupX (upd H a (.frz (tobj us) (.tup xs))) a xs := ⟨us, upd_same⟩
theorem TupX.same {H H' : Hp} {a : Addr} {xs : List V} (t : TupX H a xs) (s : Same H H') : TupX H' a xs := let ⟨us, e⟩ := t; ⟨us, s _ _ e⟩
section
variable {X : Cx} {pins : List (Addr × Obj)} {σ : L2.St} {H : Hp} {s : Shared}
theorem frz_ok {P : Program} {w : World} {H : Hp} {h : Heap} {a : Addr} {us : List Value} {xs : List V} (e : h.get? a = some (tobj us)) (r : Vals xs us) (z : xs.length ≤ sizeLine) : ObjOk P w H h a (.frz (tobj us) (.tup xs)) :=
  ⟨e, z, us, r, ⟨_, e, rfl, _, rfl⟩⟩
/-- tuple(l) -/
def rTupF (K : PySem.W.Frag) : List V → Hp → VK → Prop := fun xs H Q => ∃ p ys, xs = [.ref p] ∧ SqL K H p ys ∧ ∀ l us, H l = none → Q (.ref l) (upd H l (.frz (tobj us) (.tup ys)))
theorem call_tupF : CallR X (.type "tuple") (rTupF X.K) := by
  intro pins s σ H xs us Q I r h
  obtain ⟨p, ys, rfl, hq, q⟩ := h
  rw [Vals.ref1 r]
  obtain ⟨its, rv, pl, hz⟩ := I.list hq
  have len := rv.length
  refine call_tuple_list pl.isList (fun h' kp => ?_) (by simp only [List.size_toArray] <;> omega)
  have I1 : Inv X pins σ H { s with heap := h' } := I.kept (t' := s.toks) kp
  exact ⟨.ref h'.objs.size, _, I1.laid (t' := s.toks) (fun b o e => Heap.get?_push_of_some _ e) (Nat.le_refl _) (frz_ok (us := its) (Heap.get?_push_size _ rfl) rv hz), rfl, q _ its (I1.hok.fresh (Nat.le_refl _))⟩
/-- t[i:j] -/
def rSlF (K : PySem.W.Frag) : V → Option Int → Option Int → Hp → VK → Prop := fun x lo hi H Q => ∃ a xs, x = .ref a ∧ SqT K H a xs ∧
  (HT.sIx xs.length 0 lo = 0 ∧ HT.sIx xs.length xs.length hi = xs.length → Q (.ref a) H) ∧
  (¬ (HT.sIx xs.length 0 lo = 0 ∧ HT.sIx xs.length xs.length hi = xs.length) → ∀ p us, H p = none → Q (.ref p) (upd H p (.frz (tobj us) (.tup (cutV xs lo hi)))))
theorem sl_tupF : SlR X (rSlF X.K) := by
  intro pins s σ H x v vl vu lo hi sl Q I rx hs pl pu h
  obtain ⟨a, xs, rfl, hx, q1, q2⟩ := h
  cases rx
  obtain ⟨its, r, ht, hz⟩ := I.tuple hx
  have len : its.toArray.size = xs.length := by rw [List.size_toArray]; exact r.length.symm
  refine ⟨"tuple", _, PyProof.Rows.slot_tuple_getitem.lookup, ht.typeIs, ?_⟩
  by_cases hw : HT.sIx xs.length 0 lo = 0 ∧ HT.sIx xs.length xs.length hi = xs.length
  · exact getItem_tuple_whole ht hs pl pu (by rw [len]; exact hw) ⟨.ref a, H, I, rfl, q1 hw⟩
  · refine HT.getItem_tuple_cut ht hs pl pu (by rw [len]; exact hw) ?_ (by rw [len]; exact hz)
    rw [len]
    refine ⟨.ref s.heap.objs.size, _, I.laid (t' := s.toks) (fun b ob e => Heap.get?_push_of_some _ e) (Nat.le_refl _) (frz_ok (us := (its.drop (HT.sIx xs.length 0 lo)).take (HT.sIx xs.length xs.length hi - HT.sIx xs.length 0 lo)) (Heap.get?_push_size _ rfl) ?_ (Nat.le_trans (cutV_length xs lo hi) hz)), rfl,
      q2 hw _ _ (I.hok.fresh (Nat.le_refl _))⟩
    exact (r.drop (HT.sIx xs.length 0 lo)).take (HT.sIx xs.length xs.length hi - HT.sIx xs.length 0 lo)
/-- t + u -/
def rCatF (K : PySem.W.Frag) : R2 := fun x y H Q => ∃ a b xs ys, x = .ref a ∧ y = .ref b ∧ SqT K H a xs ∧ SqT K H b ys ∧ xs.length + ys.length ≤ sizeLine ∧
  (xs = [] → Q (.ref b) H) ∧ (xs ≠ [] → ys = [] → Q (.ref a) H) ∧ (xs ≠ [] → ys ≠ [] → ∀ p us, H p = none → Q (.ref p) (upd H p (.frz (tobj us) (.tup (xs ++ ys)))))
theorem op_catF : OpR X (binaryOp .Add) (rCatF X.K) := by
  intro pins s σ H x y v u Q I rx ry h
  obtain ⟨a, b, xs, ys, rfl, rfl, ha, hb, hz, q0, q1, q2⟩ := h
  cases rx
  cases ry
  obtain ⟨its, r1, p1, _⟩ := I.tuple ha
  obtain ⟨its2, r2, p2, _⟩ := I.tuple hb
  by_cases hx : xs = []
  · subst hx
    cases r1
    exact cat_tup0 p1 p2 ⟨.ref b, H, I, rfl, q0 rfl⟩
  · refine HT.cat_tup p1 p2 (fun z => hx (r1.nil_iff.mp z)) (fun z => ⟨.ref a, H, I, rfl, q1 hx (r2.nil_iff.mp z)⟩) (fun z => ?_) (by rw [← r1.length, ← r2.length]; exact hz)
    exact ⟨.ref s.heap.objs.size, _, I.laid (t' := s.toks) (fun b ob e => Heap.get?_push_of_some _ e) (Nat.le_refl _) (frz_ok (us := its ++ its2) (Heap.get?_push_size _ rfl) (r1.append r2) (by rw [List.length_append]; exact hz)), rfl,
      q2 hx (fun w => z (r2.nil_iff.mpr w)) _ _ (I.hok.fresh (Nat.le_refl _))⟩
/-- t[::-1] -/
def tRevF (K : PySem.W.Frag) (te : TE) : TE := fun σ H Q => te σ H fun x H1 => ∃ a xs, x = .ref a ∧ SqT K H1 a xs ∧ ∀ p us, H1 p = none → Q (.ref p) (upd H1 p (.frz (tobj us) (.tup xs.reverse)))
theorem pe_revF {e : Expr} {te : TE} {k : Nat} {p1 p2 p3 pos : Pos} (he : PE X e te) : PE X (.Subscript e (.Slice none none (some (.UnaryOp .USub (.Constant (.int 1) k p1) p2)) p3) pos) (tRevF X.K te) := by
  refine ⟨fun pins s σ H Q I h => Subscript_ (thn (he.run pins s σ H _ I h) fun v s1 ⟨x, H1, I1, r1, a, xs, ex, hx, q⟩ => ?_)⟩
  subst ex
  cases r1
  have step : PO X (some (.UnaryOp .USub (.Constant (.int 1) k p1) p2)) (tPart (tUn (rU fun i => .int (-i)) (tC (.int 1)))) := po_some (pe_un un_neg pe_int)
  refine wpAny_Slice (thn (po_none.run pins s1 σ H1 (fun o J => o = none ∧ J = H1) I1 ⟨rfl, rfl⟩) fun vl s2 ⟨l, H2, I2, pl, el, e2⟩ => ?_)
  subst el e2
  refine thn (po_none.run pins s2 σ H2 (fun o J => o = none ∧ J = H2) I2 ⟨rfl, rfl⟩) fun vu s3 ⟨u, H3, I3, pu, eu, e3⟩ => ?_
  subst eu e3
  refine thn (step.run pins s3 σ H3 (fun o J => o = some (-1) ∧ J = H3) I3 ⟨1, rfl, -1, rfl, rfl, rfl⟩) fun vs s4 ⟨o, H4, I4, ps, eo, e4⟩ => ?_
  subst eo e4
  have I5 : Inv X pins σ H4 { s4 with heap := s4.heap.push { cls := .type "slice", data := .fields #[vl, vu, vs] } } := I4.kept (t' := s4.toks) fun b ob z => Heap.get?_push_of_some _ z
  obtain ⟨its, r, tp, hz⟩ := I5.tuple hx
  cases pl
  cases pu
  show wpAny (model X.prog X.w) X.A (subscriptTail e (.Slice none none (some (.UnaryOp .USub (.Constant (.int 1) k p1) p2)) p3) (.ref a) (.ref s4.heap.objs.size)) (EP X pins σ Q) X.xe { s4 with heap := s4.heap.push { cls := .type "slice", data := .fields #[.none, .none, vs] } }
  refine tail_any (ops := [.ref a, .ref s4.heap.objs.size]) tp.typeIs (PyProof.Rows.slot_tuple_getitem.lookup) ?_ (by with_unfolding_all rfl)
  refine back_tup tp (Heap.IsSliceOf.new _ .none .none vs) ps (by rw [List.size_toArray, ← r.length]; exact hz) ?_
  exact ⟨.ref _, _, I5.laid (t' := s4.toks) (fun b ob z => Heap.get?_push_of_some _ z) (Nat.le_refl _) (frz_ok (us := its.reverse) (Heap.get?_push_size _ rfl) r.reverse (by rw [List.length_reverse]; exact hz)), rfl, q _ _ (I5.hok.fresh (Nat.le_refl _))⟩
/-- t.index(k), t locked -/
def tTIx (to : TE) (t : TA) : TE := fun σ H Q => to σ H fun x H1 => (∃ a xs, x = .ref a ∧ TupX H1 a xs) ∧ t σ H1 fun xs H2 => ∃ (a : Addr) (ns : List Int) (k : Int), x = .ref a ∧ xs = [.int k] ∧ TupX H2 a (ns.map V.int) ∧ k ∈ ns ∧ Q (.int (ns.idxOf k : Nat)) H2
variable {o e : Expr} {es : List Expr} {to : TE} {t : TA} {apos cpos : Pos}
theorem pe_tindex (ho : PE X o to) (ha : PA X (e :: es) t)
    (hbase : attributeBase o "index" X.env (eval o X.env) = eval o X.env := by rfl)
    (hfew : ((backTo cpos (starEach (e :: es) X.env)).all (fun x => !x.1) && (backToKw cpos (keywordEach [] X.env)).all (fun x => x.1.isSome)
      && decide ((e :: es).length + ([] : List Keyword).length + (if ([] : List Keyword).isEmpty then 0 else 1) < 30)) = true := by rfl)
    (hline : (apos.endLine == cpos.line) = true := by rfl) (hs : starEach (e :: es) X.env = (false, eval e X.env) :: starEach es X.env := by rfl) (hplain : (backTo cpos (starEach es X.env)).any (·.1) = false := by rfl) :
    PE X (.Call (.Attribute o "index" apos) (e :: es) [] cpos) (tTIx to t) := by
  refine ⟨fun pins s σ H Q I h => wpAny_Call_method_late hbase hfew hline rfl (thn (ho.run pins s σ H _ I h) fun v s1 ⟨x, H1, I1, r1, ⟨a, xs, ex, us, ha1⟩, q1⟩ => ?_)⟩
  subst ex
  cases r1
  obtain ⟨at1, _, _⟩ := I1.hok _ _ ha1
  refine ⟨"tuple", "tuple.index", PySem.F.plainAttrs_tuple, PySem.F.slot_tuple_index, PySem.F.type_tuple_index, ⟨_, at1, rfl⟩, fun b eb => ?_, ?_⟩
  · cases eb
    exact ⟨_, at1, rfl⟩
  · have hA := ha.run cpos pins s1 σ H1 _ I1 q1
    rw [hs] at hA ⊢
    refine Calls.callWith_builtin (by show (false || (backTo cpos (starEach es X.env)).any (·.1)) = false; rw [hplain] <;> rfl) (Calls.evalArgs_plain ?_)
    refine thn hA fun ws s2 ⟨vs, H2, I2, r2, a', ns, k, ea, ev, tx, hk, q2⟩ => ?_
    cases ea
    exact mt_tindex pins s2 σ H2 (.ref a) vs (.ref a) ws Q I2 rfl r2 ⟨a, ns, k, rfl, ev, tx.sq, hk, q2⟩
end
end KR

set_option Elab.async false
set_option linter.all false
set_option maxRecDepth 100000
set_option maxHeartbeats 4000000
/-! Data of any depth over the tracked heap, dicts among them; their texts by repr. -/
namespace K0
open PySem PySem.Spec PyProof.Rows L2
open KR (TupX)

def kD : Key → PyData
  | .inl i => .int i
  | .inr x => .str x
/-- a tuple stands at a: tracked, or known whole -/
def TT (H : Hp) (a : Addr) (xs : List V) : Prop := H a = some (.tup xs) ∨ TupX H a xs
theorem TT.rd {H : Hp} {a : Addr} {xs : List V} (t : TT H a xs) : Rd H a (.tup xs) := t.elim .inl TupX.rd
theorem TT.sq {K : PySem.W.Frag} {H : Hp} {a : Addr} {xs : List V} (t : TT H a xs) : SqT K H a xs := .inl t.rd
theorem TT.at {H : Hp} {a : Addr} {xs : List V} (t : TT H a xs) : ∃ o, H a = some o := t.elim (fun e => ⟨_, e⟩) fun ⟨_, e⟩ => ⟨_, e⟩
theorem TT.keep {H H' : Hp} {a : Addr} {xs : List V} (t : TT H a xs) (s : ∀ o, H a = some o → H' a = some o) : TT H' a xs := t.elim (fun e => .inl (s _ e)) fun ⟨us, e⟩ => .inr ⟨us, s _ e⟩
/-- v is the datum d in H, all its objects such as T says -/
inductive DV (H : Hp) (T : Addr → Prop) : V → PyData → Prop
  | non : DV H T .non .none
  | bl (b : Bool) : DV H T (.bl b) (.bool b)
  | int (i : Int) : DV H T (.int i) (.int i)
  | str (x : Str) : DV H T (.str x) (.str x)
  | lst {a : Addr} {xs : List V} {ds : List PyData} (t : T a) (e : H a = some (.lst xs)) (l : xs.length = ds.length) (h : ∀ (i : Nat) (v : V) (d : PyData), xs[i]? = some v → ds[i]? = some d → DV H T v d) : DV H T (.ref a) (.list ds)
  | tup {a : Addr} {xs : List V} {ds : List PyData} (t : T a) (e : TT H a xs) (l : xs.length = ds.length) (h : ∀ (i : Nat) (v : V) (d : PyData), xs[i]? = some v → ds[i]? = some d → DV H T v d) : DV H T (.ref a) (.tuple ds)
  | dct {a : Addr} {kvs : List (Key × V)} {ds : List PyData} (t : T a) (e : H a = some (.dK kvs)) (l : kvs.length = ds.length) (h : ∀ (i : Nat) (v : V) (d : PyData), (kvs.map (·.2))[i]? = some v → ds[i]? = some d → DV H T v d) :
      DV H T (.ref a) (.dict ((kvs.map fun p => kD p.1).zip ds))
theorem DV.mono {H H' : Hp} {T T' : Addr → Prop} {v : V} {d : PyData} (h : DV H T v d) (s : ∀ a o, T a → H a = some o → T' a ∧ H' a = some o) : DV H' T' v d := by
  induction h with
  | non => exact .non
  | bl b => exact .bl b
  | int i => exact .int i
  | str x => exact .str x
  | lst t e l _ ih => exact .lst (s _ _ t e).1 (s _ _ t e).2 l ih
  | tup t e l _ ih => let ⟨_, h⟩ := e.at; exact .tup (s _ _ t h).1 (e.keep fun o q => (s _ _ t q).2) l ih
  | dct t e l _ ih => exact .dct (s _ _ t e).1 (s _ _ t e).2 l ih
/-- anywhere -/
abbrev Any : Addr → Prop := fun _ => True
theorem DV.any {H : Hp} {T : Addr → Prop} {v : V} {d : PyData} (h : DV H T v d) : DV H Any v d := h.mono fun _ _ _ e => ⟨trivial, e⟩
theorem DV.same {H H' : Hp} {T : Addr → Prop} {v : V} {d : PyData} (h : DV H T v d) (s : Same H H') : DV H' T v d := h.mono fun a o t e => ⟨t, s a o e⟩

/-- items of one kind, point by point -/
theorem readsAll_of {h : Heap} {T : Addr → Prop} : ∀ {xs : List V} {us : List Value} {ds : List PyData}, Vals xs us → xs.length = ds.length →
    (∀ (i : Nat) (v : V) (d : PyData) (u : Value), xs[i]? = some v → ds[i]? = some d → RelV v u → ∃ as, Reads h u d as ∧ ∀ a ∈ as, T a) → ∃ as, ReadsAll h us ds as ∧ ∀ a ∈ as, T a
  | _, _, [], .nil, _, _ => ⟨[], .nil, fun _ z => nomatch z⟩
  | _, _, _ :: _, .nil, l, _ => nomatch l
  | _, _, [], .cons _ _, l, _ => nomatch l
  | _, _, d :: ds, .cons r t, l, f => by
    obtain ⟨as, h1, t1⟩ := f 0 _ _ _ rfl rfl r
    obtain ⟨bs, h2, t2⟩ := readsAll_of (ds := ds) t (Nat.succ.inj l) fun i v e u e1 e2 r' => f (i + 1) v e u (by simpa using e1) (by simpa using e2) r'
    exact ⟨as ++ bs, .cons h1 h2, fun a z => (List.mem_append.mp z).elim (t1 a) (t2 a)⟩

theorem keys_reads {P : Program} {w : World} {h : Heap} {T : Addr → Prop} : ∀ {es : List DictEntry} {vs : List (Key × Value)}, Pairs (mixKind P w) es vs → ∃ as, ReadsAll h (es.map (·.key)) (vs.map fun p => kD p.1) as ∧ ∀ a ∈ as, T a
  | _, _, .nil => ⟨[], .nil, fun _ z => nomatch z⟩
  | _, _, .cons (e := e) (kv := kv) k _ t => by
    obtain ⟨bs, h2, t2⟩ := keys_reads (h := h) (T := T) t
    rcases keyIs_shape (show keyIs kv.1 e.key = true from k) with ⟨i, tk, e1, e2⟩ | ⟨x, tk, e1, e2⟩
    · refine ⟨[] ++ bs, ?_, fun a z => t2 a (by simpa using z)⟩
      show ReadsAll h (e.key :: _) (kD kv.1 :: _) _
      rw [e1, e2]
      exact .cons (.int i tk) h2
    · refine ⟨[] ++ bs, ?_, fun a z => t2 a (by simpa using z)⟩
      show ReadsAll h (e.key :: _) (kD kv.1 :: _) _
      rw [e1, e2]
      exact .cons (.str x tk) h2
theorem vals_of_pairs {P : Program} {w : World} : ∀ {es : List DictEntry} {vs : List (Key × Value)}, Pairs (mixKind P w) es vs → es.map (·.val) = vs.map (·.2)
  | _, _, .nil => rfl
  | _, _, .cons _ e t => by rw [List.map_cons, List.map_cons, e, vals_of_pairs t]
theorem kv_keys : ∀ {kvs : List (Key × V)} {vs : List (Key × Value)}, KV kvs vs → (vs.map fun p => kD p.1) = kvs.map fun p => kD p.1
  | _, _, .nil => rfl
  | _, _, .cons r t => by rw [List.map_cons, List.map_cons, r.1, kv_keys t]
theorem kv_vals : ∀ {kvs : List (Key × V)} {vs : List (Key × Value)}, KV kvs vs → Vals (kvs.map (·.2)) (vs.map (·.2))
  | _, _, .nil => .nil
  | _, _, .cons r t => .cons r.2 (kv_vals t)

theorem DV.reads {P : Program} {w : World} {H : Hp} {h : Heap} (ok : HOk P w H h) {T : Addr → Prop} {v : V} {d : PyData} (D : DV H T v d) : ∀ {u : Value}, RelV v u → ∃ as, Reads h u d as ∧ ∀ a ∈ as, ∃ o, H a = some o := by
  induction D with
  | non => intro u r; cases r; exact ⟨_, .none, fun _ z => nomatch z⟩
  | bl b => intro u r; cases r; exact ⟨_, .bool b, fun _ z => nomatch z⟩
  | int i => intro u r; obtain ⟨t, rfl⟩ := r; exact ⟨_, .int i t, fun _ z => nomatch z⟩
  | str x => intro u r; obtain ⟨t, rfl⟩ := r; exact ⟨_, .str x t, fun _ z => nomatch z⟩
  | lst _ e l _ ih =>
    intro u r
    cases r
    obtain ⟨_, its, n, rv, he⟩ := ok _ _ e
    obtain ⟨as, h1, t1⟩ := readsAll_of rv l fun i v d u e1 e2 r' => ih i v d e1 e2 r'
    refine ⟨_, .list he rfl rfl (by simpa using h1), fun a z => ?_⟩
    rcases List.mem_cons.mp z with rfl | z
    · exact ⟨_, e⟩
    · exact t1 a z
  | tup _ e l _ ih =>
    intro u r
    cases r
    obtain ⟨_, its, rv, o, h1, h2, n, h3⟩ := e.rd.ok ok
    obtain ⟨as, g1, t1⟩ := readsAll_of rv l fun i v d u e1 e2 r' => ih i v d e1 e2 r'
    exact ⟨as, .tuple h1 h2 h3 (by simpa using g1), t1⟩
  | @dct a kvs ds _ e l _ ih =>
    intro u r
    cases r
    obtain ⟨_, _, vs, rv, o, es, ep, h1, h2, h3, _, h5, _⟩ := ok _ _ e
    obtain ⟨as, k1, t1⟩ := keys_reads (h := h) (T := fun a => ∃ o, H a = some o) h5
    obtain ⟨bs, v1, t2⟩ := readsAll_of (h := h) (T := fun a => ∃ o, H a = some o) (ds := ds) (kv_vals rv) (by rw [List.length_map]; exact l) fun i v d u e1 e2 r' => ih i v d e1 e2 r'
    rw [kv_keys rv] at k1
    rw [← vals_of_pairs h5] at v1
    have z1 : (((kvs.map fun p => kD p.1).zip ds).map (·.1)) = kvs.map fun p => kD p.1 := List.map_fst_zip (by rw [List.length_map]; omega)
    have z2 : (((kvs.map fun p => kD p.1).zip ds).map (·.2)) = ds := List.map_snd_zip (by rw [List.length_map]; omega)
    refine ⟨_, .dict h1 h2.1 h3 (by rw [z1]; exact k1) (by rw [z2]; exact v1), fun c z => ?_⟩
    rcases List.mem_append.mp z with z | z
    · rcases List.mem_cons.mp z with rfl | z
      · exact ⟨_, e⟩
      · exact t1 c z
    · exact t2 c z

/-- what repr can tell -/
structure Fit (d : PyData) : Prop where
  sh : d.showable = true
  dp : d.depth ≤ 60
  sz : d.shown.length ≤ sizeLine

/-! ### repr: the texts of tracked data, item by item. The looks at a dict want to know that it isn't the modules' own: a tracked dict says so itself -/
section
variable {P : Program} {w : World} {H : Hp} {h : Heap}
/-- the text of one datum may be asked -/
abbrev Tells (P : Program) (w : World) (h : Heap) (u : Value) (d : PyData) : Prop := ∃ bs, ReadAtMost h d.depth bs ∧ ReprK P w bs h d.depth u d.shown
theorem tells_all : ∀ {xs : List V} {us : List Value} {ds : List PyData}, Vals xs us → xs.length = ds.length → PyData.showableAll ds = true → (∀ t ∈ PyData.shownAll ds, t.length ≤ sizeLine) →
    (∀ (i : Nat) (v : V) (d : PyData) (u : Value), xs[i]? = some v → ds[i]? = some d → RelV v u → d.showable = true → d.shown.length ≤ sizeLine → Tells P w h u d) →
    ∃ bs, ReadAtMost h (PyData.depthAll ds) bs ∧ ReprAllK P w bs h (PyData.depthAll ds) us (PyData.shownAll ds)
  | _, _, [], .nil, _, _, _, _ => ⟨[], (fun _ z => nomatch z), by simp only [PyData.shownAll]; exact .nil⟩
  | _, _, _ :: _, .nil, l, _, _, _ => nomatch l
  | _, _, [], .cons _ _, l, _, _, _ => nomatch l
  | _, _, d :: ds, .cons r t, l, hs, hz, f => by
    simp only [PyData.showableAll, Bool.and_eq_true] at hs
    simp only [PyData.shownAll, List.mem_cons] at hz
    obtain ⟨b1, q1, k1⟩ := f 0 _ _ _ rfl rfl r hs.1 (hz _ (.inl rfl))
    obtain ⟨b2, q2, k2⟩ := tells_all (ds := ds) t (Nat.succ.inj l) hs.2 (fun t z => hz t (.inr z)) fun i v e u e1 e2 => f (i + 1) v e u (by simpa using e1) (by simpa using e2)
    have m1 : d.depth ≤ PyData.depthAll (d :: ds) := by simp only [PyData.depthAll]; omega
    have m2 : PyData.depthAll ds ≤ PyData.depthAll (d :: ds) := by simp only [PyData.depthAll]; omega
    refine ⟨b1 ++ b2, (q1.mono m1).append (q2.mono m2), ?_⟩
    simp only [PyData.shownAll]
    exact .cons ((k1.more fun b z => List.mem_append_left _ z).level_le m1) (k2.more_le (fun b z => List.mem_append_right _ z) m2)
/-- the keys of a dict are ints and texts -/
theorem tells_keys {P : Program} {w : World} {h : Heap} : ∀ {es : List DictEntry} {vs : List (Key × Value)}, Pairs (mixKind P w) es vs → PyData.showableAll (vs.map fun p => kD p.1) = true → (∀ t ∈ PyData.shownAll (vs.map fun p => kD p.1), t.length ≤ sizeLine) →
    ReprAllK P w [] h 0 (es.map (·.key)) (PyData.shownAll (vs.map fun p => kD p.1))
  | _, _, .nil, _, _ => by simp only [List.map_nil, PyData.shownAll]; exact .nil
  | _, _, .cons (e := e) (kv := kv) k _ t, hs, hz => by
    simp only [List.map_cons, PyData.showableAll, Bool.and_eq_true] at hs
    simp only [List.map_cons, PyData.shownAll, List.mem_cons] at hz
    have ih := tells_keys (P := P) (w := w) (h := h) t hs.2 fun t z => hz t (.inr z)
    simp only [List.map_cons, PyData.shownAll]
    refine .cons ?_ ih
    rcases keyIs_shape (show keyIs kv.1 e.key = true from k) with ⟨i, tk, e1, e2⟩ | ⟨x, tk, e1, e2⟩
    · have a := hs.1
      rw [e1] at a ⊢
      rw [e2]
      simp only [kD, PyData.shown]
      exact .of_is (ReprIs.int tk (by simpa [kD, PyData.showable] using a)) _ _ _
    · have a := hz _ (.inl rfl)
      rw [e1] at a ⊢
      rw [e2]
      simp only [kD, PyData.shown] at a ⊢
      exact .of_is (ReprIs.str x tk a) _ _ _
theorem DV.tells (ok : HOk P w H h) {T : Addr → Prop} {v : V} {d : PyData} (D : DV H T v d) : ∀ {u : Value}, RelV v u → d.showable = true → d.shown.length ≤ sizeLine → Tells P w h u d := by
  induction D with
  | non => intro u r _ _; cases r; exact ⟨[], (fun _ z => nomatch z), by simp only [PyData.shown]; exact .of_is ReprIs.none _ _ _⟩
  | bl b => intro u r _ _; cases r; exact ⟨[], (fun _ z => nomatch z), by simp only [PyData.shown]; exact .of_is (ReprIs.bool b) _ _ _⟩
  | int i => intro u r hs _; obtain ⟨t, rfl⟩ := r; exact ⟨[], (fun _ z => nomatch z), by simp only [PyData.shown]; exact .of_is (ReprIs.int t (by simpa [PyData.showable] using hs)) _ _ _⟩
  | str x => intro u r _ hz; obtain ⟨t, rfl⟩ := r; exact ⟨[], (fun _ z => nomatch z), by simp only [PyData.shown] at hz ⊢; exact .of_is (ReprIs.str x t hz) _ _ _⟩
  | @lst a xs ds t0 e l g ih =>
    intro u r hs hz
    obtain ⟨as, R, _⟩ := (DV.lst t0 e l g).reads ok r
    cases r
    obtain ⟨_, its, n, rv, he⟩ := ok _ _ e
    simp only [PyData.shown] at hz
    obtain ⟨bs, hb, hk⟩ := tells_all rv l (by simpa [PyData.showable] using hs) (fun t z => Nat.le_trans (listText_mem_le z) hz) fun i v d u e1 e2 r' => ih i v d e1 e2 r'
    have na : a ∉ bs := not_mem_of_deeper R (by simp only [PyData.depth]; omega) hb
    refine ⟨a :: bs, ReadAtMost.cons R (by simp only [PyData.depth]; omega) hb, ?_⟩
    simp only [PyData.depth, PyData.shown]
    cases its with
    | nil =>
      have e0 := hk.length_eq
      cases ds with
      | nil => simp only [PyData.shownAll, listText_nil]; exact ReprK.listEmpty he rfl rfl
      | cons d ds => simp [PyData.shownAll] at e0
    | cons x rest => exact ReprK.list he rfl rfl na (by simpa using hk.length_eq) fun i y z => hk.item i y (by simpa using z)
  | @tup a xs ds t0 e l g ih =>
    intro u r hs hz
    obtain ⟨as, R, _⟩ := (DV.tup t0 e l g).reads ok r
    cases r
    obtain ⟨_, its, rv, o, h1, h2, n, h3⟩ := e.rd.ok ok
    simp only [PyData.shown] at hz
    obtain ⟨bs, hb, hk⟩ := tells_all rv l (by simpa [PyData.showable] using hs) (fun t z => Nat.le_trans (tupleText_mem_le z) hz) fun i v d u e1 e2 r' => ih i v d e1 e2 r'
    have na : a ∉ bs := not_mem_of_deeper R (by simp only [PyData.depth]; omega) hb
    refine ⟨a :: bs, ReadAtMost.cons R (by simp only [PyData.depth]; omega) hb, ?_⟩
    simp only [PyData.depth, PyData.shown]
    exact ReprK.tuple h1 h2 h3 na (by simpa using hk)
  | @dct a kvs ds t0 e l g ih =>
    intro u r hs hz
    obtain ⟨as, R, _⟩ := (DV.dct t0 e l g).reads ok r
    cases r
    obtain ⟨_, lo, vs, rv, o, es, ep, h1, h2, h3, _, h5, _⟩ := ok _ _ e
    simp only [PyData.shown] at hz
    obtain ⟨s1, s2⟩ := PyData.showableKv_split _ (by simpa [PyData.showable] using hs)
    have z1 : (((kvs.map fun p => kD p.1).zip ds).map (·.1)) = kvs.map fun p => kD p.1 := List.map_fst_zip (by rw [List.length_map]; omega)
    have z2 : (((kvs.map fun p => kD p.1).zip ds).map (·.2)) = ds := List.map_snd_zip (by rw [List.length_map]; omega)
    have k1 := tells_keys (P := P) (w := w) (h := h) h5 (by rw [kv_keys rv, ← z1]; exact s1) (fun t z => by
      rw [kv_keys rv, ← z1] at z
      obtain ⟨p, hp, hl⟩ := PyData.shownKv_key_le _ t z
      exact Nat.le_trans hl (Nat.le_trans (dictText_mem_le hp) hz))
    obtain ⟨b2, hb2, k2⟩ := tells_all (P := P) (w := w) (h := h) (ds := ds) (kv_vals rv) (by rw [List.length_map]; exact l) (by rw [← z2]; exact s2) (fun t z => by
      rw [← z2] at z
      obtain ⟨p, hp, hl⟩ := PyData.shownKv_val_le _ t z
      exact Nat.le_trans hl (Nat.le_trans (dictText_mem_le hp) hz)) fun i v d u e1 e2 r' => ih i v d e1 e2 r'
    rw [← vals_of_pairs h5] at k2
    rw [kv_keys rv, ← z1] at k1
    have d2 : PyData.depthAll ds ≤ PyData.depthKv ((kvs.map fun p => kD p.1).zip ds) := by
      have q := PyData.depthAll_vals_le ((kvs.map fun p => kD p.1).zip ds)
      rw [z2] at q
      exact q
    have hb := hb2.mono d2
    have na : a ∉ b2 := not_mem_of_deeper R (by simp only [PyData.depth]; omega) hb
    refine ⟨a :: b2, ReadAtMost.cons R (by simp only [PyData.depth]; omega) hb, ?_⟩
    simp only [PyData.depth, PyData.shown, PyData.shownKv_eq]
    rw [z2]
    exact ReprK.dict h1 h2.1 h3 lo na (ReprEntriesK.of_two es.toList _ _ (k1.more_le (fun b z => absurd z List.not_mem_nil) (Nat.zero_le _)) (k2.more_le (fun b z => z) d2))
end

/-- repr(x), x a list, a tuple or a dict -/
def rRepr : List V → Hp → VK → Prop := fun xs H Q => ∃ a d, xs = [.ref a] ∧ DV H Any (.ref a) d ∧ Fit d ∧ (∀ kvs, d ≠ .dict kvs) ∧ Q (.str d.shown) H
theorem call_repr {X : Cx} (hg : X.A.guards = some []) (hu : X.A.units + 64 < cLine) : CallR X (.builtin "repr") rRepr := by
  intro pins s σ H xs us Q I r h
  obtain ⟨a, d, rfl, D, F, nd, q⟩ := h
  obtain ⟨u, rfl, ru⟩ := vals1 r
  cases ru
  have fin : ∀ (h' : Heap) (u : Tok) (tk : Nat), (∀ b o, s.heap.get? b = some o → h'.get? b = some o) → EP X pins σ Q (.str d.shown u) { s with heap := h', toks := tk } := fun h' u tk k => ⟨.str d.shown, H, I.kept (t' := tk) k, ⟨u, rfl⟩, q⟩
  have hF := F.sz
  have hS := F.sh
  have hD := F.dp
  cases D with
  | @lst _ xs ds t0 e l g =>
    obtain ⟨as, R, _⟩ := (DV.lst t0 e l g).reads I.hok rfl
    obtain ⟨_, its, n, rv, he⟩ := I.hok _ _ e
    simp only [PyData.shown] at hF fin
    obtain ⟨bs, hb, hk⟩ := tells_all (P := X.prog) (w := X.w) (h := s.heap) rv l (by simpa [PyData.showable] using hS) (fun t z => Nat.le_trans (listText_mem_le z) hF) fun i v d u e1 e2 r' => (g i v d e1 e2).tells I.hok r'
    have na : a ∉ bs := not_mem_of_deeper R (by simp only [PyData.depth]; omega) hb
    simp only [PyData.depth] at hD
    refine call_repr_slot (by omega) ⟨_, he, rfl⟩ PySem.F.slot_list_repr.toG ?_
    cases its with
    | nil =>
      have e0 := hk.length_eq
      cases ds with
      | nil =>
        simp only [PyData.shownAll, listText_nil] at fin
        exact call_list_repr_empty ⟨_, he, rfl⟩ he rfl ⟨_, _, rfl, fin s.heap _ _ fun _ _ z => z⟩
      | cons d ds => simp [PyData.shownAll] at e0
    | cons x rest => exact call_list_reprK he rfl rfl na (by simpa using hk.length_eq) (fun i y z => hk.item i y (by simpa using z)) hg (fun b _ => Clear.nil b) (by show X.A.units + 1 + _ < cLine; omega) (fun _ _ z => z) (fun h' u tk k => ⟨_, _, rfl, fin h' u tk k⟩) hF
  | @tup _ xs ds t0 e l g =>
    obtain ⟨as, R, _⟩ := (DV.tup t0 e l g).reads I.hok rfl
    obtain ⟨_, its, rv, o, h1, h2, n, h3⟩ := e.rd.ok I.hok
    simp only [PyData.shown] at hF fin
    obtain ⟨bs, hb, hk⟩ := tells_all (P := X.prog) (w := X.w) (h := s.heap) rv l (by simpa [PyData.showable] using hS) (fun t z => Nat.le_trans (tupleText_mem_le z) hF) fun i v d u e1 e2 r' => (g i v d e1 e2).tells I.hok r'
    have na : a ∉ bs := not_mem_of_deeper R (by simp only [PyData.depth]; omega) hb
    simp only [PyData.depth] at hD
    refine call_repr_slot (by omega) ⟨_, h1, h2⟩ PySem.F.slot_tuple_repr ?_
    exact call_tuple_reprK h1 h2 h3 na (by simpa using hk) hg (fun b _ => Clear.nil b) (by show X.A.units + 1 + _ < cLine; omega) (fun _ _ z => z) (fun h' u tk k => ⟨_, _, rfl, fin h' u tk k⟩) hF
  | @dct _ kvs ds t0 e l g => exact absurd rfl (nd _)

/-! ### the sizes -/
/-- how much the data of one depth may hold -/
def bb : Nat → Nat
  | 0 => 20
  | k + 1 => 4 * bb k
theorem bb_le (k : Nat) : 20 ≤ bb k := by
  induction k with
  | zero => exact Nat.le_refl _
  | succ k ih => show 20 ≤ 4 * bb k; omega
/- no tuple, in tuples, is long -/
mutual
def slimD : PyData → Bool
  | .tuple ds => decide (ds.length ≤ 60) && slimAll ds
  | _ => true
def slimAll : List PyData → Bool
  | [] => true
  | d :: ds => slimD d && slimAll ds
end
theorem slim_mem {d : PyData} : ∀ {ds : List PyData}, slimAll ds = true → d ∈ ds → slimD d = true
  | [], _, h => nomatch h
  | e :: ds, s, h => by
    simp only [slimAll, Bool.and_eq_true] at s
    rcases List.mem_cons.mp h with rfl | h
    · exact s.1
    · exact slim_mem s.2 h
structure Tame (k : Nat) (d : PyData) : Prop where
  sh : d.showable = true
  lv : d.leavesShort 200 = true
  dp : d.depth ≤ 2 * k + 2
  bk : d.bulk ≤ bb k
  sl : slimD d = true
theorem Tame.up {k : Nat} {d : PyData} (t : Tame k d) : Tame (k + 1) d := ⟨t.sh, t.lv, by have := t.dp; omega, by have := t.bk; have := bb_le k; show _ ≤ 4 * bb k; omega, t.sl⟩

theorem all_of {k : Nat} : ∀ {ds : List PyData}, (∀ d ∈ ds, Tame k d) → PyData.showableAll ds = true ∧ PyData.leavesShortAll 200 ds = true ∧ PyData.depthAll ds ≤ 2 * k + 2 ∧ PyData.bulkAll ds ≤ ds.length * (bb k + 1)
  | [], _ => ⟨by simp only [PyData.showableAll], by simp only [PyData.leavesShortAll], by simp only [PyData.depthAll]; omega, by simp only [PyData.bulkAll]; omega⟩
  | d :: ds, h => by
    obtain ⟨h1, h2, h3, h4⟩ := all_of (ds := ds) fun e z => h e (List.mem_cons_of_mem _ z)
    have t := h d (List.mem_cons_self ..)
    refine ⟨by simp only [PyData.showableAll, t.sh, h1, Bool.and_self], by simp only [PyData.leavesShortAll, t.lv, h2, Bool.and_self], ?_, ?_⟩
    · have := t.dp
      simp only [PyData.depthAll]
      omega
    · have := t.bk
      simp only [PyData.bulkAll, List.length_cons, Nat.add_mul, Nat.one_mul]
      omega
theorem slim_of {k : Nat} : ∀ {ds : List PyData}, (∀ d ∈ ds, Tame k d) → slimAll ds = true
  | [], _ => by simp only [slimAll]
  | d :: ds, h => by simp only [slimAll, (h d (List.mem_cons_self ..)).sl, slim_of fun e z => h e (List.mem_cons_of_mem _ z), Bool.and_self]
theorem slim_ints : ∀ ns : List Int, slimAll (ns.map PyData.int) = true
  | [] => by simp only [List.map_nil, slimAll]
  | i :: ns => by simp only [List.map_cons, slimAll, slimD, slim_ints ns, Bool.and_self]
theorem fit_of {d : PyData} (h1 : d.showable = true) (h2 : d.leavesShort 200 = true) (h3 : d.depth ≤ 60) (h4 : d.bulk ≤ 60000) : Fit d := ⟨h1, h3, by
  have := PyData.shown_le_bulk 200 (by decide) d h2
  rw [sizeLine_eq]
  omega⟩
theorem tame_list {k : Nat} {ds : List PyData} (h : ∀ d ∈ ds, Tame k d) (l : ds.length ≤ 3) : Tame (k + 1) (.list ds) := by
  obtain ⟨h1, h2, h3, h4⟩ := all_of h
  have := bb_le k
  have q : ds.length * (bb k + 1) ≤ 3 * (bb k + 1) := Nat.mul_le_mul_right _ l
  exact ⟨by simp only [PyData.showable, h1], by simp only [PyData.leavesShort, h2], by simp only [PyData.depth]; omega, by simp only [PyData.bulk]; show _ ≤ 4 * bb k; omega, by simp only [slimD]⟩
theorem tame_tuple {k : Nat} {ds : List PyData} (h : ∀ d ∈ ds, Tame k d) (l : ds.length ≤ 3) : Tame (k + 1) (.tuple ds) := by
  obtain ⟨h1, h2, h3, h4⟩ := all_of h
  have := bb_le k
  have q : ds.length * (bb k + 1) ≤ 3 * (bb k + 1) := Nat.mul_le_mul_right _ l
  exact ⟨by simp only [PyData.showable, h1], by simp only [PyData.leavesShort, h2], by simp only [PyData.depth]; omega, by simp only [PyData.bulk]; show _ ≤ 4 * bb k; omega, by simp only [slimD, slim_of h, Bool.and_true]; exact decide_eq_true (by omega)⟩
/-- a number of items, as a datum -/
theorem small_int {n : Nat} (h : n ≤ 3) : PyData.showable (.int n) = true ∧ PyData.leavesShort 200 (.int n) = true := by
  have : n = 0 ∨ n = 1 ∨ n = 2 ∨ n = 3 := by omega
  rcases this with rfl | rfl | rfl | rfl <;> decide +kernel
theorem tame_dict {k : Nat} {ds : List PyData} (h : ∀ d ∈ ds, Tame k d) (l : ds.length ≤ 3) : Tame (k + 1) (.dict [(.str "key", .list ds), (.int 1, .int ds.length)]) := by
  obtain ⟨h1, h2, h3, h4⟩ := all_of h
  have := bb_le k
  have q : ds.length * (bb k + 1) ≤ 3 * (bb k + 1) := Nat.mul_le_mul_right _ l
  have e1 : PyData.showable (.int 1) = true := by decide +kernel
  have e2 : PyData.leavesShort 200 (.int 1) = true := by decide +kernel
  have e3 : PyData.leavesShort 200 (.str "key") = true := by decide +kernel
  have e4 : PyData.bulk (.str "key") = 3 := by decide +kernel
  obtain ⟨e5, e6⟩ := small_int l
  refine ⟨?_, ?_, ?_, ?_, by simp only [slimD]⟩
  · simp only [PyData.showable, PyData.showableKv, h1, Bool.and_true, Bool.true_and] at e1 e5 ⊢
    rw [e1, e5] <;> rfl
  · simp only [PyData.leavesShort, PyData.leavesShortKv, h2, Bool.and_true, Bool.true_and] at e2 e3 e6 ⊢
    rw [e2, e3, e6] <;> rfl
  · simp only [PyData.depth, PyData.depthKv]
    omega
  · simp only [PyData.bulk] at e4
    simp only [PyData.bulk, PyData.bulkKv]
    show _ ≤ 4 * bb k
    omega
theorem tame0 {d : PyData} (h : d = .list [] ∨ d = .tuple [] ∨ d = .dict [(.str "key", .list []), (.int 1, .int 0)]) (k : Nat) : Tame k d := by
  have t : Tame 0 d := by
    rcases h with rfl | rfl | rfl
    · exact ⟨by decide +kernel, by decide +kernel, by decide +kernel, by decide +kernel, by decide +kernel⟩
    · exact ⟨by decide +kernel, by decide +kernel, by decide +kernel, by decide +kernel, by decide +kernel⟩
    · exact ⟨by decide +kernel, by decide +kernel, by decide +kernel, by decide +kernel, by decide +kernel⟩
  induction k with
  | zero => exact t
  | succ k ih => exact ih.up
/-- as many times the same, in a list -/
theorem fit_many {k n : Nat} {d : PyData} (t : Tame k d) (h : n * (bb k + 1) ≤ 60000) (hk : k ≤ 20) : Fit (.list (List.replicate n d)) := by
  obtain ⟨h1, h2, h3, h4⟩ := all_of (k := k) (ds := List.replicate n d) fun e z => by rw [(List.mem_replicate.mp z).2]; exact t
  rw [List.length_replicate] at h4
  exact fit_of (by simp only [PyData.showable, h1]) (by simp only [PyData.leavesShort, h2]) (by simp only [PyData.depth]; omega) (by simp only [PyData.bulk]; omega)
end K0

set_option Elab.async false
set_option linter.all false
set_option maxRecDepth 100000
set_option maxHeartbeats 4000000
/-! The deck of the draws. -/
namespace K0
open PySem PySem.Spec PyProof.Rows L2

def top (i : Nat) : Stmt := PySem.Challenge.pw_oncecrossed_k33_threefold_webs_of_any_ki.main.body.getD i (.Pass ⟨0, 0, 0, 0⟩)
abbrev sDraw : Stmt := top 36
abbrev sPick : Stmt := top 37
/-- the deck's dict -/
def dkv (c : Addr) (m n : Int) : List (Key × V) := [(.inr "cells", .ref c), (.inr "mixed", .int m), (.inr "turn", .int n)]
theorem nCM : ¬ (Sum.inr ("cells" : Str) : Key) = Sum.inr ("mixed" : Str) := by decide +kernel
theorem nCD : ¬ (Sum.inr ("cells" : Str) : Key) = Sum.inr ("turn" : Str) := by decide +kernel
theorem nMD : ¬ (Sum.inr ("mixed" : Str) : Key) = Sum.inr ("turn" : Str) := by decide +kernel
theorem v_cells {c : Addr} {m n : Int} : valV (dkv c m n) (Sum.inr "cells") = some (.ref c) := valV_pos rfl
theorem v_mixed {c : Addr} {m n : Int} : valV (dkv c m n) (Sum.inr "mixed") = some (.int m) := (valV_neg nCM).trans (valV_pos rfl)
theorem v_draws {c : Addr} {m n : Int} : valV (dkv c m n) (Sum.inr "turn") = some (.int n) := (valV_neg nCD).trans ((valV_neg nMD).trans (valV_pos rfl))
theorem p_draws {c : Addr} {m n k : Int} : putK (dkv c m n) (Sum.inr "turn") (.int k) = dkv c m k := by
  have e : ((dkv c m n).any fun kv => decide (kv.1 = Sum.inr ("turn" : Str))) = true := by rw [valV_any, v_draws] <;> rfl
  unfold putK
  rw [if_pos e]
  show [_, _, _] = [_, _, _]
  simp only [if_neg nCD, if_neg nMD, if_true]

/-- a deck stands at p, its cells at c -/
structure Deck (H : Hp) (p c : Addr) : Prop where
  ex : ∃ (xs : List Int) (m n : Int), H p = some (.dK (dkv c m n)) ∧ H c = some (.lst (xs.map V.int)) ∧ xs.length ≤ 63
/-- all but the deck is kept -/
def Kp (p c : Addr) (H H' : Hp) : Prop := ∀ b o, b ≠ p → b ≠ c → H b = some o → H' b = some o
theorem Kp.trans {p c : Addr} {H H1 H2 : Hp} (a : Kp p c H H1) (b : Kp p c H1 H2) : Kp p c H H2 := fun d o h1 h2 h => b d o h1 h2 (a d o h1 h2 h)
theorem kp_put {p c b : Addr} {H : Hp} {o : HO} (hb : b = p ∨ b = c) : Kp p c H (upd H b o) := fun a u h1 h2 h => by
  rw [upd_ne (fun z => hb.elim (fun y => h1 (z.trans y)) fun y => h2 (z.trans y))]
  exact h
theorem kp_new {p c l : Addr} {H : Hp} {o : HO} (hl : H l = none) : Kp p c H (upd H l o) := fun a u _ _ h => by
  rw [upd_ne (ne_of_none h hl)]
  exact h
theorem Deck.new {p c l : Addr} {H : Hp} {o : HO} (D : Deck H p c) (hl : H l = none) : Deck (upd H l o) p c := by
  obtain ⟨xs, m, n, h1, h2, h3⟩ := D.ex
  exact ⟨xs, m, n, by rw [upd_ne (ne_of_none h1 hl)]; exact h1, by rw [upd_ne (ne_of_none h2 hl)]; exact h2, h3⟩
theorem Deck.put {p c b : Addr} {H : Hp} {o : HO} (D : Deck H p c) (h1 : b ≠ p) (h2 : b ≠ c) : Deck (upd H b o) p c := by
  obtain ⟨xs, m, n, e1, e2, e3⟩ := D.ex
  exact ⟨xs, m, n, by rw [upd_ne h1.symm]; exact e1, by rw [upd_ne h2.symm]; exact e2, e3⟩

/-- draw: a number below n, from the deck -/
def spDraw : Sp := fun vs H Q _ => ∃ (p c : Addr) (n : Int), vs = [.ref p, .int n] ∧ Deck H p c ∧ 1 ≤ n ∧ n < 1000000 ∧ ∀ (r : Int) (H' : Hp), 0 ≤ r → r < n → Deck H' p c → Kp p c H H' → Q (.int r) H'

structure Bi (mg : Str → Option Value) : Prop where
  int : mg "int" = none
  max : mg "max" = none
  len : mg "len" = none
  list : mg "list" = none
  range : mg "range" = none
  tuple : mg "tuple" = none

theorem ints_last {xs : List Int} (h : xs ≠ []) : ∃ z, (xs.map V.int)[(xs.map V.int).length - 1]? = some (V.int z) ∧ (xs.map V.int).dropLast = xs.dropLast.map V.int := by
  refine ⟨xs.getLast h, ?_, ?_⟩
  · rw [List.length_map, List.getElem?_map]
    have := List.getLast?_eq_getElem? (l := xs)
    rw [← this, List.getLast?_eq_some_getLast h] <;> rfl
  · rw [List.map_dropLast]
theorem ints_dp {K : PySem.W.Frag} {H : Hp} : ∀ xs : List Int, DpAll K H (xs.map V.int) (xs.map PyData.int)
  | [] => .nil
  | x :: xs => .cons (.int x) (ints_dp xs)
theorem ints_shaped (xs : List Int) : SeqAt.shaped (.list (xs.map PyData.int)) = true := by
  have h : ∀ ys : List Int, PyData.canLayAll0 (ys.map PyData.int) = true ∧ PyData.depthAll (ys.map PyData.int) = 0 := fun ys => by
    induction ys with
    | nil => exact ⟨by simp [PyData.canLayAll0], by simp [PyData.depthAll]⟩
    | cons y ys ih => exact ⟨by simp [PyData.canLayAll0, PyData.canLay0, ih.1], by simp [PyData.depthAll, PyData.depth, ih.2]⟩
  show (PyData.canLay0 _ && decide (PyData.depth _ ≤ 64)) = true
  rw [Bool.and_eq_true]
  exact ⟨by simp only [PyData.canLay0]; exact (h xs).1, decide_eq_true (by simp only [PyData.depth, (h xs).2]; omega)⟩
/-- what was tracked is tracked -/
theorem Kp.dom {p c : Addr} {H H' : Hp} (k : Kp p c H H') (D : Deck H' p c) {b : Addr} (h : H' b = none) : H b = none := by
  obtain ⟨xs, m, n, e1, e2, _⟩ := D.ex
  cases e : H b with
  | none => rfl
  | some o => rw [k b o (ne_of_none e1 h).symm (ne_of_none e2 h).symm e] at h; cases h
theorem Deck.inp {H : Hp} {p c : Addr} (D : Deck H p c) {b : Addr} (h : H b = none) : b ≠ p ∧ b ≠ c := by
  obtain ⟨xs, m, n, e1, e2, _⟩ := D.ex
  exact ⟨(ne_of_none e1 h).symm, (ne_of_none e2 h).symm⟩
theorem fmod_in {a b : Int} (h : 0 < b) : 0 ≤ a.fmod b ∧ a.fmod b < b := ⟨Int.fmod_nonneg_of_pos a h, Int.fmod_lt_of_pos a h⟩

section
variable {P : Program} {w : World} {K : PySem.W.Frag} {mg : Str → Option Value} {base : Heap}
theorem scDraw : FnScope ["_law_deck_here", "_law_below", "_law_figure", "_law_cell"] ["_law_deck_here", "_law_below"] (defScope sDraw) := ⟨rfl, rfl, rfl, by decide +kernel, rfl, by decide +kernel, by decide +kernel⟩
theorem ok_draw {f : Addr} {fd : FuncData} (F : Fun K "_law_draw" "_law_draw" sDraw f fd) (T : Bi mg) : FnOk P w K mg base CX0 1 f fd ["_law_deck_here", "_law_below"] spDraw := by
  refine F.ok scDraw (fun vs H Q E h => ?_) (fun cdv A outer s H vs Q E hr h => ?_)
  · obtain ⟨p, c, n, rfl, _⟩ := h
    rfl
  · obtain ⟨p, c, n, rfl, D, n1, n2, k⟩ := h
    have hu := hu_of hr
    have hu6 : A.units + 3 + 64 < cLine := by have := hr.un; have e : (A.deeper (envOfC "_law_draw" (defScope sDraw) s.heap.objs.size f cdv)).units = A.units + 3 := rfl; omega
    obtain ⟨xs, m, j, h1, h2, h3⟩ := D.ex
    have npc : p ≠ c := ne_of h1 h2 (by intro z; cases z)
    refine ⟨_, pss_cons (ps_dput hu (pv 0) pe_str (pe_op op_add (pe_dget hu (pv 0) pe_str (fun _ _ => rfl)) pe_int) rfl)
      <| pss_cons (ps_set (i := 2) scDraw.nd rfl (.inl rfl) (pe_op op_add (pe_dget hu (pv 0) pe_str (fun _ _ => rfl)) (pe_op op_mul pe_int (pe_dget hu (pv 0) pe_str (fun _ _ => rfl)))))
      <| pss_cons (ps_if (pt_cmpR (op_neD hu6) (pe_dget hu (pv 0) pe_str (fun _ _ => rfl)) (pe_lst pa_nil) (nomark _))
          (pss_cons (ps_set (i := 3) scDraw.nd rfl (.inl rfl) (pe_bm0 PySem.F.plainAttrs_list PySem.F.slot_list_pop PySem.F.type_list_pop mt_pop (pe_dget hu (pv 0) pe_str (fun _ _ => rfl))))
          <| pss_cons (ps_if (pt_cmpR op_ge (pv 3) (pe_op op_pow pe_int pe_int) (nomark _))
              (pss_cons (ps_expr (pe_bm PySem.F.plainAttrs_list PySem.F.slot_list_append PySem.F.type_list_append mt_append (pe_dget hu (pv 0) pe_str (fun _ _ => rfl))
                (pa_cons (pe_op op_fdivN (pv 3) (pe_callB (call_max2 rfl) (by rfl) T.max (by decide +kernel) (pa_cons pe_int (pa_cons (pv 1) pa_nil)))) pa_nil)))
              <| pss_one (ps_ret (pe_op op_modN (pe_callTy call_int1 (by rfl) T.int (by decide +kernel) (pa_cons (pv 3) pa_nil)) (pv 1)))) pss_nil)
          <| pss_one (ps_set (i := 2) scDraw.nd rfl (.inl rfl) (pe_op op_add (pv 2) (pe_op op_modN (pe_callTy call_int1 (by rfl) T.int (by decide +kernel) (pa_cons (pv 3) pa_nil)) pe_int)))) pss_nil)
      <| pss_cons (ps_set (i := 2) scDraw.nd rfl (.inl rfl) (pe_op op_modN (pe_callTy call_int1 (by rfl) T.int (by decide +kernel) (pa_cons (pe_op op_add (pe_op op_mul (pv 2) pe_int) pe_int) pa_nil)) pe_int))
      <| pss_cons (ps_set (i := 2) scDraw.nd rfl (.inl rfl) (pe_op op_modN (pe_callTy call_int1 (by rfl) T.int (by decide +kernel) (pa_cons (pe_op op_add (pe_op op_add (pe_op op_mul (pv 2) (pv 2)) (pe_op op_mul pe_int (pe_dget hu (pv 0) pe_str (fun _ _ => rfl)))) pe_int) pa_nil)) pe_int))
      <| pss_cons (ps_set (i := 2) scDraw.nd rfl (.inl rfl) (pe_op op_modN (pe_callTy call_int1 (by rfl) T.int (by decide +kernel) (pa_cons (pe_op op_mul (pv 2) pe_int) pa_nil)) pe_int))
      <| pss_one (ps_ret (pe_op op_modN (pe_callTy call_int1 (by rfl) T.int (by decide +kernel) (pa_cons (pe_op op_fdivN (pv 2) pe_int) pa_nil)) (pv 1))), ?_⟩
    have g1 : DGet H p (.str "turn") (some (.int j)) := v_draws ▸ DGet.k (k := Sum.inr "turn") h1
    have q1 : DPut H p (.str "turn") (.int (j + 1)) (upd H p (.dK (dkv c m (j + 1)))) := by
      have z := DPut.k (k := Sum.inr "turn") (v := .int (j + 1)) h1 (show (3 : Nat) < sizeLine by rw [sizeLine_eq]; decide)
      rw [p_draws] at z
      exact z
    refine ⟨_, rfl, p, _, rfl, g1, _, _, rfl, rfl, _, rfl, p, _, rfl, q1, ?_⟩
    generalize hH1 : upd H p (.dK (dkv c m (j + 1))) = H1
    have e1 : H1 p = some (.dK (dkv c m (j + 1))) := by rw [← hH1]; exact upd_same
    have e2 : H1 c = some (.lst (xs.map V.int)) := by rw [← hH1, upd_ne npc.symm]; exact h2
    have K1 : Kp p c H H1 := by rw [← hH1]; exact kp_put (.inl rfl)
    have D1 : Deck H1 p c := ⟨xs, m, j + 1, e1, e2, h3⟩
    have gm : DGet H1 p (.str "mixed") (some (.int m)) := v_mixed ▸ DGet.k (k := Sum.inr "mixed") e1
    have gd : ∀ {H' : Hp}, H' p = some (.dK (dkv c m (j + 1))) → DGet H' p (.str "turn") (some (.int (j + 1))) := fun e => v_draws ▸ DGet.k (k := Sum.inr "turn") e
    have gc : ∀ {H' : Hp}, H' p = some (.dK (dkv c m (j + 1))) → DGet H' p (.str "cells") (some (.ref c)) := fun e => v_cells ▸ DGet.k (k := Sum.inr "cells") e
    refine ⟨_, rfl, p, _, rfl, gm, _, rfl, p, _, rfl, gd e1, _, _, rfl, rfl, .inl ⟨by decide, by decide⟩, _, _, rfl, rfl, ?_⟩
    refine ⟨_, rfl, p, _, rfl, gc e1, (by show 0 ≤ sizeLine; exact Nat.zero_le _), fun l hl => ?_⟩
    have e1l : (upd H1 l (.lst [])) p = some (.dK (dkv c m (j + 1))) := by rw [upd_ne (ne_of_none e1 hl)]; exact e1
    have e2l : (upd H1 l (.lst [])) c = some (.lst (xs.map V.int)) := by rw [upd_ne (ne_of_none e2 hl)]; exact e2
    have K2 : Kp p c H (upd H1 l (.lst [])) := K1.trans (kp_new hl)
    refine ⟨.list (xs.map PyData.int), .list [], Dp.lst (SqL.of e2l) (ints_dp xs), Dp.lst (SqL.of upd_same) .nil, ints_shaped xs, by decide, _, rfl, ?_⟩
    by_cases hx : xs = []
    · subst hx
      refine iteF ?_
      refine ⟨_, rfl, _, _, rfl, rfl, .inr ⟨by decide, by decide⟩, _, _, rfl, rfl, .inl ⟨_, rfl, _, _, rfl, rfl, (by show ¬ ((_ : Int) = 0); decide), ?_⟩⟩
      refine ⟨_, rfl, _, rfl, _, _, rfl, rfl, .inl ⟨Int.lt_of_lt_of_le (by decide) (fmod_in (by decide)).1, Int.lt_trans (fmod_in (by decide)).2 (by decide)⟩, _, rfl, p, _, rfl, gd e1l, _, _, rfl, rfl, .inl ⟨by decide, by decide⟩, _, _, rfl, rfl, _, _, rfl, rfl, .inl ⟨_, rfl, _, _, rfl, rfl, (by show ¬ ((_ : Int) = 0); decide), ?_⟩⟩
      refine ⟨_, rfl, _, _, rfl, rfl, .inr ⟨by decide, by decide⟩, .inl ⟨_, rfl, _, _, rfl, rfl, (by show ¬ ((_ : Int) = 0); decide), ?_⟩⟩
      exact ⟨_, rfl, _, _, rfl, rfl, ⟨by decide, by decide⟩, .inl ⟨_, rfl, _, rfl, _, _, rfl, rfl, by omega, k _ _ (fmod_in (by omega)).1 (fmod_in (by omega)).2 (D1.new hl) K2⟩⟩
    · have ev : PyData.eqv (.list (xs.map PyData.int)) (.list []) = false := by
        cases xs with
        | nil => exact absurd rfl hx
        | cons a r => simp [PyData.eqv, PyData.eqvAll]
      rw [ev]
      refine iteT ?_
      obtain ⟨z, z1, z2⟩ := ints_last hx
      refine ⟨_, rfl, p, _, rfl, gc e1l, .inl ⟨rfl, _, SqL.of e2l⟩, c, _, _, rfl, rfl, e2l, z1, ?_⟩
      rw [z2]
      generalize hH3 : upd (upd H1 l (.lst [])) c (.lst (xs.dropLast.map V.int)) = H3
      have e13 : H3 p = some (.dK (dkv c m (j + 1))) := by rw [← hH3, upd_ne npc]; exact e1l
      have e23 : H3 c = some (.lst (xs.dropLast.map V.int)) := by rw [← hH3]; exact upd_same
      have K3 : Kp p c H H3 := by rw [← hH3]; exact K2.trans (kp_put (.inr rfl))
      have l3 : xs.dropLast.length ≤ 62 := by rw [List.length_dropLast]; omega
      have D3 : Deck H3 p c := ⟨xs.dropLast, m, j + 1, e13, e23, by omega⟩
      refine ⟨_, rfl, _, _, rfl, rfl, ⟨by decide, by decide, by decide⟩, _, _, rfl, rfl, _, rfl, ?_⟩
      refine ite2 (fun _ => ?_) (fun _ => ?_)
      · refine ⟨_, rfl, p, _, rfl, gc e13, .inl ⟨rfl, _, SqL.of e23⟩, _, rfl, _, rfl, _, _, rfl, _, _, rfl, rfl, ⟨?_, ?_⟩, c, _, _, rfl, rfl, e23, ?_, ?_⟩
        · split <;> omega
        · split <;> omega
        · rw [List.length_map, sizeLine_eq]; omega
        · have D4 : Deck (upd H3 c (.lst (xs.dropLast.map V.int ++ [V.int (z.fdiv (if n > 2 then n else 2))]))) p c :=
            ⟨xs.dropLast ++ [z.fdiv (if n > 2 then n else 2)], m, j + 1, by rw [upd_ne npc]; exact e13, by rw [upd_same, List.map_append] <;> rfl, by rw [List.length_append]; show _ + 1 ≤ 63; omega⟩
          exact ⟨_, rfl, .inl ⟨_, rfl, _, rfl, _, _, rfl, rfl, by omega, k _ _ (fmod_in (by omega)).1 (fmod_in (by omega)).2 D4 (K3.trans (kp_put (.inr rfl)))⟩⟩
      · refine ⟨_, rfl, _, rfl, .inl ⟨_, rfl, _, _, rfl, rfl, (by show ¬ ((_ : Int) = 0); decide), _, _, rfl, rfl, ?_⟩⟩
        refine ⟨_, rfl, _, _, rfl, rfl, .inr ⟨by decide, by decide⟩, _, _, rfl, rfl, .inl ⟨_, rfl, _, _, rfl, rfl, (by show ¬ ((_ : Int) = 0); decide), ?_⟩⟩
        refine ⟨_, rfl, _, rfl, _, _, rfl, rfl, .inl ⟨Int.lt_of_lt_of_le (by decide) (fmod_in (by decide)).1, Int.lt_trans (fmod_in (by decide)).2 (by decide)⟩, _, rfl, p, _, rfl, gd e13, _, _, rfl, rfl, .inl ⟨by decide, by decide⟩, _, _, rfl, rfl, _, _, rfl, rfl, .inl ⟨_, rfl, _, _, rfl, rfl, (by show ¬ ((_ : Int) = 0); decide), ?_⟩⟩
        refine ⟨_, rfl, _, _, rfl, rfl, .inr ⟨by decide, by decide⟩, .inl ⟨_, rfl, _, _, rfl, rfl, (by show ¬ ((_ : Int) = 0); decide), ?_⟩⟩
        exact ⟨_, rfl, _, _, rfl, rfl, ⟨by decide, by decide⟩, .inl ⟨_, rfl, _, rfl, _, _, rfl, rfl, by omega, k _ _ (fmod_in (by omega)).1 (fmod_in (by omega)).2 D3 K3⟩⟩

/-- a def of the text that others call -/
structure Dn (P : Program) (w : World) (K : PySem.W.Frag) (mg : Str → Option Value) (base : Heap) (name : Str) (k : Nat) (ps : List Str) (sp : Sp) (f : Addr) (fd : FuncData) : Prop where
  g : mg name = some (.ref f)
  kp : PySem.W.keepIn K (.ref f) = true
  b : Binds K fd ps []
  ok : FnOk P w K mg base CX0 k f fd ps sp

/-- pick: an item of a list that stands beside the deck -/
def spPick : Sp := fun vs H Q _ => ∃ (p c l : Addr) (xs : List V), vs = [.ref p, .ref l] ∧ Deck H p c ∧ H l = some (.lst xs) ∧ l ≠ p ∧ l ≠ c ∧ 1 ≤ xs.length ∧ xs.length < 1000 ∧
  ∀ (i : Nat) (v : V) (H' : Hp), xs[i]? = some v → Deck H' p c → Kp p c H H' → Q v H'
theorem scPick : FnScope ["_law_deck_here", "_law_some"] ["_law_deck_here", "_law_some"] (defScope sPick) := ⟨rfl, rfl, rfl, by decide +kernel, rfl, by decide +kernel, by decide +kernel⟩
theorem ok_pick {f fD : Addr} {fd fdD : FuncData} (F : Fun K "_law_pick" "_law_pick" sPick f fd) (T : Bi mg) (G : Dn P w K mg base "_law_draw" 1 ["_law_deck_here", "_law_below"] spDraw fD fdD) :
    FnOk P w K mg base CX0 2 f fd ["_law_deck_here", "_law_some"] spPick := by
  refine F.ok scPick (fun vs H Q E h => ?_) (fun cdv A outer s H vs Q E hr h => ?_)
  · obtain ⟨p, c, l, xs, rfl, _⟩ := h
    rfl
  · obtain ⟨p, c, l, xs, rfl, D, hl, lp, lc, n1, n2, k⟩ := h
    refine ⟨_, pss_one (ps_ret (pe_ix ix_list (pv 1) (pe_call G.ok hr rfl G.g G.kp G.b .nil pass0
      (pa_cons (pv 0) (pa_cons (pe_callB call_len_seq (by rfl) T.len PySem.boot_len (pa_cons (pv 1) pa_nil)) pa_nil))) (fun _ _ => rfl))), ?_⟩
    refine ⟨_, rfl, _, rfl, _, rfl, l, _, rfl, .inl (SqL.of hl), p, c, _, rfl, D, by omega, by omega, fun r H' r0 r1 D' K' => ?_⟩
    have hl' := K' l _ lp lc hl
    obtain ⟨i, rfl⟩ : ∃ i : Nat, r = i := ⟨r.toNat, by omega⟩
    have hi : i < xs.length := by omega
    exact ⟨l, _, _, _, rfl, rfl, SqL.of hl', atI_nat (List.getElem?_eq_getElem hi), k i _ H' (List.getElem?_eq_getElem hi) D' K'⟩
end
end K0

set_option Elab.async false
set_option linter.all false
set_option maxRecDepth 100000
set_option maxHeartbeats 4000000
/-! The deck made; any value. -/
namespace K0
open PySem PySem.Spec PyProof.Rows L2

theorem cut63 (ns : List Int) : cutV (ns.map V.int) none (some 63) = (ns.take 63).map V.int := by
  unfold cutV
  rw [HT.sIx_none, show (some (63 : Int)) = some ((63 : Nat) : Int) from rfl, HT.sIx_nat, List.drop_zero, Nat.sub_zero, List.length_map, List.map_take]
  by_cases h : 63 ≤ ns.length
  · rw [Nat.min_eq_left h]
  · rw [Nat.min_eq_right (by omega), List.take_of_length_le (by rw [List.length_map]; exact Nat.le_refl _), List.take_of_length_le (by rw [List.length_map]; omega)]
theorem deck_kvs {c : Addr} {m : Int} : mergeK [] [(Sum.inr ("cells" : Str), V.ref c), (Sum.inr ("mixed" : Str), V.int m), (Sum.inr ("turn" : Str), V.int 0)] = dkv c m 0 := by
  have e1 : putK ([] : List (Key × V)) (Sum.inr ("cells" : Str)) (V.ref c) = [(Sum.inr ("cells" : Str), V.ref c)] := putK_new _ rfl
  have e2 : putK [(Sum.inr ("cells" : Str), V.ref c)] (Sum.inr ("mixed" : Str) : Key) (V.int m) = [(Sum.inr ("cells" : Str), V.ref c)] ++ [(Sum.inr ("mixed" : Str), V.int m)] := putK_new _ ((valV_neg nCM).trans rfl)
  have e3 : putK ([(Sum.inr ("cells" : Str), V.ref c)] ++ [(Sum.inr ("mixed" : Str), V.int m)]) (Sum.inr ("turn" : Str) : Key) (V.int 0) = ([(Sum.inr ("cells" : Str), V.ref c)] ++ [(Sum.inr ("mixed" : Str), V.int m)]) ++ [(Sum.inr ("turn" : Str), V.int 0)] :=
    putK_new _ ((valV_neg nCD).trans ((valV_neg nMD).trans rfl))
  unfold mergeK
  simp only [List.foldl_cons, List.foldl_nil]
  rw [e1, e2, e3]
  rfl
theorem int_of {ns : List Int} {i : Nat} {y : V} (h : (ns.map V.int)[i]? = some y) : ∃ z, y = V.int z := by
  rw [List.getElem?_map] at h
  cases e : ns[i]? with
  | none => rw [e] at h; cases h
  | some z => rw [e] at h; exact ⟨z, (Option.some.inj h).symm⟩

/-- the deck of a script -/
def spDeck (K : PySem.W.Frag) : Sp := fun vs H Q _ => ∃ (a : Addr) (ns : List Int), vs = [.ref a] ∧ SqL K H a (ns.map V.int) ∧ ∀ (p c : Addr) (H' : Hp), Deck H' p c → Same H H' → H p = none → H c = none → Q (.ref p) H'
section
variable {P : Program} {w : World} {K : PySem.W.Frag} {mg : Str → Option Value} {base : Heap}
theorem same_new {H : Hp} {l : Addr} {o : HO} (h : H l = none) : Same H (upd H l o) := fun b u e => by rw [upd_ne (ne_of_none e h)]; exact e
theorem int_mem {ns : List Int} {i : Nat} {v : V} (h : (ns.map V.int)[i]? = some v) : ∃ z, z ∈ ns ∧ v = V.int z := by
  obtain ⟨z, h1, h2⟩ := List.mem_map.mp (List.mem_of_getElem? h)
  exact ⟨z, h1, h2.symm⟩
theorem str_mem {ns : List Str} {i : Nat} {v : V} (h : (ns.map V.str)[i]? = some v) : ∃ z, z ∈ ns ∧ v = V.str z := by
  obtain ⟨z, h1, h2⟩ := List.mem_map.mp (List.mem_of_getElem? h)
  exact ⟨z, h1, h2.symm⟩
theorem tame_plain {d : PyData} (h : (∃ b, d = .bool b) ∨ d = .none) (k : Nat) : Tame k d := by
  rcases h with ⟨b, rfl⟩ | rfl <;> exact ⟨by simp only [PyData.showable], by simp only [PyData.leavesShort], by simp only [PyData.depth]; omega, by simp only [PyData.bulk]; omega, by simp only [slimD]⟩
theorem items_snoc {R : V → PyData → Prop} {xs : List V} {ds : List PyData} {v : V} {d : PyData} (l : xs.length = ds.length) (h : ∀ (j : Nat) (a : V) (b : PyData), xs[j]? = some a → ds[j]? = some b → R a b) (r : R v d) :
    ∀ (j : Nat) (a : V) (b : PyData), (xs ++ [v])[j]? = some a → (ds ++ [d])[j]? = some b → R a b := fun j a b q1 q2 => by
  by_cases hj : j < xs.length
  · rw [List.getElem?_append_left hj] at q1
    rw [List.getElem?_append_left (by omega)] at q2
    exact h j a b q1 q2
  · rw [List.getElem?_append_right (by omega)] at q1
    rw [List.getElem?_append_right (by omega)] at q2
    have z : j - xs.length = 0 := by
      cases e : j - xs.length with
      | zero => rfl
      | succ n => rw [e] at q1; simp at q1
    rw [z] at q1
    rw [show j - ds.length = 0 by omega] at q2
    cases q1
    cases q2
    exact r
theorem dict_kvs {l : Addr} {n : Int} : mergeK [] [(Sum.inr ("key" : Str), V.ref l), (Sum.inl 1, V.int n)] = [(Sum.inr ("key" : Str), V.ref l), (Sum.inl 1, V.int n)] := by
  have e1 : putK ([] : List (Key × V)) (Sum.inr ("key" : Str)) (V.ref l) = [(Sum.inr ("key" : Str), V.ref l)] := putK_new _ rfl
  have e2 : putK [(Sum.inr ("key" : Str), V.ref l)] (Sum.inl 1 : Key) (V.int n) = [(Sum.inr ("key" : Str), V.ref l)] ++ [(Sum.inl 1, V.int n)] := putK_new _ ((valV_neg (p := (Sum.inr ("key" : Str), V.ref l)) (r := []) (fun z : (Sum.inr ("key" : Str) : Key) = Sum.inl 1 => by cases z)).trans rfl)
  unfold mergeK
  simp only [List.foldl_cons, List.foldl_nil]
  rw [e1, e2]
  rfl
/-- no tuple that is not known whole, none that is long -/
def NT (H : Hp) (v : V) : Prop := ∀ a xs, v = .ref a → H a ≠ some (.tup xs) ∧ (KR.TupX H a xs → xs.length ≤ 60)
theorem nt_int {H : Hp} {i : Int} : NT H (.int i) := fun _ _ z => nomatch z
theorem nt_str {H : Hp} {x : Str} : NT H (.str x) := fun _ _ z => nomatch z
theorem nt_bl {H : Hp} {b : Bool} : NT H (.bl b) := fun _ _ z => nomatch z
theorem nt_non {H : Hp} : NT H .non := fun _ _ z => nomatch z
theorem nt_at {H : Hp} {a : Addr} {o : HO} (e : H a = some o) (h : ∀ xs, o ≠ .tup xs) (h2 : ∀ ob xs, o ≠ .frz ob (.tup xs)) : NT H (.ref a) := fun b xs z => by
  cases z
  rw [e]
  refine ⟨fun q => h xs (Option.some.inj q), fun ⟨us, q⟩ => ?_⟩
  rw [e] at q
  exact absurd (Option.some.inj q) (h2 _ xs)
theorem nt_lst {H : Hp} {a : Addr} {ys : List V} (e : H a = some (.lst ys)) : NT H (.ref a) := nt_at e (fun _ z => nomatch z) fun _ _ z => nomatch z
theorem nt_dk {H : Hp} {a : Addr} {ys : List (Key × V)} (e : H a = some (.dK ys)) : NT H (.ref a) := nt_at e (fun _ z => nomatch z) fun _ _ z => nomatch z
theorem nt_frz {H : Hp} {a : Addr} {us : List Value} {ys : List V} (e : H a = some (.frz (KR.tobj us) (.tup ys))) (l : ys.length ≤ 60) : NT H (.ref a) := fun b xs z => by
  cases z
  refine ⟨fun q => ?_, fun t => ?_⟩
  · rw [e] at q
    cases q
  · rw [t.inj ⟨us, e⟩]
    exact l
/-- any value, at a depth below d -/
def spAny (d : Nat) : Sp := fun vs H Q _ => ∃ (p c : Addr) (k : Nat), vs = [.ref p, .int k] ∧ k < d ∧ Deck H p c ∧
  ∀ (v : V) (e : PyData) (H' : Hp), Tame k e → DV H' (fun a => H a = none) v e → NT H' v → Deck H' p c → Kp p c H H' → Q v H'
abbrev nAny : List Str := ["_law_deck_here", "_law_deep", "_law_way", "_law_some", "_law_turn"]
/-- the menus -/
def menuI : List Int := [0, 1, -1, 2, 7, 12, 13, 40, 10 ^ 49 * 10 ^ 50, -(10 ^ 20)]
def menuS : List Str := ["", "a", "(0, 1)", "places 2\n0 1", "~", "lot", "True", "0"]
theorem int_tame : ∀ i ∈ menuI, PyData.showable (.int i) = true ∧ PyData.leavesShort 200 (.int i) = true := by decide +kernel
theorem str_tame : ∀ x ∈ menuS, PyData.leavesShort 200 (.str x) = true ∧ x.cps.size ≤ 12 := by decide +kernel
theorem tame_int {i : Int} (h : i ∈ menuI) (k : Nat) : Tame k (.int i) := ⟨(int_tame i h).1, (int_tame i h).2, by simp only [PyData.depth]; omega, by simp only [PyData.bulk]; omega, by simp only [slimD]⟩
theorem tame_str {x : Str} (h : x ∈ menuS) (k : Nat) : Tame k (.str x) := ⟨by simp only [PyData.showable], (str_tame x h).1, by simp only [PyData.depth]; omega, by
  have := (str_tame x h).2
  have := bb_le k
  simp only [PyData.bulk]; omega, by simp only [slimD]⟩

end
end K0

set_option Elab.async false
set_option linter.all false
set_option maxRecDepth 100000
set_option maxHeartbeats 4000000
/-! Rows of pairs; an order, a pair, all pairs. -/
namespace K0
open PySem PySem.Spec PyProof.Rows L2
/-! ### rows of pairs -/
inductive Prs (H : Hp) : List V → List (Int × Int) → Prop
  | nil : Prs H [] []
  | cons {a : Addr} {q : Int × Int} {vs : List V} {L : List (Int × Int)} (h : H a = some (.tup [.int q.1, .int q.2])) (t : Prs H vs L) : Prs H (.ref a :: vs) (q :: L)
theorem Prs.len {H : Hp} {vs : List V} {L : List (Int × Int)} (p : Prs H vs L) : vs.length = L.length := by
  induction p with
  | nil => rfl
  | cons h t ih => rw [List.length_cons, List.length_cons, ih]
theorem Prs.mono {H H' : Hp} {vs : List V} {L : List (Int × Int)} (p : Prs H vs L) (s : ∀ a x, H a = some (.tup x) → H' a = some (.tup x)) : Prs H' vs L := by
  induction p with
  | nil => exact .nil
  | cons h t ih => exact .cons (s _ _ h) ih
theorem Prs.app {H : Hp} {vs ws : List V} {L M : List (Int × Int)} (p : Prs H vs L) (q : Prs H ws M) : Prs H (vs ++ ws) (L ++ M) := by
  induction p with
  | nil => exact q
  | cons h t ih => exact .cons h ih
theorem Prs.get {H : Hp} {vs : List V} {L : List (Int × Int)} (p : Prs H vs L) : ∀ {i : Nat} {v : V}, vs[i]? = some v → ∃ a q, v = .ref a ∧ L[i]? = some q ∧ H a = some (.tup [.int q.1, .int q.2]) := by
  induction p with
  | nil => intro i v h; simp at h
  | @cons a q vs L h t ih =>
    intro i v e
    cases i with
    | zero => cases e; exact ⟨a, q, rfl, rfl, h⟩
    | succ i => exact ih (by simpa using e)
theorem Prs.erase {H : Hp} {vs : List V} {L : List (Int × Int)} (p : Prs H vs L) : ∀ i : Nat, Prs H (vs.eraseIdx i) (L.eraseIdx i) := by
  induction p with
  | nil => intro i; simpa using Prs.nil
  | @cons a q vs L h t ih =>
    intro i
    cases i with
    | zero => simpa using t
    | succ i => simpa using Prs.cons h (ih i)
theorem Prs.perm {H : Hp} {vs ws : List V} (pm : ws.Perm vs) : ∀ {L : List (Int × Int)}, Prs H vs L → ∃ M, M.Perm L ∧ Prs H ws M := by
  induction pm with
  | nil => intro L p; exact ⟨L, .refl _, p⟩
  | cons v _ ih =>
    intro L p
    cases p with
    | cons h t =>
      obtain ⟨M, pm, pr⟩ := ih t
      exact ⟨_, pm.cons _, .cons h pr⟩
  | swap v w l =>
    intro L p
    cases p with
    | cons h t =>
      cases t with
      | cons h' t' => exact ⟨_, .swap _ _ _, .cons h' (.cons h t')⟩
  | trans _ _ ih1 ih2 =>
    intro L p
    obtain ⟨M, pm, pr⟩ := ih2 p
    obtain ⟨M', pm', pr'⟩ := ih1 pr
    exact ⟨M', pm'.trans pm, pr'⟩
theorem Kp.tup {p c : Addr} {H H' : Hp} (k : Kp p c H H') (D : Deck H p c) : ∀ a x, H a = some (.tup x) → H' a = some (.tup x) := fun a x e => by
  obtain ⟨xs, m, n, h1, h2, _⟩ := D.ex
  exact k a _ (ne_of e h1 (by intro z; cases z)) (ne_of e h2 (by intro z; cases z)) e
theorem same_tup {H H' : Hp} (s : Same H H') : ∀ a x, H a = some (.tup x) → H' a = some (.tup x) := fun a x e => s _ _ e
/-- a list of its own is written -/
theorem Kp.own {p c l : Addr} {H H1 : Hp} {o : HO} (k : Kp p c H H1) (h : H l = none) : Kp p c H (upd H1 l o) := fun b u h1 h2 e => by
  rw [upd_ne (ne_of_none e h)]
  exact k b u h1 h2 e
theorem upd_tup {l : Addr} {H : Hp} {o : HO} {ys : List V} (e : H l = some (.lst ys)) : ∀ a x, H a = some (.tup x) → (upd H l o) a = some (.tup x) := fun a x h => by
  rw [upd_ne (ne_of h e (by intro z; cases z))]
  exact h
theorem new_tup {l : Addr} {H : Hp} {o : HO} (e : H l = none) : ∀ a x, H a = some (.tup x) → (upd H l o) a = some (.tup x) := fun a x h => by
  rw [upd_ne (ne_of_none h e)]
  exact h
/-- a row of pairs in a list at l -/
def LP (H : Hp) (l : Addr) (L : List (Int × Int)) : Prop := ∃ vs, H l = some (.lst vs) ∧ Prs H vs L
theorem LP.mono {H H' : Hp} {l : Addr} {L : List (Int × Int)} (p : LP H l L) (e : ∀ ys, H l = some (.lst ys) → H' l = some (.lst ys)) (s : ∀ a x, H a = some (.tup x) → H' a = some (.tup x)) : LP H' l L := by
  obtain ⟨vs, h, q⟩ := p
  exact ⟨vs, e _ h, q.mono s⟩
theorem LP.kp {p c l : Addr} {H H' : Hp} {L : List (Int × Int)} (q : LP H l L) (D : Deck H p c) (k : Kp p c H H') (lp : l ≠ p) (lc : l ≠ c) : LP H' l L := q.mono (fun ys e => k _ _ lp lc e) (k.tup D)
/-- pairs in order, below n -/
def Bel (n : Int) (L : List (Int × Int)) : Prop := ∀ q ∈ L, 0 ≤ q.1 ∧ q.1 < q.2 ∧ q.2 < n
theorem Bel.nil {n : Int} : Bel n [] := fun _ z => nomatch z
theorem Bel.app {n : Int} {L M : List (Int × Int)} (a : Bel n L) (b : Bel n M) : Bel n (L ++ M) := fun q z => (List.mem_append.mp z).elim (a q) (b q)
theorem Bel.sub {n : Int} {L M : List (Int × Int)} (a : Bel n L) (s : ∀ q ∈ M, q ∈ L) : Bel n M := fun q z => a q (s q z)
theorem Bel.snoc {n : Int} {L : List (Int × Int)} {q : Int × Int} (a : Bel n L) (h : 0 ≤ q.1 ∧ q.1 < q.2 ∧ q.2 < n) : Bel n (L ++ [q]) := a.app fun r z => by rw [List.mem_singleton.mp z]; exact h

/-- names that are nobody's own -/
structure Bj (mg : Str → Option Value) : Prop extends Bi mg where
  min : mg "min" = none
  sorted : mg "sorted" = none
  set : mg "set" = none
  all : mg "all" = none
  isi : mg "isinstance" = none
  enu : mg "enumerate" = none
  bool : mg "bool" = none
  repr : mg "repr" = none
/-- an order of 0 .. n - 1 -/
def IsOrd (n : Nat) (os : List Int) : Prop := os.Perm ((List.range n).map fun i => ((i : Nat) : Int))
theorem IsOrd.len {n : Nat} {os : List Int} (h : IsOrd n os) : os.length = n := by rw [h.length_eq, List.length_map, List.length_range]
theorem IsOrd.mem {n : Nat} {os : List Int} (h : IsOrd n os) {i : Int} (hi : i ∈ os) : 0 ≤ i ∧ i < n := by
  obtain ⟨k, hk, rfl⟩ := List.mem_map.mp (h.mem_iff.mp hi)
  have := List.mem_range.mp hk
  omega
theorem IsOrd.nd {n : Nat} {os : List Int} (h : IsOrd n os) : os.Nodup := h.nodup_iff.mpr (List.pairwise_map.mpr (List.nodup_range.imp fun {a b} z e => z (by omega)))
theorem IsOrd.at {n : Nat} {os : List Int} (h : IsOrd n os) {i : Nat} (hi : i < n) : ∃ x, os[i]? = some x ∧ 0 ≤ x ∧ x < n := by
  have l := h.len
  exact ⟨os[i], List.getElem?_eq_getElem (by omega), h.mem (List.getElem_mem ..)⟩
theorem IsOrd.ne {n : Nat} {os : List Int} (h : IsOrd n os) {i j : Nat} {x y : Int} (hi : os[i]? = some x) (hj : os[j]? = some y) (ne : i ≠ j) : x ≠ y := by
  have nd := List.pairwise_iff_getElem.mp h.nd
  obtain ⟨i1, rfl⟩ := List.getElem?_eq_some_iff.mp hi
  obtain ⟨j1, rfl⟩ := List.getElem?_eq_some_iff.mp hj
  rcases Nat.lt_or_gt_of_ne ne with z | z
  · exact nd i j i1 j1 z
  · exact (nd j i j1 i1 z).symm
theorem rg_ints (n : Nat) : rgV 0 (n : Int) = ((List.range n).map fun i => ((i : Nat) : Int)).map V.int := by
  unfold rgV
  rw [List.map_map, show ((n : Int) - 0).toNat = n by omega]
  refine List.map_congr_left fun i _ => ?_
  show V.int (0 + (i : Nat)) = V.int (i : Nat)
  rw [Int.zero_add]
theorem iota_ord (n : Nat) : IsOrd n ((List.range n).map fun i => ((i : Nat) : Int)) := List.Perm.refl _

def spOrder : Sp := fun vs H Q _ => ∃ (p c : Addr) (n : Nat), vs = [.ref p, .int n] ∧ n ≤ 12 ∧ Deck H p c ∧ ∀ (l : Addr) (os : List Int) (H' : Hp), H l = none → H' l = some (.lst (os.map V.int)) → IsOrd n os → Deck H' p c → Kp p c H H' → Q (.ref l) H'
section
variable {P : Program} {w : World} {K : PySem.W.Frag} {mg : Str → Option Value} {base : Heap}
abbrev nOrder : List Str := ["_law_deck_here", "_law_n", "_law_left", "_law_found", "_law_turn"]
theorem perm_move : ∀ {l : List Int} {i : Nat} {x : Int}, l[i]? = some x → l.Perm (x :: l.eraseIdx i)
  | [], _, _, h => by simp at h
  | a :: l, 0, x, h => by cases h; exact .refl _
  | a :: l, i + 1, x, h => ((perm_move (l := l) (i := i) (by simpa using h)).cons a).trans (.swap _ _ _)
theorem erase_map (l : List Int) : ∀ i, (l.map V.int).eraseIdx i = (l.eraseIdx i).map V.int := by
  induction l with
  | nil => intro i; rfl
  | cons a l ih =>
    intro i
    cases i with
    | zero => rfl
    | succ i => simp only [List.map_cons, List.eraseIdx_cons_succ, ih i]
end
end K0

set_option Elab.async false
set_option linter.all false
set_option maxRecDepth 100000
set_option maxHeartbeats 4000000
/-! A pair in order; all pairs. -/
namespace K0
open PySem PySem.Spec PyProof.Rows L2
/-- the two in order -/
def mm (x y : Int) : Int × Int := (if y < x then y else x, if y > x then y else x)
theorem mm_bel {n x y : Int} (hx : 0 ≤ x ∧ x < n) (hy : 0 ≤ y ∧ y < n) (ne : x ≠ y) : 0 ≤ (mm x y).1 ∧ (mm x y).1 < (mm x y).2 ∧ (mm x y).2 < n := by
  unfold mm
  dsimp only
  split <;> split <;> omega
def spPair : Sp := fun vs H Q _ => ∃ (x y : Int), vs = [.int x, .int y] ∧ ∀ a, H a = none → Q (.ref a) (upd H a (.tup [.int (mm x y).1, .int (mm x y).2]))
def spPairs : Sp := fun vs H Q _ => ∃ n : Nat, vs = [.int n] ∧ n ≤ 12 ∧ ∀ (l : Addr) (L : List (Int × Int)) (H' : Hp), H l = none → LP H' l L → Bel n L → L.length ≤ 144 → Same H H' → Q (.ref l) H'
section
variable {P : Program} {w : World} {K : PySem.W.Frag} {mg : Str → Option Value} {base : Heap}
abbrev nPairs : List Str := ["_law_n", "_law_found", "_law_one", "_law_other"]
end
end K0

set_option Elab.async false
set_option linter.all false
set_option maxRecDepth 100000
set_option maxHeartbeats 8000000
/-! The drawn ties. -/
namespace K0
open PySem PySem.Spec L2
open PyProof.Rows hiding St
/-- what a comprehension over pairs has made: some of them -/
structure FI (p c : Addr) (H : Hp) (l : Addr) (vs : List V) (L : List (Int × Int)) (Da : Addr) (i : Nat) (M : Hp) : Prop where
  ex : ∃ (ws : List V) (L2 : List (Int × Int)), M Da = some (.lst ws) ∧ Prs M ws L2 ∧ (∀ q ∈ L2, q ∈ L) ∧ L2.length ≤ i
  src : M l = some (.lst vs)
  prs : Prs M vs L
  dk : Deck M p c
  kp : Kp p c H M
section
variable {p c l Da : Addr} {H M M' : Hp} {vs : List V} {L : List (Int × Int)} {i : Nat}
theorem FI.step (h : FI p c H l vs L Da i M) (n1 : l ≠ p) (n2 : l ≠ c) (n3 : Da ≠ p) (n4 : Da ≠ c) (D : Deck M' p c) (k : Kp p c M M') : FI p c H l vs L Da i M' := by
  obtain ⟨ws, L2, e1, e2, e3, e4⟩ := h.ex
  exact ⟨⟨ws, L2, k _ _ n3 n4 e1, e2.mono (k.tup h.dk), e3, e4⟩, k _ _ n1 n2 h.src, h.prs.mono (k.tup h.dk), D, h.kp.trans k⟩
theorem FI.skip (h : FI p c H l vs L Da i M) : FI p c H l vs L Da (i + 1) M := by
  obtain ⟨ws, L2, e1, e2, e3, e4⟩ := h.ex
  exact ⟨⟨ws, L2, e1, e2, e3, by omega⟩, h.src, h.prs, h.dk, h.kp⟩
theorem FI.put (h : FI p c H l vs L Da i M) (hD : H Da = none) (n0 : l ≠ Da) (n3 : Da ≠ p) (n4 : Da ≠ c) (hi : i ≤ 1000) {v : V} {j : Nat} (hv : vs[j]? = some v) :
    ∃ acc, M Da = some (.lst acc) ∧ acc.length < sizeLine ∧ FI p c H l vs L Da (i + 1) (upd M Da (.lst (acc ++ [v]))) := by
  obtain ⟨ws, L2, e1, e2, e3, e4⟩ := h.ex
  obtain ⟨a, q, rfl, hq, ha⟩ := h.prs.get hv
  refine ⟨ws, e1, by rw [e2.len, sizeLine_eq]; omega, ⟨ws ++ [.ref a], L2 ++ [q], upd_same, (e2.app (.cons ha .nil)).mono (upd_tup e1), fun r z => ?_, by rw [List.length_append]; show L2.length + 1 ≤ _; omega⟩, by rw [upd_ne n0]; exact h.src, h.prs.mono (upd_tup e1), h.dk.put n3 n4, h.kp.own hD⟩
  rcases List.mem_append.mp z with z | z
  · exact e3 r z
  · rw [List.mem_singleton.mp z]; exact List.mem_of_getElem? hq
end
/-- what a comprehension of new pairs has made, an order beside it -/
structure GI (p c : Addr) (H : Hp) (l : Addr) (os : List Int) (n : Int) (Da : Addr) (i : Nat) (M : Hp) : Prop where
  ex : ∃ (ws : List V) (L2 : List (Int × Int)), M Da = some (.lst ws) ∧ Prs M ws L2 ∧ Bel n L2 ∧ L2.length ≤ i
  src : M l = some (.lst (os.map V.int))
  dk : Deck M p c
  kp : Kp p c H M
section
variable {p c l Da : Addr} {H M M' : Hp} {os : List Int} {n : Int} {i : Nat}
theorem GI.step (h : GI p c H l os n Da i M) (n1 : l ≠ p) (n2 : l ≠ c) (n3 : Da ≠ p) (n4 : Da ≠ c) (D : Deck M' p c) (k : Kp p c M M') : GI p c H l os n Da i M' := by
  obtain ⟨ws, L2, e1, e2, e3, e4⟩ := h.ex
  exact ⟨⟨ws, L2, k _ _ n3 n4 e1, e2.mono (k.tup h.dk), e3, e4⟩, k _ _ n1 n2 h.src, D, h.kp.trans k⟩
theorem GI.put (h : GI p c H l os n Da i M) (hD : H Da = none) (n0 : l ≠ Da) (n3 : Da ≠ p) (n4 : Da ≠ c) (hi : i ≤ 1000) {a : Addr} {q : Int × Int} (ha : M a = none) (hq : 0 ≤ q.1 ∧ q.1 < q.2 ∧ q.2 < n) :
    ∃ acc, (upd M a (.tup [.int q.1, .int q.2])) Da = some (.lst acc) ∧ acc.length < sizeLine ∧ GI p c H l os n Da (i + 1) (upd (upd M a (.tup [.int q.1, .int q.2])) Da (.lst (acc ++ [.ref a]))) := by
  obtain ⟨ws, L2, e1, e2, e3, e4⟩ := h.ex
  have e1' : (upd M a (.tup [.int q.1, .int q.2])) Da = some (.lst ws) := by rw [upd_ne (ne_of_none e1 ha)]; exact e1
  refine ⟨ws, e1', by rw [e2.len, sizeLine_eq]; omega, ⟨ws ++ [.ref a], L2 ++ [q], upd_same, ((e2.mono (new_tup ha)).app (.cons upd_same .nil)).mono (upd_tup e1'), e3.snoc hq, by rw [List.length_append]; show L2.length + 1 ≤ _; omega⟩, ?_, (h.dk.new ha).put n3 n4, (h.kp.trans (kp_new ha)).own hD⟩
  rw [upd_ne n0, upd_ne (ne_of_none h.src ha)]
  exact h.src
end
def spTies : Sp := fun vs H Q _ => ∃ (p c : Addr) (n : Nat), vs = [.ref p, .int n] ∧ 1 ≤ n ∧ n ≤ 12 ∧ Deck H p c ∧ ∀ (l : Addr) (L : List (Int × Int)) (H' : Hp), H l = none → LP H' l L → Bel n L → L.length ≤ 160 → Deck H' p c → Kp p c H H' → Q (.ref l) H'
abbrev nTies : List Str := ["_law_deck_here", "_law_n", "_law_way", "_law_thick", "_law_order_here", "_law_some", "_law_near", "_law_turn", "_law_one", "_law_step", "_law_pair_here", "_law_at"]
/-- between the statements -/
def TJ (p c : Addr) (n : Nat) (H : Hp) (σ : St) (M : Hp) : Prop := ∃ (wy th : Int) (lo : Addr) (os : List Int) (ls : Addr) (L : List (Int × Int)) (o6 : Option V),
  σ = [some (.ref p), some (.int n), some (.int wy), some (.int th), some (.ref lo), some (.ref ls), o6, none, none, none, none, none] ∧ H ls = none ∧ LP M ls L ∧ Bel n L ∧ L.length ≤ 144 ∧
  IsOrd n os ∧ H lo = none ∧ M lo = some (.lst (os.map V.int)) ∧ Deck M p c ∧ Kp p c H M
/-- from one state of affairs to another -/
def tInv (J J' : St → Hp → Prop) : TS := fun D σ H => J σ H ∧ ∀ σ' H', J' σ' H' → D.nx σ' H'
theorem ps_inv {X : Cx} {st : Stmt} {t : TS} {J J' : St → Hp → Prop} (h : PS X st t) (w : ∀ D σ H, J σ H → (∀ σ' H', J' σ' H' → D.nx σ' H') → t D σ H) : PS X st (tInv J J') :=
  ⟨fun pins s σ H D I q => h.run pins s σ H D I (w D σ H q.1 q.2)⟩
theorem pe_imp {X : Cx} {e : Expr} {t t' : TE} (h : PE X e t) (w : ∀ σ H Q, t' σ H Q → t σ H Q) : PE X e t' := ⟨fun pins s σ H Q I q => h.run pins s σ H Q I (w σ H Q q)⟩
theorem Deck.same {p c : Addr} {H H' : Hp} (D : Deck H p c) (s : Same H H') : Deck H' p c := by
  obtain ⟨xs, m, n, h1, h2, h3⟩ := D.ex
  exact ⟨xs, m, n, s _ _ h1, s _ _ h2, h3⟩
theorem kp_same {p c : Addr} {H H' : Hp} (s : Same H H') : Kp p c H H' := fun b o _ _ e => s _ _ e
theorem range2_12 {n : Nat} (h1 : 1 ≤ n) (h2 : n ≤ 12) : RgC 0 ((n : Int) - 1) 2 (n / 2) := by
  have : n = 1 ∨ n = 2 ∨ n = 3 ∨ n = 4 ∨ n = 5 ∨ n = 6 ∨ n = 7 ∨ n = 8 ∨ n = 9 ∨ n = 10 ∨ n = 11 ∨ n = 12 := by omega
  rcases this with rfl | rfl | rfl | rfl | rfl | rfl | rfl | rfl | rfl | rfl | rfl | rfl <;> exact ⟨by decide, by decide, by decide, by decide⟩
theorem atI_neg1 {n : Nat} {os : List Int} (h : IsOrd n os) (hn : 1 ≤ n) : ∃ x, os[n - 1]? = some x ∧ atI (os.map V.int) (0 + ((0 : Nat) : Int) - 1) = some (.int x) := by
  obtain ⟨x, hx, _⟩ := h.at (i := n - 1) (by omega)
  refine ⟨x, hx, ?_⟩
  have l := h.len
  have e : ixN (os.map V.int).length (0 + ((0 : Nat) : Int) - 1) = some (n - 1) := by
    unfold ixN
    rw [List.length_map, l, if_neg (by omega), if_pos (by omega)]
    congr 1
    omega
  unfold atI
  rw [e]
  show (os.map V.int)[n - 1]? = _
  rw [List.getElem?_map, hx] <;> rfl
theorem os_at {n : Nat} {os : List Int} (h : IsOrd n os) {i : Nat} (hi : i < n) : ∃ x, os[i]? = some x ∧ (os.map V.int)[i]? = some (.int x) ∧ 0 ≤ x ∧ x < n := by
  obtain ⟨x, hx, h1, h2⟩ := h.at hi
  exact ⟨x, hx, by rw [List.getElem?_map, hx] <;> rfl, h1, h2⟩
section
variable {P : Program} {w : World} {K : PySem.W.Frag} {mg : Str → Option Value} {base : Heap}
end
end K0

set_option Elab.async false
set_option linter.all false
set_option maxRecDepth 100000
set_option maxHeartbeats 8000000
/-! A drawn web. -/
namespace K0
open PySem PySem.Spec L2
open PyProof.Rows hiding St
/-- a pair as data -/
def pd (q : Int × Int) : PyData := .tuple [.int q.1, .int q.2]
theorem Prs.dp {K : PySem.W.Frag} {H : Hp} {vs : List V} {L : List (Int × Int)} (p : Prs H vs L) : DpAll K H vs (L.map pd) := by
  induction p with
  | nil => exact .nil
  | cons h t ih => exact .cons (Dp.tup (SqT.of h) (.cons (.int _) (.cons (.int _) .nil))) ih
theorem pd_shaped (L : List (Int × Int)) : SeqAt.shaped (.list (L.map pd)) = true := by
  have h : ∀ M : List (Int × Int), PyData.canLayAll0 (M.map pd) = true ∧ PyData.depthAll (M.map pd) ≤ 1 := fun M => by
    induction M with
    | nil => exact ⟨by simp [PyData.canLayAll0], by simp [PyData.depthAll]⟩
    | cons y ys ih => exact ⟨by simp [pd, PyData.canLayAll0, PyData.canLay0, ih.1], by
        have := ih.2
        simp only [List.map_cons, pd, PyData.depthAll, PyData.depth] at this ⊢
        omega⟩
  show (PyData.canLay0 _ && decide (PyData.depth _ ≤ 64)) = true
  rw [Bool.and_eq_true]
  exact ⟨by simp only [PyData.canLay0]; exact (h L).1, decide_eq_true (by simp only [PyData.depth]; have := (h L).2; omega)⟩
theorem pd_eqv0 (L : List (Int × Int)) : PyData.eqv (.list (L.map pd)) (.list []) = decide (L = []) := by
  cases L with
  | nil => rfl
  | cons q L => simp [PyData.eqv, PyData.eqvAll]
/-- the order of pairs -/
def cd (q : Int × Int) : Int := q.1 * 64 + q.2
def Srt (L : List (Int × Int)) : Prop := L.Pairwise fun a b => cd a ≤ cd b
theorem Prs.mem {H : Hp} {vs : List V} {L : List (Int × Int)} (p : Prs H vs L) : ∀ {q : Int × Int}, q ∈ L → ∃ a, V.ref a ∈ vs ∧ H a = some (.tup [.int q.1, .int q.2]) := by
  induction p with
  | nil => intro q z; cases z
  | @cons a r vs L h t ih =>
    intro q z
    rcases List.mem_cons.mp z with rfl | z
    · exact ⟨a, List.mem_cons_self .., h⟩
    · obtain ⟨b, h1, h2⟩ := ih z
      exact ⟨b, List.mem_cons_of_mem _ h1, h2⟩
theorem Prs.memV {H : Hp} {vs : List V} {L : List (Int × Int)} (p : Prs H vs L) : ∀ {v : V}, v ∈ vs → ∃ a q, v = .ref a ∧ q ∈ L ∧ H a = some (.tup [.int q.1, .int q.2]) := by
  induction p with
  | nil => intro q z; cases z
  | @cons a r vs L h t ih =>
    intro v z
    rcases List.mem_cons.mp z with rfl | z
    · exact ⟨a, r, rfl, List.mem_cons_self .., h⟩
    · obtain ⟨b, q, h1, h2, h3⟩ := ih z
      exact ⟨b, q, h1, List.mem_cons_of_mem _ h2, h3⟩
theorem tupI_pr {K : PySem.W.Frag} {H : Hp} {a : Addr} {q : Int × Int} (h : H a = some (.tup [.int q.1, .int q.2])) : TupI K H (.ref a) [q.1, q.2] := ⟨a, rfl, SqT.of h⟩
theorem Prs.srt {K : PySem.W.Frag} {H : Hp} {ys : List V} {M : List (Int × Int)} (p : Prs H ys M) : ys.Pairwise (fun x y => ∀ n m, TupI K H x n → TupI K H y m → TS.code 64 n ≤ TS.code 64 m) → Srt M := by
  induction p with
  | nil => intro _; exact .nil
  | @cons a r vs L h t ih =>
    intro z
    obtain ⟨z1, z2⟩ := List.pairwise_cons.mp z
    refine List.pairwise_cons.mpr ⟨fun q hq => ?_, ih z2⟩
    obtain ⟨b, hb, eb⟩ := t.mem hq
    have := z1 _ hb _ _ (tupI_pr h) (tupI_pr eb)
    rw [code_pair, code_pair] at this
    exact this
theorem Prs.tups {K : PySem.W.Frag} {H : Hp} {vs : List V} {L : List (Int × Int)} {n : Int} (p : Prs H vs L) (hB : Bel n L) (hn : n ≤ 64) : ∀ x ∈ vs, ∃ ns, TupI K H x ns ∧ ns.length = 2 ∧ TS.Bd 64 ns := fun x hx => by
  obtain ⟨a, q, rfl, hq, h⟩ := p.memV hx
  have := hB q hq
  refine ⟨_, tupI_pr h, rfl, fun m hm => ?_⟩
  rcases List.mem_cons.mp hm with rfl | hm
  · omega
  · rw [List.mem_singleton.mp hm]; omega
/-- a web stands at w -/
structure Web (H : Hp) (w : Addr) (n : Nat) (L : List (Int × Int)) : Prop where
  ex : ∃ (t : Addr) (vs : List V), H w = some (.tup [.int n, .ref t]) ∧ H t = some (.tup vs) ∧ Prs H vs L
theorem Web.mono {H H' : Hp} {w : Addr} {n : Nat} {L : List (Int × Int)} (W : Web H w n L) (s : ∀ a x, H a = some (.tup x) → H' a = some (.tup x)) : Web H' w n L := by
  obtain ⟨t, vs, h1, h2, h3⟩ := W.ex
  exact ⟨t, vs, s _ _ h1, s _ _ h2, h3.mono s⟩
theorem Web.same {H H' : Hp} {w : Addr} {n : Nat} {L : List (Int × Int)} (W : Web H w n L) (s : Same H H') : Web H' w n L := W.mono (same_tup s)
/-- what a comprehension of new pairs has made -/
structure GJ (p c : Addr) (H : Hp) (n : Int) (Da : Addr) (i : Nat) (M : Hp) : Prop where
  ex : ∃ (ws : List V) (L2 : List (Int × Int)), M Da = some (.lst ws) ∧ Prs M ws L2 ∧ Bel n L2 ∧ L2.length ≤ i
  dk : Deck M p c
  kp : Kp p c H M
theorem GJ.put {p c Da : Addr} {H M : Hp} {n : Int} {i : Nat} (h : GJ p c H n Da i M) (hD : H Da = none) (n3 : Da ≠ p) (n4 : Da ≠ c) (hi : i ≤ 1000) {a : Addr} {q : Int × Int} (ha : M a = none) (hq : 0 ≤ q.1 ∧ q.1 < q.2 ∧ q.2 < n) :
    ∃ acc, (upd M a (.tup [.int q.1, .int q.2])) Da = some (.lst acc) ∧ acc.length < sizeLine ∧ GJ p c H n Da (i + 1) (upd (upd M a (.tup [.int q.1, .int q.2])) Da (.lst (acc ++ [.ref a]))) := by
  obtain ⟨ws, L2, e1, e2, e3, e4⟩ := h.ex
  have e1' : (upd M a (.tup [.int q.1, .int q.2])) Da = some (.lst ws) := by rw [upd_ne (ne_of_none e1 ha)]; exact e1
  exact ⟨ws, e1', by rw [e2.len, sizeLine_eq]; omega, ⟨ws ++ [.ref a], L2 ++ [q], upd_same, ((e2.mono (new_tup ha)).app (.cons upd_same .nil)).mono (upd_tup e1'), e3.snoc hq, by rw [List.length_append]; show L2.length + 1 ≤ _; omega⟩, (h.dk.new ha).put n3 n4, (h.kp.trans (kp_new ha)).own hD⟩
/-- a row of pairs stays while a new tuple and another list are written -/
theorem LP.past {M : Hp} {l a Da : Addr} {L : List (Int × Int)} {o : HO} {ws : List V} {acc : List V} (h : LP M l L) (ha : M a = none) (eD : (upd M a o) Da = some (.lst acc)) (ne : l ≠ Da) : LP (upd (upd M a o) Da (.lst ws)) l L :=
  (h.mono (fun ys e => by rw [upd_ne (ne_of_none e ha)]; exact e) (new_tup ha)).mono (fun ys e => by rw [upd_ne ne]; exact e) (upd_tup eD)
theorem LP.new {M : Hp} {l a : Addr} {L : List (Int × Int)} {o : HO} (h : LP M l L) (ha : M a = none) : LP (upd M a o) l L := h.mono (fun ys e => by rw [upd_ne (ne_of_none e ha)]; exact e) (new_tup ha)
def spWeb : Sp := fun vs H Q _ => ∃ (p c : Addr) (n m : Nat), vs = [.ref p, .int n, .int m] ∧ 1 ≤ n ∧ n ≤ 12 ∧ m ≤ 40 ∧ Deck H p c ∧ ∀ (w : Addr) (L : List (Int × Int)) (H' : Hp), H w = none → Web H' w n L → Bel n L → Srt L → L.length ≤ m → Deck H' p c → Kp p c H H' → Q (.ref w) H'
abbrev nWeb : List Str := ["_law_deck_here", "_law_n", "_law_most", "_law_near", "_law_some", "_law_order_here", "_law_turn", "_law_one", "_law_other"]
/-- between the statements -/
def WJ (p c : Addr) (n m : Nat) (H : Hp) (near b lb : Nat) (σ : St) (M : Hp) : Prop := ∃ (ls lo : Addr) (L : List (Int × Int)) (os : List Int) (o6 : Option V),
  σ = [some (.ref p), some (.int n), some (.int m), some (.int near), some (.ref ls), some (.ref lo), o6, none, none] ∧ 1 ≤ near ∧ near ≤ n ∧ H ls = none ∧ H lo = none ∧ LP M ls L ∧ L.length ≤ lb ∧
  IsOrd n os ∧ M lo = some (.lst (os.map V.int)) ∧ Deck M p c ∧ Kp p c H M ∧ Bel b L
section
variable {P : Program} {w : World} {K : PySem.W.Frag} {mg : Str → Option Value} {base : Heap}
end
end K0

set_option Elab.async false
set_option linter.all false
set_option maxRecDepth 100000
set_option maxHeartbeats 4000000
/-! Own exceptions over WebError(Exception) whose making says super().__init__(text) and keeps one field, at the machine's level. -/
namespace PySem.EX
open PySem PySem.W PySem.Calls PyProof.Rows Builtin Builtin.ObjectAttr

/-- the mro behind the own classes -/
abbrev tailE : List Value := [.type "Exception", .type "BaseException", .type "object"]
/-- the text of such a class's making: its one parameter f, what it says, the places -/
def aA (f : Str) (p1 p2 : Pos) : Arguments :=
  { posonlyargs := [], args := [⟨"self", none, p1⟩, ⟨f, none, p2⟩], vararg := none, kwonlyargs := [], kw_defaults := [], kwarg := none, defaults := [] }
def aS (f : Str) : Scope :=
  { kind := .function, names := [("self", .local), (f, .local), ("__class__", .free), ("super", .globalImplicit)], isGenerator := false, isCoroutine := false, more := [] }
def sSay (txt : Str) (k : Nat) (q1 q2 q3 q4 q5 q6 : Pos) : Stmt :=
  .Expr (.Call (.Attribute (.Call (.Name "super" q1) [] [] q2) "__init__" q3) [.Constant (.str txt) k q4] [] q5) q6
def sKeep (f : Str) (q1 q2 q3 q4 : Pos) : Stmt := .Assign [.Attribute (.Name "self" q1) f q2] (.Name f q3) q4

/-- what the written part says of the class at C -/
structure ClsT (P : Program) (K : Frag) (C : Addr) : Prop where
  ex : excInitIn K C tailE "Exception.__new__" = true
  ov : excOver K C tailE = true
  sa : findIn K (.ref C) "__setattr__" = some (some (.builtin "object.__setattr__"))
  hd : hasDictIn K C = true
  su : ks_superIn K C C "__init__" = some (some (.builtin "Exception.__init__"))
  sE : subIn K (.ref C) (.type "Exception") = some true
  mr : mroIn K C (.ref C) = some true
  op : nsIn K cStatics "thirdparty.any" = some none
  kp : keepIn K (.ref C) = true
  file : (P.main.scope.names.lookup ("super" : Str)).isSome = false

/-- the def at fI is this class's making -/
structure IniT (P : Program) (K : Frag) (C fI : Addr) (args : Arguments) (body : List Stmt) (sc : Scope) : Prop where
  fi : findIn K (.ref C) "__init__" = some (some (.ref fI))
  ty : typeIn K (.ref fI) = some (.type "function")
  fn : ∃ (oc : Value) (od : Option Addr) (qual : Str) (dV kV doc pm : Value) (an : Option Addr) (cda : Addr) (ct : Value) (osl : Array (Option Value)) (cc : Addr),
    K.lookup fI = some ⟨oc, od, .func (ksFn "__init__" qual args body sc .none .none doc pm an (.ref cda) ct cc), osl⟩ ∧ codeIn K (.ref cda) qual = true ∧
    (∃ ccl cdd vs ccs file tf, K.lookup cda = some ⟨ccl, cdd, .fields vs, ccs⟩ ∧ vs[2]? = some (.str file tf) ∧ ((P.main.file : Str) == file) = true) ∧
    (∃ cl cld csl, K.lookup cc = some ⟨cl, cld, .cell (some (.ref C)), csl⟩)

section
variable {prog : Program} {w : World} {A : Around} {E : Value → Shared → Prop} {s : Shared} {K : Frag} {mg mb : Str → Option Value} {C fI : Addr}

/-- such a def's scope, its names ns -/
abbrev scp (ns : List (Str × NameKind)) : Scope := { kind := .function, names := ns, isGenerator := false, isCoroutine := false, more := [] }
theorem say {ns : List (Str × NameKind)} {L f cc cda : Addr} {m : Str → Option Value} {q : Str} {x t0 : Addr} {txt : Str} {n : Nat} {q1 q2 q3 q4 q5 q6 : Pos} {fd : FuncData} {of : Obj} {ar : Arg} {body : List Stmt} {Q : Flow → Shared → Prop}
    (T : ClsT prog K C) (X : K.In s.heap) (G : s.heap.Ns mainGlobals mg) (hs : mg "super" = none) (B : s.heap.Ns builtinsNs mb) (hb : mb "super" = some (.type "super"))
    (hl : s.heap.Ns L m) (hv : m ar.arg = some (.ref x)) (hx : s.heap.get? x = some (HandSPX.excO C t0)) (hnC : x ≠ C)
    (hf : s.heap.get? f = some of) (hfd : of.data = .func fd) (hp : (fd.params.posonlyargs ++ fd.params.args).head? = some ar)
    (hcode : ∃ ccl cdd vs ccs file tf, K.lookup cda = some ⟨ccl, cdd, .fields vs, ccs⟩ ∧ vs[2]? = some (.str file tf) ∧ ((prog.main.file : Str) == file) = true)
    (hcell : ∃ cl cld csl, K.lookup cc = some ⟨cl, cld, .cell (some (.ref C)), csl⟩)
    (hks : ns.lookup ("super" : Str) = some .globalImplicit) (hkc : ns.lookup ("__class__" : Str) = some .free) (hka : ns.lookup ar.arg = some .local)
    (hpos : (q3.endLine == q5.line) = true)
    (h : ∀ h' tk t1, (∀ b o, b ≠ x → s.heap.get? b = some o → h'.get? b = some o) → h'.get? x = some (HandSPX.excO C t1) → Q .next { s with heap := h', toks := tk }) :
    _root_.PySem.wpAt (model prog w) A (.func body (ksEnv q (scp ns) L f (.ref cda) cc)) (exec (sSay txt n q1 q2 q3 q4 q5 q6) (ksEnv q (scp ns) L f (.ref cda) cc)) Q E s := by
  obtain ⟨nm, N, qn, bs, bm, hdct, sn, sub, ab, col, dd, k0, k1, k2, k3, k5, hC, hT⟩ := excInit_of X T.ex
  obtain ⟨ccl, cdd, vs, ccs, file, tf, hc1, hc2, hc3⟩ := hcode
  obtain ⟨cl, cld, csl, hcc⟩ := hcell
  have I : InstAt s.heap x (HandSPX.excO C t0) C none := ⟨hx, rfl, rfl, trivial⟩
  obtain ⟨hp0, g, d, t, os⟩ := s
  unfold sSay
  refine ks_wpAt_Expr_any ?_
  refine ks_wpAt_MethodCall (pl := do return (← importBound (.Call (.Name "super" q1) [] [] q2) (ksEnv q (scp ns) L f (.ref cda) cc)).getD true) ?_ (by
    rw [arm_eval_Call]
    unfold methodCall methodCallPos calleeOf
    rw [show (methodCallForm ([Expr.Constant (Const.str txt) n q4].length + ([] : List Keyword).length) (backTo q5 (starEach [Expr.Constant (Const.str txt) n q4] (ksEnv q (scp ns) L f (.ref cda) cc))) (backToKw q5 (keywordEach [] (ksEnv q (scp ns) L f (.ref cda) cc)))) = true from rfl, hpos]
    simp only [Bool.not_true, Bool.false_or, if_true, pure_bind]
    rfl)
  refine ks_wpAt_super_base (env := ksEnv q (scp ns) L f (.ref cda) cc) hks hkc rfl rfl hf hfd hp rfl (X _ _ hc1) rfl hc2 hc3 T.file ?_
  refine ks_loadName_global rfl hks (loadGlobal_builtin (env := ksEnv q (scp ns) L f (.ref cda) cc) G hs B hb ⟨rfl, ?_⟩)
  refine wpAny_loadName_free rfl hkc rfl ⟨_, X _ _ hcc, rfl⟩ ?_
  refine wpAny_loadName_local rfl hka hl hv ?_
  refine ks_wpAny_isType_cls hC rfl ⟨rfl, ?_⟩
  refine ks_wpAny_call_super hC rfl hx rfl (fun c z => nomatch z) (looks_mroIn X T.mr) (fun h1 e1 k1 => ?_)
  have X1 : K.In h1 := X.keeps k1
  have I1 : InstAt h1 x (HandSPX.excO C t0) C none := ⟨k1 _ _ hx, rfl, rfl, trivial⟩
  have su := T.su
  unfold ks_superIn at su
  cases hc : clsIn K C with
  | none => rw [hc] at su; cases su
  | some cd =>
    rw [hc] at su
    refine PySem.ESX.getMethod_super e1 (looks_opaque X1 T.op) (l₀ := cd.mro) (fun A Q E s k z => wpAny_bind ((looks_clsIn X1 hc) A _ E s k (wpAny_pure z))) rfl X1 su hnC rfl (I1.type.andThen (looks_subIn X1 T.sE)) ?_
    refine PySem.ESX.callWith_bound (x := x) ?_
    show wpAny _ _ (spliced ((false, eval (.Constant (.str txt) n q4) (ksEnv q (scp ns) L f (.ref cda) cc)) :: [])) _ _ _
    refine spliced_cons (Constant_str (spliced_nil ⟨Heap.get?_push_size h1 rfl, ?_⟩))
    have kb : ∀ b o, hp0.get? b = some o → (h1.push (ESX.bw x)).get? b = some o := fun b o z => Heap.get?_push_of_some _ (k1 b o z)
    refine PySem.ESX.call_bw (C := C) (e := x) (kb _ _ hC) (kb _ _ hx) (Heap.get?_push_size h1 rfl) (by rw [sizeLine_eq]; exact (by decide : 1 ≤ 16777216)) fun h' t1 kk hx' => ?_
    exact h h' _ t1 (fun b o hb z => kk b o hb (kb b o z)) hx'

/-- self.f = v, the first field of an exception that has none -/
theorem keep {env : Env} {m : Str → Option Value} {f : Str} {x t0 : Addr} {v : Value} {q1 q2 q3 q4 : Pos} {Q : Flow → Shared → Prop}
    (T : ClsT prog K C) (X : K.In s.heap) (hno : findIn K (.ref C) f = some none) (hx : s.heap.get? x = some (HandSPX.excO C t0))
    (hl : s.heap.Ns env.locals m) (hf : m f = some v) (hs : m "self" = some (.ref x)) (hk : env.scope.kind = .function) (lf : env.kindOf f = some .local) (ls : env.kindOf "self" = some .local) (hd : (f == ("__debug__" : Str)) = false)
    (hsw : swapsWith (.Name f q3) (some (.Attribute (.Name "self" q1) f q2)) q4.line env = pure false)
    (h : ∀ h' tk dx, (∀ b o, b ≠ x → s.heap.get? b = some o → h'.get? b = some o) → s.heap.objs.size ≤ dx → dx ≠ x →
      h'.get? x = some { cls := .ref C, dict := some dx, data := .fields #[.ref t0, .none, .none, .none, .bool false, .none] } → h'.Ns1 dx (fun y => if y = f then some v else none) → Q .next { s with heap := h', toks := tk }) :
    wpAny (model prog w) A (exec (sKeep f q1 q2 q3 q4) env) Q E s := by
  unfold sKeep
  refine plainObj_wpAny_Assign_Attribute ?_ hsw
  refine wpAny_Name (wpAny_loadName_local hk lf hl hf ?_) hd
  refine wpAny_Name (wpAny_loadName_local hk ls hl hs ?_)
  refine set_plain X (ox := HandSPX.excO C t0) (od := none) ⟨hx, rfl, rfl, trivial⟩ T.sa ?_
  obtain ⟨cd, hc, hd'⟩ := any_some T.hd
  have ht : takerIn K C f = some none := by unfold takerIn; rw [hno] <;> rfl
  refine osa_openX (s := { s with toks := s.toks + 1 }) (od := none) F.store_Exception X ⟨hx, rfl, rfl, trivial⟩ T.ov ht fun b => ?_
  have hxs : x ≠ s.heap.objs.size := Nat.ne_of_lt (Heap.lt_size hx)
  refine wpAny_bind (wpAny_pure (wpAny_bind (instanceDict_exc (t := t0) (c2 := .none) hx (looks_clsIn X hc) hd' ?_)))
  show wpAny _ _ (storeInDict s.heap.objs.size (.str f s.toks) f v) _ _ _
  refine HandSPX.store_in_new ⟨_, #[], _, (Heap.get?_update_ne _ _ _ _ hxs.symm).trans (Heap.get?_push_size _ rfl), rfl, fun e he => absurd he (by simp), fun _ => rfl⟩ fun h' tk' hn' hs' => ?_
  have e1 : (s.heap.push (dictOf [] 0)).get? x = some (HandSPX.excO C t0) := Heap.get?_push_of_some _ hx
  refine h h' tk' s.heap.objs.size (fun b o hb ho => ?_) (Nat.le_refl _) hxs.symm ?_ hn'
  · exact (hs'.2 b (Nat.ne_of_lt (Heap.lt_size ho))).trans ((Heap.get?_update_ne _ _ _ _ hb).trans (Heap.get?_push_of_some _ ho))
  · exact (hs'.2 x hxs).trans (Heap.get?_update_self _ e1 rfl)
end
end PySem.EX

set_option Elab.async false
set_option linter.all false
set_option maxRecDepth 100000
set_option maxHeartbeats 4000000
/-! An own exception class called, by position and by name. -/
namespace PySem.EX
open PySem PySem.W PySem.Calls PyProof.Rows Builtin Builtin.ObjectAttr PySem.HandSPX
section
variable {prog : Program} {w : World} {M : Model} {A : Around} {E : Value → Shared → Prop} {R : Result → Shared → Prop} {h : Heap} {g : Array GenState} {d : Drawn} {t : Nat} {os : OsState}
variable {nm q : Str} {C N : Addr} {bs bm bmB : List Value} {hdct : Bool} {sn : List Str} {sub : List Value} {ab : Bool} {col : Option Bool} {dd : Option Addr} {k0 k1 k2 k3 k5 : Option Value} {B newId initId : String}

theorem chk_new (F : ExcBaseFacts B newId initId bmB) (hT : ∀ X : String, bm.contains (.type X) = bmB.contains (.type X)) {rest : List Value} {kw : List (Str × Value)} {Q : Unit → Shared → Prop}
    (hC : h.get? C = some (excClassObj nm q C N bs bm hdct sn sub ab col dd k0 k1 k2 k3 k5 newId)) (hq : Q () ⟨h, g, d, t, os⟩) : wpAny M A (checkBuiltinCall newId ⟨.ref C :: rest, kw⟩) Q E ⟨h, g, d, t, os⟩ := by
  have e1 : (Value.ref C :: bm).contains (.type B) = true := by rw [List.contains_cons, hT, F.hasB, Bool.or_true]
  have e2 := F.noStar
  simp only [checkBuiltinCall, F.newKind, F.newSplit, F.newRow]
  repeat (first
    | refine wpAny_loadPart_at hC ?_
    | (refine wpAny_isSubtype_exc hC ?_; rw [e1])
    | refine wpAny_staticBase_exc hC ?_
    | refine wpAny_madeBy_exc hC ?_
    | simp only [bne_self_eq_false, Bool.false_eq_true, if_false]
    | wp_step)
  all_goals exact hq

theorem mk_new (F : ExcBaseFacts B newId initId bmB) (hT : ∀ X : String, bm.contains (.type X) = bmB.contains (.type X)) {rest : List Value} {kw : List (Str × Value)} (hz : rest.length ≤ sizeLine)
    (hC : h.get? C = some (excClassObj nm q C N bs bm hdct sn sub ab col dd k0 k1 k2 k3 k5 newId))
    (hq : R (.ok (.ret (.ref (h.objs.size + 1)))) ⟨(h.push (kdv_tup rest)).push (excO C h.objs.size), g, d, t, os⟩) :
    codeAny (model prog w) A (.builtin newId ⟨.ref C :: rest, kw⟩) R ⟨h, g, d, t, os⟩ := by
  have e0 := F.ends
  have e1 : (Value.ref C :: bm).contains (.type B) = true := by rw [List.contains_cons, hT, F.hasB, Bool.or_true]
  have e2 : (Value.ref C :: bm).contains (.type "AttributeError") = false := by rw [List.contains_cons, hT, F.noAttr] <;> rfl
  have e3 : (Value.ref C :: bm).contains (.type "NameError") = false := by rw [List.contains_cons, hT, F.noName] <;> rfl
  refine codeAny_builtinAt F.entry (show _root_.PySem.wpAt _ _ _ (Builtin.«BaseException.__new__» _) _ _ _ from ?_)
  unfold Builtin.«BaseException.__new__»
  refine wpAt_bind (show _root_.PySem.wpAt _ _ _ (stack >>= _) _ _ _ from wpAt_bind (wpAt_stack fun _ _ => wpAt_of_wpAny ?_))
  wp_walk
  refine wpAt_of_wpAny ?_; rw [F.owner]
  repeat (first
    | with_reducible refine wpAny_madeHere_exc F.canon hC ?_
    | with_reducible refine wpAny_loadPart_at hC ?_
    | (with_reducible refine wpAny_isSubtype_exc hC ?_
       first | rw [e1] | rw [e2] | rw [e3])
    | wp_step)
  show R _ _; rw [Heap.size_push]; exact hq

theorem mk_type (F : ExcBaseFacts B newId initId bmB) (hT : ∀ X : String, bm.contains (.type X) = bmB.contains (.type X)) {rest : List Value} {kw : List (Str × Value)} {fI : Addr} {Q : Fin → Shared → Prop} (hz : rest.length ≤ sizeLine)
    (hC : h.get? C = some (excClassObj nm q C N bs bm hdct sn sub ab col dd k0 k1 k2 k3 k5 newId))
    (hi : W.Looks (model prog w) h (typeLookup (.ref C) "__init__") (some (.ref fI))) (hb : ∀ self, W.Looks (model prog w) h (bindSpecial (.ref fI) self) (.ref fI, [self]))
    (hq : codeAny (model prog w) A (.call (.ref fI) ⟨.ref (h.objs.size + 1) :: rest, kw⟩)
      (fun r s' => match r with | .ok (.ret v) => v = .none ∧ Q (.done (.ret (.ref (h.objs.size + 1)))) s' | .ok _ => False | .error e => E e s')
      ⟨(h.push (kdv_tup rest)).push (excO C h.objs.size), g, d, t, os⟩) :
    wpAny (model prog w) A (Builtin.«type.__call__» ⟨.ref C :: rest, kw⟩) Q E ⟨h, g, d, t, os⟩ := by
  repeat (first
    | with_reducible refine wpAny_loadPart_at hC ?_
    | with_reducible refine wpAny_madeBy_exc hC ?_
    | wp_step)
  refine codeAny_call_builtin_code (Code.quiet_builtin _ F.quiet) (chk_new F hT hC (mk_new F hT hz hC (show wpAny _ _ _ _ _ _ from ?_)))
  have kk : ∀ b o, h.get? b = some o → ((h.push (kdv_tup rest)).push (excO C h.objs.size)).get? b = some o := fun b o e => Heap.get?_push_of_some _ (Heap.get?_push_of_some _ e)
  have c1 := kk _ _ hC
  have c2 : ((h.push (kdv_tup rest)).push (excO C h.objs.size)).get? (h.objs.size + 1) = some (excO C h.objs.size) := by heap_get
  have c3 : (Value.ref C :: bm).contains (.ref C) = true := by simp
  unfold isInstance
  repeat (first
    | with_reducible refine wpAny_loadPart_at c2 ?_
    | (with_reducible refine wpAny_isSubtype_exc c1 ?_
       rw [c3])
    | wp_step)
  refine (show wpAny _ _ (typeLookup (.ref C) _) _ _ _ from (hi.keeps kk).at (wpAny_holding (wpAny_bind (((hb (.ref (h.objs.size + 1))).keeps kk).at ?_))))
  refine wpAny_bind (wpAny_call (codeAny_mono hq fun r s' z => ?_))
  cases r with
  | error e => exact z
  | ok fl =>
    cases fl with
    | ret v =>
      obtain ⟨rfl, z⟩ := z
      first | exact wpAny_pure (wpAny_pure z) | (wp_walk; exact z)
    | next => exact z.elim
    | brk => exact z.elim
    | cont => exact z.elim

theorem chk_type {rest : List Value} {kw : List (Str × Value)} {Q : Unit → Shared → Prop} (hC : h.get? C = some (excClassObj nm q C N bs bm hdct sn sub ab col dd k0 k1 k2 k3 k5 newId)) (hq : Q () ⟨h, g, d, t, os⟩) :
    wpAny M A (checkBuiltinCall "type.__call__" ⟨.ref C :: rest, kw⟩) Q E ⟨h, g, d, t, os⟩ := by
  have e1 := tc_sub
  have e2 : (⟨h, g, d, t, os⟩ : Shared).TypeIs (.ref C) "type" := ⟨_, hC, rfl⟩
  simp only [checkBuiltinCall, tc_kind, tc_split]
  repeat (any_goals (first
    | assumption
    | with_reducible refine wpAny_loadPart_at hC ?_
    | with_reducible refine wpAny_onRaise ?_
    | with_reducible refine wpAny_map ?_
    | wp_step))

theorem mk_call (F : ExcBaseFacts B newId initId bmB) (hT : ∀ X : String, bm.contains (.type X) = bmB.contains (.type X)) {rest : List Value} {kw : List (Str × Value)} {fI : Addr} (hz : rest.length ≤ sizeLine)
    (hC : h.get? C = some (excClassObj nm q C N bs bm hdct sn sub ab col dd k0 k1 k2 k3 k5 newId))
    (hi : W.Looks (model prog w) h (typeLookup (.ref C) "__init__") (some (.ref fI))) (hb : ∀ self, W.Looks (model prog w) h (bindSpecial (.ref fI) self) (.ref fI, [self]))
    (hq : codeAny (model prog w) (A.under (.builtin "type.__call__" ⟨.ref C :: rest, kw⟩)) (.call (.ref fI) ⟨.ref (h.objs.size + 1) :: rest, kw⟩) (W.InitBack (h.objs.size + 1) R)
      ⟨(h.push (kdv_tup rest)).push (excO C h.objs.size), g, d, t, os⟩) :
    codeAny (model prog w) A (.call (.ref C) ⟨rest, kw⟩) R ⟨h, g, d, t, os⟩ := by
  have e1 := tc_lookup
  have e2 := tc_bind (.ref C)
  have e3 : (⟨h, g, d, t, os⟩ : Shared).TypeIs (.ref C) "type" := ⟨_, hC, rfl⟩
  refine codeAny_of_tree (show wpAny _ _ (callAny (.ref C) _) _ _ _ from ?_)
  repeat (any_goals (first
    | assumption
    | with_reducible refine wpAny_loadPart_at hC ?_
    | wp_step))
  refine ⟨rfl, codeAny_call_builtin_at (Code.quiet_builtin _ (by decide +kernel)) entry_typeCall ?_⟩
  refine chk_type hC (mk_type F hT hz hC hi hb (codeAny_mono hq fun r s' z => ?_))
  cases r with
  | error e => exact z
  | ok fl => cases fl <;> exact z
end
end PySem.EX

set_option Elab.async false
set_option linter.all false
set_option maxRecDepth 100000
set_option maxHeartbeats 4000000
/-! An own exception made: what stands behind it. -/
namespace PySem.EX
open PySem PySem.W PySem.Calls PyProof.Rows Builtin Builtin.ObjectAttr PySem.HandSPX

/-- the names of a making with the parameter f, of one without -/
abbrev ns1 (f : Str) : List (Str × NameKind) := [("self", .local), (f, .local), ("__class__", .free), ("super", .globalImplicit)]
abbrev ns0 : List (Str × NameKind) := [("self", .local), ("__class__", .free), ("super", .globalImplicit)]
abbrev aA0 (p1 : Pos) : Arguments := { posonlyargs := [], args := [⟨"self", none, p1⟩], vararg := none, kwonlyargs := [], kw_defaults := [], kwarg := none, defaults := [] }
/-- the six names of parameters that the errors have -/
def fNames : List Str := ["thing", "number", "at", "pairing", "certificate", "place"]

/-- a made error with a field, one without -/
structure Made1 (h h' : Heap) (e C d : Addr) (f : Str) (v : Value) : Prop where
  keep : ∀ b o, h.get? b = some o → h'.get? b = some o
  new : h.objs.size ≤ e
  obj : ∃ t, h'.get? e = some { cls := .ref C, dict := some d, data := .fields #[.ref t, .none, .none, .none, .bool false, .none] }
  dbig : h.objs.size ≤ d
  dne : d ≠ e
  ns : h'.Ns1 d (fun y => if y = f then some v else none)
structure Made0 (h h' : Heap) (e C : Addr) : Prop where
  keep : ∀ b o, h.get? b = some o → h'.get? b = some o
  new : h.objs.size ≤ e
  obj : ∃ t, h'.get? e = some (excO C t)

/-- the making's def, as it stands behind the top -/
structure Fn1 (P : Program) (K : Frag) (C fI : Addr) (f : Str) : Prop where
  fi : findIn K (.ref C) "__init__" = some (some (.ref fI))
  ty : typeIn K (.ref fI) = some (.type "function")
  no : findIn K (.ref C) f = some none
  fn : ∃ (oc : Value) (od : Option Addr) (qual txt : Str) (doc pm : Value) (an : Option Addr) (cda : Addr) (ct : Value) (osl : Array (Option Value)) (cc : Addr) (p1 p2 q1 q2 q3 q4 q5 q6 r1 r2 r3 r4 : Pos),
    K.lookup fI = some ⟨oc, od, .func (ksFn "__init__" qual (aA f p1 p2) [sSay txt 0 q1 q2 q3 q4 q5 q6, sKeep f r1 r2 r3 r4] (scp (ns1 f)) .none .none doc pm an (.ref cda) ct cc), osl⟩ ∧ codeIn K (.ref cda) qual = true ∧ (q3.endLine == q5.line) = true ∧
    (∃ ccl cdd vs ccs file tf, K.lookup cda = some ⟨ccl, cdd, .fields vs, ccs⟩ ∧ vs[2]? = some (.str file tf) ∧ ((P.main.file : Str) == file) = true) ∧
    (∃ cl cld csl, K.lookup cc = some ⟨cl, cld, .cell (some (.ref C)), csl⟩)
structure Fn0 (P : Program) (K : Frag) (C fI : Addr) : Prop where
  fi : findIn K (.ref C) "__init__" = some (some (.ref fI))
  ty : typeIn K (.ref fI) = some (.type "function")
  fn : ∃ (oc : Value) (od : Option Addr) (qual txt : Str) (doc pm : Value) (an : Option Addr) (cda : Addr) (ct : Value) (osl : Array (Option Value)) (cc : Addr) (p1 q1 q2 q3 q4 q5 q6 : Pos),
    K.lookup fI = some ⟨oc, od, .func (ksFn "__init__" qual (aA0 p1) [sSay txt 0 q1 q2 q3 q4 q5 q6] (scp ns0) .none .none doc pm an (.ref cda) ct cc), osl⟩ ∧ codeIn K (.ref cda) qual = true ∧ (q3.endLine == q5.line) = true ∧
    (∃ ccl cdd vs ccs file tf, K.lookup cda = some ⟨ccl, cdd, .fields vs, ccs⟩ ∧ vs[2]? = some (.str file tf) ∧ ((P.main.file : Str) == file) = true) ∧
    (∃ cl cld csl, K.lookup cc = some ⟨cl, cld, .cell (some (.ref C)), csl⟩)

section
variable {prog : Program} {w : World} {A : Around} {R : Result → Shared → Prop} {s : Shared} {K : Frag} {mg mb : Str → Option Value} {C fI : Addr} {f : Str}

theorem init1 (T : ClsT prog K C) (F1 : Fn1 prog K C fI f) (hf : f ∈ fNames) {args : Args} {x t0 : Addr} {v : Value} (X : K.In s.heap) (hlim : s.heap.NoLimit) (G : s.heap.Ns mainGlobals mg) (hs : mg "super" = none) (B : s.heap.Ns builtinsNs mb) (hb : mb "super" = some (.type "super"))
    (ha : args = ⟨[.ref x, v], []⟩ ∨ args = ⟨[.ref x], [(f, v)]⟩) (hx : s.heap.get? x = some (excO C t0)) (hnx : K.lookup x = none) (hnC : x ≠ C) (hroom : A.depth < recursionLimit)
    (hq : ∀ h' tk dx t1, (∀ b o, b ≠ x → s.heap.get? b = some o → h'.get? b = some o) → s.heap.objs.size ≤ dx → dx ≠ x → h'.get? x = some { cls := .ref C, dict := some dx, data := .fields #[.ref t1, .none, .none, .none, .bool false, .none] } →
      h'.Ns1 dx (fun y => if y = f then some v else none) → R (.ok (.ret .none)) { s with heap := h', toks := tk }) :
    codeAny (model prog w) A (.call (.ref fI) args) R s := by
  obtain ⟨oc, od, qual, txt, doc, pm, an, cda, ct, osl, cc, p1, p2, q1, q2, q3, q4, q5, q6, r1, r2, r3, r4, ho, hcd, hpos, hcode, hcell⟩ := F1.fn
  have hfs : (("self" : Str) == f) = false ∧ (f == ("self" : Str)) = false ∧ (f == ("__debug__" : Str)) = false := by
    simp only [fNames, List.mem_cons, List.not_mem_nil, or_false] at hf
    rcases hf with rfl | rfl | rfl | rfl | rfl | rfl <;> decide +kernel
  have hbind : BindsTo s (ksFn "__init__" qual (aA f p1 p2) [sSay txt 0 q1 q2 q3 q4 q5 q6, sKeep f r1 r2 r3 r4] (scp (ns1 f)) .none .none doc pm an (.ref cda) ct cc) args [("self", .ref x), (f, v)] := by
    refine BindsTo.of_eq ?_
    simp only [fNames, List.mem_cons, List.not_mem_nil, or_false] at hf
    rcases ha with rfl | rfl <;> rcases hf with rfl | rfl | rfl | rfl | rfl | rfl <;> rfl
  have lf : (ns1 f).lookup f = some .local := by simp [ns1, List.lookup, hfs.2.1]
  have lk : (ns1 f).lookup ("super" : Str) = some .globalImplicit ∧ (ns1 f).lookup ("__class__" : Str) = some .free := by
    simp only [fNames, List.mem_cons, List.not_mem_nil, or_false] at hf
    rcases hf with rfl | rfl | rfl | rfl | rfl | rfl <;> exact ⟨rfl, rfl⟩
  refine ks_codeAny_call_defAt hroom (X _ _ ho) rfl hlim (codeRec_of X hcd) rfl hbind ?_ ?_ (fun h₁ hns hk₁ => ?_) rfl rfl rfl
  · intro y hy
    simp only [ns1, List.mem_cons, List.not_mem_nil, or_false] at hy
    rcases hy with rfl | rfl | rfl | rfl <;> exact fun z => nomatch z
  · intro y hy
    simp only [List.mem_cons, List.not_mem_nil, or_false] at hy
    rcases hy with rfl | rfl
    · rfl
    · exact lf
  have m1 : ([(("self" : Str), Value.ref x), (f, v)]).reverse.lookup ("self" : Str) = some (Value.ref x) := by simp [List.lookup, hfs.1]
  have m2 : ([(("self" : Str), Value.ref x), (f, v)]).reverse.lookup f = some v := by simp [List.lookup]
  show _root_.PySem.wpAt _ _ (.func _ (ksEnv qual (scp (ns1 f)) s.heap.objs.size fI (.ref cda) cc)) (execs _ (ksEnv qual (scp (ns1 f)) s.heap.objs.size fI (.ref cda) cc)) _ _ _
  refine ks_wpAt_execs_cons ?_
  have hL : s.heap.objs.size ≠ x := Nat.ne_of_gt (Heap.lt_size hx)
  refine say (s := { s with heap := h₁, toks := s.toks + 2 }) (ar := ⟨"self", none, p1⟩) T (X.keeps hk₁) (G.keeps hk₁) hs (B.keeps hk₁) hb hns m1 (hk₁ _ _ hx) hnC (hk₁ _ _ (X _ _ ho)) rfl rfl hcode hcell lk.1 lk.2 rfl hpos fun h₂ tk₂ t1 k2 hx2 => ?_
  have X2 : K.In h₂ := fun a o e => k2 a o (fun z => by rw [z, hnx] at e; cases e) (X.keeps hk₁ a o e)
  have hns2 : h₂.Ns s.heap.objs.size (fun y => ([(("self" : Str), Value.ref x), (f, v)]).reverse.lookup y) := by
    obtain ⟨o, es, ep, e, r⟩ := hns
    exact ⟨o, es, ep, k2 _ _ hL e, r⟩
  refine wpAt_of_wpAny (wpAny_execs_cons ?_)
  refine keep (s := { s with heap := h₂, toks := tk₂ }) (env := ksEnv qual (scp (ns1 f)) s.heap.objs.size fI (.ref cda) cc) T X2 F1.no hx2 hns2 m2 m1 rfl lf rfl hfs.2.2 ?_ fun h₃ tk₃ dx k3 dn dne hx3 hn3 => ?_
  · simp only [fNames, List.mem_cons, List.not_mem_nil, or_false] at hf
    rcases hf with rfl | rfl | rfl | rfl | rfl | rfl <;> rfl
  have z1 : s.heap.objs.size < h₂.objs.size := by
    obtain ⟨o, es, ep, e, r⟩ := hns2
    exact Heap.lt_size e
  exact wpAny_execs_nil (hq h₃ tk₃ dx t1 (fun b o hb e => k3 b o hb (k2 b o hb (hk₁ b o e))) (Nat.le_of_lt (Nat.lt_of_lt_of_le z1 dn)) dne hx3 hn3)

theorem init0 (T : ClsT prog K C) (F0 : Fn0 prog K C fI) {x t0 : Addr} (X : K.In s.heap) (hlim : s.heap.NoLimit) (G : s.heap.Ns mainGlobals mg) (hs : mg "super" = none) (B : s.heap.Ns builtinsNs mb) (hb : mb "super" = some (.type "super"))
    (hx : s.heap.get? x = some (excO C t0)) (hnC : x ≠ C) (hroom : A.depth < recursionLimit)
    (hq : ∀ h' tk t1, (∀ b o, b ≠ x → s.heap.get? b = some o → h'.get? b = some o) → h'.get? x = some (excO C t1) → R (.ok (.ret .none)) { s with heap := h', toks := tk }) :
    codeAny (model prog w) A (.call (.ref fI) ⟨[.ref x], []⟩) R s := by
  obtain ⟨oc, od, qual, txt, doc, pm, an, cda, ct, osl, cc, p1, q1, q2, q3, q4, q5, q6, ho, hcd, hpos, hcode, hcell⟩ := F0.fn
  refine ks_codeAny_call_defAt (binds := [("self", .ref x)]) hroom (X _ _ ho) rfl hlim (codeRec_of X hcd) rfl (BindsTo.of_eq rfl) (show ∀ y ∈ ns0, y.2 ≠ NameKind.cell by decide) ?_ (fun h₁ hns hk₁ => ?_) rfl rfl rfl
  · intro y hy
    simp only [List.mem_cons, List.not_mem_nil, or_false] at hy
    subst hy
    rfl
  show _root_.PySem.wpAt _ _ (.func _ (ksEnv qual (scp ns0) s.heap.objs.size fI (.ref cda) cc)) (execs _ (ksEnv qual (scp ns0) s.heap.objs.size fI (.ref cda) cc)) _ _ _
  refine ks_wpAt_execs_cons ?_
  refine say (s := { s with heap := h₁, toks := s.toks + 1 }) (ar := ⟨"self", none, p1⟩) T (X.keeps hk₁) (G.keeps hk₁) hs (B.keeps hk₁) hb hns (by rfl) (hk₁ _ _ hx) hnC (hk₁ _ _ (X _ _ ho)) rfl rfl hcode hcell rfl rfl rfl hpos fun h₂ tk₂ t1 k2 hx2 => ?_
  exact wpAt_of_wpAny (wpAny_execs_nil (hq h₂ tk₂ t1 (fun b o hb e => k2 b o hb (hk₁ b o e)) hx2))

theorem one_le (v : Value) : [v].length ≤ sizeLine := by rw [sizeLine_eq]; exact (by decide : 1 ≤ 16777216)

theorem made1 (T : ClsT prog K C) (F1 : Fn1 prog K C fI f) (hf : f ∈ fNames) {rest : List Value} {kw : List (Str × Value)} {v : Value} (X : K.In s.heap) (hlim : s.heap.NoLimit) (G : s.heap.Ns mainGlobals mg) (hs : mg "super" = none) (B : s.heap.Ns builtinsNs mb) (hb : mb "super" = some (.type "super"))
    (ha : (rest = [v] ∧ kw = []) ∨ (rest = [] ∧ kw = [(f, v)])) (hroom : A.depth + 1 < recursionLimit)
    (hq : ∀ h' tk e d, Made1 s.heap h' e C d f v → R (.ok (.ret (.ref e))) { s with heap := h', toks := tk }) : codeAny (model prog w) A (.call (.ref C) ⟨rest, kw⟩) R s := by
  obtain ⟨nm, N, qn, bs, bm, hdct, sn, sub, ab, col, dd, k0, k1, k2, k3, k5, hC, hT⟩ := excInit_of X T.ex
  obtain ⟨hp, g, dr, tk, os⟩ := s
  have kk : ∀ b o, hp.get? b = some o → ((hp.push (kdv_tup rest)).push (excO C hp.objs.size)).get? b = some o := fun b o e => Heap.get?_push_of_some _ (Heap.get?_push_of_some _ e)
  have hget : ((hp.push (kdv_tup rest)).push (excO C hp.objs.size)).get? (hp.objs.size + 1) = some (excO C hp.objs.size) := by heap_get
  have hnx : K.lookup (hp.objs.size + 1) = none := by
    cases e : K.lookup (hp.objs.size + 1) with
    | none => rfl
    | some o => exact absurd (Nat.lt_of_succ_lt (Heap.lt_size (show hp.get? (hp.objs.size + 1) = some o from X _ _ e))) (Nat.lt_irrefl _)
  have hnC : hp.objs.size + 1 ≠ C := fun z => absurd (Nat.lt_of_succ_lt (Heap.lt_size (show hp.get? (hp.objs.size + 1) = some _ from z ▸ hC))) (Nat.lt_irrefl _)
  have hz : rest.length ≤ sizeLine := by
    rcases ha with ⟨rfl, _⟩ | ⟨rfl, _⟩
    · exact one_le v
    · exact Nat.zero_le _
  refine mk_call F.excBase_Exception hT hz hC (looks_findIn X F1.fi) (fun self => bind_fn X self F1.ty) ?_
  refine init1 (s := ⟨(hp.push (kdv_tup rest)).push (excO C hp.objs.size), g, dr, tk, os⟩) T F1 hf (X.keeps kk) (hlim.keeps kk) (G.keeps kk) hs (B.keeps kk) hb (v := v) ?_ hget hnx hnC (show A.depth + 1 < recursionLimit from hroom) fun h' tk' dx t1 k' dn dne hx hns => ?_
  · rcases ha with ⟨rfl, rfl⟩ | ⟨rfl, rfl⟩
    · exact .inl rfl
    · exact .inr rfl
  · have z : hp.objs.size + 1 + 1 ≤ dx := by
      have q := dn
      dsimp only at q
      rw [Heap.size_push, Heap.size_push] at q
      exact q
    exact ⟨rfl, hq h' tk' (hp.objs.size + 1) dx ⟨fun b o e => k' b o (Nat.ne_of_lt (Nat.lt_succ_of_lt (Heap.lt_size e))) (kk b o e), Nat.le_succ _, ⟨t1, hx⟩, (show hp.objs.size ≤ dx by omega), dne, hns⟩⟩

theorem made0 (T : ClsT prog K C) (F0 : Fn0 prog K C fI) (X : K.In s.heap) (hlim : s.heap.NoLimit) (G : s.heap.Ns mainGlobals mg) (hs : mg "super" = none) (B : s.heap.Ns builtinsNs mb) (hb : mb "super" = some (.type "super"))
    (hroom : A.depth + 1 < recursionLimit) (hq : ∀ h' tk e, Made0 s.heap h' e C → R (.ok (.ret (.ref e))) { s with heap := h', toks := tk }) : codeAny (model prog w) A (.call (.ref C) ⟨[], []⟩) R s := by
  obtain ⟨nm, N, qn, bs, bm, hdct, sn, sub, ab, col, dd, k0, k1, k2, k3, k5, hC, hT⟩ := excInit_of X T.ex
  obtain ⟨hp, g, dr, tk, os⟩ := s
  have kk : ∀ b o, hp.get? b = some o → ((hp.push (kdv_tup [])).push (excO C hp.objs.size)).get? b = some o := fun b o e => Heap.get?_push_of_some _ (Heap.get?_push_of_some _ e)
  have hget : ((hp.push (kdv_tup [])).push (excO C hp.objs.size)).get? (hp.objs.size + 1) = some (excO C hp.objs.size) := by heap_get
  have hnC : hp.objs.size + 1 ≠ C := fun z => absurd (Nat.lt_of_succ_lt (Heap.lt_size (show hp.get? (hp.objs.size + 1) = some _ from z ▸ hC))) (Nat.lt_irrefl _)
  refine mk_call F.excBase_Exception hT (Nat.zero_le _) hC (looks_findIn X F0.fi) (fun self => bind_fn X self F0.ty) ?_
  refine init0 (s := ⟨(hp.push (kdv_tup [])).push (excO C hp.objs.size), g, dr, tk, os⟩) T F0 (X.keeps kk) (hlim.keeps kk) (G.keeps kk) hs (B.keeps kk) hb hget hnC (show A.depth + 1 < recursionLimit from hroom) fun h' tk' t1 k' hx => ?_
  exact ⟨rfl, hq h' tk' (hp.objs.size + 1) ⟨fun b o e => k' b o (Nat.ne_of_lt (Nat.lt_succ_of_lt (Heap.lt_size e))) (kk b o e), Nat.le_succ _, ⟨t1, hx⟩⟩⟩
end
end PySem.EX

set_option Elab.async false
set_option linter.all false
set_option maxRecDepth 100000
set_option maxHeartbeats 4000000
/-! Own errors over the tracked heap: made, read, asked for their class, raised. -/
namespace K0
open PySem PySem.Spec L2
open PyProof.Rows hiding St

abbrev exOb (C : Addr) (d : Option Addr) (t : Addr) : Obj := { cls := .ref C, dict := d, data := .fields #[.ref t, .none, .none, .none, .bool false, .none] }
/-- an error as a value: its class at C, its own dict d -/
def ExV (C : Addr) (d : Option Addr) (a : Addr) : HO := .ext fun h => ∃ t, h.get? a = some (exOb C d t)
theorem exv_ok {P : Program} {w : World} {H : Hp} {h : Heap} {a C t : Addr} {d : Option Addr} (e : h.get? a = some (exOb C d t)) : ObjOk P w H h a (ExV C d a) :=
  ⟨⟨t, e⟩, ⟨_, e⟩, fun _ _ ⟨t, q⟩ k => ⟨t, k _ q⟩⟩

/-- what the written part says of an own error's class -/
structure ErrC (P : Program) (K : PySem.W.Frag) (C : Addr) : Prop where
  cl : PySem.EX.ClsT P K C
  ga : PySem.W.findIn K (.ref C) "__getattribute__" = some (some (.builtin "BaseException.__getattribute__"))
  gg : PySem.W.findIn K (.ref C) "__getattr__" = some none
  eB : PySem.W.subIn K (.ref C) (.type "BaseException") = some true
  tC : PySem.W.typeIn K (.ref C) = some (.type "type")
  ha : PySem.W.findIn K (.ref C) "__class__" = some (some (.builtin "object.__class__"))
  hn : PySem.W.specialIn K (.builtin "object.__class__") "__get__" = some (some (.builtin "getset_descriptor.__get__"))
  ht : PySem.W.takesIn K (.builtin "object.__class__") = some true
  hm : PySem.W.mroIn K C (.type "object") = some true
theorem ErrC.xf {P : Program} {K : PySem.W.Frag} {C : Addr} (E : ErrC P K C) : XfC K C := ⟨E.ga, E.gg, E.eB, E.cl.hd⟩

section
variable {X : Cx} {C fI : Addr} {f x : Str} {k : Nat}
/-- the call of the class by position or by name, at the machine -/
theorem run_made1 {pins : List (Addr × Obj)} {σ : St} {H1 : Hp} {s1 : Shared} {v : V} {u : Value} {us : List Value} {kw : List (Str × Value)} {R : Value → Shared → Prop} (T : ErrC X.prog X.K C) (F1 : PySem.EX.Fn1 X.prog X.K C fI f) (hf : f ∈ PySem.EX.fNames) (hs : X.mg "super" = none) (hr : Room k X.A)
    (I1 : Inv X pins σ H1 s1) (rv : RelV v u) (ha : (us = [u] ∧ kw = []) ∨ (us = [] ∧ kw = [(f, u)]))
    (h : ∀ (a d t : Addr) (G : Heap) (h' : Heap) (tk : Nat), H1 a = none → H1 d = none → d ≠ a → Inv X pins σ (upd H1 d (.xd [(f, v)])) { s1 with heap := G, toks := tk } → (∀ b o, G.get? b = some o → h'.get? b = some o) → G.get? a = none → h'.get? a = some (exOb C (some d) t) → R (.ref a) { s1 with heap := h', toks := tk }) :
    wpAny (model X.prog X.w) X.A (call (.ref C) us kw) R X.xe s1 := by
  have hlim := I1.nolimit
  have hX := I1.kIn
  have hG : s1.heap.Ns mainGlobals X.mg := I1.mod.glob.keeps I1.bk
  obtain ⟨mb, hB, hBB⟩ := I1.mod.blt
  have hb : mb "super" = some (.type "super") := (hBB _ (by decide)).trans (by decide +kernel)
  have hB' : s1.heap.Ns builtinsNs mb := hB.keeps I1.bk
  refine wpAny_call (PySem.EX.made1 T.cl F1 hf hX hlim hG hs hB' hb ha (by have := hr.dp; omega) fun h' tk e d M => ?_)
  obtain ⟨t, ht⟩ := M.obj
  obtain ⟨G, g1, g2⟩ := restrict h' fun b => decide (b ≠ e)
  have gk : ∀ b, b ≠ e → G.get? b = h'.get? b := fun b hb => g1 b (decide_eq_true hb)
  have ge : G.get? e = none := g2 e (by simp)
  have old : ∀ b o, s1.heap.get? b = some o → G.get? b = some o := fun b o q => (gk b (Nat.ne_of_lt (Nat.lt_of_lt_of_le (Heap.lt_size q) M.new))).trans (M.keep b o q)
  have ob : ObjOk X.prog X.w (upd H1 d (.xd [(f, v)])) G d (.xd [(f, v)]) := ⟨_, M.ns.at (fun o q => (gk d M.dne).trans q), fun g => by
    by_cases hw : g = f
    · subst hw
      rw [if_pos rfl, show List.lookup g [(g, v)] = some v by simp [List.lookup]]
      exact rv
    · have qw : (g == f) = false := by simpa using hw
      rw [if_neg hw, show List.lookup g [(f, v)] = none by simp [List.lookup, qw]]
      trivial⟩
  have J : Inv X pins σ (upd H1 d (.xd [(f, v)])) { s1 with heap := G, toks := tk } := I1.laid (t' := tk) old M.dbig ob
  exact h e d t G h' tk (I1.hok.fresh M.new) (I1.hok.fresh M.dbig) M.dne J (fun b o q => by
    by_cases hb : b = e
    · rw [hb, ge] at q; cases q
    · exact (gk b hb).symm.trans q) ge ht

/-- X(e) -/
def tMk1 (C : Addr) (f : Str) (ta : TA) : TE := fun σ H Q => ta σ H fun vs H1 => ∃ v, vs = [v] ∧ ∀ a d, H1 a = none → H1 d = none → d ≠ a → Q (.ref a) (upd (upd H1 d (.xd [(f, v)])) a (ExV C (some d) a))
def tMkX1 (C : Addr) (f : Str) (ta : TA) : St → Hp → XK → Prop := fun σ H Q => ta σ H fun vs H1 => ∃ v, vs = [v] ∧ ∀ d, H1 d = none → Q (.ref C) (some d) (upd H1 d (.xd [(f, v)]))
theorem fin1 {pins : List (Addr × Obj)} {σ : St} {H1 : Hp} {s1 : Shared} {v : V} {Q : VK} {a d t : Addr} {G h' : Heap} {tk : Nat} (na : H1 a = none) (nd : d ≠ a) (J : Inv X pins σ (upd H1 d (.xd [(f, v)])) { s1 with heap := G, toks := tk })
    (k : ∀ b o, G.get? b = some o → h'.get? b = some o) (ga : G.get? a = none) (ha : h'.get? a = some (exOb C (some d) t)) (q : Q (.ref a) (upd (upd H1 d (.xd [(f, v)])) a (ExV C (some d) a))) : EP X pins σ Q (.ref a) { s1 with heap := h', toks := tk } :=
  ⟨.ref a, _, J.laidN (t' := tk) k ga (by rw [upd_ne nd.symm]; exact na) (exv_ok ha), rfl, q⟩
theorem finX {pins : List (Addr × Obj)} {σ : St} {H1 : Hp} {s1 : Shared} {v : V} {Q : XK} {a d t : Addr} {G h' : Heap} {tk : Nat} (T : ErrC X.prog X.K C) (bare : AllBare s1.gens) (na : H1 a = none) (nd : d ≠ a) (J : Inv X pins σ (upd H1 d (.xd [(f, v)])) { s1 with heap := G, toks := tk })
    (k : ∀ b o, G.get? b = some o → h'.get? b = some o) (ga : G.get? a = none) (ha : h'.get? a = some (exOb C (some d) t)) (q : Q (.ref C) (some d) (upd H1 d (.xd [(f, v)]))) : MkP X pins σ Q (.ref a) { s1 with heap := h', toks := tk } :=
  ⟨a, _, _, { s1 with heap := G, toks := tk }, _, .ref C, some d, rfl, J, k, ga, ha, ⟨rfl, rfl⟩, rfl, rfl, by rw [upd_ne nd.symm]; exact na, rfl, bare, raises_own T.eB T.tC, q⟩

section
variable {e : Expr} {ta : TA} {p pos : Pos} (T : ErrC X.prog X.K C) (F1 : PySem.EX.Fn1 X.prog X.K C fI f) (hf : f ∈ PySem.EX.fNames) (hs : X.mg "super" = none) (hr : Room k X.A) (hm : X.mg x = some (.ref C))
include T F1 hf hs hr hm
theorem pe_mk1 (ha : PA X [e] ta) (hg : Gl X x := by rfl) (he : starEach [e] X.env = (false, eval e X.env) :: starEach [] X.env := by rfl) (hpl : (backTo pos (starEach [] X.env)).any (·.1) = false := by rfl) (hdb : (x == ("__debug__" : Str)) = false := by decide) :
    PE X (.Call (.Name x p) [e] [] pos) (tMk1 C f ta) := by
  refine ⟨fun pins s σ H Q I h => ?_⟩
  refine wpAny_Call_Name_kw (ld_glob I hg hm ?_ hdb)
  refine PySem.W.callWith_K (h₀ := X.base) I.ok.mod.kin T.cl.kp (thn (ha.run pos pins s σ H _ I h) fun us s1 hh => ?_) he hpl
  obtain ⟨vs, H1, I1, r1, v, rfl, q1⟩ := hh
  obtain ⟨u, rfl, ru⟩ := vals1 r1
  exact ⟨I1.kIn, run_made1 T F1 hf hs hr I1 ru (.inl ⟨rfl, rfl⟩) fun a d t G h' tk na nd dne J k ga ha' => fin1 na dne J k ga ha' (q1 a d na nd dne)⟩
theorem pmk1 (ha : PA X [e] ta) (hg : Gl X x := by rfl) (he : starEach [e] X.env = (false, eval e X.env) :: starEach [] X.env := by rfl) (hpl : (backTo pos (starEach [] X.env)).any (·.1) = false := by rfl) (hdb : (x == ("__debug__" : Str)) = false := by decide) :
    PMk X (.Call (.Name x p) [e] [] pos) (tMkX1 C f ta) := by
  intro pins s σ H Q I h
  refine wpAny_Call_Name_kw (ld_glob I hg hm ?_ hdb)
  refine PySem.W.callWith_K (h₀ := X.base) I.ok.mod.kin T.cl.kp (thn (ha.run pos pins s σ H _ I h) fun us s1 hh => ?_) he hpl
  obtain ⟨vs, H1, I1, r1, v, rfl, q1⟩ := hh
  obtain ⟨u, rfl, ru⟩ := vals1 r1
  exact ⟨I1.kIn, run_made1 T F1 hf hs hr I1 ru (.inl ⟨rfl, rfl⟩) fun a d t G h' tk na nd dne J k ga ha' => finX T I1.bare na dne J k ga ha' (q1 d nd)⟩
theorem pe_mkK {kws : List Keyword} (ha : PK X kws ta) (hks : (backToKw pos (keywordEach kws X.env)).filterMap (·.1) = [f] := by rfl) (hall : (backToKw pos (keywordEach kws X.env)).all (·.1.isSome) = true := by rfl) (hg : Gl X x := by rfl)
    (hpl : ((backTo pos (starEach [] X.env)).any (·.1) || (backToKw pos (keywordEach kws X.env)).any (·.1.isNone)) = false := by rfl) (hdb : (x == ("__debug__" : Str)) = false := by decide) :
    PE X (.Call (.Name x p) [] kws pos) (tMk1 C f ta) := by
  refine ⟨fun pins s σ H Q I h => ?_⟩
  refine wpAny_Call_Name_kw (ld_glob I hg hm ?_ hdb)
  refine PySem.W.callWith_KW0 (h₀ := X.base) I.ok.mod.kin T.cl.kp hall (thn (ha.run pos pins s σ H _ I h) fun us s1 hh => ?_) hpl
  obtain ⟨vs, H1, I1, r1, v, rfl, q1⟩ := hh
  obtain ⟨u, rfl, ru⟩ := vals1 r1
  rw [hks]
  exact ⟨I1.kIn, run_made1 T F1 hf hs hr I1 ru (.inr ⟨rfl, rfl⟩) fun a d t G h' tk na nd dne J k ga ha' => fin1 na dne J k ga ha' (q1 a d na nd dne)⟩
theorem pmkK {kws : List Keyword} (ha : PK X kws ta) (hks : (backToKw pos (keywordEach kws X.env)).filterMap (·.1) = [f] := by rfl) (hall : (backToKw pos (keywordEach kws X.env)).all (·.1.isSome) = true := by rfl) (hg : Gl X x := by rfl)
    (hpl : ((backTo pos (starEach [] X.env)).any (·.1) || (backToKw pos (keywordEach kws X.env)).any (·.1.isNone)) = false := by rfl) (hdb : (x == ("__debug__" : Str)) = false := by decide) :
    PMk X (.Call (.Name x p) [] kws pos) (tMkX1 C f ta) := by
  intro pins s σ H Q I h
  refine wpAny_Call_Name_kw (ld_glob I hg hm ?_ hdb)
  refine PySem.W.callWith_KW0 (h₀ := X.base) I.ok.mod.kin T.cl.kp hall (thn (ha.run pos pins s σ H _ I h) fun us s1 hh => ?_) hpl
  obtain ⟨vs, H1, I1, r1, v, rfl, q1⟩ := hh
  obtain ⟨u, rfl, ru⟩ := vals1 r1
  rw [hks]
  exact ⟨I1.kIn, run_made1 T F1 hf hs hr I1 ru (.inr ⟨rfl, rfl⟩) fun a d t G h' tk na nd dne J k ga ha' => finX T I1.bare na dne J k ga ha' (q1 d nd)⟩
end
end
end K0

set_option Elab.async false
set_option linter.all false
set_option maxRecDepth 100000
set_option maxHeartbeats 8000000
/-! The program's looks at webs. -/
namespace K0
open PySem PySem.Spec L2
open PyProof.Rows hiding St
open KR (TupX)
abbrev pWhole : Stmt := top 13
abbrev pBelow : Stmt := top 14
abbrev pPair2 : Stmt := top 15
abbrev pTie : Stmt := top 16
abbrev pWeb : Stmt := top 17
abbrev pCheckWeb : Stmt := top 18
/-- what kind of value stands here -/
inductive VT (H : Hp) : V → String → Prop
  | non : VT H .non "NoneType"
  | bl (b : Bool) : VT H (.bl b) "bool"
  | int (i : Int) : VT H (.int i) "int"
  | str (x : Str) : VT H (.str x) "str"
  | lst {a : Addr} {xs : List V} (e : H a = some (.lst xs)) : VT H (.ref a) "list"
  | tup {a : Addr} {xs : List V} (e : TT H a xs) : VT H (.ref a) "tuple"
  | dct {a : Addr} {kvs : List (Key × V)} (e : H a = some (.dK kvs)) : VT H (.ref a) "dict"
theorem VT.ty {K : PySem.W.Frag} {H : Hp} {v : V} {t : String} (h : VT H v t) : TyX K H v (.type t) := by
  cases h with
  | non => exact .base .non
  | bl b => exact .base (.bl b)
  | int i => exact .base (.int i)
  | str x => exact .base (.str x)
  | lst e => exact .base (.lst e)
  | tup e => exact e.elim (fun e => .base (.tup e)) fun ⟨_, e⟩ => .fTuple e
  | dct e => exact .base (.dK e)
theorem VT.mono {H H' : Hp} {v : V} {t : String} (h : VT H v t) (s : Same H H') : VT H' v t := by
  cases h with
  | non => exact .non
  | bl b => exact .bl b
  | int i => exact .int i
  | str x => exact .str x
  | lst e => exact .lst (s _ _ e)
  | tup e => exact .tup (e.keep fun o q => s _ _ q)
  | dct e => exact .dct (s _ _ e)
theorem VT.kit {K : PySem.W.Frag} {H : Hp} {v : V} {t : String} (h : VT H v t) : PySem.W.kitOne K (.type t) (.type "int") = some (decide (t = "int" ∨ t = "bool")) ∧ PySem.W.kitOne K (.type t) (.type "bool") = some (decide (t = "bool")) ∧ PySem.W.kitOne K (.type t) (.type "tuple") = some (decide (t = "tuple")) := by
  cases h <;> exact ⟨kit_ty (by decide +kernel), kit_ty (by decide +kernel), kit_ty (by decide +kernel)⟩
theorem DV.vt {H : Hp} {T : Addr → Prop} {v : V} {d : PyData} (D : DV H T v d) : ∃ t, VT H v t := by
  cases D with
  | non => exact ⟨_, .non⟩
  | bl b => exact ⟨_, .bl b⟩
  | int i => exact ⟨_, .int i⟩
  | str x => exact ⟨_, .str x⟩
  | lst _ e => exact ⟨_, .lst e⟩
  | tup _ e => exact ⟨_, .tup e⟩
  | dct _ e => exact ⟨_, .dct e⟩
def wholeV : V → Bool
  | .int _ => true
  | _ => false
theorem VT.whole {H : Hp} {v : V} {t : String} (h : VT H v t) : wholeV v = decide (t = "int") := by cases h <;> rfl
def belowV (v : V) (n : Int) : Bool := match v with
  | .int i => decide (0 ≤ i) && decide (i < n)
  | _ => false
/-- isinstance(x, T) -/
theorem isi_run {K : PySem.W.Frag} {H : Hp} {v : V} {t T : String} {b : Bool} {Q : VK} (h : VT H v t) (k : PySem.W.kitOne K (.type t) (.type T) = some b) (q : Q (.bl b) H) : rIsi K [v, .ty T] H Q := ⟨v, .ty T, .type t, .type T, b, rfl, .ty T, h.ty, k, q⟩
def spWhole : Sp := fun vs H Q _ => ∃ (v : V) (t : String), vs = [v] ∧ VT H v t ∧ Q (.bl (wholeV v)) H
def spBelow : Sp := fun vs H Q _ => ∃ (v : V) (t : String) (n : Int), vs = [v, .int n] ∧ VT H v t ∧ Q (.bl (belowV v n)) H
def spIsPair : Sp := fun vs H Q _ => ∃ (a : Addr) (x y : V), vs = [.ref a] ∧ H a = some (.tup [x, y]) ∧ Q (.bl true) H
def spIsTie : Sp := fun vs H Q _ => ∃ (a : Addr) (q : Int × Int) (n : Int), vs = [.ref a, .int n] ∧ H a = some (.tup [.int q.1, .int q.2]) ∧ (0 ≤ q.1 ∧ q.1 < q.2 ∧ q.2 < n) ∧ Q (.bl true) H
/-- a web that is one -/
structure GW (H : Hp) (w : Addr) (n : Nat) (L : List (Int × Int)) : Prop where
  web : Web H w n L
  n1 : 1 ≤ n
  n2 : n ≤ 12
  bel : Bel n L
  srt : Srt L
  few : L.length ≤ 40
theorem GW.same {H H' : Hp} {w : Addr} {n : Nat} {L : List (Int × Int)} (g : GW H w n L) (s : Same H H') : GW H' w n L := ⟨g.web.same s, g.n1, g.n2, g.bel, g.srt, g.few⟩
def spIsWeb : Sp := fun vs H Q _ => ∃ (w : Addr) (n : Nat) (L : List (Int × Int)), vs = [.ref w] ∧ GW H w n L ∧ ∀ H', Same H H' → Q (.bl true) H'
def spCheckWeb : Sp := fun vs H Q _ => ∃ (w : Addr) (n : Nat) (L : List (Int × Int)), vs = [.ref w] ∧ GW H w n L ∧ ∀ H', Same H H' → Q .non H'
theorem cd_inj {n : Int} {a b : Int × Int} (ha : 0 ≤ a.1 ∧ a.1 < a.2 ∧ a.2 < n) (hb : 0 ≤ b.1 ∧ b.1 < b.2 ∧ b.2 < n) (hn : n ≤ 12) (e : cd a = cd b) : a = b := by
  obtain ⟨a1, a2⟩ := a
  obtain ⟨b1, b2⟩ := b
  unfold cd at e
  dsimp only at ha hb e
  have h1 : a1 = b1 := by omega
  have h2 : a2 = b2 := by omega
  rw [h1, h2]
/-- what is sorted in one order is one row -/
theorem srt_uniq {n : Int} (hn : n ≤ 12) : ∀ {L M : List (Int × Int)}, L.Perm M → Bel n L → Srt L → Srt M → L = M
  | [], M, p, _, _, _ => (List.nil_perm.mp p).symm
  | a :: L, [], p, _, _, _ => absurd (List.perm_nil.mp p) (by simp)
  | a :: L, b :: M, p, hb, s1, s2 => by
    obtain ⟨s1a, s1b⟩ := List.pairwise_cons.mp s1
    obtain ⟨s2a, s2b⟩ := List.pairwise_cons.mp s2
    have ab : a = b := by
      have ha : a ∈ b :: M := p.mem_iff.mp (List.mem_cons_self ..)
      have hb' : b ∈ a :: L := p.mem_iff.mpr (List.mem_cons_self ..)
      refine cd_inj (hb a (List.mem_cons_self ..)) (hb b hb') hn ?_
      have h1 : cd b ≤ cd a := by
        rcases List.mem_cons.mp ha with e | e
        · rw [e]; exact Int.le_refl _
        · exact s2a _ e
      have h2 : cd a ≤ cd b := by
        rcases List.mem_cons.mp hb' with e | e
        · rw [e]; exact Int.le_refl _
        · exact s1a _ e
      omega
    subst ab
    rw [srt_uniq hn ((List.perm_cons a).mp p) (fun q z => hb q (List.mem_cons_of_mem _ z)) s1b s2b]
section
variable {P : Program} {w : World} {K : PySem.W.Frag} {mg : Str → Option Value} {base : Heap}
theorem scpWhole : FnScope ["thing"] ["thing"] (defScope pWhole) := ⟨rfl, rfl, rfl, by decide +kernel, rfl, by decide +kernel, by decide +kernel⟩
theorem ok_whole {f : Addr} {fd : FuncData} (F : Fun K "is_whole" "is_whole" pWhole f fd) (T : Bj mg) : FnOk P w K mg base CX0 1 f fd ["thing"] spWhole := by
  refine F.ok scpWhole (fun vs H Q E h => ?_) (fun cdv A outer s H vs Q E hr h => ?_)
  · obtain ⟨v, t, rfl, _⟩ := h
    rfl
  · obtain ⟨v, t, rfl, hv, k⟩ := h
    refine ⟨_, pss_one (ps_ret (pe_and (pe_callB call_isi (by rfl) T.isi (by decide +kernel) (pa_cons (pv 0) (pa_cons (pe_bltn (v := .ty "int") (u := .type "int") (by rfl) T.int (by decide +kernel) rfl) pa_nil)))
      (pe_one (pe_not (pe_callB call_isi (by rfl) T.isi (by decide +kernel) (pa_cons (pv 0) (pa_cons (pe_bltn (v := .ty "bool") (u := .type "bool") (by rfl) T.bool (by decide +kernel) rfl) pa_nil))))))), ?_⟩
    obtain ⟨k1, k2, _⟩ := hv.kit (K := K)
    have hw := hv.whole
    refine ⟨_, rfl, v, .ty "int", .type t, .type "int", _, rfl, .ty "int", hv.ty, k1, _, rfl, ?_⟩
    by_cases h1 : t = "int" ∨ t = "bool"
    · rw [if_pos (decide_eq_true h1)]
      refine ⟨_, rfl, v, .ty "bool", .type t, .type "bool", _, rfl, .ty "bool", hv.ty, k2, _, rfl, ?_⟩
      have e : (!decide (t = "bool")) = wholeV v := by
        rw [hw]
        rcases h1 with rfl | rfl <;> decide
      rw [e]
      exact k
    · rw [if_neg (by rw [decide_eq_false h1]; exact Bool.false_ne_true)]
      have e : false = wholeV v := by rw [hw, decide_eq_false (fun z => h1 (.inl z))]
      rw [e]
      exact k
theorem scpBelow : FnScope ["thing", "bound"] ["thing", "bound"] (defScope pBelow) := ⟨rfl, rfl, rfl, by decide +kernel, rfl, by decide +kernel, by decide +kernel⟩
theorem ok_below {f fW : Addr} {fd fdW : FuncData} (F : Fun K "is_below" "is_below" pBelow f fd) (GW : Dn P w K mg base "is_whole" 1 ["thing"] spWhole fW fdW) : FnOk P w K mg base CX0 2 f fd ["thing", "bound"] spBelow := by
  refine F.ok scpBelow (fun vs H Q E h => ?_) (fun cdv A outer s H vs Q E hr h => ?_)
  · obtain ⟨v, t, n, rfl, _⟩ := h
    rfl
  · obtain ⟨v, t, n, rfl, hv, k⟩ := h
    refine ⟨_, pss_one (ps_ret (pe_and (pe_call GW.ok hr rfl GW.g GW.kp GW.b .nil pass0 (pa_cons (pv 0) pa_nil)) (pe_one (pe_chain op_le op_lt pe_int (pv 0) (pv 1))))), ?_⟩
    refine ⟨_, rfl, v, t, rfl, hv, _, rfl, ?_⟩
    cases hv with
    | int i =>
      refine ⟨_, rfl, _, _, rfl, rfl, _, rfl, ?_⟩
      have kk : Q (.bl (decide (0 ≤ i) && decide (i < n))) H := k
      by_cases h0 : (0 : Int) ≤ i
      · rw [if_pos (decide_eq_true h0)]
        rw [decide_eq_true h0, Bool.true_and] at kk
        exact ⟨_, rfl, _, _, rfl, rfl, kk⟩
      · rw [if_neg (by rw [decide_eq_false h0]; exact Bool.false_ne_true)]
        rw [decide_eq_false h0, Bool.false_and] at kk
        exact kk
    | _ => exact k
theorem scpPair2 : FnScope ["thing"] ["thing"] (defScope pPair2) := ⟨rfl, rfl, rfl, by decide +kernel, rfl, by decide +kernel, by decide +kernel⟩
theorem ok_isPair {f : Addr} {fd : FuncData} (F : Fun K "is_pair" "is_pair" pPair2 f fd) (T : Bj mg) : FnOk P w K mg base CX0 1 f fd ["thing"] spIsPair := by
  refine F.ok scpPair2 (fun vs H Q E h => ?_) (fun cdv A outer s H vs Q E hr h => ?_)
  · obtain ⟨a, x, y, rfl, _⟩ := h
    rfl
  · obtain ⟨a, x, y, rfl, ha, k⟩ := h
    refine ⟨_, pss_one (ps_ret (pe_and (pe_callB call_isi (by rfl) T.isi (by decide +kernel) (pa_cons (pv 0) (pa_cons (pe_bltn (v := .ty "tuple") (u := .type "tuple") (by rfl) T.tuple (by decide +kernel) rfl) pa_nil)))
      (pe_one (pe_cmpR op_eq (pe_callB call_len_seq (by rfl) T.len PySem.boot_len (pa_cons (pv 0) pa_nil)) pe_int (nomark _))))), ?_⟩
    have hv : VT H (.ref a) "tuple" := .tup (.inl ha)
    refine ⟨_, rfl, .ref a, .ty "tuple", .type "tuple", .type "tuple", _, rfl, .ty "tuple", hv.ty, hv.kit.2.2, _, rfl, ?_⟩
    refine iteT ⟨_, rfl, a, _, rfl, .inr (SqT.of ha), rfl, k⟩
theorem scpTie : FnScope ["thing", "places"] ["thing", "places"] (defScope pTie) := ⟨rfl, rfl, rfl, by decide +kernel, rfl, by decide +kernel, by decide +kernel⟩
theorem ok_isTie {f fP fB : Addr} {fd fdP fdB : FuncData} (F : Fun K "is_tie" "is_tie" pTie f fd) (GP : Dn P w K mg base "is_pair" 1 ["thing"] spIsPair fP fdP) (GB : Dn P w K mg base "is_below" 2 ["thing", "bound"] spBelow fB fdB) :
    FnOk P w K mg base CX0 3 f fd ["thing", "places"] spIsTie := by
  refine F.ok scpTie (fun vs H Q E h => ?_) (fun cdv A outer s H vs Q E hr h => ?_)
  · obtain ⟨a, q, n, rfl, _⟩ := h
    rfl
  · obtain ⟨a, q, n, rfl, ha, hq, k⟩ := h
    have hr1 : Room 1 _ := hr.mono (by decide)
    refine ⟨_, pss_one (ps_ret (pe_and (pe_call GP.ok hr1 rfl GP.g GP.kp GP.b .nil pass0 (pa_cons (pv 0) pa_nil))
      (pe_and (pe_call GB.ok hr rfl GB.g GB.kp GB.b .nil pass0 (pa_cons (pe_ix ix_tup (pv 0) pe_int (fun _ _ => rfl)) (pa_cons (pv 1) pa_nil)))
        (pe_one (pe_call GB.ok hr rfl GB.g GB.kp GB.b .nil pass0 (pa_cons (pe_ix ix_tup (pv 0) pe_int (fun _ _ => rfl)) (pa_cons (pe_ix ix_tup (pv 0) pe_int (fun _ _ => rfl)) pa_nil))))))), ?_⟩
    have b2 : belowV (.int q.2) n = true := by show (decide _ && decide _) = true; rw [decide_eq_true (by omega), decide_eq_true (by omega)] <;> rfl
    have b1 : belowV (.int q.1) q.2 = true := by show (decide _ && decide _) = true; rw [decide_eq_true (by omega), decide_eq_true (by omega)] <;> rfl
    refine ⟨_, rfl, a, _, _, rfl, ha, _, rfl, iteT ⟨_, rfl, a, _, _, _, rfl, rfl, SqT.of ha, atI_nat (j := 1) rfl, _, rfl, _, "int", n, rfl, .int _, _, rfl, ?_⟩⟩
    rw [b2]
    refine iteT ⟨_, rfl, a, _, _, _, rfl, rfl, SqT.of ha, atI_nat (j := 0) rfl, _, rfl, a, _, _, _, rfl, rfl, SqT.of ha, atI_nat (j := 1) rfl, _, "int", q.2, rfl, .int _, ?_⟩
    rw [b1]
    exact k
end
end K0

set_option Elab.async false
set_option linter.all false
set_option maxRecDepth 100000
set_option maxHeartbeats 8000000
/-! A web is told as one. -/
namespace K0
open PySem PySem.Spec L2
open PyProof.Rows hiding St
/-- what the program's own names hold -/
structure Bk (mg : Str → Option Value) : Prop extends Bj mg where
  most : ∃ t, mg "MOST_PLACES" = some (.int 12 t)
  sup : mg "super" = none
theorem pd_eqv (L : List (Int × Int)) : PyData.eqv (.list (L.map pd)) (.list (L.map pd)) = true := SeqAt.eqv_refl _ (by
  have h := pd_shaped L
  unfold SeqAt.shaped at h
  rw [Bool.and_eq_true] at h
  exact h.1)
section
variable {P : Program} {w : World} {K : PySem.W.Frag} {mg : Str → Option Value} {base : Heap}
abbrev nIsWeb : List Str := ["thing", "places", "ties", "tie"]
theorem scIsWeb : FnScope nIsWeb ["thing"] (defScope pWeb) := ⟨rfl, rfl, rfl, by decide +kernel, rfl, by decide +kernel, by decide +kernel⟩
theorem ok_isWeb {f fP fW fT : Addr} {fd fdP fdW fdT : FuncData} (F : Fun K "is_web" "is_web" pWeb f fd) (T : Bk mg) (GP : Dn P w K mg base "is_pair" 1 ["thing"] spIsPair fP fdP) (GW' : Dn P w K mg base "is_whole" 1 ["thing"] spWhole fW fdW)
    (GT : Dn P w K mg base "is_tie" 3 ["thing", "places"] spIsTie fT fdT) : FnOk P w K mg base CX0 4 f fd ["thing"] spIsWeb := by
  refine F.ok scIsWeb (fun vs H Q E h => ?_) (fun cdv A outer s H vs Q E hr h => ?_)
  · obtain ⟨w, n, L, rfl, _⟩ := h
    rfl
  · obtain ⟨w, n, L, rfl, G, k⟩ := h
    have hr1 : Room 1 _ := hr.mono (by decide)
    have hu6 : A.units + 3 + 64 < cLine := by have := hr.un; have e : (A.deeper (envOfC "is_web" (defScope pWeb) s.heap.objs.size f cdv)).units = A.units + 3 := rfl; omega
    obtain ⟨tk, hmost⟩ := T.most
    refine ⟨_, pss_cons (ps_if (pt_not (pt_val (pe_call GP.ok hr1 rfl GP.g GP.kp GP.b .nil pass0 (pa_cons (pv 0) pa_nil)))) (pss_one (ps_ret pe_bl)) pss_nil)
      <| pss_cons (ps_asg (pv 0) (pg_tup rfl (pgs_cons (pg_name (i := 1) scIsWeb.nd rfl (.inr rfl)) (pgs_cons (pg_name (i := 2) scIsWeb.nd rfl (.inl rfl)) pgs_nil))))
      <| pss_cons (ps_if (PW.pt (pw_or (pt_not (pt_val (pe_call GW'.ok hr1 rfl GW'.g GW'.kp GW'.b .nil pass0 (pa_cons (pv 1) pa_nil))))
          (pw_or (pt_not (pt_chain op_le op_le pe_int (pv 1) (pe_glob rfl hmost (show RelV (.int 12) _ from ⟨_, rfl⟩))))
            (pw_or1 (pt_not (pt_val (pe_callB call_isi (by rfl) T.isi (by decide +kernel) (pa_cons (pv 2) (pa_cons (pe_bltn (v := .ty "tuple") (u := .type "tuple") (by rfl) T.tuple (by decide +kernel) rfl) pa_nil)))))))))
          (pss_one (ps_ret pe_bl)) pss_nil)
      <| pss_one (ps_ret (pe_and (pe_callB (cr_all rfl) (by rfl) T.all (by decide +kernel) (pa_cons (pe_lc (own := [("tie", 3)]) (g := gName 3) (tt := tYes) rfl scIsWeb.nd (pi_tup (pv 2)) (blkOk_by (N := nIsWeb) (sc := defScope pWeb) (by decide +kernel))
            (fun _ _ _ _ _ => pg_name (i := 3) scIsWeb.nd rfl (Or.inl rfl)) (fun _ _ _ _ _ => pts_nil) (fun _ _ _ _ _ => pe_call GT.ok hr rfl GT.g GT.kp GT.b .nil pass0 (pa_cons (pv 3) (pa_cons (pv 1) pa_nil)))) pa_nil))
          (pe_one (pe_cmpR (op_eqD hu6) (pe_callTy call_list_of (by rfl) T.list (by decide +kernel) (pa_cons (pv 2) pa_nil)) (pe_callB (KR.cr_sortTT (d := 2) (B := 64) (by decide)) (by rfl) T.sorted (by decide +kernel) (pa_cons (pv 2) pa_nil)) (nomark _))))), ?_⟩
    obtain ⟨t, vs, e1, e2, e3⟩ := G.web.ex
    have n1 := G.n1
    have n2 := G.n2
    have few := G.few
    have len := e3.len
    refine ⟨_, rfl, w, _, _, rfl, e1, _, rfl, ?_⟩
    refine ⟨_, rfl, w, _, rfl, SqT.of e1, rfl, _, _, rfl, _, _, rfl, rfl, ?_⟩
    have htup : VT H (.ref t) "tuple" := .tup (.inl e2)
    have c1 : decide ((1 : Int) ≤ n) = true := decide_eq_true (by omega)
    have c2 : decide ((n : Int) ≤ 12) = true := decide_eq_true (by omega)
    refine ⟨_, rfl, _, "int", rfl, .int _, _, rfl, _, rfl, _, _, rfl, rfl, _, rfl, ?_⟩
    rw [if_pos c1]
    refine ⟨_, _, rfl, rfl, ?_⟩
    refine ⟨_, rfl, iteNS (c := (n : Int) ≤ 12) (by omega) ?_⟩
    refine ⟨_, rfl, .ref t, .ty "tuple", .type "tuple", .type "tuple", _, rfl, .ty "tuple", htup.ty, htup.kit.2.2, _, rfl, iteNS (c := "tuple" = "tuple") rfl ?_⟩
    refine ⟨_, rfl, t, rfl, ⟨_, SqT.of e2⟩, fun Da hD => ?_⟩
    refine lc_it (walk_tup (xs := vs)) (fun i M => M Da = some (.lst (List.replicate i (.bl true))) ∧ Same H M) ⟨upd_same, same_new hD⟩ (fun i M _ g => SqT.of (g.2 _ _ e2)) ?_ ?_
    · rintro i x M M' hi ⟨g1, g2⟩ ⟨rfl, hx⟩
      obtain ⟨a, q, rfl, hq, ha⟩ := e3.get hx
      refine ⟨rfl, ?_⟩
      unfold tYes
      refine iteT ?_
      refine ⟨_, rfl, _, rfl, a, q, n, rfl, g2 _ _ ha, G.bel q (List.mem_of_getElem? hq), _, g1, by rw [List.length_replicate, sizeLine_eq]; omega, by rw [upd_same, List.replicate_succ'], fun b o e => by rw [upd_ne (ne_of_none e hD)]; exact g2 _ _ e⟩
    · rintro M ⟨g1, g2⟩
      have all1 : ∀ m : Nat, (List.replicate m true).all id = true := fun m => by
        induction m with
        | zero => rfl
        | succ m ih => rw [List.replicate_succ, List.all_cons, ih] <;> rfl
      refine ⟨Da, List.replicate vs.length true, rfl, SqL.of (by rw [g1, List.map_replicate]), _, rfl, ?_⟩
      rw [all1]
      refine iteT ?_
      refine ⟨_, rfl, t, vs, rfl, .inr (SqT.of (g2 _ _ e2)), fun l hl => ?_⟩
      have s1 : Same H (upd M l (.lst vs)) := g2.trans (same_new hl)
      refine ⟨_, rfl, t, vs, rfl, SqT.of (s1 _ _ e2), by omega, (e3.mono (same_tup s1)).tups G.bel (by omega), fun ys p pm pw hp => ?_⟩
      obtain ⟨M2, pm2, pr⟩ := Prs.perm pm (e3.mono (same_tup s1))
      have eM : M2 = L := (srt_uniq (n := n) (by omega) pm2.symm G.bel G.srt (pr.srt pw)).symm
      subst eM
      have s2 : Same H (upd (upd M l (.lst vs)) p (.lst ys)) := s1.trans (same_new hp)
      refine ⟨.list (M2.map pd), .list (M2.map pd), .lst (SqL.of (by rw [upd_ne (ne_of_none upd_same hp)]; exact upd_same)) (e3.mono (same_tup s2)).dp, .lst (SqL.of upd_same) (pr.mono (new_tup hp)).dp, pd_shaped M2, pd_shaped M2, ?_⟩
      rw [pd_eqv]
      exact k _ s2
theorem scCheckWeb : FnScope ["thing"] ["thing"] (defScope pCheckWeb) := ⟨rfl, rfl, rfl, by decide +kernel, rfl, by decide +kernel, by decide +kernel⟩
theorem ok_checkWeb {f fW : Addr} {fd fdW : FuncData} (F : Fun K "check_web" "check_web" pCheckWeb f fd) (GW' : Dn P w K mg base "is_web" 4 ["thing"] spIsWeb fW fdW) : FnOk P w K mg base CX0 5 f fd ["thing"] spCheckWeb := by
  refine F.ok scCheckWeb (fun vs H Q E h => ?_) (fun cdv A outer s H vs Q E hr h => ?_)
  · obtain ⟨w, n, L, rfl, _⟩ := h
    rfl
  · obtain ⟨w, n, L, rfl, G, k⟩ := h
    refine ⟨_, pss_one (ps_if (pt_not (pt_val (pe_call GW'.ok hr rfl GW'.g GW'.kp GW'.b .nil pass0 (pa_cons (pv 0) pa_nil)))) (pss_one ps_never) pss_nil), ?_⟩
    exact ⟨_, rfl, w, n, L, rfl, G, fun H' s1 => ⟨_, rfl, k H' s1⟩⟩
end
end K0

set_option Elab.async false
set_option linter.all false
set_option maxRecDepth 100000
set_option maxHeartbeats 8000000
/-! Lots: told, refused. -/
namespace K0
open PySem PySem.Spec L2
open PyProof.Rows hiding St
abbrev pIsLotOf : Stmt := top 19
abbrev pCheckLot : Stmt := top 20
abbrev pPlainOf : Stmt := top 21
abbrev pPlainWeb : Stmt := top 22
abbrev pPlacesBut : Stmt := top 23
abbrev pWebOf : Stmt := top 24
abbrev pWithout : Stmt := top 25
/-- a value that may be a lot: a tuple of such items, or none -/
inductive Th (H : Hp) : V → Option (List V) → Prop
  | tup {a : Addr} {xs : List V} (e : TT H a xs) (h : ∀ x ∈ xs, ∃ t, VT H x t) (l : xs.length ≤ 60) : Th H (.ref a) (some xs)
  | oth {v : V} {t : String} (h : VT H v t) (ne : t ≠ "tuple") : Th H v none
theorem Th.same {H H' : Hp} {v : V} {o : Option (List V)} (h : Th H v o) (s : Same H H') : Th H' v o := by
  cases h with
  | tup e h l => exact .tup (e.keep fun o q => s _ _ q) (fun x hx => let ⟨t, q⟩ := h x hx; ⟨t, q.mono s⟩) l
  | oth h ne => exact .oth (h.mono s) ne
def intV : V → Int
  | .int i => i
  | _ => 0
def lotD (n : Int) (xs : List V) : Bool := xs.all (belowV · n) && decide ((xs.map intV).Pairwise (· < ·))
def lotO (n : Int) : Option (List V) → Bool
  | some xs => lotD n xs
  | none => false
/-- a lot of the places below n -/
structure IsLot (n : Int) (ns : List Int) : Prop where
  bel : ∀ i ∈ ns, 0 ≤ i ∧ i < n
  inc : ns.Pairwise (· < ·)
theorem below_ints {n : Int} : ∀ {xs : List V}, xs.all (belowV · n) = true → xs = (xs.map intV).map V.int ∧ ∀ i ∈ xs.map intV, 0 ≤ i ∧ i < n
  | [], _ => ⟨rfl, fun _ z => nomatch z⟩
  | x :: xs, h => by
    rw [List.all_cons, Bool.and_eq_true] at h
    obtain ⟨h1, h2⟩ := h
    obtain ⟨e1, e2⟩ := below_ints h2
    cases x with
    | int i =>
      have h1 : (decide (0 ≤ i) && decide (i < n)) = true := h1
      rw [Bool.and_eq_true, decide_eq_true_eq, decide_eq_true_eq] at h1
      refine ⟨by rw [List.map_cons, List.map_cons, ← e1] <;> rfl, fun j hj => ?_⟩
      rw [List.map_cons] at hj
      rcases List.mem_cons.mp hj with rfl | z
      · exact h1
      · exact e2 j z
    | _ => cases h1
theorem lot_of {n : Int} {xs : List V} (h : lotD n xs = true) : xs = (xs.map intV).map V.int ∧ IsLot n (xs.map intV) := by
  unfold lotD at h
  rw [Bool.and_eq_true, decide_eq_true_eq] at h
  obtain ⟨e1, e2⟩ := below_ints h.1
  exact ⟨e1, e2, h.2⟩
theorem map_intV (ns : List Int) : (ns.map V.int).map intV = ns := by
  rw [List.map_map]
  exact (List.map_congr_left fun i _ => rfl).trans (List.map_id ns)
theorem of_lot {n : Int} {ns : List Int} (h : IsLot n ns) : lotD n (ns.map V.int) = true := by
  unfold lotD
  rw [map_intV, Bool.and_eq_true, decide_eq_true_eq]
  refine ⟨List.all_eq_true.mpr fun x hx => ?_, h.inc⟩
  obtain ⟨i, hi, rfl⟩ := List.mem_map.mp hx
  have := h.bel i hi
  show (decide _ && decide _) = true
  rw [decide_eq_true this.1, decide_eq_true this.2] <;> rfl
/-- rows that rise and have the same members are one -/
theorem inc_uniq : ∀ {a b : List Int}, a.Pairwise (· < ·) → b.Pairwise (· < ·) → (∀ k, k ∈ a ↔ k ∈ b) → a = b
  | [], [], _, _, _ => rfl
  | [], y :: b, _, _, h => absurd ((h y).mpr (List.mem_cons_self ..)) List.not_mem_nil
  | x :: a, [], _, _, h => absurd ((h x).mp (List.mem_cons_self ..)) List.not_mem_nil
  | x :: a, y :: b, ha, hb, h => by
    obtain ⟨a1, a2⟩ := List.pairwise_cons.mp ha
    obtain ⟨b1, b2⟩ := List.pairwise_cons.mp hb
    have e : x = y := by
      have hx := (h x).mp (List.mem_cons_self ..)
      have hy := (h y).mpr (List.mem_cons_self ..)
      rcases List.mem_cons.mp hx with e | z
      · exact e
      · rcases List.mem_cons.mp hy with e | z'
        · exact e.symm
        · have := b1 _ z
          have := a1 _ z'
          omega
    subst e
    rw [inc_uniq a2 b2 fun k => ⟨fun hk => ?_, fun hk => ?_⟩]
    · rcases List.mem_cons.mp ((h k).mp (List.mem_cons_of_mem _ hk)) with e | z
      · have := a1 _ hk; omega
      · exact z
    · rcases List.mem_cons.mp ((h k).mpr (List.mem_cons_of_mem _ hk)) with e | z
      · have := b1 _ hk; omega
      · exact z
theorem eqvAll_ints : ∀ a b : List Int, PyData.eqvAll (a.map PyData.int) (b.map PyData.int) = decide (a = b)
  | [], [] => by simp [PyData.eqvAll]
  | [], y :: b => by simp [PyData.eqvAll]
  | x :: a, [] => by simp [PyData.eqvAll]
  | x :: a, y :: b => by
    simp only [List.map_cons, PyData.eqvAll, PyData.eqv, eqvAll_ints a b, List.cons.injEq]
    by_cases h : x = y <;> by_cases g : a = b <;> simp [h, g]
theorem eqv_ints (a b : List Int) : PyData.eqv (.list (a.map PyData.int)) (.list (b.map PyData.int)) = decide (a = b) := by
  rw [← eqvAll_ints a b]
  simp only [PyData.eqv]
def spIsLotOf : Sp := fun vs H Q _ => ∃ (w : Addr) (n : Nat) (L : List (Int × Int)) (v : V) (o : Option (List V)), vs = [.ref w, v] ∧ GW H w n L ∧ Th H v o ∧ ∀ H', Same H H' → Q (.bl (lotO n o)) H'
/-- an error with a field -/
structure ErX (P : Program) (K : PySem.W.Frag) (mg : Str → Option Value) (nm : Str) (C fI : Addr) (f : Str) : Prop where
  er : ErrC P K C
  f1 : PySem.EX.Fn1 P K C fI f
  g : mg nm = some (.ref C)
/-- an error is raised that carries v -/
def Rz (C : Addr) (f : Str) (v : V) (H : Hp) (E : XK) : Prop := ∀ (d : Addr) (H' : Hp), Same H H' → H d = none → H' d = some (.xd [(f, v)]) → E (.ref C) (some d) H'
theorem Rz.same {C : Addr} {f : Str} {v : V} {H H1 : Hp} {E : XK} (r : Rz C f v H E) (s : Same H H1) : Rz C f v H1 E := fun d H' s' hd e => r d H' (s.trans s') (s.free hd) e
def spCheckLot (C : Addr) : Sp := fun vs H Q E => ∃ (w : Addr) (n : Nat) (L : List (Int × Int)) (v : V) (o : Option (List V)), vs = [.ref w, v] ∧ GW H w n L ∧ Th H v o ∧ (lotO n o = true → ∀ H', Same H H' → Q .non H') ∧ (lotO n o = false → Rz C "thing" v H E)
def spIsTieNo : Sp := fun vs H Q _ => ∃ (w : Addr) (n : Nat) (L : List (Int × Int)) (v : V) (t : String), vs = [.ref w, v] ∧ GW H w n L ∧ VT H v t ∧ Q (.bl (belowV v L.length)) H
def spCheckTie (C : Addr) : Sp := fun vs H Q E => ∃ (w : Addr) (n : Nat) (L : List (Int × Int)) (v : V) (t : String), vs = [.ref w, v] ∧ GW H w n L ∧ VT H v t ∧ (belowV v L.length = true → Q .non H) ∧ (belowV v L.length = false → Rz C "number" v H E)
section
variable {P : Program} {w0 : World} {K : PySem.W.Frag} {mg : Str → Option Value} {base : Heap}
abbrev nIsLotOf : List Str := ["web", "thing", "place"]
theorem scIsLotOf : FnScope nIsLotOf ["web", "thing"] (defScope pIsLotOf) := ⟨rfl, rfl, rfl, by decide +kernel, rfl, by decide +kernel, by decide +kernel⟩
theorem ok_isLotOf {f fB : Addr} {fd fdB : FuncData} (F : Fun K "is_lot_of" "is_lot_of" pIsLotOf f fd) (T : Bk mg) (GB : Dn P w0 K mg base "is_below" 2 ["thing", "bound"] spBelow fB fdB) : FnOk P w0 K mg base CX0 3 f fd ["web", "thing"] spIsLotOf := by
  refine F.ok scIsLotOf (fun vs H Q E h => ?_) (fun cdv A outer s H vs Q E hr h => ?_)
  · obtain ⟨w, n, L, v, o, rfl, _⟩ := h
    rfl
  · obtain ⟨w, n, L, v, o, rfl, G, th, k⟩ := h
    have hu6 : A.units + 3 + 64 < cLine := by have := hr.un; have e : (A.deeper (envOfC "is_lot_of" (defScope pIsLotOf) s.heap.objs.size f cdv)).units = A.units + 3 := rfl; omega
    refine ⟨_, pss_cons (ps_if (PW.pt (pw_or (pt_not (pt_val (pe_callB call_isi (by rfl) T.isi (by decide +kernel) (pa_cons (pv 1) (pa_cons (pe_bltn (v := .ty "tuple") (u := .type "tuple") (by rfl) T.tuple (by decide +kernel) rfl) pa_nil)))))
          (pw_or1 (pt_not (pt_val (pe_callB (cr_all rfl) (by rfl) T.all (by decide +kernel) (pa_cons (pe_lc (own := [("place", 2)]) (g := gName 2) (tt := tYes) rfl scIsLotOf.nd (pi_tup (pv 1)) (blkOk_by (N := nIsLotOf) (sc := defScope pIsLotOf) (by decide +kernel))
            (fun _ _ _ _ _ => pg_name (i := 2) scIsLotOf.nd rfl (Or.inl rfl)) (fun _ _ _ _ _ => pts_nil) (fun _ _ _ _ _ => pe_call GB.ok hr rfl GB.g GB.kp GB.b .nil pass0 (pa_cons (pv 2) (pa_cons (pe_ix (show IxR _ (rIxT K) from ix_tup) (pv 0) pe_int (fun _ _ => rfl)) pa_nil)))) pa_nil)))))))
          (pss_one (ps_ret pe_bl)) pss_nil)
      <| pss_one (ps_ret (pe_cmpR (op_eqD hu6) (pe_callTy call_list_of (by rfl) T.list (by decide +kernel) (pa_cons (pv 1) pa_nil)) (pe_callB (cr_sortedSet rfl) (by rfl) T.sorted (by decide +kernel) (pa_cons (pe_callTy (KR.cr_setTI rfl) (by rfl) T.set (by decide +kernel) (pa_cons (pv 1) pa_nil)) pa_nil)) (nomark _))), ?_⟩
    obtain ⟨t, vs, e1, e2, e3⟩ := G.web.ex
    cases th with
    | @oth v t h ne =>
      exact ⟨_, rfl, v, .ty "tuple", .type t, .type "tuple", _, rfl, .ty "tuple", h.ty, h.kit.2.2, _, rfl, by
        rw [decide_eq_false ne]
        exact k H (Same.refl H)⟩
    | @tup a xs e h l =>
      have hv : VT H (.ref a) "tuple" := .tup e
      refine ⟨_, rfl, .ref a, .ty "tuple", .type "tuple", .type "tuple", _, rfl, .ty "tuple", hv.ty, hv.kit.2.2, _, rfl, iteNS (c := "tuple" = "tuple") rfl ?_⟩
      refine ⟨_, rfl, a, rfl, ⟨_, e.sq⟩, fun Da hD => ?_⟩
      refine lc_it (walk_tup (xs := xs)) (fun i M => M Da = some (.lst (((xs.take i).map (belowV · n)).map V.bl)) ∧ Same H M) ⟨upd_same, same_new hD⟩ (fun i M _ g => (e.keep fun o q => g.2 _ _ q).sq) ?_ ?_
      · rintro i x M M' hi ⟨g1, g2⟩ ⟨rfl, hx⟩
        obtain ⟨t, ht⟩ := h x (List.mem_of_getElem? hx)
        refine ⟨rfl, ?_⟩
        unfold tYes
        refine iteT ?_
        refine ⟨_, rfl, _, rfl, w, _, _, _, rfl, rfl, SqT.of (g2 _ _ e1), atI_nat (j := 0) rfl, x, t, n, rfl, ht.mono g2, _, g1, by rw [List.length_map, List.length_map, List.length_take, sizeLine_eq]; omega, by rw [upd_same, List.take_add_one, hx] <;> simp, fun b o e => by rw [upd_ne (ne_of_none e hD)]; exact g2 _ _ e⟩
      · rintro M ⟨g1, g2⟩
        rw [List.take_length] at g1
        have ea : (xs.map (belowV · n)).all id = xs.all (belowV · n) := by rw [List.all_map] <;> rfl
        refine ⟨Da, _, rfl, SqL.of g1, _, rfl, ?_⟩
        rw [ea]
        by_cases hb : xs.all (belowV · n) = true
        · obtain ⟨x1, x2⟩ := below_ints hb
          rw [hb]
          generalize hns : xs.map intV = ns at x1 x2
          have hlen : ns.length ≤ 60 := by rw [← hns, List.length_map]; exact l
          have eM : TT M a (ns.map V.int) := x1 ▸ (e.keep fun o q => g2 _ _ q)
          refine ⟨_, rfl, a, _, rfl, .inr eM.sq, fun l1 hl1 => ⟨_, rfl, a, ns, rfl, ?_, by omega, fun b c hb1 hc => ⟨b, _, c, rfl, upd_same, by omega, fun ms p m1 m2 _ hp => ?_⟩⟩⟩
          · exact (eM.keep fun o q => by rw [upd_ne (ne_of_none q hl1)]; exact q).sq
          · have s3 : Same H (upd (upd (upd M l1 (.lst (ns.map V.int))) b (SetO w0 b (fun j => decide (j ∈ ns)) c)) p (.lst (ms.map V.int))) := ((g2.trans (same_new hl1)).trans (same_new hb1)).trans (same_new hp)
            have n1p : l1 ≠ b := ne_of_none upd_same hb1
            have n2p : l1 ≠ p := ne_of_none (H := upd (upd M l1 (.lst (ns.map V.int))) b (SetO w0 b (fun j => decide (j ∈ ns)) c)) (by rw [upd_ne n1p]; exact upd_same) hp
            refine ⟨.list (ns.map PyData.int), .list (ms.map PyData.int), .lst (SqL.of (by rw [upd_ne n2p, upd_ne n1p]; exact upd_same)) (ints_dp ns), .lst (SqL.of upd_same) (ints_dp ms), ints_shaped ns, ints_shaped ms, ?_⟩
            rw [eqv_ints]
            have ans : decide (ns = ms) = lotO n (some xs) := by
              show _ = lotD n xs
              unfold lotD
              rw [hb, Bool.true_and, hns]
              by_cases hp : ns.Pairwise (· < ·)
              · rw [decide_eq_true hp]
                exact decide_eq_true (inc_uniq hp m1 fun k => by rw [m2 k, decide_eq_true_eq])
              · rw [decide_eq_false hp]
                exact decide_eq_false fun e => hp (e ▸ m1)
            rw [ans]
            exact k _ s3
        · rw [Bool.eq_false_iff.mpr hb]
          have ans : false = lotO n (some xs) := by
            show _ = lotD n xs
            unfold lotD
            rw [Bool.eq_false_iff.mpr hb, Bool.false_and]
          show Q (.bl false) M
          rw [ans]
          exact k M g2
theorem scCheckLot : FnScope ["web", "thing"] ["web", "thing"] (defScope pCheckLot) := ⟨rfl, rfl, rfl, by decide +kernel, rfl, by decide +kernel, by decide +kernel⟩
theorem ok_checkLot {f fI C fC : Addr} {fd fdI : FuncData} (F : Fun K "check_lot" "check_lot" pCheckLot f fd) (T : Bk mg) (R : ErX P K mg "BadLot" C fC "thing") (GI : Dn P w0 K mg base "is_lot_of" 3 ["web", "thing"] spIsLotOf fI fdI) :
    FnOk P w0 K mg base (L2.CX P w0) 4 f fd ["web", "thing"] (spCheckLot C) := by
  refine F.okX scCheckLot (fun vs H Q E h => ?_) (fun cdv A outer s H vs Q E hr h => ?_)
  · obtain ⟨w, n, L, v, o, rfl, _⟩ := h
    rfl
  · obtain ⟨w, n, L, v, o, rfl, G, th, k, kx⟩ := h
    refine ⟨_, pss_one (ps_if (pt_not (pt_val (pe_call GI.ok hr rfl GI.g GI.kp GI.b .nil pass0 (pa_cons (pv 0) (pa_cons (pv 1) pa_nil)))))
      (pss_one (ps_raise rfl (takes_of rfl rfl rfl rfl) (pmk1 R.er R.f1 (by decide) T.sup hr R.g (pa_cons (pv 1) pa_nil)))) pss_nil), ?_⟩
    refine ⟨_, rfl, _, rfl, w, n, L, v, o, rfl, G, th, fun H' s1 => ⟨_, rfl, ?_⟩⟩
    cases e : lotO n o with
    | true => exact k e H' s1
    | false => exact ⟨_, rfl, v, rfl, fun d hd => kx e d _ (s1.trans (same_new hd)) (s1.free hd) upd_same⟩
end
end K0

/-! Places as bits. -/
namespace K0
/-- a and b are tied -/
def Adj (L : List (Int × Int)) (a b : Nat) : Prop := ((a : Int), (b : Int)) ∈ L ∨ ((b : Int), (a : Int)) ∈ L
instance (L : List (Int × Int)) (a b : Nat) : Decidable (Adj L a b) := by unfold Adj; infer_instance
theorem Adj.symm {L : List (Int × Int)} {a b : Nat} (h : Adj L a b) : Adj L b a := Or.symm h
/-- the places that are joined with r within m -/
inductive Rch (L : List (Int × Int)) (m : Nat) (r : Nat) : Nat → Prop
  | refl (h : m.testBit r = true) : Rch L m r r
  | step {b c : Nat} (h : Rch L m r b) (a : Adj L b c) (k : m.testBit c = true) : Rch L m r c
theorem Rch.bit {L : List (Int × Int)} {m r i : Nat} (h : Rch L m r i) : m.testBit i = true := by
  cases h with
  | refl h => exact h
  | step _ _ k => exact k
theorem Rch.root {L : List (Int × Int)} {m r i : Nat} (h : Rch L m r i) : m.testBit r = true := by
  induction h with
  | refl h => exact h
  | step _ _ _ ih => exact ih
theorem Rch.mono {L : List (Int × Int)} {m m' r i : Nat} (h : Rch L m r i) (s : ∀ j, m.testBit j = true → m'.testBit j = true) : Rch L m' r i := by
  induction h with
  | refl h => exact .refl (s _ h)
  | step _ a k ih => exact .step ih a (s _ k)
/-- a set that is closed holds what is joined -/
theorem Rch.closed {L : List (Int × Int)} {m r i : Nat} (h : Rch L m r i) {S : Nat → Prop} (h0 : S r) (hs : ∀ b c, S b → Adj L b c → m.testBit c = true → S c) : S i := by
  induction h with
  | refl _ => exact h0
  | step _ a k ih => exact hs _ _ ih a k
theorem Rch.trans {L : List (Int × Int)} {m r i j : Nat} (h : Rch L m r i) (g : Rch L m i j) : Rch L m r j := g.closed h fun _ _ s a k => .step s a k
theorem Rch.symm {L : List (Int × Int)} {m r i : Nat} (h : Rch L m r i) : Rch L m i r := by
  induction h with
  | refl h => exact .refl h
  | step s a k ih => exact .trans (.step (.refl k) a.symm s.bit) ih
/-! ### bits -/
theorem sub_le {a b : Nat} (h : ∀ i, a.testBit i = true → b.testBit i = true) : a ≤ b := by
  have e : a &&& b = a := Nat.eq_of_testBit_eq fun i => by
    rw [Nat.testBit_and]
    cases z : a.testBit i with
    | false => rfl
    | true => rw [h i z] <;> rfl
  rw [← e]
  exact Nat.and_le_right
theorem bit_lt {a i n : Nat} (ha : a < 2 ^ n) (h : a.testBit i = true) : i < n := by
  rcases Nat.lt_or_ge i n with z | z
  · exact z
  · rw [Nat.testBit_lt_two_pow (Nat.lt_of_lt_of_le ha (Nat.pow_le_pow_right (by decide) z))] at h
    cases h
theorem or_grows {p f : Nat} (d : ∀ i, f.testBit i = true → p.testBit i = false) (h : f ≠ 0) : p < p ||| f := by
  have le : p ≤ p ||| f := sub_le fun i z => by rw [Nat.testBit_or, z, Bool.true_or]
  refine Nat.lt_of_le_of_ne le fun e => ?_
  obtain ⟨i, hi⟩ := Nat.exists_testBit_of_ne_zero h
  have := congrArg (·.testBit i) e
  simp only [Nat.testBit_or, hi, d i hi, Bool.or_true] at this
  cases this
theorem full_bit (n i : Nat) : (2 ^ n - 1).testBit i = decide (i < n) := Nat.testBit_two_pow_sub_one ..
/-- the places of a mask -/
def lotN (m : Nat) : List Nat := (List.range 12).filter m.testBit
theorem lotN_mem {m i : Nat} (h : m < 2 ^ 12) : i ∈ lotN m ↔ m.testBit i = true := by
  unfold lotN
  rw [List.mem_filter, List.mem_range]
  exact ⟨fun z => z.2, fun z => ⟨bit_lt h z, z⟩⟩
theorem lotN_inc (m : Nat) : (lotN m).Pairwise (· < ·) := List.pairwise_lt_range.filter _
/-! ### near places -/
/-- what stands in the list of near places -/
structure Near (L : List (Int × Int)) (n : Nat) (ms : List Nat) : Prop where
  len : ms.length = n
  bit : ∀ a b, a < n → (ms.getD a 0).testBit b = decide (Adj L a b)
theorem near_nil (n : Nat) : Near [] n (List.replicate n 0) := ⟨List.length_replicate, fun a b h => by
  have e : (List.replicate n 0).getD a 0 = 0 := by rw [List.getD_eq_getElem?_getD, List.getElem?_replicate]; split <;> rfl
  rw [e, Nat.zero_testBit]
  exact (decide_eq_false fun z => by unfold Adj at z; simp at z).symm⟩
theorem near_snoc {L : List (Int × Int)} {n : Nat} {ms : List Nat} (h : Near L n ms) {a b : Nat} (lt : a < b) (hb : b < n) :
    Near (L ++ [((a : Int), (b : Int))]) n ((ms.set a (ms.getD a 0 ||| 2 ^ b)).set b (((ms.set a (ms.getD a 0 ||| 2 ^ b)).getD b 0) ||| 2 ^ a)) := by
  have len := h.len
  refine ⟨by rw [List.length_set, List.length_set, len], fun x y hx => ?_⟩
  have e1 : (ms.set a (ms.getD a 0 ||| 2 ^ b)).getD b 0 = ms.getD b 0 := by
    rw [List.getD_eq_getElem?_getD, List.getElem?_set_ne (by omega), ← List.getD_eq_getElem?_getD]
  rw [e1]
  have adj : ∀ x y : Nat, Adj (L ++ [((a : Int), (b : Int))]) x y ↔ Adj L x y ∨ (x = a ∧ y = b) ∨ (x = b ∧ y = a) := fun x y => by
    unfold Adj
    simp only [List.mem_append, List.mem_singleton, Prod.mk.injEq, Int.natCast_inj]
    constructor
    · rintro ((z | z) | (z | z))
      · exact .inl (.inl z)
      · exact .inr (.inl z)
      · exact .inl (.inr z)
      · exact .inr (.inr ⟨z.2, z.1⟩)
    · rintro ((z | z) | z | z)
      · exact .inl (.inl z)
      · exact .inr (.inl z)
      · exact .inl (.inr z)
      · exact .inr (.inr ⟨z.2, z.1⟩)
  have key := h.bit x y hx
  by_cases hxb : x = b
  · subst hxb
    rw [List.getD_eq_getElem?_getD, List.getElem?_set_self (by rw [List.length_set]; omega)]
    show (ms.getD x 0 ||| 2 ^ a).testBit y = _
    rw [Nat.testBit_or, key, Nat.testBit_two_pow, ← Bool.decide_or]
    refine decide_eq_decide.mpr ?_
    rw [adj]
    constructor
    · rintro (z | z)
      · exact .inl z
      · exact .inr (.inr ⟨rfl, z.symm⟩)
    · rintro (z | z | z)
      · exact .inl z
      · omega
      · exact .inr z.2.symm
  · rw [List.getD_eq_getElem?_getD, List.getElem?_set_ne (fun z => hxb z.symm)]
    by_cases hxa : x = a
    · subst hxa
      rw [List.getElem?_set_self (by omega)]
      show (ms.getD x 0 ||| 2 ^ b).testBit y = _
      rw [Nat.testBit_or, key, Nat.testBit_two_pow, ← Bool.decide_or]
      refine decide_eq_decide.mpr ?_
      rw [adj]
      constructor
      · rintro (z | z)
        · exact .inl z
        · exact .inr (.inl ⟨rfl, z.symm⟩)
      · rintro (z | z | z)
        · exact .inl z
        · exact .inr z.2.symm
        · omega
    · rw [List.getElem?_set_ne (fun z => hxa z.symm), ← List.getD_eq_getElem?_getD, key]
      refine decide_eq_decide.mpr ?_
      rw [adj]
      constructor
      · exact .inl
      · rintro (z | z | z)
        · exact z
        · exact absurd z.1 hxa
        · exact absurd z.1 hxb
/-! ### parts -/
/-- p is the part of r within m -/
def IsPart (L : List (Int × Int)) (m r p : Nat) : Prop := ∀ i, p.testBit i = true ↔ Rch L m r i
/-- the state of the search -/
structure Flood (L : List (Int × Int)) (m r part fresh : Nat) : Prop where
  rch : ∀ i, part.testBit i = true → Rch L m r i
  root : part.testBit r = true
  fr : ∀ i, fresh.testBit i = true → part.testBit i = true
  cl : ∀ b c, part.testBit b = true → Adj L b c → m.testBit c = true → part.testBit c = true ∨ fresh.testBit b = true
theorem Flood.start {L : List (Int × Int)} {m r : Nat} (h : m.testBit r = true) : Flood L m r (2 ^ r) (2 ^ r) := by
  have e : ∀ i, (2 ^ r).testBit i = true ↔ r = i := fun i => by rw [Nat.testBit_two_pow, decide_eq_true_eq]
  refine ⟨fun i z => ?_, (e r).mpr rfl, fun _ z => z, fun b c z _ _ => .inr z⟩
  rw [← (e i).mp z]
  exact .refl h
theorem Flood.turn {L : List (Int × Int)} {m r part fresh met : Nat} (F : Flood L m r part fresh) (hm : ∀ c, met.testBit c = true ↔ ∃ b, fresh.testBit b = true ∧ Adj L b c) :
    Flood L m r (part ||| (met &&& (m ^^^ part))) (met &&& (m ^^^ part)) ∧ ∀ i, (met &&& (m ^^^ part)).testBit i = true → part.testBit i = false := by
  have mb : ∀ i, part.testBit i = true → m.testBit i = true := fun i z => (F.rch i z).bit
  have xb : ∀ i, (met &&& (m ^^^ part)).testBit i = true ↔ met.testBit i = true ∧ m.testBit i = true ∧ part.testBit i = false := fun i => by
    rw [Nat.testBit_and, Nat.testBit_xor]
    have := mb i
    cases h1 : met.testBit i <;> cases h2 : m.testBit i <;> cases h3 : part.testBit i <;> simp_all
  refine ⟨⟨fun i z => ?_, by rw [Nat.testBit_or, F.root, Bool.true_or], fun i z => by rw [Nat.testBit_or, z, Bool.or_true], fun b c z a k => ?_⟩, fun i z => ((xb i).mp z).2.2⟩
  · rw [Nat.testBit_or, Bool.or_eq_true] at z
    rcases z with z | z
    · exact F.rch i z
    · obtain ⟨h1, h2, _⟩ := (xb i).mp z
      obtain ⟨b, hb, ab⟩ := (hm i).mp h1
      exact .step (F.rch b (F.fr b hb)) ab h2
  · rw [Nat.testBit_or, Bool.or_eq_true] at z
    rw [Nat.testBit_or, Bool.or_eq_true]
    by_cases hc : part.testBit c = true
    · exact .inl (.inl hc)
    · have hc : part.testBit c = false := by cases q : part.testBit c <;> simp_all
      rcases z with z | z
      · rcases F.cl b c z a k with y | y
        · exact .inl (.inl y)
        · exact .inl (.inr ((xb c).mpr ⟨(hm c).mpr ⟨b, y, a⟩, k, hc⟩))
      · exact .inr z
theorem Flood.done {L : List (Int × Int)} {m r part : Nat} (F : Flood L m r part 0) : IsPart L m r part := fun i => ⟨F.rch i, fun h => h.closed F.root fun b c z a k => by
  rcases F.cl b c z a k with y | y
  · exact y
  · rw [Nat.zero_testBit] at y; cases y⟩
theorem Flood.lt {L : List (Int × Int)} {m r part fresh : Nat} (F : Flood L m r part fresh) (h : m < 4096) : part < 4096 ∧ fresh < 4096 := by
  have h1 : part ≤ m := sub_le fun i z => (F.rch i z).bit
  have h2 : fresh ≤ part := sub_le F.fr
  omega
/-- some parts, each with its least place, and what is left -/
structure Some_ (L : List (Int × Int)) (m left : Nat) (ps : List (Nat × Nat)) : Prop where
  sub : ∀ i, left.testBit i = true → m.testBit i = true
  cl : ∀ b c, m.testBit b = true → m.testBit c = true → Adj L b c → left.testBit b = left.testBit c
  part : ∀ q ∈ ps, m.testBit q.1 = true ∧ IsPart L m q.1 q.2 ∧ ∀ i, q.2.testBit i = true → q.1 ≤ i
  inc : ps.Pairwise fun a b => a.1 < b.1
  low : ∀ q ∈ ps, ∀ i, left.testBit i = true → q.1 < i
  all : ∀ i, m.testBit i = true → left.testBit i = true ∨ ∃ q ∈ ps, q.2.testBit i = true
theorem Some_.start (L : List (Int × Int)) (m : Nat) : Some_ L m m [] := ⟨fun _ z => z, fun b c hb hc _ => (by rw [hb, hc]), (fun _ z => nomatch z), .nil, (fun _ z => nomatch z), fun _ z => .inl z⟩
theorem Some_.turn {L : List (Int × Int)} {m left r p : Nat} {ps : List (Nat × Nat)} (S : Some_ L m left ps) (hr : left.testBit r = true) (lo : ∀ i, left.testBit i = true → r ≤ i) (hp : IsPart L left r p) :
    Some_ L m (left ^^^ p) (ps ++ [(r, p)]) ∧ left ^^^ p < left := by
  have pl : ∀ i, p.testBit i = true → left.testBit i = true := fun i z => ((hp i).mp z).bit
  have lb : ∀ i, (left ^^^ p).testBit i = true ↔ left.testBit i = true ∧ p.testBit i = false := fun i => by
    rw [Nat.testBit_xor]
    have := pl i
    cases h1 : left.testBit i <;> cases h2 : p.testBit i <;> simp_all
  have hp' : IsPart L m r p := fun i => ⟨fun z => ((hp i).mp z).mono S.sub, fun z => (hp i).mpr ?_⟩
  · refine ⟨⟨fun i z => S.sub i ((lb i).mp z).1, fun b c hb hc a => ?_, fun q hq => ?_, ?_, fun q hq i z => ?_, fun i z => ?_⟩, ?_⟩
    · rw [Nat.testBit_xor, Nat.testBit_xor, S.cl b c hb hc a]
      have e : p.testBit b = p.testBit c := by
        have h1 : ∀ b c, m.testBit b = true → m.testBit c = true → Adj L b c → p.testBit b = true → p.testBit c = true := fun b c hb hc a z => (hp c).mpr (.step ((hp b).mp z) a (by rw [← S.cl b c hb hc a]; exact pl b z))
        cases x : p.testBit b with
        | true => exact (h1 b c hb hc a x).symm
        | false =>
          cases y : p.testBit c with
          | false => rfl
          | true => rw [h1 c b hc hb a.symm y] at x; cases x
      rw [e]
    · rcases List.mem_append.mp hq with hq | hq
      · exact S.part q hq
      · rw [List.mem_singleton.mp hq]
        exact ⟨S.sub r hr, hp', fun i z => lo i (pl i z)⟩
    · refine List.pairwise_append.mpr ⟨S.inc, List.pairwise_singleton .., fun a ha b hb => ?_⟩
      rw [List.mem_singleton.mp hb]
      exact S.low a ha r hr
    · obtain ⟨z1, z2⟩ := (lb i).mp z
      rcases List.mem_append.mp hq with hq | hq
      · exact S.low q hq i z1
      · rw [List.mem_singleton.mp hq]
        refine Nat.lt_of_le_of_ne (lo i z1) fun e => ?_
        have e : r = i := e
        rw [← e, (hp r).mpr (.refl hr)] at z2
        cases z2
    · rcases S.all i z with y | ⟨q, hq, y⟩
      · cases x : p.testBit i with
        | true => exact .inr ⟨(r, p), List.mem_append_right _ (List.mem_singleton.mpr rfl), x⟩
        | false => exact .inl ((lb i).mpr ⟨y, x⟩)
      · exact .inr ⟨q, List.mem_append_left _ hq, y⟩
    · refine Nat.lt_of_le_of_ne (sub_le fun i z => ((lb i).mp z).1) fun e => ?_
      have := (lb r).mp (by rw [e]; exact hr)
      rw [(hp r).mpr (.refl hr)] at this
      cases this.2
  · refine z.closed (S := fun i => Rch L left r i) (.refl hr) fun b c s a k => .step s a ?_
    rw [← S.cl b c (S.sub b s.bit) k a]
    exact s.bit
/-- all parts of m -/
structure Parts (L : List (Int × Int)) (m : Nat) (ps : List (Nat × Nat)) : Prop where
  part : ∀ q ∈ ps, m.testBit q.1 = true ∧ IsPart L m q.1 q.2 ∧ ∀ i, q.2.testBit i = true → q.1 ≤ i
  inc : ps.Pairwise fun a b => a.1 < b.1
  all : ∀ i, m.testBit i = true → ∃ q ∈ ps, q.2.testBit i = true
theorem Some_.done {L : List (Int × Int)} {m : Nat} {ps : List (Nat × Nat)} (S : Some_ L m 0 ps) : Parts L m ps := ⟨S.part, S.inc, fun i z => (S.all i z).resolve_left fun y => by rw [Nat.zero_testBit] at y; cases y⟩
theorem inc_few : ∀ {ps : List (Nat × Nat)} {n k : Nat}, k ≤ n → (ps.Pairwise fun a b => a.1 < b.1) → (∀ q ∈ ps, k ≤ q.1 ∧ q.1 < n) → ps.length + k ≤ n
  | [], n, k, h, _, _ => by simpa using h
  | q :: ps, n, k, h, p, b => by
    obtain ⟨p1, p2⟩ := List.pairwise_cons.mp p
    have hq := b q (List.mem_cons_self ..)
    have := inc_few (k := q.1 + 1) hq.2 p2 fun r hr => ⟨p1 r hr, (b r (List.mem_cons_of_mem _ hr)).2⟩
    rw [List.length_cons]
    omega
end K0

/-! Rings of ties. -/
namespace K0
/-- the ends of the k-th tie -/
def tie (L : List (Int × Int)) (k : Nat) : Int × Int := L.getD k (0, 0)
def has (q : Int × Int) (p : Int) : Bool := decide (p = q.1) || decide (p = q.2)
def other (q : Int × Int) (p : Int) : Int := q.1 + q.2 - p
/-- the places that are met, the first one among them -/
def wk (L : List (Int × Int)) : Int → List Nat → List Int
  | s, [] => [s]
  | s, k :: r => s :: wk L (other (tie L k) s) r
def okW (L : List (Int × Int)) : Int → List Nat → Bool
  | _, [] => true
  | s, k :: r => has (tie L k) s && okW L (other (tie L k) s) r
/-- where it leads -/
def ed (L : List (Int × Int)) : Int → List Nat → Int
  | s, [] => s
  | s, k :: r => ed L (other (tie L k) s) r
section
variable {L : List (Int × Int)}
theorem has_iff {q : Int × Int} {p : Int} : has q p = true ↔ p = q.1 ∨ p = q.2 := by unfold has; simp
theorem other_has {q : Int × Int} {p : Int} (h : has q p = true) : has q (other q p) = true := by
  rw [has_iff] at h ⊢
  unfold other
  omega
theorem other_other (q : Int × Int) (p : Int) : other q (other q p) = p := by unfold other; omega
theorem wk_len : ∀ (ns : List Nat) (s : Int), (wk L s ns).length = ns.length + 1
  | [], _ => rfl
  | k :: r, s => by rw [wk, List.length_cons, wk_len r, List.length_cons]
theorem wk_head : ∀ (ns : List Nat) (s : Int), wk L s ns = s :: (wk L s ns).tail
  | [], _ => rfl
  | _ :: _, _ => rfl
theorem wk_app : ∀ (ns ms : List Nat) (s : Int), wk L s (ns ++ ms) = (wk L s ns).dropLast ++ wk L (ed L s ns) ms
  | [], _, _ => rfl
  | k :: r, ms, s => by
    rw [List.cons_append, wk, wk_app r, wk, ed]
    rw [wk_head r, List.dropLast_cons_cons, List.cons_append]
theorem wk_last : ∀ (ns : List Nat) (s : Int), wk L s ns = (wk L s ns).dropLast ++ [ed L s ns]
  | [], _ => rfl
  | k :: r, s => by
    rw [wk, ed]
    have h := wk_last r (other (tie L k) s)
    rw [wk_head r] at h ⊢
    rw [List.dropLast_cons_cons, List.cons_append, ← h]
theorem ok_app : ∀ (ns ms : List Nat) (s : Int), okW L s (ns ++ ms) = (okW L s ns && okW L (ed L s ns) ms)
  | [], _, _ => rfl
  | k :: r, ms, s => by rw [List.cons_append, okW, okW, ed, ok_app r, Bool.and_assoc]
theorem ed_app : ∀ (ns ms : List Nat) (s : Int), ed L s (ns ++ ms) = ed L (ed L s ns) ms
  | [], _, _ => rfl
  | k :: r, ms, s => by rw [List.cons_append, ed, ed, ed_app r]
/-- they lead round from s -/
structure Rnd (L : List (Int × Int)) (s : Int) (ns : List Nat) : Prop where
  ok : okW L s ns = true
  ed : ed L s ns = s
  nd : (wk L s ns).dropLast.Nodup
theorem Rnd.tail {s : Int} {k : Nat} {r : List Nat} (h : Rnd L s (k :: r)) : (wk L s (k :: r)).tail.Nodup := by
  have e := wk_last (L := L) r (other (tie L k) s)
  have nd := h.nd
  rw [wk, wk_head r, List.dropLast_cons_cons, ← wk_head r] at nd
  rw [wk, List.tail_cons, e, show K0.ed L (other (tie L k) s) r = s from h.ed]
  exact (List.perm_append_comm (l₁ := [s])).nodup_iff.mp nd
theorem Rnd.rot {s : Int} {k : Nat} {r : List Nat} (h : Rnd L s (k :: r)) : Rnd L (other (tie L k) s) (r ++ [k]) := by
  have hk := h.ok
  have he : K0.ed L (other (tie L k) s) r = s := h.ed
  rw [okW, Bool.and_eq_true] at hk
  refine ⟨?_, ?_, ?_⟩
  · rw [ok_app, hk.2, he, okW, hk.1] <;> rfl
  · rw [ed_app, he] <;> rfl
  · have e := wk_app (L := L) r [k] (other (tie L k) s)
    have w := wk_last (L := L) r (other (tie L k) s)
    rw [he] at e w
    rw [e, show wk L s [k] = [s, other (tie L k) s] from rfl, show (wk L (other (tie L k) s) r).dropLast ++ [s, other (tie L k) s] = ((wk L (other (tie L k) s) r).dropLast ++ [s]) ++ [other (tie L k) s] by rw [List.append_assoc] <;> rfl, List.dropLast_concat, ← w]
    exact h.tail
theorem rot_at {s : Int} {ns : List Nat} (h : Rnd L s ns) : ∀ i, i ≤ ns.length → ∃ t, Rnd L t (ns.drop i ++ ns.take i)
  | 0, _ => ⟨s, by simpa using h⟩
  | i + 1, hi => by
    obtain ⟨t, g⟩ := rot_at h i (by omega)
    rw [List.drop_eq_getElem_cons (by omega), List.cons_append] at g
    refine ⟨_, (?_ : ns.drop (i + 1) ++ ns.take i ++ [ns[i]] = _) ▸ g.rot⟩
    rw [List.append_assoc, List.take_add_one, List.getElem?_eq_getElem (by omega)] <;> rfl
theorem wk_rev : ∀ (ns : List Nat) (s : Int), okW L s ns = true → okW L (ed L s ns) ns.reverse = true ∧ wk L (ed L s ns) ns.reverse = (wk L s ns).reverse ∧ ed L (ed L s ns) ns.reverse = s
  | [], _, _ => ⟨rfl, rfl, rfl⟩
  | k :: r, s, h => by
    rw [okW, Bool.and_eq_true] at h
    obtain ⟨i1, i2, i3⟩ := wk_rev r _ h.2
    have oh := other_has h.1
    refine ⟨?_, ?_, ?_⟩
    · rw [List.reverse_cons, ed, ok_app, i1, i3, okW, oh] <;> rfl
    · have w := wk_last (L := L) r.reverse (ed L (other (tie L k) s) r)
      rw [i3] at w
      rw [List.reverse_cons, ed, wk_app, i3, show wk L s (k :: r) = s :: wk L (other (tie L k) s) r from rfl, List.reverse_cons, ← i2]
      rw [show wk L (other (tie L k) s) [k] = [other (tie L k) s, other (tie L k) (other (tie L k) s)] from rfl, other_other]
      conv => rhs; rw [w]
      rw [List.append_assoc] <;> rfl
    · rw [List.reverse_cons, ed, ed_app, i3]
      exact other_other _ _
theorem Rnd.rev {s : Int} {ns : List Nat} (h : Rnd L s ns) : Rnd L s ns.reverse := by
  obtain ⟨i1, i2, i3⟩ := wk_rev ns s h.ok
  rw [h.ed] at i1 i2 i3
  refine ⟨i1, i3, ?_⟩
  rw [i2]
  cases ns with
  | nil => exact .nil
  | cons k r =>
    have := h.tail
    rw [wk, List.tail_cons] at this
    rw [wk, List.reverse_cons, List.dropLast_concat]
    exact (List.reverse_perm _).nodup_iff.mpr this
/-- ties of a cut, along a way -/
def crB (mem : Int → Bool) (q : Int × Int) : Bool := mem q.1 != mem q.2
theorem cross (mem : Int → Bool) : ∀ (ns : List Nat) (s : Int), okW L s ns = true → (ns.filter fun k => crB mem (tie L k)).length % 2 = if mem s = mem (ed L s ns) then 0 else 1
  | [], s, _ => by simp [ed]
  | k :: r, s, h => by
    rw [okW, Bool.and_eq_true] at h
    have ih := cross mem r _ h.2
    have hs := has_iff.mp h.1
    have c : crB mem (tie L k) = (mem s != mem (other (tie L k) s)) := by
      unfold crB other
      rcases hs with e | e
      · rw [e, show (tie L k).1 + (tie L k).2 - (tie L k).1 = (tie L k).2 by omega]
      · rw [e, show (tie L k).1 + (tie L k).2 - (tie L k).2 = (tie L k).1 by omega]
        cases mem (tie L k).1 <;> cases mem (tie L k).2 <;> rfl
    rw [List.filter_cons, ed]
    cases x : mem s <;> cases y : mem (other (tie L k) s) <;> cases z : mem (ed L (other (tie L k) s) r) <;> simp only [c, x, y, z] at ih ⊢ <;> simp at ih ⊢ <;> omega
theorem Rnd.even {s : Int} {ns : List Nat} (h : Rnd L s ns) (mem : Int → Bool) : (ns.filter fun k => crB mem (tie L k)).length % 2 = 0 := by
  rw [cross mem ns s h.ok, h.ed, if_pos rfl]
theorem Rnd.col {s : Int} {ns : List Nat} (h : Rnd L s ns) {mem : Int → Bool} (c : ∀ k ∈ ns, crB mem (tie L k) = true) : ns.length % 2 = 0 := by
  have e := h.even mem
  rwa [List.filter_eq_self.mpr c] at e
/-! ### what is told of it -/
def rndB (L : List (Int × Int)) (s : Int) (ns : List Nat) : Bool := okW L s ns && decide (ed L s ns = s) && decide (wk L s ns).dropLast.Nodup
theorem rndB_iff {s : Int} {ns : List Nat} : rndB L s ns = true ↔ Rnd L s ns := by
  unfold rndB
  simp only [Bool.and_eq_true, decide_eq_true_eq]
  exact ⟨fun ⟨⟨a, b⟩, c⟩ => ⟨a, b, c⟩, fun ⟨a, b, c⟩ => ⟨⟨a, b⟩, c⟩⟩
def ringB (L : List (Int × Int)) (ns : List Nat) : Bool := decide (2 ≤ ns.length) && decide ns.Nodup && (rndB L (tie L (ns.getD 0 0)).1 ns || rndB L (tie L (ns.getD 0 0)).2 ns)
theorem ringB_of {s : Int} {ns : List Nat} (h : Rnd L s ns) (h2 : 2 ≤ ns.length) (nd : ns.Nodup) : ringB L ns = true := by
  unfold ringB
  rw [decide_eq_true h2, decide_eq_true nd]
  cases ns with
  | nil => simp at h2
  | cons k r =>
    have ok := h.ok
    rw [okW, Bool.and_eq_true] at ok
    show (true && true && (rndB L (tie L k).1 (k :: r) || rndB L (tie L k).2 (k :: r))) = true
    rcases has_iff.mp ok.1 with e | e
    · rw [← e, rndB_iff.mpr h] <;> rfl
    · rw [← e, rndB_iff.mpr h, Bool.or_true] <;> rfl
theorem of_ringB {ns : List Nat} (h : ringB L ns = true) : 2 ≤ ns.length ∧ ns.Nodup ∧ ∃ s, Rnd L s ns := by
  unfold ringB at h
  rw [Bool.and_eq_true, Bool.and_eq_true, decide_eq_true_eq, decide_eq_true_eq, Bool.or_eq_true] at h
  obtain ⟨⟨h1, h2⟩, h3⟩ := h
  exact ⟨h1, h2, h3.elim (fun z => ⟨_, rndB_iff.mp z⟩) fun z => ⟨_, rndB_iff.mp z⟩⟩
/-- a ring may be begun anywhere, and turned round -/
theorem ring_rot {ns : List Nat} (h : ringB L ns = true) {i : Nat} (hi : i ≤ ns.length) : ringB L (ns.drop i ++ ns.take i) = true := by
  obtain ⟨h1, h2, s, g⟩ := of_ringB h
  obtain ⟨t, g'⟩ := rot_at g i hi
  have p : (ns.drop i ++ ns.take i).Perm ns := List.perm_append_comm.trans (List.Perm.of_eq (List.take_append_drop i ns))
  exact ringB_of g' (by rw [p.length_eq]; exact h1) (p.nodup_iff.mpr h2)
theorem ring_rev {ns : List Nat} (h : ringB L ns = true) : ringB L ns.reverse = true := by
  obtain ⟨h1, h2, s, g⟩ := of_ringB h
  exact ringB_of g.rev (by rw [List.length_reverse]; exact h1) ((List.reverse_perm _).nodup_iff.mpr h2)
/-- ties are ties -/
def BelT (L : List (Int × Int)) : Prop := ∀ k, k < L.length → (tie L k).1 < (tie L k).2
theorem ring_two (B : BelT L) {i j : Nat} (hi : i < L.length) (hj : j < L.length) (ne : i ≠ j) : ringB L [i, j] = decide (tie L i = tie L j) := by
  have b1 := B i hi
  have b2 := B j hj
  have nd : [i, j].Nodup := by simp [ne]
  by_cases e : tie L i = tie L j
  · rw [decide_eq_true e]
    refine ringB_of (s := (tie L i).1) ⟨?_, ?_, ?_⟩ (Nat.le_refl 2) nd
    · simp only [okW, Bool.and_true, ← e, Bool.and_eq_true]
      exact ⟨has_iff.mpr (.inl rfl), other_has (has_iff.mpr (.inl rfl))⟩
    · simp only [ed, ← e]; exact other_other _ _
    · show [(tie L i).1, other (tie L i) (tie L i).1].Nodup
      unfold other
      simp only [List.nodup_cons, List.mem_singleton, List.not_mem_nil, not_false_eq_true, List.nodup_nil, and_true]
      omega
  · rw [decide_eq_false e]
    cases h : ringB L [i, j] with
    | false => rfl
    | true =>
      obtain ⟨_, _, s, ok, ed', _⟩ := of_ringB h
      simp only [okW, Bool.and_true, Bool.and_eq_true] at ok
      simp only [ed] at ed'
      have h1 := has_iff.mp ok.1
      have h2 := has_iff.mp ok.2
      unfold other at h2 ed'
      refine absurd (Prod.ext ?_ ?_) e <;> omega
/-- the program's look -/
def leadsP (L : List (Int × Int)) (start : Int) : Int → List Int → List Nat → Bool
  | p, _, [] => decide (p = start)
  | p, met, k :: r => if decide (p ∈ met) = true then false else if has (tie L k) p = true then leadsP L start (other (tie L k) p) (met ++ [p]) r else false
theorem leadsP_eq (start : Int) : ∀ (ns : List Nat) (p : Int) (met : List Int), met.Nodup → leadsP L start p met ns = (okW L p ns && decide (ed L p ns = start) && decide (met ++ (wk L p ns).dropLast).Nodup)
  | [], p, met, h => by
    rw [leadsP, okW, ed, wk, show ([p] : List Int).dropLast = [] from rfl, List.append_nil, decide_eq_true h, Bool.and_true, Bool.true_and]
  | k :: r, p, met, h => by
    rw [leadsP, okW, ed, wk, wk_head r, List.dropLast_cons_cons, ← wk_head r]
    by_cases hp : p ∈ met
    · rw [if_pos (decide_eq_true hp)]
      refine (Bool.and_eq_false_iff.mpr (.inr (decide_eq_false fun z => ?_))).symm
      exact (List.nodup_append.mp z).2.2 p hp p (List.mem_cons_self ..) rfl
    · rw [if_neg (by simpa using hp)]
      by_cases hh : has (tie L k) p = true
      · rw [if_pos hh, hh, leadsP_eq start r _ _ (List.nodup_append.mpr ⟨h, by simp, fun a ha b hb e => by rw [List.mem_singleton.mp hb] at e; exact hp (e ▸ ha)⟩), List.append_assoc, Bool.true_and] <;> rfl
      · rw [if_neg hh, show has (tie L k) p = false by cases q : has (tie L k) p <;> simp_all] <;> rfl
theorem leadsP_rnd (s : Int) (ns : List Nat) : leadsP L s s [] ns = rndB L s ns := by rw [leadsP_eq s ns s [] .nil, List.nil_append] <;> rfl
/-- the law's look: the place and what is met -/
def lawW (L : List (Int × Int)) : Int → List Int → List Nat → Int × List Int
  | p, met, [] => (p, met)
  | p, met, k :: r => if has (tie L k) p = true then lawW L (other (tie L k) p) (met ++ [other (tie L k) p]) r else lawW L p met r
theorem lawW_le : ∀ (ns : List Nat) (p : Int) (met : List Int), (lawW L p met ns).2.length ≤ met.length + ns.length
  | [], _, _ => Nat.le_refl _
  | k :: r, p, met => by
    rw [lawW]
    split
    · have := lawW_le r (other (tie L k) p) (met ++ [other (tie L k) p])
      rw [List.length_append, List.length_singleton] at this
      rw [List.length_cons]
      omega
    · have := lawW_le r p met
      rw [List.length_cons]
      omega
theorem lawW_ok : ∀ (ns : List Nat) (p : Int) (met : List Int), okW L p ns = true → lawW L p met ns = (ed L p ns, met ++ (wk L p ns).tail)
  | [], p, met, _ => by rw [lawW, ed, wk, List.tail_cons, List.append_nil]
  | k :: r, p, met, h => by
    rw [okW, Bool.and_eq_true] at h
    rw [lawW, if_pos h.1, lawW_ok r _ _ h.2, ed, wk, List.tail_cons]
    conv => rhs; rw [wk_head r]
    rw [List.append_assoc] <;> rfl
theorem lawW_no : ∀ (ns : List Nat) (p : Int) (met : List Int), okW L p ns = false → (lawW L p met ns).2.length < met.length + ns.length
  | [], _, _, h => by cases h
  | k :: r, p, met, h => by
    rw [lawW]
    by_cases hh : has (tie L k) p = true
    · rw [okW, hh, Bool.true_and] at h
      rw [if_pos hh]
      have := lawW_no r _ (met ++ [other (tie L k) p]) h
      rw [List.length_append, List.length_singleton] at this
      rw [List.length_cons]
      omega
    · rw [if_neg hh]
      have := lawW_le (L := L) r p met
      rw [List.length_cons]
      omega
theorem law_rnd {ns : List Nat} (s : Int) (h : ns ≠ []) : (decide ((lawW L s [] ns).1 = s) && (decide ((lawW L s [] ns).2.length = ns.length) && decide (lawW L s [] ns).2.Nodup)) = rndB L s ns := by
  cases ok : okW L s ns with
  | false =>
    have := lawW_no ns s [] ok
    simp only [List.length_nil, Nat.zero_add] at this
    unfold rndB
    rw [ok, decide_eq_false (p := (lawW L s [] ns).2.length = ns.length) (by omega)]
    simp
  | true =>
    rw [lawW_ok ns s [] ok, List.nil_append]
    unfold rndB
    rw [ok, Bool.true_and]
    have hl : (wk L s ns).tail.length = ns.length := by rw [List.length_tail, wk_len] <;> rfl
    rw [decide_eq_true hl, Bool.true_and]
    by_cases he : ed L s ns = s
    · rw [decide_eq_true he, Bool.true_and, Bool.true_and]
      refine decide_eq_decide.mpr ?_
      cases ns with
      | nil => exact absurd rfl h
      | cons k r =>
        have w := wk_last (L := L) r (other (tie L k) s)
        rw [show ed L (other (tie L k) s) r = s from he] at w
        have p : (wk L s (k :: r)).tail.Perm (wk L s (k :: r)).dropLast := by
          rw [wk, List.tail_cons]
          conv => rhs; rw [wk_head r, List.dropLast_cons_cons, ← wk_head r]
          conv => lhs; rw [w]
          exact List.perm_append_comm
        exact p.nodup_iff
    · rw [decide_eq_false he] <;> rfl
/-! ### a drawn walk -/
theorem wk_drop : ∀ (j : Nat) (ns : List Nat) (s : Int), j ≤ ns.length → okW L s ns = true → (wk L s ns).drop j = wk L (ed L s (ns.take j)) (ns.drop j) ∧ okW L (ed L s (ns.take j)) (ns.drop j) = true
  | 0, _, _, _, h => ⟨rfl, h⟩
  | j + 1, [], _, h, _ => by simp at h
  | j + 1, k :: r, s, h, ok => by
    rw [okW, Bool.and_eq_true] at ok
    rw [wk, List.drop_succ_cons, List.take_succ_cons, List.drop_succ_cons, ed]
    exact wk_drop j r _ (by simpa using h) ok.2
theorem walked_ring (B : BelT L) {p0 p : Int} {ns : List Nat} {ps : List Int} (ok : okW L p0 ns = true) (w : wk L p0 ns = ps ++ [p]) (nd : ps.Nodup) (nn : ns.Nodup) (lt : ∀ k ∈ ns, k < L.length) {j : Nat} (hj : ps[j]? = some p) : ringB L (ns.drop j) = true := by
  have len : ps.length = ns.length := by
    have := congrArg List.length w
    rw [wk_len, List.length_append, List.length_singleton] at this
    omega
  have jl : j < ps.length := (List.getElem?_eq_some_iff.mp hj).1
  obtain ⟨d1, d2⟩ := wk_drop j ns p0 (by omega) ok
  have d1' := d1
  rw [w, List.drop_append_of_le_length (by omega), List.drop_eq_getElem_cons jl] at d1
  have e : ps[j] = p := by rw [List.getElem?_eq_getElem jl] at hj; exact Option.some.inj hj
  rw [e] at d1
  have es : ed L p0 (ns.take j) = p := by
    rw [wk_head] at d1
    exact (List.cons.inj d1).1.symm
  rw [es] at d1 d2
  have wl := wk_last (L := L) (ns.drop j) p
  have r : Rnd L p (ns.drop j) := by
    have q : ps.drop j ++ [p] = (wk L p (ns.drop j)).dropLast ++ [ed L p (ns.drop j)] := by rw [← wl, ← d1, List.drop_eq_getElem_cons jl, e] 
    have q1 := List.append_inj' q rfl
    refine ⟨d2, (List.cons.inj q1.2).1.symm, ?_⟩
    rw [← q1.1]
    exact (List.drop_sublist j ps).nodup nd
  refine ringB_of r ?_ ((List.drop_sublist j ns).nodup nn)
  rw [List.length_drop]
  by_cases one : ns.length - j = 1
  · have : (ns.drop j).length = 1 := by rw [List.length_drop]; exact one
    obtain ⟨k, hk⟩ := List.length_eq_one_iff.mp this
    rw [hk] at r
    have kl : k < L.length := lt k (List.mem_of_mem_drop (by rw [hk]; exact List.mem_singleton.mpr rfl))
    have b := B k kl
    have o := r.ok
    have e := r.ed
    simp only [okW, Bool.and_true] at o
    simp only [ed] at e
    have := has_iff.mp o
    unfold other at e
    omega
  · omega
theorem wk_snoc {p0 p : Int} {ns : List Nat} {ps : List Int} (ok : okW L p0 ns = true) (w : wk L p0 ns = ps ++ [p]) {k : Nat} (h : has (tie L k) p = true) : okW L p0 (ns ++ [k]) = true ∧ wk L p0 (ns ++ [k]) = (ps ++ [p]) ++ [other (tie L k) p] := by
  have wl := wk_last (L := L) ns p0
  rw [w] at wl
  have q := List.append_inj' wl rfl
  have e : ed L p0 ns = p := (List.cons.inj q.2).1.symm
  refine ⟨by rw [ok_app, ok, e, okW, h] <;> rfl, ?_⟩
  rw [wk_app, e, show (wk L p0 ns).dropLast = ps by rw [w, List.dropLast_concat], List.append_assoc] <;> rfl
end
end K0

set_option Elab.async false
set_option linter.all false
set_option maxRecDepth 100000
set_option maxHeartbeats 8000000
/-! Plain webs, rests. -/
namespace K0
open PySem PySem.Spec L2
open PyProof.Rows hiding St
/-! ### members of a row of ints -/
theorem inV_ints (k : Int) (ns : List Int) : inV (.int k) (ns.map V.int) = decide (k ∈ ns) := by
  unfold inV
  rw [List.any_map]
  induction ns with
  | nil => rfl
  | cons n ns ih =>
    rw [List.any_cons, ih]
    show ((n == k) || decide (k ∈ ns)) = decide (k ∈ n :: ns)
    by_cases h : n = k
    · subst h
      simp
    · have h' : ¬ k = n := fun z => h z.symm
      simp [h, h', List.mem_cons]
theorem flat_ints (ns : List Int) : (ns.map V.int).all flatV = true := List.all_eq_true.mpr fun v hv => by
  obtain ⟨i, _, rfl⟩ := List.mem_map.mp hv
  rfl
/-- the places that are not in ns -/
def iota (n : Nat) : List Int := (List.range n).map fun i => ((i : Nat) : Int)
def restN (n : Nat) (ns : List Int) : List Int := (iota n).filter fun i => !decide (i ∈ ns)
theorem iota_succ (n : Nat) : iota (n + 1) = iota n ++ [(n : Int)] := by
  unfold iota
  rw [List.range_succ, List.map_append] <;> rfl
theorem rest_succ (n : Nat) (ns : List Int) : restN (n + 1) ns = if (!decide ((n : Int) ∈ ns)) = true then restN n ns ++ [(n : Int)] else restN n ns := by
  unfold restN
  rw [iota_succ, List.filter_append]
  by_cases h : (n : Int) ∈ ns
  · simp [h]
  · simp [h]
theorem iota_mem {n : Nat} {i : Int} : i ∈ iota n ↔ 0 ≤ i ∧ i < n := by
  unfold iota
  rw [List.mem_map]
  constructor
  · rintro ⟨k, hk, rfl⟩
    have := List.mem_range.mp hk
    omega
  · intro h
    exact ⟨i.toNat, List.mem_range.mpr (by omega), by omega⟩
theorem iota_inc (n : Nat) : (iota n).Pairwise (· < ·) := by
  unfold iota
  exact List.pairwise_map.mpr (List.pairwise_lt_range.imp fun {a b} z => by omega)
theorem rest_mem {n : Nat} {ns : List Int} {i : Int} : i ∈ restN n ns ↔ (0 ≤ i ∧ i < n) ∧ i ∉ ns := by
  unfold restN
  rw [List.mem_filter, iota_mem]
  simp
theorem rest_lot (n : Nat) (ns : List Int) : IsLot n (restN n ns) := ⟨fun i hi => (rest_mem.mp hi).1, (iota_inc n).filter _⟩
theorem rest_len (n : Nat) (ns : List Int) : (restN n ns).length ≤ n := by
  unfold restN iota
  refine Nat.le_trans (List.length_filter_le _ _) ?_
  rw [List.length_map, List.length_range]
  exact Nat.le_refl _
theorem inc_nd {ns : List Int} (h : ns.Pairwise (· < ·)) : ns.Nodup := h.imp fun {a b} z e => by omega
theorem nd_len : ∀ {α : Type} [DecidableEq α] {M L : List α}, M.Nodup → (∀ q ∈ M, q ∈ L) → M.length ≤ L.length
  | _, _, [], L, _, _ => Nat.zero_le _
  | _, _, q :: M, L, h, s => by
    obtain ⟨h1, h2⟩ := List.pairwise_cons.mp h
    have hq := s q (List.mem_cons_self ..)
    have := nd_len (M := M) (L := L.erase q) h2 fun r hr => (List.mem_erase_of_ne (fun e => h1 r hr e.symm)).mpr (s r (List.mem_cons_of_mem _ hr))
    rw [List.length_erase_of_mem hq] at this
    have pos := List.length_pos_of_mem hq
    rw [List.length_cons]
    omega
theorem lot_len {n : Nat} {ns : List Int} (h : IsLot n ns) : ns.length ≤ n := by
  have := nd_len (L := iota n) (inc_nd h.inc) fun i hi => iota_mem.mpr (h.bel i hi)
  rwa [iota, List.length_map, List.length_range] at this
/-! ### a web without doubled ties -/
structure IsPl (L M : List (Int × Int)) : Prop where
  nd : M.Nodup
  srt : Srt M
  mem : ∀ q, q ∈ M ↔ q ∈ L
theorem pl_uniq {n : Int} {L M M' : List (Int × Int)} (hn : n ≤ 12) (hB : Bel n L) (a : IsPl L M) (b : IsPl L M') : M = M' :=
  srt_uniq hn ((List.perm_ext_iff_of_nodup a.nd b.nd).mpr fun q => (a.mem q).trans (b.mem q).symm) (hB.sub fun q z => (a.mem q).mp z) a.srt b.srt
theorem pl_self {L M : List (Int × Int)} (a : IsPl L M) : IsPl M M := ⟨a.nd, a.srt, fun _ => Iff.rfl⟩
theorem pl_two {L M M' : List (Int × Int)} (a : IsPl L M) (b : IsPl M M') : IsPl L M' := ⟨b.nd, b.srt, fun q => (b.mem q).trans (a.mem q)⟩
theorem GW.pl {H : Hp} {w w' : Addr} {n : Nat} {L M : List (Int × Int)} (g : GW H w n L) (W : Web H w' n M) (p : IsPl L M) : GW H w' n M :=
  ⟨W, g.n1, g.n2, g.bel.sub fun q z => (p.mem q).mp z, p.srt, Nat.le_trans (nd_len p.nd fun q z => (p.mem q).mp z) g.few⟩
theorem Prs.ks {H : Hp} {vs : List V} {L : List (Int × Int)} (p : Prs H vs L) : ∃ ks : List (Addr × List Int), vs = ks.map (fun e => V.ref e.1) ∧ (∀ e ∈ ks, ∃ q ∈ L, e.2 = [q.1, q.2] ∧ H e.1 = some (.tup [.int q.1, .int q.2])) ∧ (∀ q ∈ L, ∃ e ∈ ks, e.2 = [q.1, q.2]) ∧ ks.length = L.length := by
  induction p with
  | nil => exact ⟨[], rfl, (fun _ z => nomatch z), (fun _ z => nomatch z), rfl⟩
  | @cons a r vs L h t ih =>
    obtain ⟨ks, e1, e2, e3, e4⟩ := ih
    refine ⟨(a, [r.1, r.2]) :: ks, by rw [e1] <;> rfl, fun e he => ?_, fun q hq => ?_, by rw [List.length_cons, List.length_cons, e4]⟩
    · rcases List.mem_cons.mp he with rfl | he
      · exact ⟨r, List.mem_cons_self .., rfl, h⟩
      · obtain ⟨q, q1, q2⟩ := e2 e he
        exact ⟨q, List.mem_cons_of_mem _ q1, q2⟩
    · rcases List.mem_cons.mp hq with rfl | hq
      · exact ⟨_, List.mem_cons_self .., rfl⟩
      · obtain ⟨e, e1, e2⟩ := e3 q hq
        exact ⟨e, List.mem_cons_of_mem _ e1, e2⟩
theorem ks_prs {H : Hp} {L : List (Int × Int)} : ∀ {ks : List (Addr × List Int)}, (∀ e ∈ ks, ∃ q ∈ L, e.2 = [q.1, q.2] ∧ H e.1 = some (.tup [.int q.1, .int q.2])) → ∃ M : List (Int × Int), Prs H (ks.map fun e => V.ref e.1) M ∧ ks.map (·.2) = M.map fun q => [q.1, q.2]
  | [], _ => ⟨[], .nil, rfl⟩
  | e :: ks, h => by
    obtain ⟨q, _, h1, h2⟩ := h e (List.mem_cons_self ..)
    obtain ⟨M, m1, m2⟩ := ks_prs (ks := ks) fun e z => h e (List.mem_cons_of_mem _ z)
    exact ⟨q :: M, .cons h2 m1, by rw [List.map_cons, List.map_cons, h1, m2]⟩
theorem pr_inj : ∀ {a b : Int × Int}, ([a.1, a.2] : List Int) = [b.1, b.2] → a = b := fun {a b} h => by
  obtain ⟨a1, a2⟩ := a
  obtain ⟨b1, b2⟩ := b
  simp only [List.cons.injEq, and_true] at h
  rw [h.1, h.2]
def spPlainOf : Sp := fun vs H Q _ => ∃ (w : Addr) (n : Nat) (L : List (Int × Int)), vs = [.ref w] ∧ GW H w n L ∧ ∀ (w' : Addr) (M : List (Int × Int)) (H' : Hp), Same H H' → H w' = none → Web H' w' n M → IsPl L M → Q (.ref w') H'
def spPlacesBut : Sp := fun vs H Q _ => ∃ (w a : Addr) (n : Nat) (L : List (Int × Int)) (ns : List Int), vs = [.ref w, .ref a] ∧ GW H w n L ∧ TT H a (ns.map V.int) ∧ ∀ (t : Addr) (H' : Hp), Same H H' → H t = none → H' t = some (.tup ((restN n ns).map V.int)) → Q (.ref t) H'
def spIsLot : Sp := fun vs H Q _ => ∃ (w : Addr) (n : Nat) (L : List (Int × Int)) (v : V) (o : Option (List V)), vs = [.ref w, v] ∧ GW H w n L ∧ Th H v o ∧ ∀ H', Same H H' → Q (.bl (lotO n o)) H'
/-- a def of a web and a lot, that refuses what is none -/
def spLot (C : Addr) (G : Hp → Addr → Nat → List (Int × Int) → List Int → VK → Prop) : Sp := fun vs H Q E => ∃ (w : Addr) (n : Nat) (L : List (Int × Int)) (v : V) (o : Option (List V)), vs = [.ref w, v] ∧ GW H w n L ∧ Th H v o ∧
  (∀ (a : Addr) (ns : List Int), v = .ref a → o = some (ns.map V.int) → IsLot n ns → TT H a (ns.map V.int) → G H a n L ns Q) ∧ (lotO n o = false → Rz C "thing" v H E)
def gRest : Hp → Addr → Nat → List (Int × Int) → List Int → VK → Prop := fun H _ n _ ns Q => ∀ (t : Addr) (H' : Hp), Same H H' → H t = none → H' t = some (.tup ((restN n ns).map V.int)) → Q (.ref t) H'
/-- it is a lot, or refused -/
theorem th_cases {H : Hp} {v : V} {o : Option (List V)} {n : Int} (h : Th H v o) : (lotO n o = true ∧ ∃ a ns, v = .ref a ∧ o = some (ns.map V.int) ∧ IsLot n ns ∧ TT H a (ns.map V.int)) ∨ lotO n o = false := by
  cases h with
  | oth _ _ => exact .inr rfl
  | @tup a xs e _ _ =>
    cases z : lotD n xs with
    | false => exact .inr z
    | true =>
      obtain ⟨e1, e2⟩ := lot_of z
      exact .inl ⟨z, a, _, rfl, congrArg some e1, e2, e1 ▸ e⟩
section
variable {P : Program} {w0 : World} {K : PySem.W.Frag} {mg : Str → Option Value} {base : Heap}
theorem scPlainOf : FnScope ["web"] ["web"] (defScope pPlainOf) := ⟨rfl, rfl, rfl, by decide +kernel, rfl, by decide +kernel, by decide +kernel⟩
theorem ok_plainOf {f : Addr} {fd : FuncData} (F : Fun K "plain_of" "plain_of" pPlainOf f fd) (T : Bk mg) : FnOk P w0 K mg base CX0 1 f fd ["web"] spPlainOf := by
  refine F.ok scPlainOf (fun vs H Q E h => ?_) (fun cdv A outer s H vs Q E hr h => ?_)
  · obtain ⟨w, n, L, rfl, _⟩ := h
    rfl
  · obtain ⟨w, n, L, rfl, G, k⟩ := h
    refine ⟨_, pss_one (ps_ret (pe_tup (pa_cons (pe_ix ix_tup (pv 0) pe_int (fun _ _ => rfl)) (pa_cons (pe_callTy call_tuple_of (by rfl) T.tuple (by decide +kernel) (pa_cons (pe_callB (cr_sortedT rfl) (by rfl) T.sorted (by decide +kernel)
      (pa_cons (pe_callTy (KR.cr_setTT rfl hr.units) (by rfl) T.set (by decide +kernel) (pa_cons (pe_ix ix_tup (pv 0) pe_int (fun _ _ => rfl)) pa_nil)) pa_nil)) pa_nil)) pa_nil)))), ?_⟩
    obtain ⟨ta, vs, e1, e2, e3⟩ := G.web.ex
    obtain ⟨ks, k1, k2, k3, k4⟩ := e3.ks
    have few := G.few
    refine ⟨_, rfl, w, _, _, _, rfl, rfl, SqT.of e1, atI_nat (j := 0) rfl, _, rfl, w, _, _, _, rfl, rfl, SqT.of e1, atI_nat (j := 1) rfl, ta, ks, rfl, SqT.of (k1 ▸ e2), fun e he => ?_, by omega, fun b Ls hb s1 s2 => ?_⟩
    · obtain ⟨q, _, h1, h2⟩ := k2 e he
      rw [h1]
      exact SqT.of h2
    · have sb : Same H (upd H b (SetTO P w0 b Ls)) := same_new hb
      refine ⟨b, Ls, 2, 64, rfl, upd_same, fun e he => ?_, by decide, fun e he => ?_, fun Lt p pm nd lt pw hp => ?_⟩
      · obtain ⟨q, _, h1, h2⟩ := k2 e (s1 e he)
        rw [h1]
        exact SqT.of (sb _ _ h2)
      · obtain ⟨q, hq, h1, _⟩ := k2 e (s1 e he)
        have := G.bel q hq
        have := G.n2
        rw [h1]
        refine ⟨rfl, fun m hm => ?_⟩
        rcases List.mem_cons.mp hm with rfl | hm
        · omega
        · rw [List.mem_singleton.mp hm]; omega
      · have sp := sb.trans (same_new (o := .lst (Lt.map fun q => V.ref q.1)) hp)
        have mt : ∀ e ∈ Lt, ∃ q ∈ L, e.2 = [q.1, q.2] ∧ (upd (upd H b (SetTO P w0 b Ls)) p (.lst (Lt.map fun q => V.ref q.1))) e.1 = some (.tup [.int q.1, .int q.2]) := fun e he => by
          obtain ⟨q, hq, h1, h2⟩ := k2 e (s1 e (pm.mem_iff.mp he))
          exact ⟨q, hq, h1, sp _ _ h2⟩
        obtain ⟨M, m1, m2⟩ := ks_prs mt
        have pl : IsPl L M := by
          refine ⟨?_, ?_, fun q => ⟨fun hq => ?_, fun hq => ?_⟩⟩
          · rw [m2] at nd
            exact nodup_of_map nd
          · have : (Lt.map (·.2)).Pairwise fun a b => TS.code 64 a ≤ TS.code 64 b := List.pairwise_map.mpr pw
            rw [m2] at this
            exact (List.pairwise_map.mp this).imp fun {a b} z => by rw [code_pair, code_pair] at z; exact z
          · have : [q.1, q.2] ∈ Lt.map (·.2) := by rw [m2]; exact List.mem_map.mpr ⟨q, hq, rfl⟩
            obtain ⟨e, he, e1⟩ := List.mem_map.mp this
            obtain ⟨r, hr, h1, _⟩ := mt e he
            rw [pr_inj (e1.symm.trans h1)]
            exact hr
          · obtain ⟨e, he, h1⟩ := k3 q hq
            have h2 := s2 e he
            rw [h1] at h2
            obtain ⟨e', he', h3⟩ := List.mem_map.mp h2
            have : [q.1, q.2] ∈ Lt.map (·.2) := List.mem_map.mpr ⟨e', pm.mem_iff.mpr he', h3⟩
            rw [m2] at this
            obtain ⟨r, hr, h4⟩ := List.mem_map.mp this
            rw [← pr_inj h4]
            exact hr
        refine ⟨p, _, rfl, .inl ⟨SqL.of upd_same, fun t ht => ⟨by show 2 ≤ sizeLine; decide, fun w' hw => ?_⟩⟩⟩
        have s2' : Same H (upd (upd (upd H b (SetTO P w0 b Ls)) p (.lst (Lt.map fun (q : Addr × List Int) => V.ref q.1))) t (.tup (Lt.map fun (q : Addr × List Int) => V.ref q.1))) := sp.trans (same_new ht)
        exact k w' M _ (s2'.trans (same_new hw)) (s2'.free hw) ⟨t, _, upd_same, by rw [upd_ne (ne_of_none upd_same hw)]; exact upd_same, (m1.mono (new_tup ht)).mono (new_tup hw)⟩ pl
theorem scPlainWeb : FnScope ["web"] ["web"] (defScope pPlainWeb) := ⟨rfl, rfl, rfl, by decide +kernel, rfl, by decide +kernel, by decide +kernel⟩
theorem ok_plainWeb {f fC fI : Addr} {fd fdC fdI : FuncData} (F : Fun K "plain_web" "plain_web" pPlainWeb f fd) (GC : Dn P w0 K mg base "check_web" 5 ["thing"] spCheckWeb fC fdC) (GI : Dn P w0 K mg base "plain_of" 1 ["web"] spPlainOf fI fdI) :
    FnOk P w0 K mg base CX0 6 f fd ["web"] spPlainOf := by
  refine F.ok scPlainWeb (fun vs H Q E h => ?_) (fun cdv A outer s H vs Q E hr h => ?_)
  · obtain ⟨w, n, L, rfl, _⟩ := h
    rfl
  · obtain ⟨w, n, L, rfl, G, k⟩ := h
    refine ⟨_, pss_cons (ps_expr (pe_call GC.ok hr rfl GC.g GC.kp GC.b .nil pass0 (pa_cons (pv 0) pa_nil))) <| pss_one (ps_ret (pe_call GI.ok (hr.mono (by decide)) rfl GI.g GI.kp GI.b .nil pass0 (pa_cons (pv 0) pa_nil))), ?_⟩
    exact ⟨_, rfl, w, n, L, rfl, G, fun H1 s1 => ⟨_, rfl, w, n, L, rfl, G.same s1, fun w' M H2 s2 hw W p => k w' M H2 (s1.trans s2) (s1.free hw) W p⟩⟩
abbrev nPlacesBut : List Str := ["web", "lot", "place"]
theorem scPlacesBut : FnScope nPlacesBut ["web", "lot"] (defScope pPlacesBut) := ⟨rfl, rfl, rfl, by decide +kernel, rfl, by decide +kernel, by decide +kernel⟩
theorem ok_placesBut {f : Addr} {fd : FuncData} (F : Fun K "places_but" "places_but" pPlacesBut f fd) (T : Bk mg) : FnOk P w0 K mg base CX0 1 f fd ["web", "lot"] spPlacesBut := by
  refine F.ok scPlacesBut (fun vs H Q E h => ?_) (fun cdv A outer s H vs Q E hr h => ?_)
  · obtain ⟨w, a, n, L, ns, rfl, _⟩ := h
    rfl
  · obtain ⟨w, a, n, L, ns, rfl, G, hl, k⟩ := h
    refine ⟨_, pss_one (ps_ret (pe_callTy call_tuple_of (by rfl) T.tuple (by decide +kernel) (pa_cons (pe_lc (own := [("place", 2)]) (g := gName 2) rfl scPlacesBut.nd (pi_range1 (by rfl) T.range (pa_cons (pe_ix ix_tup (pv 0) pe_int (fun _ _ => rfl)) pa_nil))
      (blkOk_by (N := nPlacesBut) (sc := defScope pPlacesBut) (by decide +kernel)) (fun _ _ _ _ _ => pg_name (i := 2) scPlacesBut.nd rfl (Or.inl rfl)) (fun _ _ _ _ _ => pts_one (pt_cmpR (show OpR _ (compareOp .NotIn) (rIn K true) from op_notIn_seq) (pv 2) (pv 1) (by rfl))) (fun _ _ _ _ _ => pv 2)) pa_nil))), ?_⟩
    obtain ⟨ta, vs, e1, e2, e3⟩ := G.web.ex
    have n2 := G.n2
    refine ⟨_, rfl, w, _, _, _, rfl, rfl, SqT.of e1, atI_nat (j := 0) rfl, _, rfl, by omega, by omega, fun Da hD => ?_⟩
    refine lc_range (lo := 0) (n := (n : Int).toNat) (fun i M => M Da = some (.lst ((restN i ns).map V.int)) ∧ Same H M) ⟨upd_same, same_new hD⟩ ?_ ?_
    · rintro i M hi ⟨g1, g2⟩
      refine ⟨rfl, _, rfl, _, rfl, a, _, rfl, .inr (hl.keep fun o q => g2 _ _ q).sq, rfl, flat_ints ns, _, rfl, ?_⟩
      have e : (if true = true then !inV (V.int (0 + (i : Int))) (ns.map V.int) else inV (V.int (0 + (i : Int))) (ns.map V.int)) = !decide ((i : Int) ∈ ns) := by rw [if_pos rfl, inV_ints, Int.zero_add]
      rw [e]
      have rs := rest_succ i ns
      cases h : (!decide ((i : Int) ∈ ns)) with
      | true =>
        rw [if_pos h] at rs
        exact iteT ⟨_, rfl, _, g1, by rw [List.length_map, sizeLine_eq]; have := rest_len i ns; omega, by rw [upd_same, rs, List.map_append, Int.zero_add] <;> rfl, fun b o e => by rw [upd_ne (ne_of_none e hD)]; exact g2 _ _ e⟩
      | false =>
        rw [if_neg (by rw [h]; exact Bool.false_ne_true)] at rs
        exact iteF ⟨by rw [rs]; exact g1, g2⟩
    · rintro M ⟨g1, g2⟩
      rw [show (n : Int).toNat = n by omega] at g1
      exact ⟨Da, _, rfl, .inl ⟨SqL.of g1, fun t ht => k t _ (g2.trans (same_new ht)) (g2.free ht) upd_same⟩⟩
end
end K0

set_option Elab.async false
set_option linter.all false
set_option maxRecDepth 100000
set_option maxHeartbeats 8000000
/-! Cuts, the web within a lot and without it, ends. -/
namespace K0
open PySem PySem.Spec L2
open PyProof.Rows hiding St
/-! ### cuts -/
def crs (L : List (Int × Int)) (ns : List Int) (i : Nat) : Bool := match L[i]? with
  | some q => decide (q.1 ∈ ns) != decide (q.2 ∈ ns)
  | none => false
def cutG (L : List (Int × Int)) (ns : List Int) (i : Nat) : List Int := ((List.range i).filter (crs L ns)).map fun i => ((i : Nat) : Int)
abbrev cutN (L : List (Int × Int)) (ns : List Int) : List Int := cutG L ns L.length
theorem cut_succ (L : List (Int × Int)) (ns : List Int) (i : Nat) : cutG L ns (i + 1) = if crs L ns i = true then cutG L ns i ++ [(i : Int)] else cutG L ns i := by
  unfold cutG
  rw [List.range_succ, List.filter_append]
  cases h : crs L ns i <;> simp [h]
theorem crs_at {L : List (Int × Int)} {ns : List Int} {i : Nat} {q : Int × Int} (h : L[i]? = some q) : crs L ns i = (decide (q.1 ∈ ns) != decide (q.2 ∈ ns)) := by
  unfold crs
  rw [h]
theorem cut_len (L : List (Int × Int)) (ns : List Int) (i : Nat) : (cutG L ns i).length ≤ i := by
  unfold cutG
  rw [List.length_map]
  refine Nat.le_trans (List.length_filter_le _ _) ?_
  rw [List.length_range]
  exact Nat.le_refl _
theorem ne_bl (a b : Bool) : (!decide (V.bl a = V.bl b)) = (a != b) := by cases a <;> cases b <;> decide
/-! ### the web within a lot -/
def idx (ns : List Int) (k : Int) : Int := ((ns.idxOf k : Nat) : Int)
def both (ns : List Int) (q : Int × Int) : Bool := decide (q.1 ∈ ns) && decide (q.2 ∈ ns)
def withinL (L : List (Int × Int)) (ns : List Int) : List (Int × Int) := (L.filter (both ns)).map fun q => (idx ns q.1, idx ns q.2)
theorem within_snoc (L : List (Int × Int)) (ns : List Int) (q : Int × Int) : withinL (L ++ [q]) ns = if both ns q = true then withinL L ns ++ [(idx ns q.1, idx ns q.2)] else withinL L ns := by
  unfold withinL
  rw [List.filter_append]
  cases h : both ns q <;> simp [h]
theorem within_len (L : List (Int × Int)) (ns : List Int) : (withinL L ns).length ≤ L.length := by
  unfold withinL
  rw [List.length_map]
  exact List.length_filter_le _ _
theorem take_snoc {α : Type} {L : List α} {i : Nat} {q : α} (h : L[i]? = some q) : L.take (i + 1) = L.take i ++ [q] := by rw [List.take_add_one, h] <;> rfl
theorem rest_len_eq {n : Nat} {ns : List Int} (h : IsLot n ns) : (restN n ns).length + ns.length = n := by
  have p : (restN n ns ++ ns).Perm (iota n) := by
    refine (List.perm_ext_iff_of_nodup ?_ (inc_nd (iota_inc n))).mpr fun i => ?_
    · refine List.nodup_append.mpr ⟨inc_nd (rest_lot n ns).inc, inc_nd h.inc, fun a ha b hb e => ?_⟩
      subst e
      exact (rest_mem.mp ha).2 hb
    · rw [List.mem_append, rest_mem, iota_mem]
      constructor
      · rintro (z | z)
        · exact z.1
        · exact h.bel i z
      · intro z
        by_cases m : i ∈ ns
        · exact .inr m
        · exact .inl ⟨z, m⟩
  have := p.length_eq
  rw [List.length_append, iota, List.length_map, List.length_range] at this
  exact this
/-- the dict of the places -/
def kvA : List Int → Int → List (Key × V)
  | [], _ => []
  | k :: r, s => (Sum.inl k, .int s) :: kvA r (s + 1)
theorem kv_len : ∀ (ns : List Int) (s : Int), (kvA ns s).length = ns.length
  | [], _ => rfl
  | k :: r, s => by rw [kvA, List.length_cons, List.length_cons, kv_len]
theorem kv_val (k : Int) : ∀ (ns : List Int) (s : Int), valV (kvA ns s) (Sum.inl k) = if k ∈ ns then some (.int (s + idx ns k)) else none
  | [], _ => rfl
  | j :: r, s => by
    by_cases h : j = k
    · subst h
      rw [if_pos (List.mem_cons_self ..)]
      show valV ((Sum.inl j, .int s) :: kvA r (s + 1)) (Sum.inl j) = _
      rw [valV_pos rfl]
      unfold idx
      rw [List.idxOf_cons_self]
      simp
    · show valV ((Sum.inl j, .int s) :: kvA r (s + 1)) (Sum.inl k) = _
      rw [valV_neg (fun z => h (Sum.inl.inj z)), kv_val k r (s + 1)]
      have h' : ¬ k = j := fun z => h z.symm
      have hb : (j == k) = false := by simpa using h
      by_cases g : k ∈ r
      · rw [if_pos g, if_pos (List.mem_cons_of_mem _ g)]
        unfold idx
        rw [List.idxOf_cons, hb]
        simp only [cond_false]
        congr 2
        omega
      · rw [if_neg g, if_neg (by rw [List.mem_cons]; exact fun z => z.elim h' g)]
theorem kv_put (k : Int) (ns : List Int) (h : k ∉ ns) : putK (kvA ns 0) (Sum.inl k) (.int (ns.length : Nat)) = kvA (ns ++ [k]) 0 := by
  rw [putK_new _ (by rw [kv_val, if_neg h])]
  have e : ∀ (ms : List Int) (s : Int), kvA ms s ++ [(Sum.inl k, V.int (s + (ms.length : Nat)))] = kvA (ms ++ [k]) s := fun ms => by
    induction ms with
    | nil => intro s; simp [kvA]
    | cons m ms ih =>
      intro s
      rw [List.cons_append, kvA, kvA, List.cons_append, ← ih (s + 1), show (s + (((m :: ms).length : Nat) : Int)) = (s + 1) + (ms.length : Nat) by rw [List.length_cons]; omega]
  have := e ns 0
  rw [Int.zero_add] at this
  exact this
theorem dc_it {J : It} {n : Nat} {G : Hp → Prop} {Y : Nat → Hp → V → Hp → Prop} (w : Walk J n G Y) {g : TG} {tt : L2.TT} {tk tv : TE} {vs : List Nat} {σ : St} {H1 : Hp} {D : Addr} {Qd : Hp → Prop} (Pv : Nat → Hp → Prop) (h0 : Pv 0 (upd H1 D (.dK []))) (hG : ∀ i H, i ≤ n → Pv i H → G H)
    (hs : ∀ i x H H', i < n → Pv i H → Y i H x H' → g x (wipe σ vs) H' fun σ2 H2 => wipe σ2 vs = wipe σ vs ∧ tt σ2 H2 fun b H3 =>
      if b = true then tk σ2 H3 fun y H4 => tv σ2 H4 fun z H5 => ∃ kvs k, y = kV k ∧ H5 D = some (.dK kvs) ∧ kvs.length < sizeLine ∧ Pv (i + 1) (upd H5 D (.dK (putK kvs k z))) else Pv (i + 1) H3) (hd : ∀ H, Pv n H → Qd H) :
    ∃ W : Nat → Nat → Hp → Prop, (∃ m, W 0 m (upd H1 D (.dK []))) ∧ ∀ i m H, W i m H →
      (J.stop i H ∧ Qd H) ∨ (J.go i H ∧ ∃ Nx : Hp → Prop, (∀ H', Nx H' → ∃ m', m' < m ∧ W (i + 1) m' H') ∧ ∀ x H', J.yld i H x H' → g x (wipe σ vs) H' fun σ2 H2 => wipe σ2 vs = wipe σ vs ∧ tt σ2 H2 fun b H3 =>
        if b = true then tk σ2 H3 fun y H4 => tv σ2 H4 fun z H5 => ∃ kvs k, y = kV k ∧ H5 D = some (.dK kvs) ∧ kvs.length < sizeLine ∧ Nx (upd H5 D (.dK (putK kvs k z))) else Nx H3) := by
  refine ⟨fun i m H => m = n - i ∧ i ≤ n ∧ Pv i H, ⟨n, by simp, Nat.zero_le _, h0⟩, ?_⟩
  rintro i m H ⟨rfl, hi, p⟩
  have q := hG i H hi p
  by_cases lt : i < n
  · exact .inr ⟨w.goes i H lt q, Pv (i + 1), fun H' p' => ⟨n - (i + 1), by omega, rfl, lt, p'⟩, fun x H' y => hs i x H H' lt p (w.yields i H x H' lt q y)⟩
  · have e : i = n := by omega
    subst e
    exact .inl ⟨w.stops H q, hd H p⟩
/-- a def of a web and a lot, that refuses what is none, and may refuse a lot too -/
def spLotX (C : Addr) (G : Hp → Addr → Nat → List (Int × Int) → List Int → VK → XK → Prop) : Sp := fun vs H Q E => ∃ (w : Addr) (n : Nat) (L : List (Int × Int)) (v : V) (o : Option (List V)), vs = [.ref w, v] ∧ GW H w n L ∧ Th H v o ∧
  (∀ (a : Addr) (ns : List Int), v = .ref a → o = some (ns.map V.int) → IsLot n ns → TT H a (ns.map V.int) → G H a n L ns Q E) ∧ (lotO n o = false → Rz C "thing" v H E)
def gCut : Hp → Addr → Nat → List (Int × Int) → List Int → VK → Prop := fun H _ _ L ns Q => ∀ (t : Addr) (H' : Hp), Same H H' → H t = none → H' t = some (.tup ((cutN L ns).map V.int)) → Q (.ref t) H'
def spCutTies : Sp := fun vs H Q _ => ∃ (w a : Addr) (n : Nat) (L : List (Int × Int)) (ns : List Int), vs = [.ref w, .ref a] ∧ GW H w n L ∧ TT H a (ns.map V.int) ∧ gCut H a n L ns Q
def gIn (H : Hp) (L : List (Int × Int)) (ns : List Int) (Q : VK) : Prop := ∀ (w' : Addr) (H' : Hp), Same H H' → H w' = none → Web H' w' ns.length (withinL L ns) → Q (.ref w') H'
def gWithin (C : Addr) : Hp → Addr → Nat → List (Int × Int) → List Int → VK → XK → Prop := fun H a _ L ns Q E => (ns ≠ [] → gIn H L ns Q) ∧ (ns = [] → Rz C "thing" (.ref a) H E)
def gWithout (C : Addr) : Hp → Addr → Nat → List (Int × Int) → List Int → VK → XK → Prop := fun H a n L ns Q E => (restN n ns ≠ [] → gIn H L (restN n ns) Q) ∧ (restN n ns = [] → Rz C "thing" (.ref a) H E)
def spWebOf : Sp := fun vs H Q _ => ∃ (w a : Addr) (n : Nat) (L : List (Int × Int)) (ns : List Int), vs = [.ref w, .ref a] ∧ GW H w n L ∧ TT H a (ns.map V.int) ∧ IsLot n ns ∧ gIn H L ns Q
def spEnds (C : Addr) : Sp := fun vs H Q E => ∃ (w : Addr) (n : Nat) (L : List (Int × Int)) (v : V) (t : String), vs = [.ref w, v] ∧ GW H w n L ∧ VT H v t ∧
  (∀ (i : Nat) (q : Int × Int), v = .int i → L[i]? = some q → ∀ (a : Addr) (H' : Hp), Same H H' → H' a = some (.tup [.int q.1, .int q.2]) → Q (.ref a) H') ∧ (belowV v L.length = false → Rz C "number" v H E)
section
variable {P : Program} {w0 : World} {K : PySem.W.Frag} {mg : Str → Option Value} {base : Heap}
abbrev nCutTies : List Str := ["web", "lot", "number", "a", "b"]
end
end K0

set_option Elab.async false
set_option linter.all false
set_option maxRecDepth 100000
set_option maxHeartbeats 8000000
/-! The web within a lot and without it, ends. -/
namespace K0
open PySem PySem.Spec L2
open PyProof.Rows hiding St
section
variable {P : Program} {w0 : World} {K : PySem.W.Frag} {mg : Str → Option Value} {base : Heap}
abbrev nWebOf : List Str := ["web", "lot", "names", "at", "place", "a", "b"]
theorem scWebOf : FnScope nWebOf ["web", "lot"] (defScope pWebOf) := ⟨rfl, rfl, rfl, by decide +kernel, rfl, by decide +kernel, by decide +kernel⟩
theorem ok_webOf {f : Addr} {fd : FuncData} (F : Fun K "web_of" "web_of" pWebOf f fd) (T : Bk mg) : FnOk P w0 K mg base CX0 1 f fd ["web", "lot"] spWebOf := by
  refine F.ok scWebOf (fun vs H Q E h => ?_) (fun cdv A outer s H vs Q E hr h => ?_)
  · obtain ⟨w, a, n, L, ns, rfl, _⟩ := h
    rfl
  · obtain ⟨w, a, n, L, ns, rfl, G, tt, il, k⟩ := h
    have hu := hu_of hr
    refine ⟨_, pss_cons (ps_set (i := 2) scWebOf.nd rfl (.inr rfl) (pe_dc (own := [("at", 3), ("place", 4)]) (g := gTup K 2 (gCons (gName 3) (gCons (gName 4) gNil))) (tt := tYes) rfl scWebOf.nd (KR.pi_enumT (by rfl) T.enu (pa_cons (pv 1) pa_nil))
          (blkOk_by (N := nWebOf) (sc := defScope pWebOf) (by decide +kernel)) (fun _ _ _ _ _ => pg_tup rfl (pgs_cons (pg_name (i := 3) scWebOf.nd rfl (.inl rfl) (.inr rfl)) (pgs_cons (pg_name (i := 4) scWebOf.nd rfl (.inl rfl) (.inr rfl)) pgs_nil))) (fun _ _ _ _ _ => pts_nil)
          (fun _ _ _ _ _ => pv 4) (fun _ _ _ _ _ => pv 3)))
      <| pss_one (ps_ret (pe_tup (pa_cons (pe_callB call_len_seq (by rfl) T.len PySem.boot_len (pa_cons (pv 1) pa_nil)) (pa_cons (pe_callTy call_tuple_of (by rfl) T.tuple (by decide +kernel) (pa_cons
          (pe_lc (own := [("a", 5), ("b", 6)]) (g := gTup K 2 (gCons (gName 5) (gCons (gName 6) gNil))) rfl scWebOf.nd (pi_tup (pe_ix ix_tup (pv 0) pe_int (fun _ _ => rfl)))
            (blkOk_by (N := nWebOf) (sc := defScope pWebOf) (by decide +kernel)) (fun _ _ _ _ _ => pg_tup rfl (pgs_cons (pg_name (i := 5) scWebOf.nd rfl (.inl rfl) (.inr rfl)) (pgs_cons (pg_name (i := 6) scWebOf.nd rfl (.inl rfl) (.inr rfl)) pgs_nil)))
            (fun _ _ _ _ _ => pts_one (PW.pt (pw_and (pt_cmp (pc_din hu (pv 5) (pv 2))) (pw_and1 (pt_cmp (pc_din hu (pv 6) (pv 2)))))))
            (fun _ _ _ _ _ => pe_tup (pa_cons (pe_dget hu (pv 2) (pv 5) (fun _ _ => rfl)) (pa_cons (pe_dget hu (pv 2) (pv 6) (fun _ _ => rfl)) pa_nil)))) pa_nil)) pa_nil)))), ?_⟩
    obtain ⟨ta, vs, e1, e2, e3⟩ := G.web.ex
    have len := e3.len
    have few := G.few
    have ln := lot_len il
    have n2 := G.n2
    have nd := inc_nd il.inc
    -- the dict of the places
    refine ⟨_, rfl, a, _, rfl, tt.sq, fun Dd hDd => ?_⟩
    refine dc_it (KR.walk_enumT (xs := ns.map V.int)) (fun i M => M Dd = some (.dK (kvA (ns.take i) 0)) ∧ Same H M) ⟨upd_same, same_new hDd⟩ (fun i M _ g => (tt.keep fun o q => g.2 _ _ q).sq) ?_ ?_
    · rintro i x M M' hi ⟨g1, g2⟩ ⟨Tt, u, y, rfl, hT, rfl, e7, e8⟩
      cases e7
      have e8 : (ns.map V.int)[i]? = some y := e8
      rw [List.getElem?_map] at e8
      have hi' : i < ns.length := by rw [List.length_map] at hi; exact hi
      rw [List.getElem?_eq_getElem hi'] at e8
      cases e8
      have sT : Same H (upd M Tt (.tup [.int (i : Nat), .int ns[i]])) := g2.trans (same_new hT)
      have gD : (upd M Tt (.tup [.int (i : Nat), .int ns[i]])) Dd = some (.dK (kvA (ns.take i) 0)) := by rw [upd_ne (ne_of_none g1 hT)]; exact g1
      refine ⟨Tt, _, rfl, SqT.of upd_same, rfl, _, _, rfl, _, _, rfl, rfl, rfl, ?_⟩
      unfold tYes
      refine iteT ⟨_, rfl, _, rfl, _, Sum.inl ns[i], rfl, gD, by rw [kv_len, List.length_take, sizeLine_eq]; omega, ?_, fun b o e => by rw [upd_ne (ne_of_none e hDd)]; exact sT _ _ e⟩
      have tk : ns.take (i + 1) = ns.take i ++ [ns[i]] := take_snoc (List.getElem?_eq_getElem hi')
      have nin : ns[i] ∉ ns.take i := fun z => by
        have := nd
        rw [← List.take_append_drop i ns] at this
        have h2 := (List.nodup_append.mp this).2.2 _ z ns[i] (by rw [List.drop_eq_getElem_cons hi']; exact List.mem_cons_self ..)
        exact h2 rfl
      have lt : (ns.take i).length = i := by rw [List.length_take]; omega
      have := kv_put ns[i] (ns.take i) nin
      rw [lt] at this
      rw [upd_same, tk, this]
    rintro M ⟨g1, g2⟩
    rw [List.length_map, List.take_length] at g1
    have tM := tt.keep fun o q => g2 _ _ q
    refine ⟨_, rfl, a, _, rfl, .inr tM.sq, _, rfl, w, _, _, _, rfl, rfl, SqT.of (g2 _ _ e1), atI_nat (j := 1) rfl, ta, rfl, ⟨_, SqT.of (g2 _ _ e2)⟩, fun Da hD => ?_⟩
    have hDa := g2.free hD
    have e3M := e3.mono (same_tup g2)
    have ndD : Dd ≠ Da := ne_of_none g1 hD
    refine lc_it (walk_tup (xs := vs)) (fun i N => (∃ ws, N Da = some (.lst ws) ∧ Prs N ws (withinL (L.take i) ns)) ∧ N Dd = some (.dK (kvA ns 0)) ∧ Same M N) ⟨⟨[], upd_same, .nil⟩, by rw [upd_ne ndD]; exact g1, same_new hD⟩ (fun i N _ g => SqT.of (g.2.2 _ _ (g2 _ _ e2))) ?_ ?_
    · rintro i x N N' hi ⟨⟨ws, f1, f2⟩, f3, f4⟩ ⟨rfl, hx⟩
      obtain ⟨b, q, rfl, hq, hb⟩ := e3M.get hx
      have ts := take_snoc hq
      have wl := within_len (L.take i) ns
      rw [List.length_take] at wl
      have wsn := within_snoc (L.take i) ns q
      rw [← ts] at wsn
      have dg : ∀ {N1 : Hp} (j : Int), N1 Dd = some (.dK (kvA ns 0)) → DGet N1 Dd (.int j) (if j ∈ ns then some (.int (0 + idx ns j)) else none) := fun j e => kv_val j ns 0 ▸ DGet.k (k := Sum.inl j) e
      refine ⟨b, _, rfl, SqT.of (f4 _ _ hb), rfl, _, _, rfl, _, _, rfl, rfl, rfl, _, rfl, _, rfl, Dd, _, rfl, dg q.1 f3, _, rfl, ?_⟩
      by_cases h1 : q.1 ∈ ns
      · rw [if_pos h1]
        refine iteT ⟨_, rfl, _, rfl, Dd, _, rfl, dg q.2 f3, _, rfl, ?_⟩
        by_cases h2 : q.2 ∈ ns
        · have hbo : both ns q = true := by unfold both; rw [decide_eq_true h1, decide_eq_true h2] <;> rfl
          rw [if_pos hbo] at wsn
          rw [if_pos h2]
          have d1 := dg q.1 f3
          have d2 := dg q.2 f3
          rw [if_pos h1] at d1
          rw [if_pos h2] at d2
          rw [Int.zero_add] at d1 d2
          refine iteT ⟨_, rfl, _, rfl, Dd, _, rfl, d1, _, rfl, _, rfl, Dd, _, rfl, d2, by show 2 ≤ sizeLine; decide, fun t ht => ?_⟩
          have f1' : (upd N' t (.tup [.int (idx ns q.1), .int (idx ns q.2)])) Da = some (.lst ws) := by rw [upd_ne (ne_of_none f1 ht)]; exact f1
          refine ⟨ws, f1', by rw [f2.len, sizeLine_eq]; omega, ⟨_, upd_same, ?_⟩, by rw [upd_ne ndD, upd_ne (ne_of_none f3 ht)]; exact f3, fun c o e => by rw [upd_ne (ne_of_none e hD), upd_ne (ne_of_none (f4 _ _ e) ht)]; exact f4 _ _ e⟩
          rw [wsn]
          exact ((f2.mono (new_tup ht)).app (.cons (q := (idx ns q.1, idx ns q.2)) upd_same .nil)).mono (upd_tup f1')
        · have hbo : both ns q = false := by unfold both; rw [decide_eq_false h2, Bool.and_false]
          rw [if_neg (by rw [hbo]; exact Bool.false_ne_true)] at wsn
          rw [if_neg h2]
          exact iteF ⟨⟨ws, f1, by rw [wsn]; exact f2⟩, f3, f4⟩
      · have hbo : both ns q = false := by unfold both; rw [decide_eq_false h1, Bool.false_and]
        rw [if_neg (by rw [hbo]; exact Bool.false_ne_true)] at wsn
        rw [if_neg h1]
        exact iteF ⟨⟨ws, f1, by rw [wsn]; exact f2⟩, f3, f4⟩
    · rintro N ⟨⟨ws, f1, f2⟩, f3, f4⟩
      rw [len, List.take_length] at f2
      refine ⟨Da, ws, rfl, .inl ⟨SqL.of f1, fun t ht => ⟨by show 2 ≤ sizeLine; decide, fun w' hw => ?_⟩⟩⟩
      have s3 := (g2.trans f4).trans (same_new (o := .tup ws) ht)
      have ew : ((ns.map V.int).length : Nat) = ns.length := List.length_map ..
      refine k w' _ (s3.trans (same_new hw)) (s3.free hw) ⟨t, ws, by rw [upd_same, ew], by rw [upd_ne (ne_of_none upd_same hw)]; exact upd_same, (f2.mono (new_tup ht)).mono (new_tup hw)⟩
theorem scWithout : FnScope ["web", "lot"] ["web", "lot"] (defScope pWithout) := ⟨rfl, rfl, rfl, by decide +kernel, rfl, by decide +kernel, by decide +kernel⟩
theorem ok_without {f fC fL fW fB C cI : Addr} {fd fdC fdL fdW fdB : FuncData} (F : Fun K "without" "without" pWithout f fd) (T : Bk mg) (R : ErX P K mg "BadLot" C cI "thing") (GC : Dn P w0 K mg base "check_web" 5 ["thing"] spCheckWeb fC fdC)
    (GL : FnOk P w0 K mg base (L2.CX P w0) 4 fL fdL ["web", "thing"] (spCheckLot C)) (gL : mg "check_lot" = some (.ref fL)) (kL : PySem.W.keepIn K (.ref fL) = true) (bL : Binds K fdL ["web", "thing"] [])
    (GW' : Dn P w0 K mg base "web_of" 1 ["web", "lot"] spWebOf fW fdW) (GB : Dn P w0 K mg base "places_but" 1 ["web", "lot"] spPlacesBut fB fdB) : FnOk P w0 K mg base (L2.CX P w0) 6 f fd ["web", "lot"] (spLotX C (gWithout C)) := by
  refine F.okX scWithout (fun vs H Q E h => ?_) (fun cdv A outer s H vs Q E hr h => ?_)
  · obtain ⟨w, n, L, v, o, rfl, _⟩ := h
    rfl
  · obtain ⟨w, n, L, v, o, rfl, G, th, k, kx⟩ := h
    refine ⟨_, pss_cons (ps_expr (pe_call GC.ok hr rfl GC.g GC.kp GC.b .nil pass0 (pa_cons (pv 0) pa_nil)))
      <| pss_cons (ps_expr (pe_call GL (hr.mono (by decide)) rfl gL kL bL .nil (passes_call (takes_of rfl rfl rfl rfl) (fun _ _ _ _ h => h)) (pa_cons (pv 0) (pa_cons (pv 1) pa_nil))))
      <| pss_cons (ps_if (pt_cmpR op_eq (pe_callB call_len_seq (by rfl) T.len PySem.boot_len (pa_cons (pv 1) pa_nil)) (pe_ix ix_tup (pv 0) pe_int (fun _ _ => rfl)) (nomark _)) (pss_one (ps_raise rfl (takes_of rfl rfl rfl rfl) (pmk1 R.er R.f1 (by decide) T.sup hr R.g (pa_cons (pv 1) pa_nil)))) pss_nil)
      <| pss_one (ps_ret (pe_call GW'.ok (hr.mono (by decide)) rfl GW'.g GW'.kp GW'.b .nil pass0 (pa_cons (pv 0) (pa_cons (pe_call GB.ok (hr.mono (by decide)) rfl GB.g GB.kp GB.b .nil pass0 (pa_cons (pv 0) (pa_cons (pv 1) pa_nil))) pa_nil)))), ?_⟩
    refine ⟨_, rfl, w, n, L, rfl, G, fun H1 s1 => ⟨_, rfl, _, rfl, w, n, L, v, o, rfl, G.same s1, th.same s1, fun hl H2 s2 => ?_, fun hl => (kx hl).same s1⟩⟩
    rcases th_cases (n := n) th with ⟨_, a, ns, rfl, rfl, il, tt⟩ | z
    · have s12 := s1.trans s2
      have t2 := tt.keep fun o q => s12 _ _ q
      have G2 := G.same s12
      obtain ⟨ta, vs, e1, e2, e3⟩ := G2.web.ex
      obtain ⟨k1, k2⟩ := k a ns rfl rfl il tt
      have le := rest_len_eq il
      refine ⟨_, rfl, a, _, rfl, .inr t2.sq, _, rfl, w, _, _, _, rfl, rfl, SqT.of e1, atI_nat (j := 0) rfl, rfl, _, rfl, ?_⟩
      by_cases h : ns.length = n
      · have : restN n ns = [] := List.length_eq_zero_iff.mp (by omega)
        rw [decide_eq_true (by rw [List.length_map, h])]
        exact iteT ⟨_, rfl, _, rfl, fun d hd => (k2 this) d _ (s12.trans (same_new hd)) (s12.free hd) upd_same⟩
      · have nz : restN n ns ≠ [] := fun z => by rw [z] at le; simp at le; exact h le
        rw [decide_eq_false (by rw [List.length_map]; intro z; cases z; exact h rfl)]
        refine iteF ⟨_, rfl, _, rfl, _, rfl, w, a, n, L, ns, rfl, G2, t2, fun t H3 s3 ht e => ?_⟩
        have s13 := s12.trans s3
        exact ⟨w, t, n, L, restN n ns, rfl, G.same s13, .inl e, rest_lot n ns, fun w' H4 s4 hw W => k1 nz w' H4 (s13.trans s4) (s13.free hw) W⟩
    · rw [z] at hl; cases hl
end
end K0

set_option Elab.async false
set_option linter.all false
set_option maxRecDepth 100000
set_option maxHeartbeats 8000000
/-! The law's own looks. -/
namespace K0
open PySem PySem.Spec L2
open PyProof.Rows hiding St
open KR (TupX)
/-! ### a list beside the empty one -/
section
variable {X : Cx}
def rEq0 (K : PySem.W.Frag) : R2 := fun x y H Q => ∃ a b xs, x = .ref a ∧ y = .ref b ∧ SqL K H a xs ∧ SqL K H b [] ∧ Q (.bl xs.isEmpty) H
def rNe0 (K : PySem.W.Frag) : R2 := fun x y H Q => ∃ a b xs, x = .ref a ∧ y = .ref b ∧ SqL K H a xs ∧ SqL K H b [] ∧ Q (.bl (!xs.isEmpty)) H
theorem op_eq0 (hu : X.A.units < cLine) : OpR X (compareOp .Eq) (rEq0 X.K) := by
  intro pins s σ H x y v u Q I rx ry h
  obtain ⟨a, b, xs, rfl, rfl, ha, hb, q⟩ := h
  cases rx
  cases ry
  obtain ⟨its, r1, p1, _⟩ := I.list ha
  obtain ⟨jts, r2, p2, _⟩ := I.list hb
  cases r2
  cases r1 with
  | nil => exact SeqAt.RcAt.lists (e := fun _ => true) p1.isList p2.isList rfl hu (fun j h1 => absurd h1 (Nat.not_lt_zero _)) X.prog X.w _ _ ⟨.bl true, H, I, rfl, q⟩
  | cons r rr => exact SeqAt.RcAt.lists_lengths p1.isList p2.isList (by simp) hu X.prog X.w _ _ ⟨.bl false, H, I, rfl, q⟩
theorem op_ne0 (hu : X.A.units < cLine) : OpR X (compareOp .NotEq) (rNe0 X.K) := by
  intro pins s σ H x y v u Q I rx ry h
  obtain ⟨a, b, xs, rfl, rfl, ha, hb, q⟩ := h
  cases rx
  cases ry
  obtain ⟨its, r1, p1, _⟩ := I.list ha
  obtain ⟨jts, r2, p2, _⟩ := I.list hb
  cases r2
  cases r1 with
  | nil => exact SeqAt.RcNeAt.lists (e := fun _ => true) p1.isList p2.isList rfl hu (fun j h1 => absurd h1 (Nat.not_lt_zero _)) X.prog X.w _ _ ⟨.bl false, H, I, rfl, q⟩
  | cons r rr => exact SeqAt.RcNeAt.lists_lengths p1.isList p2.isList (by simp) hu X.prog X.w _ _ ⟨.bl true, H, I, rfl, q⟩
end
/-! ### the lot of a number -/
def bitAt (x : Nat) (i : Nat) : Bool := decide (x / 2 ^ i % 2 = 1)
def bitsN (x : Nat) (i : Nat) : List Int := ((List.range i).filter (bitAt x)).map fun i => ((i : Nat) : Int)
theorem bits_succ (x i : Nat) : bitsN x (i + 1) = if bitAt x i = true then bitsN x i ++ [(i : Int)] else bitsN x i := by
  unfold bitsN
  rw [List.range_succ, List.filter_append]
  cases h : bitAt x i <;> simp [h]
theorem bits_len (x i : Nat) : (bitsN x i).length ≤ i := by
  unfold bitsN
  rw [List.length_map]
  refine Nat.le_trans (List.length_filter_le _ _) ?_
  rw [List.length_range]
  exact Nat.le_refl _
theorem bits_lot {x n : Nat} (h : x < 2 ^ n) (hn : n ≤ 12) : IsLot n (bitsN x 12) := by
  refine ⟨fun i hi => ?_, ?_⟩
  · unfold bitsN at hi
    obtain ⟨j, hj, rfl⟩ := List.mem_map.mp hi
    obtain ⟨_, h2⟩ := List.mem_filter.mp hj
    refine ⟨by omega, ?_⟩
    rcases Nat.lt_or_ge j n with z | z
    · omega
    · exfalso
      have h3 : x / 2 ^ j = 0 := Nat.div_eq_of_lt (Nat.lt_of_lt_of_le h (Nat.pow_le_pow_right (by decide) z))
      have h2' := of_decide_eq_true h2
      rw [h3] at h2'
      exact absurd h2' (by decide)
  · unfold bitsN
    exact List.pairwise_map.mpr ((List.pairwise_lt_range.filter _).imp fun {a b} z => by omega)
theorem bit_one (x i : Nat) : decide (Builtin.bitAnd ((x : Int) / 2 ^ ((0 : Int) + (i : Int)).toNat) 1 = 1) = bitAt x i := by
  have e : ((0 : Int) + (i : Int)).toNat = i := by omega
  rw [e]
  have p : (0 : Int) ≤ (x : Int) / 2 ^ i := Int.ediv_nonneg (by omega) (by exact_mod_cast Nat.zero_le _)
  have m := Bits.bitAnd_mask 1 p
  rw [show ((2 : Int) ^ 1 - 1) = 1 by decide, show ((2 : Int) ^ 1) = 2 by decide] at m
  rw [m]
  unfold bitAt
  have c : (x : Int) / 2 ^ i % 2 = ((x / 2 ^ i % 2 : Nat) : Int) := by simp
  rw [c]
  by_cases h : x / 2 ^ i % 2 = 1
  · rw [h]; rfl
  · rw [decide_eq_false h]
    exact decide_eq_false fun z => h (by omega)
def spLLot : Sp := fun vs H Q _ => ∃ (x : Nat), vs = [.int x] ∧ ∀ (t : Addr) (H' : Hp), Same H H' → H t = none → TupX H' t ((bitsN x 12).map V.int) → Q (.ref t) H'
def spLRest : Sp := fun vs H Q _ => ∃ (w a : Addr) (n : Nat) (L : List (Int × Int)) (ns : List Int), vs = [.ref w, .ref a] ∧ GW H w n L ∧ TT H a (ns.map V.int) ∧ ∀ (t : Addr) (H' : Hp), Same H H' → H t = none → TupX H' t ((restN n ns).map V.int) → Q (.ref t) H'
def spLCut : Sp := fun vs H Q _ => ∃ (w a : Addr) (n : Nat) (L : List (Int × Int)) (ns : List Int), vs = [.ref w, .ref a] ∧ GW H w n L ∧ TT H a (ns.map V.int) ∧ ∀ (t : Addr) (H' : Hp), Same H H' → H t = none → H' t = some (.tup ((cutN L ns).map V.int)) → Q (.ref t) H'
def spLWithin : Sp := fun vs H Q _ => ∃ (w a : Addr) (n : Nat) (L : List (Int × Int)) (ns : List Int), vs = [.ref w, .ref a] ∧ GW H w n L ∧ TupX H a (ns.map V.int) ∧ gIn H L ns Q
def spLIsLot : Sp := fun vs H Q _ => ∃ (n : Nat) (v : V) (o : Option (List V)), vs = [.int n, v] ∧ n ≤ 1000 ∧ Th H v o ∧ ∀ H', Same H H' → Q (.bl (lotO n o)) H'
section
variable {P : Program} {w0 : World} {K : PySem.W.Frag} {mg : Str → Option Value} {base : Heap}
abbrev nLLot : List Str := ["_law_number", "_law_at"]
abbrev nLRest : List Str := ["_law_web_here", "_law_lot_here", "_law_place"]
abbrev nLCut : List Str := ["_law_web_here", "_law_lot_here", "_law_at", "_law_tie"]
abbrev nLWithin : List Str := ["_law_web_here", "_law_lot_here", "_law_some", "_law_one", "_law_other"]
end
end K0

set_option Elab.async false
set_option linter.all false
set_option maxRecDepth 100000
set_option maxHeartbeats 8000000
/-! The law's own word on lots. -/
namespace K0
open PySem PySem.Spec L2
open PyProof.Rows hiding St
open KR (TupX tobj)
/-- (a, b, ..), known whole -/
def tTupF (t : TA) : TE := fun σ H Q => t σ H fun xs H1 => xs.length ≤ sizeLine ∧ ∀ p us, H1 p = none → Q (.ref p) (upd H1 p (.frz (tobj us) (.tup xs)))
theorem pe_tupF {X : Cx} {es : List Expr} {x1} {t : TA} {pos : Pos} (h : PA X es t) : PE X (.Tuple es x1 pos) (tTupF t) := by
  refine ⟨fun pins s σ H Q I hq => wpAny_Tuple_spliced (thn (h.run pos pins s σ H _ I hq) fun us s1 ⟨xs, H1, I1, r, z, q⟩ => ⟨by rw [← r.length]; exact z, ?_⟩)⟩
  have hf : H1 s1.heap.objs.size = none := I1.hok.fresh (Nat.le_refl _)
  exact ⟨.ref s1.heap.objs.size, _, I1.laid (t' := s1.toks) (fun b u e => Heap.get?_push_of_some _ e) (Nat.le_refl _) (KR.frz_ok (us := us) (Heap.get?_push_size _ rfl) r z), rfl, q _ us hf⟩
theorem whole_ints : ∀ {xs : List V}, xs.all wholeV = true → xs = (xs.map intV).map V.int
  | [], _ => rfl
  | x :: xs, h => by
    rw [List.all_cons, Bool.and_eq_true] at h
    cases x with
    | int i => rw [List.map_cons, List.map_cons, ← whole_ints h.2] <;> rfl
    | _ => cases h.1
theorem fl_empty {α : Type} (p : α → Bool) (xs : List α) : (xs.filter fun x => !p x).isEmpty = xs.all p := by
  induction xs with
  | nil => rfl
  | cons x xs ih => cases h : p x <;> simp [h] <;> simpa using ih
theorem below_whole {n : Int} {xs : List V} (h : xs.all wholeV = false) : xs.all (belowV · n) = false := by
  induction xs with
  | nil => cases h
  | cons x xs ih =>
    rw [List.all_cons] at h ⊢
    cases x with
    | int i =>
      have : xs.all wholeV = false := by simpa [wholeV] using h
      rw [ih this, Bool.and_false]
    | _ => rfl
def inR (n i : Int) : Bool := decide (0 ≤ i) && decide (i < n)
theorem all_inR (n : Int) (ns : List Int) : (ns.map V.int).all (belowV · n) = ns.all (inR n) := by
  rw [List.all_map]
  rfl
section
variable {P : Program} {w0 : World} {K : PySem.W.Frag} {mg : Str → Option Value} {base : Heap}
abbrev nLIsLot : List Str := ["_law_n", "_law_thing", "_law_it"]
end
end K0

set_option Elab.async false
set_option linter.all false
set_option maxRecDepth 100000
set_option maxHeartbeats 8000000
/-! The program's masks. -/
namespace K0
open PySem PySem.Spec L2
open PyProof.Rows hiding St
abbrev pLotOf : Stmt := top 6
abbrev pFull : Stmt := top 7
abbrev pNear : Stmt := top 8
abbrev pParts : Stmt := top 9
abbrev pPart : Stmt := top 10
abbrev pPartLots : Stmt := top 26
def natV (i : Nat) : V := .int (i : Int)
theorem natV_ints (l : List Nat) : l.map natV = (l.map fun i => ((i : Nat) : Int)).map V.int := by rw [List.map_map] <;> rfl
/-! ### bits of ints -/
theorem and_nat (a b : Nat) : Builtin.bitAnd (a : Int) (b : Int) = ((a &&& b : Nat) : Int) := by rw [bitAnd_pp (by omega) (by omega)] <;> rfl
theorem or_nat (a b : Nat) : Builtin.bitOr (a : Int) (b : Int) = ((a ||| b : Nat) : Int) := by rw [Bits.bitOr_pp (by omega) (by omega)] <;> rfl
theorem xor_nat (a b : Nat) : Builtin.bitXor (a : Int) (b : Int) = ((a ^^^ b : Nat) : Int) := by rw [Bits.bitXor_pp (by omega) (by omega)] <;> rfl
theorem xor_lt {a b n : Nat} (ha : a < 2 ^ n) (hb : b < 2 ^ n) : a ^^^ b < 2 ^ n := Nat.xor_lt_two_pow ha hb
def lotT (m : Nat) : Bool := decide (Builtin.Int.intBits (m : Int) ≤ 12) && decide ((List.range (Builtin.Int.intBits (m : Int))).filter m.testBit = lotN m)
theorem lot_tbl : (List.range 4096).all lotT = true := by decide +kernel
theorem lot_at {m : Nat} (h : m < 4096) : Builtin.Int.intBits (m : Int) ≤ 12 ∧ (List.range (Builtin.Int.intBits (m : Int))).filter m.testBit = lotN m := by
  have := List.all_eq_true.mp lot_tbl m (List.mem_range.mpr h)
  unfold lotT at this
  rwa [Bool.and_eq_true, decide_eq_true_eq, decide_eq_true_eq] at this
def lowT (m : Nat) : Bool := match lotN m with
  | [] => m == 0
  | r :: _ => decide (Builtin.bitAnd (m : Int) (-(m : Int)) = ((2 ^ r : Nat) : Int))
theorem low_tbl : (List.range 4096).all lowT = true := by decide +kernel
/-- the least bit -/
theorem low_at {m : Nat} (h : m < 4096) (h0 : m ≠ 0) : ∃ r, Builtin.bitAnd (m : Int) (-(m : Int)) = ((2 ^ r : Nat) : Int) ∧ m.testBit r = true ∧ (∀ i, m.testBit i = true → r ≤ i) ∧ r < 12 ∧ ∃ t, lotN m = r :: t := by
  have := List.all_eq_true.mp low_tbl m (List.mem_range.mpr h)
  unfold lowT at this
  have mem : ∀ i, i ∈ lotN m ↔ m.testBit i = true := fun i => lotN_mem h
  have inc := lotN_inc m
  split at this
  · rename_i e
    exact absurd (by simpa using this) h0
  · rename_i r t e
    rw [decide_eq_true_eq] at this
    rw [e] at inc
    have hr := (mem r).mp (by rw [e]; exact List.mem_cons_self ..)
    refine ⟨r, this, hr, fun i hi => ?_, bit_lt h hr, t, e⟩
    have := (mem i).mpr hi
    rw [e] at this
    rcases List.mem_cons.mp this with z | z
    · omega
    · exact Nat.le_of_lt ((List.pairwise_cons.mp inc).1 i z)
theorem odd_bit (m i : Nat) : ((((m / 2 ^ i) % 2 : Nat) : Int) != 0) = m.testBit i := by
  rw [Nat.testBit_eq_decide_div_mod_eq]
  rcases Nat.mod_two_eq_zero_or_one (m / 2 ^ i) with e | e <;> rw [e] <;> rfl
def rNN (f : Nat → Nat → Nat) : R2 := fun x y H Q => ∃ a b : Nat, x = .int (a : Int) ∧ y = .int (b : Int) ∧ Q (.int ((f a b : Nat) : Int)) H
section
variable {X : Cx}
theorem iop_orN : OpR X (inplaceOp .BitOr) (rNN (· ||| ·)) := fun pins s σ H x y v u Q I rx ry h => by
  obtain ⟨a, b, rfl, rfl, q⟩ := h
  exact iop_or pins s σ H _ _ v u Q I rx ry ⟨_, _, rfl, rfl, by show Q (.int (Builtin.bitOr (a : Int) (b : Int))) H; rw [or_nat]; exact q⟩
theorem iop_xorN : OpR X (inplaceOp .BitXor) (rNN (· ^^^ ·)) := fun pins s σ H x y v u Q I rx ry h => by
  obtain ⟨a, b, rfl, rfl, q⟩ := h
  exact iop_xor pins s σ H _ _ v u Q I rx ry ⟨_, _, rfl, rfl, by show Q (.int (Builtin.bitXor (a : Int) (b : Int))) H; rw [xor_nat]; exact q⟩
theorem op_xorN : OpR X (binaryOp .BitXor) (rNN (· ^^^ ·)) := fun pins s σ H x y v u Q I rx ry h => by
  obtain ⟨a, b, rfl, rfl, q⟩ := h
  exact op_xor pins s σ H _ _ v u Q I rx ry ⟨_, _, rfl, rfl, by show Q (.int (Builtin.bitXor (a : Int) (b : Int))) H; rw [xor_nat]; exact q⟩
theorem op_andN : OpR X (binaryOp .BitAnd) (rNN (· &&& ·)) := fun pins s σ H x y v u Q I rx ry h => by
  obtain ⟨a, b, rfl, rfl, q⟩ := h
  exact op_and pins s σ H _ _ v u Q I rx ry ⟨_, _, rfl, rfl, by show Q (.int (Builtin.bitAnd (a : Int) (b : Int))) H; rw [and_nat]; exact q⟩
/-- 1 << k -/
def rOneN : R2 := fun x y H Q => ∃ k : Nat, x = .int 1 ∧ y = .int (k : Int) ∧ k ≤ 1000 ∧ Q (.int ((2 ^ k : Nat) : Int)) H
theorem op_oneN : OpR X (binaryOp .LShift) rOneN := fun pins s σ H x y v u Q I rx ry h => by
  obtain ⟨k, rfl, rfl, hk, q⟩ := h
  exact op_oneShl pins s σ H _ _ v u Q I rx ry ⟨k, rfl, rfl, by omega, by show Q (.int ((2 : Int) ^ k)) H; rw [show (2 : Int) ^ k = ((2 ^ k : Nat) : Int) by rw [Int.natCast_pow] <;> rfl]; exact q⟩
/-- n & -n -/
def rLow : R2 := fun x y H Q => ∃ m : Nat, x = .int (m : Int) ∧ y = .int (-(m : Int)) ∧ m < 4096 ∧ m ≠ 0 ∧ ∀ r : Nat, m.testBit r = true → (∀ i, m.testBit i = true → r ≤ i) → r < 12 → (∃ t, lotN m = r :: t) → Q (.int ((2 ^ r : Nat) : Int)) H
theorem op_low : OpR X (binaryOp .BitAnd) rLow := fun pins s σ H x y v u Q I rx ry h => by
  obtain ⟨m, rfl, rfl, h1, h2, q⟩ := h
  obtain ⟨r, r1, r2, r3, r4, r5⟩ := low_at h1 h2
  exact op_and pins s σ H _ _ v u Q I rx ry ⟨_, _, rfl, rfl, by show Q (.int (Builtin.bitAnd (m : Int) (-(m : Int)))) H; rw [r1]; exact q r r2 r3 r4 r5⟩
end
/-- a truth, named -/
def tTru (K : PySem.W.Frag) (ta : TE) : L2.TT := fun σ H Q => ta σ H fun x H' => ∃ k, TruV K x H' k ∧ Q k H'
theorem pt_truthK {X : Cx} {a : Expr} {ta : TE} {K0 : PySem.W.Frag} (hK : X.K = K0) (ha : PE X a ta) (he : ∀ whole, isTrue a X.env whole = (do let v ← whole; standAt a.pos; holding [v] (truthy v))) : PT X a (tTru K0 ta) := hK ▸ pt_truth ha he
def spLotOf : Sp := fun vs H Q _ => ∃ m : Nat, vs = [.int (m : Int)] ∧ m < 4096 ∧ ∀ (t : Addr) (H' : Hp), Same H H' → H t = none → H' t = some (.tup ((lotN m).map natV)) → Q (.ref t) H'
def spFull : Sp := fun vs H Q _ => ∃ (w : Addr) (n : Nat) (L : List (Int × Int)), vs = [.ref w] ∧ GW H w n L ∧ Q (.int ((2 ^ n - 1 : Nat) : Int)) H
def spNear : Sp := fun vs H Q _ => ∃ (w : Addr) (n : Nat) (L : List (Int × Int)), vs = [.ref w] ∧ GW H w n L ∧ ∀ (l : Addr) (ms : List Nat) (H' : Hp), Same H H' → H l = none → H' l = some (.lst (ms.map natV)) → Near L n ms → Q (.ref l) H'
def spPart : Sp := fun vs H Q _ => ∃ (l : Addr) (m r n : Nat) (ms : List Nat) (L : List (Int × Int)), vs = [.ref l, .int (m : Int), .int ((2 ^ r : Nat) : Int)] ∧ H l = some (.lst (ms.map natV)) ∧ Near L n ms ∧ n ≤ 12 ∧ Bel n L ∧ m < 2 ^ n ∧ m.testBit r = true ∧ ∀ (p : Nat) (H' : Hp), Same H H' → IsPart L m r p → Q (.int (p : Int)) H'
def spParts : Sp := fun vs H Q _ => ∃ (l : Addr) (m n : Nat) (ms : List Nat) (L : List (Int × Int)), vs = [.ref l, .int (m : Int)] ∧ H l = some (.lst (ms.map natV)) ∧ Near L n ms ∧ n ≤ 12 ∧ Bel n L ∧ m < 2 ^ n ∧ ∀ (a : Addr) (ps : List (Nat × Nat)) (H' : Hp), Same H H' → H a = none → H' a = some (.lst (ps.map fun q => natV q.2)) → Parts L m ps → Q (.ref a) H'
section
variable {P : Program} {w0 : World} {K : PySem.W.Frag} {mg : Str → Option Value} {base : Heap}
abbrev nLotOf : List Str := ["mask", "place"]
theorem scLotOf : FnScope nLotOf ["mask"] (defScope pLotOf) := ⟨rfl, rfl, rfl, by decide +kernel, rfl, by decide +kernel, by decide +kernel⟩
theorem ok_lotOf {f : Addr} {fd : FuncData} (F : Fun K "lot_of" "lot_of" pLotOf f fd) (T : Bj mg) : FnOk P w0 K mg base CX0 1 f fd ["mask"] spLotOf := by
  refine F.ok scLotOf (fun vs H Q E h => ?_) (fun cdv A outer s H vs Q E hr h => ?_)
  · obtain ⟨m, rfl, _⟩ := h
    rfl
  · obtain ⟨m, rfl, hm, k⟩ := h
    refine ⟨_, pss_one (ps_ret (pe_callTy call_tuple_of (by rfl) T.tuple (by decide +kernel) (pa_cons (pe_lc (own := [("place", 1)]) (g := gName 1) rfl scLotOf.nd (pi_range1 (by rfl) T.range (pa_cons (pe_bits (pv 0)) pa_nil))
      (blkOk_by (N := nLotOf) (sc := defScope pLotOf) (by decide +kernel)) (fun _ _ _ _ _ => pg_name (i := 1) scLotOf.nd rfl (Or.inl rfl)) (fun _ _ _ _ _ => pts_one (pt_truthK (K0 := K) rfl (pe_op op_odd (pe_op op_shrN (pv 0) (pv 1)) pe_int) (by intro _; rfl))) (fun _ _ _ _ _ => pv 1)) pa_nil))), ?_⟩
    obtain ⟨hb, hf⟩ := lot_at hm
    refine ⟨_, rfl, _, rfl, _, rfl, by omega, by omega, fun Da hD => ?_⟩
    refine lc_range (lo := 0) (n := ((Builtin.Int.intBits (m : Int) : Nat) : Int).toNat) (fun i M => M Da = some (.lst (((List.range i).filter m.testBit).map natV)) ∧ Same H M) ⟨upd_same, same_new hD⟩ ?_ ?_
    · rintro i M hi ⟨g1, g2⟩
      refine ⟨rfl, _, rfl, _, rfl, (m : Int), i, rfl, by rw [Int.zero_add], m / 2 ^ i, by rw [Int.natCast_ediv, Int.natCast_pow] <;> rfl, rfl, _, rfl, ?_⟩
      rw [odd_bit]
      have rs : (List.range (i + 1)).filter m.testBit = if m.testBit i = true then (List.range i).filter m.testBit ++ [i] else (List.range i).filter m.testBit := by
        rw [List.range_succ, List.filter_append]
        cases h : m.testBit i <;> simp [h]
      cases h : m.testBit i with
      | true =>
        rw [if_pos h] at rs
        exact iteT ⟨_, rfl, _, g1, by rw [List.length_map, sizeLine_eq]; have := List.length_filter_le m.testBit (List.range i); rw [List.length_range] at this; omega, by rw [upd_same, rs, List.map_append, Int.zero_add] <;> rfl, fun b o e => by rw [upd_ne (ne_of_none e hD)]; exact g2 _ _ e⟩
      | false =>
        rw [if_neg (by rw [h]; exact Bool.false_ne_true)] at rs
        exact iteF ⟨by rw [rs]; exact g1, g2⟩
    · rintro M ⟨g1, g2⟩
      rw [Int.toNat_natCast, hf] at g1
      exact ⟨Da, _, rfl, .inl ⟨SqL.of g1, fun t ht => k t _ (g2.trans (same_new ht)) (g2.free ht) upd_same⟩⟩
theorem scFull : FnScope ["web"] ["web"] (defScope pFull) := ⟨rfl, rfl, rfl, by decide +kernel, rfl, by decide +kernel, by decide +kernel⟩
theorem ok_full {f : Addr} {fd : FuncData} (F : Fun K "full_mask" "full_mask" pFull f fd) : FnOk P w0 K mg base CX0 1 f fd ["web"] spFull := by
  refine F.ok scFull (fun vs H Q E h => ?_) (fun cdv A outer s H vs Q E hr h => ?_)
  · obtain ⟨w, n, L, rfl, _⟩ := h
    rfl
  · obtain ⟨w, n, L, rfl, G, k⟩ := h
    refine ⟨_, pss_one (ps_ret (pe_op op_sub (pe_op op_oneShl pe_int (pe_ix ix_tup (pv 0) pe_int (fun _ _ => rfl))) pe_int)), ?_⟩
    obtain ⟨ta, vs, e1, e2, e3⟩ := G.web.ex
    have n2 := G.n2
    refine ⟨_, rfl, w, _, _, _, rfl, rfl, SqT.of e1, atI_nat (j := 0) rfl, n, rfl, rfl, by omega, _, _, rfl, rfl, ?_⟩
    have e : (2 ^ n - 1 : Int) = ((2 ^ n - 1 : Nat) : Int) := by
      have := Nat.one_le_two_pow (n := n)
      rw [Int.natCast_sub this, Int.natCast_pow] <;> rfl
    show Q (.int ((2 : Int) ^ n - 1)) H
    rw [e]
    exact k
end
end K0

set_option Elab.async false
set_option linter.all false
set_option maxRecDepth 100000
set_option maxHeartbeats 8000000
/-! Near places, parts. -/
namespace K0
open PySem PySem.Spec L2
open PyProof.Rows hiding St
theorem ixN_n {n j : Nat} (hj : j < n) : ixN n (j : Int) = some j := by
  unfold ixN
  rw [if_pos (by omega), if_pos (by omega), Int.toNat_natCast]
theorem flat_zeros : ∀ n : Nat, (List.replicate n [V.int 0]).flatten = (List.replicate n 0).map natV
  | 0 => rfl
  | n + 1 => by rw [List.replicate_succ, List.flatten_cons, flat_zeros n, List.replicate_succ, List.map_cons] <;> rfl
theorem nat_get {ms : List Nat} {i : Nat} (h : i < ms.length) : (ms.map natV)[i]? = some (natV (ms.getD i 0)) := by
  rw [List.getElem?_map, List.getD_eq_getElem?_getD, List.getElem?_eq_getElem h] <;> rfl
theorem nat_set (ms : List Nat) (i x : Nat) : (ms.map natV).set i (natV x) = (ms.set i x).map natV := List.map_set.symm
theorem nat_set' (ms : List Nat) (i : Nat) (x : Nat) : some (HO.lst ((ms.map natV).set i (.int (x : Int)))) = some (.lst ((ms.set i x).map natV)) := congrArg (fun z => some (HO.lst z)) (nat_set ..)
theorem near_lt {L : List (Int × Int)} {n : Nat} {ms : List Nat} (h : Near L n ms) (hB : Bel n L) {a : Nat} (ha : a < n) : ms.getD a 0 < 2 ^ n := by
  refine Nat.lt_pow_two_of_testBit _ fun i hi => ?_
  rw [h.bit a i ha]
  refine decide_eq_false fun z => ?_
  unfold Adj at z
  rcases z with z | z
  · have := hB _ z
    dsimp only at this
    omega
  · have := hB _ z
    dsimp only at this
    omega
theorem while_ex {c : L2.TT} {tb : TS} {D : Ends} {σ : L2.St} {H : Hp} (Pv : L2.St → Hp → Prop) (μ : L2.St → Hp → Nat) (h0 : Pv σ H)
    (hs : ∀ σ H, Pv σ H → c σ H fun b H1 => if b = true then tb { D with nx := fun σ' H' => Pv σ' H' ∧ μ σ' H' < μ σ H, ct := fun σ' H' => Pv σ' H' ∧ μ σ' H' < μ σ H, bk := D.nx } σ H1 else D.nx σ H1)
    (mono : ∀ σ H Q Q', (∀ b H1, Q b H1 → Q' b H1) → c σ H Q → c σ H Q') : ∃ W : Nat → L2.St → Hp → Prop, (∃ m, W m σ H) ∧ ∀ m σ H, W m σ H →
      c σ H fun b H1 => if b = true then ∃ N : L2.St → Hp → Prop, (∀ σ' H', N σ' H' → ∃ m', m' < m ∧ W m' σ' H') ∧ tb { D with nx := N, ct := N, bk := D.nx } σ H1 else D.nx σ H1 := while_by Pv μ h0 hs mono
/-- lots at their places -/
inductive LotsAt (H : Hp) : List V → List (Nat × Nat) → Prop
  | nil : LotsAt H [] []
  | cons {a : Addr} {q : Nat × Nat} {vs : List V} {ps : List (Nat × Nat)} (h : H a = some (.tup ((lotN q.2).map natV))) (t : LotsAt H vs ps) : LotsAt H (.ref a :: vs) (q :: ps)
theorem LotsAt.mono {H H' : Hp} {vs : List V} {ps : List (Nat × Nat)} (p : LotsAt H vs ps) (s : ∀ a x, H a = some (.tup x) → H' a = some (.tup x)) : LotsAt H' vs ps := by
  induction p with
  | nil => exact .nil
  | cons h t ih => exact .cons (s _ _ h) ih
theorem LotsAt.app {H : Hp} {vs ws : List V} {ps qs : List (Nat × Nat)} (p : LotsAt H vs ps) (q : LotsAt H ws qs) : LotsAt H (vs ++ ws) (ps ++ qs) := by
  induction p with
  | nil => exact q
  | cons h t ih => exact .cons h ih
theorem LotsAt.len {H : Hp} {vs : List V} {ps : List (Nat × Nat)} (p : LotsAt H vs ps) : vs.length = ps.length := by
  induction p with
  | nil => rfl
  | cons h t ih => rw [List.length_cons, List.length_cons, ih]
theorem LotsAt.get {H : Hp} {vs : List V} {ps : List (Nat × Nat)} (p : LotsAt H vs ps) : ∀ {i : Nat} {v : V}, vs[i]? = some v → ∃ a q, v = .ref a ∧ ps[i]? = some q ∧ H a = some (.tup ((lotN q.2).map natV)) := by
  induction p with
  | nil => intro i v h; simp at h
  | @cons a q vs ps h t ih =>
    intro i v hv
    cases i with
    | zero =>
      simp only [List.getElem?_cons_zero, Option.some.injEq] at hv
      exact ⟨a, q, hv.symm, rfl, h⟩
    | succ i =>
      simp only [List.getElem?_cons_succ] at hv ⊢
      exact ih hv
def spPartLots : Sp := fun vs H Q _ => ∃ (w : Addr) (n : Nat) (L : List (Int × Int)), vs = [.ref w] ∧ GW H w n L ∧ ∀ (t : Addr) (us : List V) (ps : List (Nat × Nat)) (H' : Hp), Same H H' → H t = none → H' t = some (.tup us) → LotsAt H' us ps → Parts L (2 ^ n - 1) ps → Q (.ref t) H'
theorem set_same {H M : Hp} {a : Addr} {o : HO} (h : H a = none) (s : Same H M) : Same H (upd M a o) := fun b u e => by rw [upd_ne (ne_of_none e h)]; exact s _ _ e
section
variable {P : Program} {w0 : World} {K : PySem.W.Frag} {mg : Str → Option Value} {base : Heap}
abbrev nNear : List Str := ["web", "near", "a", "b"]
theorem scNear : FnScope nNear ["web"] (defScope pNear) := ⟨rfl, rfl, rfl, by decide +kernel, rfl, by decide +kernel, by decide +kernel⟩
theorem ok_near {f : Addr} {fd : FuncData} (F : Fun K "near_masks" "near_masks" pNear f fd) : FnOk P w0 K mg base CX0 1 f fd ["web"] spNear := by
  refine F.ok scNear (fun vs H Q E h => ?_) (fun cdv A outer s H vs Q E hr h => ?_)
  · obtain ⟨w, n, L, rfl, _⟩ := h
    rfl
  · obtain ⟨w, n, L, rfl, G, k⟩ := h
    refine ⟨_, pss_cons (ps_set (i := 1) scNear.nd rfl (.inl rfl) (pe_op op_rep (pe_lst (pa_cons pe_int pa_nil)) (pe_ix ix_tup (pv 0) pe_int (fun _ _ => rfl))))
      <| pss_cons (ps_for PassesOwn.never rfl (pi_tup (pe_ix ix_tup (pv 0) pe_int (fun _ _ => rfl))) (pg_tup rfl (pgs_cons (pg_name (i := 2) scNear.nd rfl (.inl rfl)) (pgs_cons (pg_name (i := 3) scNear.nd rfl (.inl rfl)) pgs_nil)))
          (pss_cons (ps_augS (pv 1) (pv 2) KR.get_list (pe_op op_oneN pe_int (pv 3)) iop_orN set_list) <| pss_one (ps_augS (pv 1) (pv 3) KR.get_list (pe_op op_oneN pe_int (pv 2)) iop_orN set_list)))
      <| pss_one (ps_ret (pv 1)), ?_⟩
    obtain ⟨ta, vs, e1, e2, e3⟩ := G.web.ex
    have n2 := G.n2
    have hB := G.bel
    refine ⟨by show 1 ≤ sizeLine; decide, fun l0 hl0 => ?_⟩
    have s0 : Same H (upd H l0 (.lst [.int 0])) := same_new hl0
    refine ⟨_, rfl, w, _, _, _, rfl, rfl, SqT.of (s0 _ _ e1), atI_nat (j := 0) rfl, l0, (n : Int), [.int 0], rfl, rfl, upd_same, by omega, by omega, by simp [sizeLine_eq]; omega, fun p hp => ?_⟩
    have hpH : H p = none := s0.free hp
    have s1 : Same H (upd (upd H l0 (.lst [.int 0])) p (.lst (List.replicate (n : Int).toNat [V.int 0]).flatten)) := s0.trans (same_new hp)
    refine ⟨_, rfl, w, _, _, _, rfl, rfl, SqT.of (s1 _ _ e1), atI_nat (j := 1) rfl, ta, rfl, ⟨_, SqT.of (s1 _ _ e2)⟩, ?_⟩
    refine for_tup (K := K) (a := ta) (xs := vs) (fun i σ M => ∃ (ms : List Nat) (o2 o3 : Option V), σ = [some (.ref w), some (.ref p), o2, o3] ∧ M p = some (.lst (ms.map natV)) ∧ Near (L.take i) n ms ∧ Same H M)
      ⟨List.replicate n 0, none, none, rfl, by rw [upd_same, Int.toNat_natCast, flat_zeros], near_nil n, s1⟩ (fun i σ M _ ⟨_, _, _, _, _, _, s⟩ => SqT.of (s _ _ e2)) ?_ ?_
    · rintro i x σ M hx ⟨ms, o2, o3, rfl, f1, f2, f3⟩
      obtain ⟨b, q, rfl, hq, hb⟩ := e3.get hx
      have bq := hB q (List.mem_of_getElem? hq)
      obtain ⟨q1, q2⟩ := q
      obtain ⟨a1, rfl⟩ : ∃ a1 : Nat, q1 = a1 := ⟨q1.toNat, by have := bq.1; dsimp only at this; omega⟩
      obtain ⟨a2, rfl⟩ : ∃ a2 : Nat, q2 = a2 := ⟨q2.toNat, by have := bq.1; have := bq.2.1; dsimp only at *; omega⟩
      dsimp only at bq
      have lt : a1 < a2 := by omega
      have l2 : a2 < n := by omega
      have len := f2.len
      have ts := take_snoc hq
      refine ⟨b, _, rfl, SqT.of (f3 _ _ hb), rfl, _, _, rfl, _, _, rfl, rfl, ?_⟩
      refine ⟨_, rfl, _, rfl, p, _, _, _, rfl, rfl, f1, by omega, by rw [Int.toNat_natCast]; exact nat_get (by omega), _, rfl, a2, rfl, rfl, by omega, _, _, rfl, rfl, ?_⟩
      refine ⟨p, _, _, a1, rfl, rfl, f1, ixN_n (by rw [List.length_map]; omega), ?_⟩
      have g1 : ∀ x : Nat, (upd M p (.lst ((ms.map natV).set a1 (.int (x : Int))))) p = some (.lst ((ms.set a1 x).map natV)) := fun x => by rw [upd_same, nat_set']
      refine ⟨_, rfl, _, rfl, p, (ms.set a1 (ms.getD a1 0 ||| 2 ^ a2)).map natV, _, _, rfl, rfl, g1 _, by omega, by rw [Int.toNat_natCast]; exact nat_get (by rw [List.length_set]; omega), _, rfl, a1, rfl, rfl, by omega, _, _, rfl, rfl, ?_⟩
      refine ⟨p, (ms.set a1 (ms.getD a1 0 ||| 2 ^ a2)).map natV, _, a2, rfl, rfl, g1 _, ixN_n (by rw [List.length_map, List.length_set]; omega), ?_⟩
      refine ⟨_, _, _, rfl, by rw [upd_same]; exact congrArg (fun z => some (HO.lst z)) (nat_set ..), by rw [ts]; exact near_snoc f2 lt l2, set_same hpH (set_same hpH f3)⟩
    · rintro σ M ⟨ms, o2, o3, rfl, f1, f2, f3⟩
      rw [e3.len, List.take_length] at f2
      exact ⟨_, rfl, k p ms M f3 hpH f1 f2⟩
abbrev nPart : List Str := ["near", "mask", "start", "part", "fresh", "met", "place"]
theorem scPart : FnScope nPart ["near", "mask", "start"] (defScope pPart) := ⟨rfl, rfl, rfl, by decide +kernel, rfl, by decide +kernel, by decide +kernel⟩
def muPart : L2.St → Hp → Nat := fun σ _ => match σ with
  | [_, _, _, some (.int p), some (.int f), _, _] => 2 * (4096 - p.toNat) + (if f = 0 then 0 else 1)
  | _ => 0
theorem ok_part {f fL : Addr} {fd fdL : FuncData} (F : Fun K "part_from" "part_from" pPart f fd) (GL : Dn P w0 K mg base "lot_of" 1 ["mask"] spLotOf fL fdL) : FnOk P w0 K mg base CX0 2 f fd ["near", "mask", "start"] spPart := by
  refine F.ok scPart (fun vs H Q E h => ?_) (fun cdv A outer s H vs Q E hr h => ?_)
  · obtain ⟨l, m, r, n, ms, L, rfl, _⟩ := h
    rfl
  · obtain ⟨l, m, r, n, ms, L, rfl, hl, nr, hn, hB, hm, hr0, k⟩ := h
    refine ⟨_, pss_cons (ps_set (i := 3) scPart.nd rfl (.inl rfl) (pv 2)) <| pss_cons (ps_set (i := 4) scPart.nd rfl (.inl rfl) (pv 2))
      <| pss_cons (ps_while PassesOwn.never (pt_truthK (K0 := K) rfl (pv 4) (by intro _; rfl))
          (pss_cons (ps_set (i := 5) scPart.nd rfl (.inl rfl) pe_int)
          <| pss_cons (ps_for PassesOwn.never rfl (pi_tup (pe_call GL.ok hr rfl GL.g GL.kp GL.b .nil pass0 (pa_cons (pv 4) pa_nil))) (pg_name (i := 6) scPart.nd rfl (.inl rfl)) (pss_one (ps_aug (i := 5) scPart.nd rfl (.inl rfl) (pe_ix ix_list (pv 0) (pv 6) (fun _ _ => rfl)) iop_orN)))
          <| pss_cons (ps_set (i := 4) scPart.nd rfl (.inl rfl) (pe_op op_andN (pv 5) (pe_op op_xorN (pv 1) (pv 3))))
          <| pss_one (ps_aug (i := 3) scPart.nd rfl (.inl rfl) (pv 4) iop_orN)))
      <| pss_one (ps_ret (pv 3)), ?_⟩
    have m12 : m < 4096 := Nat.lt_of_lt_of_le hm (Nat.pow_le_pow_right (by decide) hn)
    refine ⟨_, rfl, _, rfl, ?_⟩
    refine while_ex (fun σ M => ∃ (part fresh : Nat) (o5 o6 : Option V), σ = [some (.ref l), some (.int (m : Int)), some (.int ((2 ^ r : Nat) : Int)), some (.int (part : Int)), some (.int (fresh : Int)), o5, o6] ∧ Same H M ∧ Flood L m r part fresh) muPart ⟨_, _, none, none, rfl, Same.refl _, Flood.start hr0⟩ ?_ ?_
    · rintro σ M ⟨part, fresh, o5, o6, rfl, s1, fl⟩
      obtain ⟨lp, lf⟩ := fl.lt m12
      refine ⟨_, rfl, _, rfl, ?_⟩
      by_cases h0 : fresh = 0
      · subst h0
        exact ⟨_, rfl, k part M s1 fl.done⟩
      · have hz : ((fresh : Int) != 0) = true := by simp [h0]
        rw [hz]
        refine iteT ?_
        refine ⟨_, rfl, fresh, rfl, lf, fun t M1 s2 ht et => ⟨t, rfl, ⟨_, SqT.of et⟩, ?_⟩⟩
        have s12 := s1.trans s2
        have fb : ∀ i, i ∈ lotN fresh ↔ fresh.testBit i = true := fun i => lotN_mem lf
        refine for_tup (K := K) (a := t) (xs := (lotN fresh).map natV) (fun i σ N => ∃ (met : Nat) (o6 : Option V), σ = [some (.ref l), some (.int (m : Int)), some (.int ((2 ^ r : Nat) : Int)), some (.int (part : Int)), some (.int (fresh : Int)), some (.int (met : Int)), o6] ∧ N = M1 ∧ ∀ c, met.testBit c = true ↔ ∃ b ∈ (lotN fresh).take i, Adj L b c)
          ⟨0, o6, rfl, rfl, fun c => by simp⟩ (fun i σ N _ ⟨_, _, _, e, _⟩ => by rw [e]; exact SqT.of et) ?_ ?_
        · rintro i x σ N hx ⟨met, o6, rfl, rfl, hmet⟩
          rw [List.getElem?_map] at hx
          obtain ⟨b, hb, rfl⟩ := Option.map_eq_some_iff.mp hx
          have hbf : fresh.testBit b = true := (fb b).mp (List.mem_of_getElem? hb)
          have hbn : b < n := bit_lt hm ((fl.rch b (fl.fr b hbf)).bit)
          have len := nr.len
          refine ⟨_, rfl, _, rfl, _, rfl, l, _, _, _, rfl, rfl, SqL.of (s12 _ _ hl), atI_nat (nat_get (by omega)), _, _, rfl, rfl, ?_⟩
          refine ⟨_, _, rfl, rfl, fun c => ?_⟩
          rw [Nat.testBit_or, Bool.or_eq_true, hmet, nr.bit b c hbn, decide_eq_true_eq, take_snoc hb]
          constructor
          · rintro (⟨d, hd, ad⟩ | ad)
            · exact ⟨d, List.mem_append_left _ hd, ad⟩
            · exact ⟨b, List.mem_append_right _ (List.mem_singleton.mpr rfl), ad⟩
          · rintro ⟨d, hd, ad⟩
            rcases List.mem_append.mp hd with hd | hd
            · exact .inl ⟨d, hd, ad⟩
            · rw [List.mem_singleton.mp hd] at ad
              exact .inr ad
        · rintro σ N ⟨met, o6, rfl, rfl, hmet⟩
          rw [List.length_map, List.take_length] at hmet
          obtain ⟨f1, f2⟩ := fl.turn (met := met) fun c => (hmet c).trans ⟨fun ⟨b, hb, ab⟩ => ⟨b, (fb b).mp hb, ab⟩, fun ⟨b, hb, ab⟩ => ⟨b, (fb b).mpr hb, ab⟩⟩
          obtain ⟨g1, g2⟩ := f1.lt m12
          refine ⟨_, rfl, _, rfl, _, rfl, _, _, rfl, rfl, _, _, rfl, rfl, ?_⟩
          refine ⟨_, rfl, _, rfl, _, _, rfl, rfl, ?_⟩
          refine ⟨⟨_, _, _, _, rfl, s12, f1⟩, ?_⟩
          show 2 * (4096 - (((part ||| (met &&& (m ^^^ part)) : Nat) : Int)).toNat) + (if (((met &&& (m ^^^ part) : Nat) : Int)) = 0 then 0 else 1) < 2 * (4096 - ((part : Int)).toNat) + (if ((fresh : Int)) = 0 then 0 else 1)
          rw [Int.toNat_natCast, Int.toNat_natCast, if_neg (show ¬ (fresh : Int) = 0 by omega)]
          by_cases z : met &&& (m ^^^ part) = 0
          · rw [z, Nat.or_zero]
            simp
          · have := or_grows f2 z
            rw [if_neg (by omega)]
            omega
    · rintro σ M Q Q' h ⟨v, e, x, t, q⟩
      exact ⟨v, e, x, t, h _ _ q⟩
abbrev nParts : List Str := ["near", "mask", "parts", "left", "part"]
theorem scParts : FnScope nParts ["near", "mask"] (defScope pParts) := ⟨rfl, rfl, rfl, by decide +kernel, rfl, by decide +kernel, by decide +kernel⟩
def muParts : L2.St → Hp → Nat := fun σ _ => match σ with
  | [_, _, _, some (.int l), _] => l.toNat
  | _ => 0
theorem ok_parts {f fP : Addr} {fd fdP : FuncData} (F : Fun K "part_masks" "part_masks" pParts f fd) (GP : Dn P w0 K mg base "part_from" 2 ["near", "mask", "start"] spPart fP fdP) : FnOk P w0 K mg base CX0 3 f fd ["near", "mask"] spParts := by
  refine F.ok scParts (fun vs H Q E h => ?_) (fun cdv A outer s H vs Q E hr h => ?_)
  · obtain ⟨l, m, n, ms, L, rfl, _⟩ := h
    rfl
  · obtain ⟨l, m, n, ms, L, rfl, hl, nr, hn, hB, hm, k⟩ := h
    refine ⟨_, pss_cons (ps_set (i := 2) scParts.nd rfl (.inl rfl) (pe_lst pa_nil)) <| pss_cons (ps_set (i := 3) scParts.nd rfl (.inl rfl) (pv 1))
      <| pss_cons (ps_while PassesOwn.never (pt_truthK (K0 := K) rfl (pv 3) (by intro _; rfl))
          (pss_cons (ps_set (i := 4) scParts.nd rfl (.inl rfl) (pe_call GP.ok hr rfl GP.g GP.kp GP.b .nil pass0 (pa_cons (pv 0) (pa_cons (pv 3) (pa_cons (pe_op op_low (pv 3) (pe_un un_neg (pv 3))) pa_nil)))))
          <| pss_cons (ps_expr (pe_bm PySem.F.plainAttrs_list PySem.F.slot_list_append PySem.F.type_list_append mt_append (pv 2) (pa_cons (pv 4) pa_nil)))
          <| pss_one (ps_aug (i := 3) scParts.nd rfl (.inl rfl) (pv 4) iop_xorN)))
      <| pss_one (ps_ret (pv 2)), ?_⟩
    have p12 : 2 ^ n ≤ 4096 := Nat.pow_le_pow_right (n := 2) (by decide) hn
    refine ⟨by show 0 ≤ sizeLine; exact Nat.zero_le _, fun a ha => ?_⟩
    refine ⟨_, rfl, ?_⟩
    refine while_ex (fun σ M => ∃ (left : Nat) (ps : List (Nat × Nat)) (o4 : Option V), σ = [some (.ref l), some (.int (m : Int)), some (.ref a), some (.int (left : Int)), o4] ∧ M a = some (.lst (ps.map fun q => natV q.2)) ∧ Same H M ∧ Some_ L m left ps ∧ left < 2 ^ n) muParts ⟨m, [], none, rfl, upd_same, same_new ha, Some_.start L m, hm⟩ ?_ ?_
    · rintro σ M ⟨left, ps, o4, rfl, ea, s1, S, lt⟩
      refine ⟨_, rfl, _, rfl, ?_⟩
      by_cases h0 : left = 0
      · subst h0
        exact ⟨_, rfl, k a ps M s1 ha ea S.done⟩
      · have hz : ((left : Int) != 0) = true := by simp [h0]
        rw [hz]
        refine iteT ?_
        refine ⟨_, rfl, _, rfl, _, rfl, _, rfl, _, rfl, left, rfl, rfl, by omega, h0, fun r r2 r3 r4 _ => ?_⟩
        refine ⟨l, left, r, n, ms, L, rfl, s1 _ _ hl, nr, hn, hB, lt, r2, fun p M1 s2 ip => ?_⟩
        obtain ⟨S1, dec⟩ := S.turn r2 r3 ip
        have few := inc_few (n := n) (Nat.zero_le _) S.inc fun q hq => ⟨Nat.zero_le _, bit_lt hm (S.part q hq).1⟩
        refine ⟨_, rfl, .inl ⟨rfl, _, SqL.of (s2 _ _ ea)⟩, _, rfl, a, _, _, rfl, rfl, s2 _ _ ea, by rw [List.length_map, sizeLine_eq]; omega, ?_⟩
        refine ⟨_, rfl, _, rfl, _, _, rfl, rfl, ?_⟩
        refine ⟨⟨_, ps ++ [(r, p)], _, rfl, by rw [upd_same, List.map_append] <;> rfl, set_same ha (s1.trans s2), S1, by show left ^^^ p < 2 ^ n; omega⟩, ?_⟩
        show (((left ^^^ p : Nat) : Int)).toNat < ((left : Int)).toNat
        rw [Int.toNat_natCast, Int.toNat_natCast]
        exact dec
    · rintro σ M Q Q' h ⟨v, e, x, t, q⟩
      exact ⟨v, e, x, t, h _ _ q⟩
abbrev nPartLots : List Str := ["web", "part"]
theorem scPartLots : FnScope nPartLots ["web"] (defScope pPartLots) := ⟨rfl, rfl, rfl, by decide +kernel, rfl, by decide +kernel, by decide +kernel⟩
theorem ok_partLots {f fL fP fN fF : Addr} {fd fdL fdP fdN fdF : FuncData} (F : Fun K "part_lots" "part_lots" pPartLots f fd) (T : Bj mg) (GL : Dn P w0 K mg base "lot_of" 1 ["mask"] spLotOf fL fdL) (GP : Dn P w0 K mg base "part_masks" 3 ["near", "mask"] spParts fP fdP)
    (GN : Dn P w0 K mg base "near_masks" 1 ["web"] spNear fN fdN) (GF : Dn P w0 K mg base "full_mask" 1 ["web"] spFull fF fdF) : FnOk P w0 K mg base CX0 4 f fd ["web"] spPartLots := by
  refine F.ok scPartLots (fun vs H Q E h => ?_) (fun cdv A outer s H vs Q E hr h => ?_)
  · obtain ⟨w, n, L, rfl, _⟩ := h
    rfl
  · obtain ⟨w, n, L, rfl, G, k⟩ := h
    have hr1 : Room 1 _ := hr.mono (by decide)
    refine ⟨_, pss_one (ps_ret (pe_callTy call_tuple_of (by rfl) T.tuple (by decide +kernel) (pa_cons (pe_lc (own := [("part", 1)]) (g := gName 1) (tt := tYes) rfl scPartLots.nd
      (pi_list (pe_call GP.ok hr rfl GP.g GP.kp GP.b .nil pass0 (pa_cons (pe_call GN.ok hr1 rfl GN.g GN.kp GN.b .nil pass0 (pa_cons (pv 0) pa_nil)) (pa_cons (pe_call GF.ok hr1 rfl GF.g GF.kp GF.b .nil pass0 (pa_cons (pv 0) pa_nil)) pa_nil))))
      (blkOk_by (N := nPartLots) (sc := defScope pPartLots) (by decide +kernel)) (fun _ _ _ _ _ => pg_name (i := 1) scPartLots.nd rfl (Or.inl rfl)) (fun _ _ _ _ _ => pts_nil) (fun _ _ _ _ _ => pe_call GL.ok hr1 rfl GL.g GL.kp GL.b .nil pass0 (pa_cons (pv 1) pa_nil))) pa_nil))), ?_⟩
    have n2 := G.n2
    have p12 : 2 ^ n ≤ 4096 := Nat.pow_le_pow_right (n := 2) (by decide) n2
    have pos : 0 < 2 ^ n := Nat.two_pow_pos n
    refine ⟨_, rfl, w, n, L, rfl, G, fun l ms M s1 hl el nr => ?_⟩
    refine ⟨_, rfl, w, n, L, rfl, G.same s1, l, 2 ^ n - 1, n, ms, L, rfl, el, nr, n2, G.bel, by omega, fun a ps M1 s2 ha ea pt => ⟨a, rfl, ⟨_, SqL.of ea⟩, fun Da hD => ?_⟩⟩
    have s12 := s1.trans s2
    have few := inc_few (n := n) (Nat.zero_le _) pt.inc fun q hq => ⟨Nat.zero_le _, by have := (pt.part q hq).1; rw [full_bit, decide_eq_true_eq] at this; exact this⟩
    refine lc_list (K := K) (a := a) (xs := ps.map fun q => natV q.2) (fun i N => ∃ us, N Da = some (.lst us) ∧ LotsAt N us (ps.take i) ∧ N a = some (.lst (ps.map fun q => natV q.2)) ∧ Same M1 N) ⟨[], upd_same, .nil, by rw [upd_ne (ne_of_none ea hD)]; exact ea, same_new hD⟩ (fun i N _ ⟨_, _, _, e, _⟩ => SqL.of e) ?_ ?_
    · rintro i x N hx ⟨us, f1, f2, f3, f4⟩
      rw [List.getElem?_map] at hx
      obtain ⟨q, hq, rfl⟩ := Option.map_eq_some_iff.mp hx
      have hqp := pt.part q (List.mem_of_getElem? hq)
      have lq : q.2 < 4096 := by
        have : q.2 ≤ 2 ^ n - 1 := sub_le fun j z => ((hqp.2.1 j).mp z).bit
        omega
      have tl := f2.len
      rw [List.length_take] at tl
      refine ⟨rfl, ?_⟩
      unfold tYes
      refine iteT ⟨_, rfl, q.2, rfl, lq, fun t N1 s3 ht et => ⟨us, s3 _ _ f1, by rw [sizeLine_eq]; omega, _, upd_same, ?_, by rw [upd_ne (ne_of_none ea hD)]; exact s3 _ _ f3, set_same hD (f4.trans s3)⟩⟩
      rw [take_snoc hq]
      exact ((f2.mono (same_tup s3)).app (.cons et .nil)).mono (upd_tup (s3 _ _ f1))
    · rintro N ⟨us, f1, f2, f3, f4⟩
      rw [List.length_map, List.take_length] at f2
      exact ⟨Da, us, rfl, .inl ⟨SqL.of f1, fun t ht => k t us ps _ ((s12.trans f4).trans (same_new ht)) ((s12.trans f4).free ht) upd_same (f2.mono (new_tup ht)) pt⟩⟩
end
end K0

/-! Parts of webs, as lists of places. -/
namespace K0
/-! ### one more tie -/
theorem adj_snocN {L : List (Int × Int)} {a b x y : Nat} : Adj (L ++ [((a : Int), (b : Int))]) x y ↔ Adj L x y ∨ (x = a ∧ y = b) ∨ (x = b ∧ y = a) := by
  unfold Adj
  simp only [List.mem_append, List.mem_singleton, Prod.mk.injEq, Int.natCast_inj]
  constructor
  · rintro ((z | z) | (z | z))
    · exact .inl (.inl z)
    · exact .inr (.inl z)
    · exact .inl (.inr z)
    · exact .inr (.inr ⟨z.2, z.1⟩)
  · rintro ((z | z) | z | z)
    · exact .inl (.inl z)
    · exact .inr (.inl z)
    · exact .inl (.inr z)
    · exact .inr (.inr ⟨z.2, z.1⟩)
theorem Rch.ties {L M : List (Int × Int)} {m r i : Nat} (h : Rch L m r i) (s : ∀ x y, Adj L x y → Adj M x y) : Rch M m r i := by
  induction h with
  | refl h => exact .refl h
  | step _ a k ih => exact .step ih (s _ _ a) k
theorem rch_snoc {L : List (Int × Int)} {m r i a b : Nat} (ha : m.testBit a = true) (hb : m.testBit b = true) :
    Rch (L ++ [((a : Int), (b : Int))]) m r i ↔ Rch L m r i ∨ (Rch L m r a ∧ Rch L m b i) ∨ (Rch L m r b ∧ Rch L m a i) := by
  constructor
  · intro h
    refine h.closed (S := fun i => Rch L m r i ∨ (Rch L m r a ∧ Rch L m b i) ∨ (Rch L m r b ∧ Rch L m a i)) (.inl (.refl h.root)) fun x y s ad k => ?_
    rcases adj_snocN.mp ad with ad | ⟨rfl, rfl⟩ | ⟨rfl, rfl⟩
    · rcases s with s | ⟨s1, s2⟩ | ⟨s1, s2⟩
      · exact .inl (.step s ad k)
      · exact .inr (.inl ⟨s1, .step s2 ad k⟩)
      · exact .inr (.inr ⟨s1, .step s2 ad k⟩)
    · rcases s with s | ⟨s1, s2⟩ | ⟨s1, s2⟩
      · exact .inr (.inl ⟨s, .refl hb⟩)
      · exact .inr (.inl ⟨s1, .refl hb⟩)
      · exact .inl s1
    · rcases s with s | ⟨s1, s2⟩ | ⟨s1, s2⟩
      · exact .inr (.inr ⟨s, .refl ha⟩)
      · exact .inl s1
      · exact .inr (.inr ⟨s1, .refl ha⟩)
  · have up : ∀ {x y}, Rch L m x y → Rch (L ++ [((a : Int), (b : Int))]) m x y := fun h => h.ties fun x y z => adj_snocN.mpr (.inl z)
    rintro (h | ⟨h1, h2⟩ | ⟨h1, h2⟩)
    · exact up h
    · exact (Rch.step (up h1) (adj_snocN.mpr (.inr (.inl ⟨rfl, rfl⟩))) hb).trans (up h2)
    · exact (Rch.step (up h1) (adj_snocN.mpr (.inr (.inr ⟨rfl, rfl⟩))) ha).trans (up h2)
/-! ### lists that ascend -/
theorem inc_eq {α : Type} (f : α → Nat) : ∀ {l m : List α}, (l.Pairwise fun a b => f a < f b) → (m.Pairwise fun a b => f a < f b) → (∀ x, x ∈ l ↔ x ∈ m) → l = m
  | [], [], _, _, _ => rfl
  | [], y :: m, _, _, h => absurd ((h y).mpr (List.mem_cons_self ..)) (by simp)
  | x :: l, [], _, _, h => absurd ((h x).mp (List.mem_cons_self ..)) (by simp)
  | x :: l, y :: m, hl, hm, h => by
    obtain ⟨l1, l2⟩ := List.pairwise_cons.mp hl
    obtain ⟨m1, m2⟩ := List.pairwise_cons.mp hm
    have e : x = y := by
      rcases List.mem_cons.mp ((h x).mp (List.mem_cons_self ..)) with e | z1
      · exact e
      · rcases List.mem_cons.mp ((h y).mpr (List.mem_cons_self ..)) with e | z2
        · exact e.symm
        · have := m1 x z1
          have := l1 y z2
          omega
    subst e
    rw [inc_eq f l2 m2 fun z => ?_]
    constructor
    · intro hz
      rcases List.mem_cons.mp ((h z).mp (List.mem_cons_of_mem _ hz)) with e | y
      · have := l1 z hz
        rw [e] at this
        omega
      · exact y
    · intro hz
      rcases List.mem_cons.mp ((h z).mpr (List.mem_cons_of_mem _ hz)) with e | y
      · have := m1 z hz
        rw [e] at this
        omega
      · exact y
/-! ### classes -/
/-- xs are the classes of places, in some order -/
structure Cls (L : List (Int × Int)) (m : Nat) (xs : List (List Nat)) : Prop where
  inc : ∀ c ∈ xs, c.Pairwise (· < ·)
  cls : ∀ c ∈ xs, ∃ r, m.testBit r = true ∧ ∀ i, i ∈ c ↔ Rch L m r i
  all : ∀ i, m.testBit i = true → ∃ c ∈ xs, i ∈ c
  dis : xs.Pairwise fun a b => ∀ i, i ∈ a → i ∉ b
abbrev hd (c : List Nat) : Nat := c.headD 0
theorem Cls.ne {L : List (Int × Int)} {m : Nat} {xs : List (List Nat)} (C : Cls L m xs) {c : List Nat} (h : c ∈ xs) : c ≠ [] := by
  obtain ⟨r, hr, hc⟩ := C.cls c h
  intro e
  have := (hc r).mpr (.refl hr)
  rw [e] at this
  cases this
/-- a class is told by one of its places -/
theorem Cls.one {L : List (Int × Int)} {m : Nat} {xs : List (List Nat)} (C : Cls L m xs) {c : List Nat} (h : c ∈ xs) {r : Nat} (hr : r ∈ c) (i : Nat) : i ∈ c ↔ Rch L m r i := by
  obtain ⟨q, hq, hc⟩ := C.cls c h
  have z := (hc r).mp hr
  rw [hc i]
  exact ⟨fun y => z.symm.trans y, fun y => z.trans y⟩
theorem Cls.uniq {L : List (Int × Int)} {m : Nat} {xs ys : List (List Nat)} (C : Cls L m xs) (D : Cls L m ys) {c : List Nat} (h : c ∈ xs) : c ∈ ys := by
  obtain ⟨r, hr, hc⟩ := C.cls c h
  obtain ⟨d, hd, hrd⟩ := D.all r hr
  have e : c = d := inc_eq id (C.inc c h) (D.inc d hd) fun i => by rw [hc i, D.one hd hrd i]
  rw [e]
  exact hd
theorem Cls.eq {L : List (Int × Int)} {m : Nat} {xs ys : List (List Nat)} (C : Cls L m xs) (D : Cls L m ys) (h1 : xs.Pairwise fun a b => hd a < hd b) (h2 : ys.Pairwise fun a b => hd a < hd b) : xs = ys :=
  inc_eq hd h1 h2 fun _ => ⟨C.uniq D, D.uniq C⟩
theorem Cls.ties {L M : List (Int × Int)} {m : Nat} {xs : List (List Nat)} (C : Cls L m xs) (s : ∀ x y, Adj L x y ↔ Adj M x y) : Cls M m xs := by
  refine ⟨C.inc, fun c hc => ?_, C.all, C.dis⟩
  obtain ⟨r, hr, h⟩ := C.cls c hc
  exact ⟨r, hr, fun i => (h i).trans ⟨fun z => z.ties fun x y => (s x y).mp, fun z => z.ties fun x y => (s x y).mpr⟩⟩
theorem Cls.perm {L : List (Int × Int)} {m : Nat} {xs ys : List (List Nat)} (C : Cls L m xs) (p : ys.Perm xs) : Cls L m ys := by
  refine ⟨fun c hc => C.inc c (p.mem_iff.mp hc), fun c hc => C.cls c (p.mem_iff.mp hc), fun i hi => ?_, ?_⟩
  · obtain ⟨c, hc, h⟩ := C.all i hi
    exact ⟨c, p.mem_iff.mpr hc, h⟩
  · exact (p.symm.pairwise_iff (fun {a b} h i hb ha => h i ha hb)).mp C.dis
/-- at the beginning each place is its own class -/
theorem Cls.start (n : Nat) : Cls [] (2 ^ n - 1) ((List.range n).map fun i => [i]) := by
  have adj : ∀ x y, ¬ Adj [] x y := fun x y h => by unfold Adj at h; simp at h
  refine ⟨fun c hc => ?_, fun c hc => ?_, fun i hi => ?_, ?_⟩
  · obtain ⟨i, _, rfl⟩ := List.mem_map.mp hc
    exact List.pairwise_singleton ..
  · obtain ⟨i, hi, rfl⟩ := List.mem_map.mp hc
    have hb : (2 ^ n - 1).testBit i = true := by rw [full_bit]; exact decide_eq_true (List.mem_range.mp hi)
    refine ⟨i, hb, fun j => ⟨fun h => ?_, fun h => ?_⟩⟩
    · rw [List.mem_singleton.mp h]
      exact .refl hb
    · cases h with
      | refl _ => exact List.mem_singleton.mpr rfl
      | step _ a _ => exact absurd a (adj _ _)
  · rw [full_bit, decide_eq_true_eq] at hi
    exact ⟨[i], List.mem_map.mpr ⟨i, List.mem_range.mpr hi, rfl⟩, List.mem_singleton.mpr rfl⟩
  · rw [List.pairwise_map]
    refine List.pairwise_lt_range.imp fun {a b} h i ha hb => ?_
    rw [List.mem_singleton] at ha hb
    omega
/-- a class that holds neither end stays as it is -/
theorem Cls.far {L : List (Int × Int)} {m : Nat} {xs : List (List Nat)} (C : Cls L m xs) {a b : Nat} (ha : m.testBit a = true) (hb : m.testBit b = true) {c : List Nat} (h : c ∈ xs) (na : a ∉ c) (nb : b ∉ c) :
    ∃ r, m.testBit r = true ∧ ∀ i, i ∈ c ↔ Rch (L ++ [((a : Int), (b : Int))]) m r i := by
  obtain ⟨r, hr, hc⟩ := C.cls c h
  refine ⟨r, hr, fun i => ?_⟩
  rw [rch_snoc ha hb, hc i]
  exact ⟨.inl, fun z => z.resolve_right fun y => y.elim (fun y => na ((hc a).mpr y.1)) fun y => nb ((hc b).mpr y.1)⟩
/-- the tie lies within a class -/
theorem Cls.stay {L : List (Int × Int)} {m : Nat} {xs : List (List Nat)} (C : Cls L m xs) {a b : Nat} (ha : m.testBit a = true) (hb : m.testBit b = true) (h : Rch L m a b) : Cls (L ++ [((a : Int), (b : Int))]) m xs := by
  refine ⟨C.inc, fun c hc => ?_, C.all, C.dis⟩
  obtain ⟨r, hr, e⟩ := C.cls c hc
  refine ⟨r, hr, fun i => ?_⟩
  rw [rch_snoc ha hb, e i]
  refine ⟨.inl, fun z => ?_⟩
  rcases z with z | ⟨z1, z2⟩ | ⟨z1, z2⟩
  · exact z
  · exact (z1.trans h).trans z2
  · exact (z1.trans h.symm).trans z2
/-- .. or joins two of them -/
theorem Cls.join {L : List (Int × Int)} {m : Nat} {ys : List (List Nat)} {c d e : List Nat} (C : Cls L m (c :: d :: ys)) {a b : Nat} (ha : a ∈ c) (hb : b ∈ d) (he : e.Pairwise (· < ·)) (em : ∀ i, i ∈ e ↔ i ∈ c ∨ i ∈ d) :
    Cls (L ++ [((a : Int), (b : Int))]) m (ys ++ [e]) := by
  have hc : c ∈ c :: d :: ys := List.mem_cons_self ..
  have hd : d ∈ c :: d :: ys := List.mem_cons_of_mem _ (List.mem_cons_self ..)
  have ba : m.testBit a = true := ((C.one hc ha a).mp ha).bit
  have bb : m.testBit b = true := ((C.one hd hb b).mp hb).bit
  obtain ⟨d1, d2⟩ := List.pairwise_cons.mp C.dis
  obtain ⟨d3, d4⟩ := List.pairwise_cons.mp d2
  refine ⟨fun x hx => ?_, fun x hx => ?_, fun i hi => ?_, ?_⟩
  · rcases List.mem_append.mp hx with hx | hx
    · exact C.inc x (List.mem_cons_of_mem _ (List.mem_cons_of_mem _ hx))
    · rw [List.mem_singleton.mp hx]
      exact he
  · rcases List.mem_append.mp hx with hx | hx
    · exact C.far ba bb (List.mem_cons_of_mem _ (List.mem_cons_of_mem _ hx)) (d1 x (List.mem_cons_of_mem _ hx) a ha) (d3 x hx b hb)
    · rw [List.mem_singleton.mp hx]
      refine ⟨a, ba, fun i => ?_⟩
      rw [rch_snoc ba bb, em i, C.one hc ha i, C.one hd hb i]
      constructor
      · rintro (z | z)
        · exact .inl z
        · exact .inr (.inl ⟨.refl ba, z⟩)
      · rintro (z | ⟨_, z⟩ | ⟨_, z⟩)
        · exact .inl z
        · exact .inr z
        · exact .inl z
  · obtain ⟨x, hx, h⟩ := C.all i hi
    rcases List.mem_cons.mp hx with rfl | hx
    · exact ⟨e, List.mem_append_right _ (List.mem_singleton.mpr rfl), (em i).mpr (.inl h)⟩
    rcases List.mem_cons.mp hx with rfl | hx
    · exact ⟨e, List.mem_append_right _ (List.mem_singleton.mpr rfl), (em i).mpr (.inr h)⟩
    · exact ⟨x, List.mem_append_left _ hx, h⟩
  · refine List.pairwise_append.mpr ⟨d4, List.pairwise_singleton .., fun x hx y hy i hi => ?_⟩
    rw [List.mem_singleton.mp hy, em i]
    rintro (z | z)
    · exact d1 x (List.mem_cons_of_mem _ hx) i z hi
    · exact d3 x hx i z hi
/-- the program's parts -/
theorem Parts.cls {L : List (Int × Int)} {m : Nat} {ps : List (Nat × Nat)} (P : Parts L m ps) (hm : m < 2 ^ 12) : Cls L m (ps.map fun q => lotN q.2) ∧ (ps.map fun q => lotN q.2).Pairwise fun a b => hd a < hd b := by
  have lt : ∀ q ∈ ps, q.2 < 2 ^ 12 := fun q hq => Nat.lt_of_le_of_lt (sub_le fun i z => (((P.part q hq).2.1 i).mp z).bit) hm
  have mem : ∀ q ∈ ps, ∀ i, i ∈ lotN q.2 ↔ Rch L m q.1 i := fun q hq i => (lotN_mem (lt q hq)).trans ((P.part q hq).2.1 i)
  have hdq : ∀ q ∈ ps, hd (lotN q.2) = q.1 := fun q hq => by
    have h1 : q.1 ∈ lotN q.2 := (mem q hq _).mpr (.refl (P.part q hq).1)
    have h2 := lotN_inc q.2
    cases e : lotN q.2 with
    | nil => rw [e] at h1; cases h1
    | cons x t =>
      rw [e] at h1 h2
      have h3 : q.1 ≤ x := (P.part q hq).2.2 x ((lotN_mem (lt q hq)).mp (by rw [e]; exact List.mem_cons_self ..))
      show x = q.1
      rcases List.mem_cons.mp h1 with z | z
      · exact z.symm
      · have := (List.pairwise_cons.mp h2).1 _ z
        omega
  refine ⟨⟨fun c hc => ?_, fun c hc => ?_, fun i hi => ?_, ?_⟩, ?_⟩
  · obtain ⟨q, _, rfl⟩ := List.mem_map.mp hc
    exact lotN_inc _
  · obtain ⟨q, hq, rfl⟩ := List.mem_map.mp hc
    exact ⟨q.1, (P.part q hq).1, mem q hq⟩
  · obtain ⟨q, hq, h⟩ := P.all i hi
    exact ⟨_, List.mem_map.mpr ⟨q, hq, rfl⟩, (lotN_mem (lt q hq)).mpr h⟩
  · rw [List.pairwise_map]
    refine List.Pairwise.imp_of_mem (fun {p q} hp hq h i h1 h2 => ?_) P.inc
    have z1 := (mem p hp i).mp h1
    have z2 := (mem q hq i).mp h2
    have z3 := (P.part q hq).2.2 p.1 (((P.part q hq).2.1 p.1).mpr (z2.trans z1.symm))
    omega
  · rw [List.pairwise_map]
    refine List.Pairwise.imp_of_mem (fun {p q} hp hq h => ?_) P.inc
    show hd (lotN p.2) < hd (lotN q.2)
    rw [hdq p hp, hdq q hq]
    exact h
end K0

/-! Parts behind a renaming of some places; how many places they have; lots of parts. -/
namespace K0
/-! ### indices -/
theorem idxOf_ne {k a : Nat} (ks : List Nat) (h : k ≠ a) : (k :: ks).idxOf a = ks.idxOf a + 1 := by
  rw [List.idxOf_cons]
  have e : (k == a) = false := by simpa using h
  rw [e] <;> rfl
theorem idx_mono : ∀ {ks : List Nat}, ks.Pairwise (· < ·) → ∀ {i j : Nat}, i ∈ ks → j ∈ ks → i < j → ks.idxOf i < ks.idxOf j
  | [], _, _, _, h, _, _ => nomatch h
  | k :: ks, p, i, j, hi, hj, lt => by
    obtain ⟨p1, p2⟩ := List.pairwise_cons.mp p
    rcases List.mem_cons.mp hi with rfl | hi
    · rw [List.idxOf_cons_self]
      rcases List.mem_cons.mp hj with rfl | hj
      · omega
      · rw [idxOf_ne _ (fun z => by omega)]
        omega
    · have := p1 i hi
      rcases List.mem_cons.mp hj with rfl | hj
      · omega
      · rw [idxOf_ne _ (fun z => by omega), idxOf_ne _ (fun z => by omega)]
        have := idx_mono p2 hi hj lt
        omega
theorem idx_at {ks : List Nat} (p : ks.Pairwise (· < ·)) {x a : Nat} (h : ks[x]? = some a) : ks.idxOf a = x := by
  induction ks generalizing x with
  | nil => cases h
  | cons k ks ih =>
    obtain ⟨p1, p2⟩ := List.pairwise_cons.mp p
    cases x with
    | zero =>
      cases h
      exact List.idxOf_cons_self
    | succ x =>
      have h : ks[x]? = some a := h
      have := p1 a (List.mem_of_getElem? h)
      rw [idxOf_ne _ (fun z => by omega), ih p2 h]
theorem at_idx {ks : List Nat} {a : Nat} (h : a ∈ ks) : ks[ks.idxOf a]? = some a := by
  induction ks with
  | nil => cases h
  | cons k ks ih =>
    by_cases e : k = a
    · subst e
      rw [List.idxOf_cons_self] <;> rfl
    · rw [idxOf_ne _ e, List.getElem?_cons_succ]
      exact ih ((List.mem_cons.mp h).resolve_left fun z => e z.symm)
theorem idx_lt {ks : List Nat} {a : Nat} (h : a ∈ ks) : ks.idxOf a < ks.length := List.idxOf_lt_length_of_mem h
/-- L' is what L is within ks, its places called by their indices -/
def Ren (L M : List (Int × Int)) (ks : List Nat) : Prop := ∀ x y, Adj M x y ↔ ∃ a b, ks[x]? = some a ∧ ks[y]? = some b ∧ Adj L a b
section
variable {L M : List (Int × Int)} {ks : List Nat} {m : Nat}
theorem Ren.go (R : Ren L M ks) (hm : ∀ i, m.testBit i = true ↔ i ∈ ks) {a b : Nat} (h : Rch L m a b) : Rch M (2 ^ ks.length - 1) (ks.idxOf a) (ks.idxOf b) := by
  induction h with
  | refl h => exact .refl (by rw [full_bit]; exact decide_eq_true (idx_lt ((hm _).mp h)))
  | @step b c s a k ih => exact .step ih ((R _ _).mpr ⟨b, c, at_idx ((hm _).mp s.bit), at_idx ((hm _).mp k), a⟩) (by rw [full_bit]; exact decide_eq_true (idx_lt ((hm _).mp k)))
theorem Ren.back (p : ks.Pairwise (· < ·)) (R : Ren L M ks) (hm : ∀ i, m.testBit i = true ↔ i ∈ ks) {x y a : Nat} (h : Rch M (2 ^ ks.length - 1) x y) (ha : ks[x]? = some a) : ∃ b, ks[y]? = some b ∧ Rch L m a b := by
  refine h.closed (S := fun y => ∃ b, ks[y]? = some b ∧ Rch L m a b) ⟨a, ha, .refl ((hm a).mpr (List.mem_of_getElem? ha))⟩ ?_
  rintro u v ⟨b, hb, s⟩ ad _
  obtain ⟨b', c, e1, e2, al⟩ := (R u v).mp ad
  rw [hb] at e1
  cases e1
  exact ⟨c, e2, .step s al ((hm c).mpr (List.mem_of_getElem? e2))⟩
/-- the classes, renamed -/
theorem Cls.ren {xs : List (List Nat)} (C : Cls L m xs) (p : ks.Pairwise (· < ·)) (R : Ren L M ks) (hm : ∀ i, m.testBit i = true ↔ i ∈ ks) : Cls M (2 ^ ks.length - 1) (xs.map fun c => c.map ks.idxOf) := by
  have inK : ∀ c ∈ xs, ∀ i ∈ c, i ∈ ks := fun c hc i hi => by
    obtain ⟨r, _, h⟩ := C.cls c hc
    exact (hm i).mp ((h i).mp hi).bit
  have inj : ∀ i ∈ ks, ∀ j ∈ ks, ks.idxOf i = ks.idxOf j → i = j := fun i hi j hj e => by
    have h1 := at_idx hi
    rw [e, at_idx hj] at h1
    exact (Option.some.inj h1).symm
  refine ⟨fun c hc => ?_, fun c hc => ?_, fun i hi => ?_, ?_⟩
  · obtain ⟨d, hd, rfl⟩ := List.mem_map.mp hc
    rw [List.pairwise_map]
    exact List.Pairwise.imp_of_mem (fun {a b} ha hb h => idx_mono p (inK d hd a ha) (inK d hd b hb) h) (C.inc d hd)
  · obtain ⟨d, hd, rfl⟩ := List.mem_map.mp hc
    obtain ⟨r, hr, h⟩ := C.cls d hd
    have rk := (hm r).mp hr
    refine ⟨ks.idxOf r, by rw [full_bit]; exact decide_eq_true (idx_lt rk), fun i => ⟨fun z => ?_, fun z => ?_⟩⟩
    · obtain ⟨j, hj, rfl⟩ := List.mem_map.mp z
      exact R.go hm ((h j).mp hj)
    · obtain ⟨b, hb, s⟩ := R.back p hm z (at_idx rk)
      exact List.mem_map.mpr ⟨b, (h b).mpr s, idx_at p hb⟩
  · rw [full_bit, decide_eq_true_eq] at hi
    have e := List.getElem?_eq_getElem hi
    obtain ⟨c, hc, h⟩ := C.all _ ((hm _).mpr (List.getElem_mem hi))
    exact ⟨_, List.mem_map.mpr ⟨c, hc, rfl⟩, List.mem_map.mpr ⟨_, h, idx_at p e⟩⟩
  · rw [List.pairwise_map]
    refine List.Pairwise.imp_of_mem (fun {c d} hc hd h i h1 h2 => ?_) C.dis
    obtain ⟨j, hj, rfl⟩ := List.mem_map.mp h1
    obtain ⟨k, hk, e⟩ := List.mem_map.mp h2
    rw [inj k (inK d hd k hk) j (inK c hc j hj) e] at hk
    exact h j hj hk
theorem hd_map {c : List Nat} (h : c ≠ []) (f : Nat → Nat) : hd (c.map f) = f (hd c) := by
  cases c with
  | nil => exact absurd rfl h
  | cons x t => rfl
theorem hd_mem {c : List Nat} (h : c ≠ []) : hd c ∈ c := by
  cases c with
  | nil => exact absurd rfl h
  | cons x t => exact List.mem_cons_self ..
theorem Cls.ren_hd {xs : List (List Nat)} (C : Cls L m xs) (p : ks.Pairwise (· < ·)) (hm : ∀ i, m.testBit i = true ↔ i ∈ ks) (h : xs.Pairwise fun a b => hd a < hd b) : (xs.map fun c => c.map ks.idxOf).Pairwise fun a b => hd a < hd b := by
  have inK : ∀ c ∈ xs, ∀ i ∈ c, i ∈ ks := fun c hc i hi => by
    obtain ⟨r, _, h⟩ := C.cls c hc
    exact (hm i).mp ((h i).mp hi).bit
  rw [List.pairwise_map]
  refine List.Pairwise.imp_of_mem (fun {c d} hc hd' h => ?_) h
  rw [hd_map (C.ne hc), hd_map (C.ne hd')]
  exact idx_mono p (inK c hc _ (hd_mem (C.ne hc))) (inK d hd' _ (hd_mem (C.ne hd'))) h
/-- a class of the whole web alone -/
theorem Cls.alone {xs : List (List Nat)} (C : Cls L m xs) {c : List Nat} (hc : c ∈ xs) {k : Nat} (hk : ∀ i, k.testBit i = true ↔ i ∈ c) : Cls L k [c] := by
  obtain ⟨r, hr, h⟩ := C.cls c hc
  have sub : ∀ i, k.testBit i = true → m.testBit i = true := fun i z => ((h i).mp ((hk i).mp z)).bit
  refine ⟨fun x hx => by rw [List.mem_singleton.mp hx]; exact C.inc c hc, fun x hx => ?_, fun i hi => ⟨c, List.mem_singleton.mpr rfl, (hk i).mp hi⟩, List.pairwise_singleton ..⟩
  rw [List.mem_singleton.mp hx]
  have rc : r ∈ c := (h r).mpr (.refl hr)
  refine ⟨r, (hk r).mpr rc, fun i => ⟨fun z => ?_, fun z => (h i).mpr (z.mono sub)⟩⟩
  have z := (h i).mp z
  refine (z.closed (S := fun i => Rch L m r i ∧ Rch L k r i) ⟨.refl hr, .refl ((hk r).mpr rc)⟩ fun x y s a b => ?_).2
  have z2 : Rch L m r y := .step s.1 a b
  exact ⟨z2, .step s.2 a ((hk y).mpr ((h y).mpr z2))⟩
end
/-! ### how many -/
theorem len_le {α : Type} [DecidableEq α] : ∀ {l m : List α}, l.Nodup → (∀ x ∈ l, x ∈ m) → l.length ≤ m.length
  | [], m, _, _ => Nat.zero_le _
  | x :: l, m, nd, s => by
    obtain ⟨n1, n2⟩ := List.nodup_cons.mp nd
    have hx := s x (List.mem_cons_self ..)
    have := len_le (m := m.erase x) n2 fun y hy => (List.mem_erase_of_ne (fun e => n1 (by rw [← e]; exact hy))).mpr (s y (List.mem_cons_of_mem _ hy))
    rw [List.length_erase_of_mem hx] at this
    have : 0 < m.length := List.length_pos_of_mem hx
    rw [List.length_cons]
    omega
theorem inc_nodup {l : List Nat} (h : l.Pairwise (· < ·)) : l.Nodup := h.imp fun {a b} z e => by omega
theorem Cls.flat {L : List (Int × Int)} {m : Nat} {xs : List (List Nat)} (C : Cls L m xs) : xs.flatten.Nodup := by
  have i := C.inc
  have d := C.dis
  clear C
  induction xs with
  | nil => exact List.nodup_nil
  | cons c xs ih =>
    obtain ⟨d1, d2⟩ := List.pairwise_cons.mp d
    rw [List.flatten_cons]
    refine List.nodup_append.mpr ⟨inc_nodup (i c (List.mem_cons_self ..)), ih (fun y hy => i y (List.mem_cons_of_mem _ hy)) d2, fun x hx y hy e => ?_⟩
    obtain ⟨z, hz, h⟩ := List.mem_flatten.mp hy
    rw [e] at hx
    exact d1 z hz y hx h
theorem Cls.len {L : List (Int × Int)} {m : Nat} {xs : List (List Nat)} (C : Cls L m xs) {ks : List Nat} (nk : ks.Nodup) (hm : ∀ i, m.testBit i = true ↔ i ∈ ks) : (xs.map List.length).sum = ks.length := by
  rw [← List.length_flatten]
  refine Nat.le_antisymm (len_le C.flat fun x hx => ?_) (len_le nk fun x hx => ?_)
  · obtain ⟨c, hc, h⟩ := List.mem_flatten.mp hx
    obtain ⟨r, _, e⟩ := C.cls c hc
    exact (hm x).mp ((e x).mp h).bit
  · obtain ⟨c, hc, h⟩ := C.all x ((hm x).mpr hx)
    exact List.mem_flatten.mpr ⟨c, hc, h⟩
theorem odd_sum : ∀ xs : List (List Nat), (xs.map fun c => c.length % 2).sum = (xs.filter fun c => c.length % 2 == 1).length
  | [] => rfl
  | c :: xs => by
    rw [List.map_cons, List.sum_cons, odd_sum xs]
    rcases Nat.mod_two_eq_zero_or_one c.length with e | e
    · rw [List.filter_cons_of_neg (by rw [e]; decide), e]
      omega
    · rw [List.filter_cons_of_pos (by rw [e]; decide), e, List.length_cons]
      omega
theorem odd_mod : ∀ xs : List (List Nat), (xs.map fun c => c.length % 2).sum % 2 = (xs.map List.length).sum % 2
  | [] => rfl
  | c :: xs => by
    have := odd_mod xs
    simp only [List.map_cons, List.sum_cons]
    omega
/-! ### lots and parts -/
/-- a part that has places in the lot, and places that are not -/
def brk (ks c : List Nat) : Bool := decide (0 < (c.filter fun i => decide (i ∈ ks)).length) && decide ((c.filter fun i => decide (i ∈ ks)).length < c.length)
theorem brk_no {ks c : List Nat} : brk ks c = false ↔ (∀ i ∈ c, i ∉ ks) ∨ ∀ i ∈ c, i ∈ ks := by
  have h1 : (c.filter fun i => decide (i ∈ ks)).length ≤ c.length := List.length_filter_le ..
  have h2 : (c.filter fun i => decide (i ∈ ks)).length = c.length ↔ ∀ i ∈ c, i ∈ ks := by
    rw [List.length_filter_eq_length_iff]
    exact ⟨fun h i hi => of_decide_eq_true (h i hi), fun h i hi => decide_eq_true (h i hi)⟩
  have h3 : (c.filter fun i => decide (i ∈ ks)).length = 0 ↔ ∀ i ∈ c, i ∉ ks := by
    rw [List.length_eq_zero_iff, List.filter_eq_nil_iff]
    exact ⟨fun h i hi z => h i hi (decide_eq_true z), fun h i hi z => h i hi (of_decide_eq_true z)⟩
  unfold brk
  rw [Bool.and_eq_false_iff, decide_eq_false_iff_not, decide_eq_false_iff_not, ← h2, ← h3]
  omega
theorem Cls.brk {L : List (Int × Int)} {m : Nat} {xs : List (List Nat)} (C : Cls L m xs) (hm : ∀ x y, Adj L x y → m.testBit x = true ∧ m.testBit y = true) (ks : List Nat) :
    xs.filter (brk ks) = [] ↔ ∀ x y, Adj L x y → (x ∈ ks ↔ y ∈ ks) := by
  rw [List.filter_eq_nil_iff]
  constructor
  · intro h x y a
    obtain ⟨hx, hy⟩ := hm x y a
    obtain ⟨c, hc, xc⟩ := C.all x hx
    have yc : y ∈ c := (C.one hc xc y).mpr (.step (.refl hx) a hy)
    have z : K0.brk ks c = false := by
      cases q : K0.brk ks c with
      | false => rfl
      | true => exact absurd q (h c hc)
    rcases brk_no.mp z with z | z
    · exact ⟨fun q => absurd q (z x xc), fun q => absurd q (z y yc)⟩
    · exact ⟨fun _ => z y yc, fun _ => z x xc⟩
  · intro h c hc q
    obtain ⟨r, hr, e⟩ := C.cls c hc
    have go : ∀ i ∈ c, (r ∈ ks ↔ i ∈ ks) := fun i hi => ((e i).mp hi).closed (S := fun i => r ∈ ks ↔ i ∈ ks) Iff.rfl fun x y s a _ => s.trans (h x y a)
    have z : K0.brk ks c = false := by
      rw [brk_no]
      by_cases hr : r ∈ ks
      · exact .inr fun i hi => (go i hi).mp hr
      · exact .inl fun i hi z => hr ((go i hi).mpr z)
    rw [z] at q
    cases q
/-! ### masks of lots -/
theorem add_or : ∀ (n x y : Nat), x < 2 ^ n → (∀ i, x.testBit i = true → y.testBit i = false) → x + y = x ||| y
  | 0, x, y, h, _ => by
    have : x = 0 := by omega
    subst this
    rw [Nat.zero_add, Nat.zero_or]
  | n + 1, x, y, h, d => by
    have ih := add_or n (x / 2) (y / 2) (by rw [Nat.pow_succ] at h; omega) fun i hi => by
      rw [Nat.testBit_div_two] at hi ⊢
      exact d _ hi
    have e : (x ||| y) / 2 = x / 2 ||| y / 2 := Nat.or_div_two
    have b0 : (x ||| y) % 2 = x % 2 + y % 2 := by
      have h0 := d 0
      have z : (x ||| y).testBit 0 = (x.testBit 0 || y.testBit 0) := Nat.testBit_or ..
      rw [Nat.testBit_zero, Nat.testBit_zero] at h0
      rw [Nat.testBit_zero, Nat.testBit_zero, Nat.testBit_zero] at z
      simp only [decide_eq_true_eq, decide_eq_false_iff_not] at h0
      rcases Nat.mod_two_eq_zero_or_one x with hx | hx <;> rcases Nat.mod_two_eq_zero_or_one y with hy | hy <;> rw [hx, hy] at z ⊢ <;> rcases Nat.mod_two_eq_zero_or_one (x ||| y) with hz | hz <;> rw [hz] at z ⊢ <;> simp_all
    have q1 := Nat.div_add_mod x 2
    have q2 := Nat.div_add_mod y 2
    have q3 := Nat.div_add_mod (x ||| y) 2
    rw [e, ← ih, b0] at q3
    omega
/-- the mask of places -/
def maskN (ks : List Nat) : Nat := (ks.map fun i => 2 ^ i).sum
theorem mask_bit : ∀ {ks : List Nat}, ks.Nodup → ∀ i, (maskN ks).testBit i = true ↔ i ∈ ks
  | [], _, i => by
    show (0 : Nat).testBit i = true ↔ _
    rw [Nat.zero_testBit]
    simp
  | k :: ks, nd, i => by
    obtain ⟨n1, n2⟩ := List.nodup_cons.mp nd
    have ih := mask_bit n2
    have e : maskN (k :: ks) = 2 ^ k ||| maskN ks := by
      show 2 ^ k + maskN ks = _
      refine add_or (k + 1) _ _ (Nat.pow_lt_pow_right (by decide) (by omega)) fun j hj => ?_
      rw [Nat.testBit_two_pow, decide_eq_true_eq] at hj
      subst hj
      cases q : (maskN ks).testBit k with
      | false => rfl
      | true => exact absurd ((ih k).mp q) n1
    rw [e, Nat.testBit_or, Bool.or_eq_true, ih i, Nat.testBit_two_pow, decide_eq_true_eq, List.mem_cons]
    exact or_congr_left ⟨fun z => z.symm, fun z => z.symm⟩
theorem mask_lt {ks : List Nat} (nd : ks.Nodup) {n : Nat} (h : ∀ i ∈ ks, i < n) : maskN ks < 2 ^ n := by
  refine Nat.lt_of_le_of_lt (sub_le (b := 2 ^ n - 1) fun i hi => ?_) (Nat.sub_lt (Nat.two_pow_pos n) (by decide))
  rw [full_bit]
  exact decide_eq_true (h i ((mask_bit nd i).mp hi))
theorem mask_sum : ∀ xs : List (List Nat), (xs.map maskN).sum = maskN xs.flatten
  | [] => rfl
  | c :: xs => by
    rw [List.map_cons, List.sum_cons, mask_sum xs, List.flatten_cons]
    unfold maskN
    rw [List.map_append, List.sum_append]
end K0

set_option Elab.async false
set_option linter.all false
set_option maxRecDepth 100000
set_option maxHeartbeats 4000000
/-! Rule: sorted(list of tuples of ints), their lengths as they like, none empty. -/
namespace KR
open PySem PySem.Spec L2
open PyProof.Rows hiding St
def shI : Nat → Bool := fun _ => false
theorem items_ints : ∀ {vs : List Value} {ns : List Int} (i : Nat), IntsAre vs ns → tupItems shI i vs = some (ns.map Sum.inl)
  | _, _, _, .nil => rfl
  | _, _, i, .cons n t r => by
    show (if shI i = true then none else (tupItems shI (i + 1) _).map (Sum.inl n :: ·)) = _
    rw [show shI i = false from rfl, if_neg Bool.false_ne_true, items_ints (i + 1) r] <;> rfl
theorem lex_ints : ∀ ns ms : List Int, PyProof.Rows.lexLt itemOrd (ns.map Sum.inl) (ms.map Sum.inl) = HT.lexLt ns ms
  | [], [] => rfl
  | [], _ :: _ => rfl
  | _ :: _, [] => rfl
  | x :: xs, y :: ys => by
    rw [List.map_cons, List.map_cons, PyProof.Rows.lex_cons, HT.lexLt_cons, lex_ints xs ys]
    show (decide (x < y) || (!decide (y < x) && HT.lexLt xs ys)) = _
    by_cases e : x = y
    · rw [if_pos e, decide_eq_false (by omega), decide_eq_false (by omega)] <;> rfl
    · rw [if_neg e]
      by_cases z : x < y
      · rw [decide_eq_true z, Bool.true_or]
      · rw [decide_eq_false z, decide_eq_true (by omega)] <;> rfl
section
variable {prog : Program} {w : World} {A : Around} {s : Shared}
theorem key_of {h : Heap} {v : Value} {ns : List Int} (x : TS.TupInts h v ns) : (tupKind h shI).keyOf v = some (ns.map Sum.inl) := by
  obtain ⟨a, xs, rfl, ⟨o, ho, hc, n, hd⟩, i⟩ := x
  show tupKey h shI (.ref a) = _
  unfold tupKey
  simp only [ho, hd]
  exact items_ints 0 i
theorem tl_cmp {vs : List Value} {k : Value → List Int} (hp : ∀ v ∈ vs, TS.TupInts s.heap v (k v)) : SrtO.Cmp prog w A s (tuples' true) (fun p => p.1 ∈ vs) (SrtO.lt2 fun v u => HT.lexLt (k v) (k u)) := by
  intro p q hm hm'
  refine tup_ltAt true A _ p.1 q.1 _ _ (key_of (hp _ hm)) (key_of (hp _ hm')) ⟨rfl, ?_⟩
  exact lex_ints _ _
theorem tl_firsts {h : Heap} : ∀ {vs : List Value} {k : Value → List Int}, (∀ v ∈ vs, TS.TupInts h v (k v) ∧ k v ≠ []) → ∃ fs, TupsOf h shI vs fs ∧ fs.length = vs.length
  | [], _, _ => ⟨[], .nil, rfl⟩
  | v :: vs, k, hp => by
    obtain ⟨fs, h1, h2⟩ := tl_firsts (fun u hu => hp u (List.mem_cons_of_mem _ hu))
    obtain ⟨⟨a, xs, e, ⟨o, ho, hc, n, hd⟩, i⟩, ne⟩ := hp v (List.mem_cons_self ..)
    generalize k v = ns at i ne
    generalize e1 : xs.toList = us at i
    cases i with
    | nil => exact absurd rfl ne
    | cons x t r =>
      refine ⟨.int x t :: fs, .cons ⟨a, o, xs, n, e, ho, hc, hd, ?_, fun _ => ⟨x, t, rfl⟩, fun z => absurd z (by decide)⟩ h1, by rw [List.length_cons, List.length_cons, h2]⟩
      rw [← Array.getElem?_toList, e1] <;> rfl
theorem tl_sortable {a : Addr} {vs : List Value} {k : Value → List Int} (h0 : 0 < vs.length) (hp : ∀ v ∈ vs, TS.TupInts s.heap v (k v) ∧ k v ≠ []) (ha : ∀ o, s.heap.get? a = some o → o.cls ≠ .type "tuple") :
    SrtO.SortableO prog w A s a vs fun v u => HT.lexLt (k v) (k u) := by
  intro h' keep
  have hp' : ∀ v ∈ vs, TS.TupInts h' v (k v) ∧ k v ≠ [] := fun v hm => ⟨(hp v hm).1.keeps fun b o e c => keep b o (fun z => by subst z; exact ha o e c) e, (hp v hm).2⟩
  obtain ⟨fs, h1, h2⟩ := tl_firsts hp'
  refine ⟨tuples' true, fun Q E hq => ?_, tl_cmp (s := { s with heap := h' }) fun v hm => (hp' v hm).1⟩
  exact tup_kind (s := { s with heap := h' }) (by omega) h1 hq
end
/-- sorted(xs), xs a list of tuples of ints, none empty -/
def rSortTL (K : PySem.W.Frag) : List V → Hp → VK → Prop := fun vs H Q => ∃ (a : Addr) (xs : List V) (k : V → List Int), vs = [V.ref a] ∧ SqL K H a xs ∧ (∀ x ∈ xs, TupI K H x (k x) ∧ k x ≠ []) ∧
  ∀ (ys : List V) (p : Addr), ys.Perm xs → ys.Pairwise (fun x y => HT.lexLt (k y) (k x) = false) → H p = none → Q (.ref p) (upd H p (.lst ys))
section
variable {X : Cx}
theorem cr_sortTL : CallR X (.builtin "sorted") (rSortTL X.K) := by
  intro pins s σ H vs us Q I r h
  obtain ⟨a, xs, k, rfl, hs, hx, q⟩ := h
  obtain ⟨its, rv, hl, hz⟩ := I.list hs
  rw [Vals.ref1 r]
  have bk := bkV_refs rv fun x m => by
    obtain ⟨⟨t, e, _⟩, _⟩ := hx x m
    exact ⟨t, e⟩
  have raw : ∀ v ∈ its, TS.TupInts s.heap v (k (bkV v)) ∧ k (bkV v) ≠ [] := fun v hv => by
    obtain ⟨t, rfl⟩ := bk.2 v hv
    have hm : V.ref t ∈ xs := by
      rw [bk.1]
      exact List.mem_map.mpr ⟨_, hv, rfl⟩
    obtain ⟨⟨t', e, ht⟩, ne⟩ := hx _ hm
    cases e
    exact ⟨tupI_raw I ht, ne⟩
  refine SrtO.sorted_ord (NtL.swo_lexL fun u => k (bkV u)) hl.isList (by rw [← rv.length]; exact hz) (fun h2 h₁ a' ha kk => ?_) fun out h1 h2 => ?_
  · refine tl_sortable (s := { s with heap := h₁ }) (by omega) (fun v hm => ⟨(raw v hm).1.keeps fun b o e _ => (kk b o e).2, (raw v hm).2⟩) fun o e => ?_
    have e' : some o = some (seqObj "list" its.toArray 0) := e.symm.trans ha
    cases e'
    intro c
    exact absurd (Value.type.inj c) (by decide)
  · have refs : ∀ u ∈ out, ∃ t, u = Value.ref t := fun u hu => bk.2 u (h2.perm.mem_iff.mp hu)
    have pm : (out.map bkV).Perm xs := by rw [bk.1]; exact h2.perm.map bkV
    obtain ⟨n, hn⟩ := sortedAll_at s.heap its out.toArray
    refine ⟨.ref (s.heap.objs.size + 1), upd H (s.heap.objs.size + 1) (.lst (out.map bkV)), I.laid (t' := s.toks) (fun b o e => sortedAll_old e) (Nat.le_succ _) ⟨by rw [pm.length_eq]; exact hz, out, n, bkV_vals refs, hn⟩, rfl, q _ _ pm ?_ (I.hok.fresh (Nat.le_succ _))⟩
    exact List.pairwise_map.mpr (h1.imp fun {x y} z => z)
end
end KR

set_option Elab.async false
set_option linter.all false
set_option maxRecDepth 100000
set_option maxHeartbeats 8000000
/-! Values near lots. -/
namespace K0
open PySem PySem.Spec L2
open PyProof.Rows hiding St
open KR (TupX tobj)
/-! ### tuples known whole, put together -/
theorem cut_whole {xs : List V} {lo hi : Option Int} (h : HT.sIx xs.length 0 lo = 0 ∧ HT.sIx xs.length xs.length hi = xs.length) : cutV xs lo hi = xs := by
  unfold cutV
  rw [h.1, h.2, List.drop_zero, Nat.sub_zero, List.take_length]
section
variable {X : Cx}
def rSlU : V → Option Int → Option Int → Hp → VK → Prop := fun x lo hi H Q => ∃ a xs, x = .ref a ∧ TupX H a xs ∧ ∀ r H', Same H H' → TupX H' r (cutV xs lo hi) → Q (.ref r) H'
theorem sl_tupU : SlR X rSlU := fun pins s σ H x v vl vu lo hi sl Q I rx hs pl pu ⟨a, xs, e, t, q⟩ =>
  KR.sl_tupF pins s σ H x v vl vu lo hi sl Q I rx hs pl pu ⟨a, xs, e, t.sq, fun hw => q a H (Same.refl H) ((cut_whole hw).symm ▸ t), fun _ p us hp => q p _ (same_new hp) .of⟩
def rCatU : R2 := fun x y H Q => ∃ a b xs ys, x = .ref a ∧ y = .ref b ∧ TupX H a xs ∧ TupX H b ys ∧ xs.length + ys.length ≤ sizeLine ∧ ∀ r H', Same H H' → TupX H' r (xs ++ ys) → Q (.ref r) H'
theorem op_catU : OpR X (binaryOp .Add) rCatU := fun pins s σ H x y v u Q I rx ry ⟨a, b, xs, ys, e1, e2, t, t', z, q⟩ =>
  KR.op_catF pins s σ H x y v u Q I rx ry ⟨a, b, xs, ys, e1, e2, t.sq, t'.sq, z, fun h => q b H (Same.refl H) (by rw [h]; exact t'), fun _ h => q a H (Same.refl H) (by rw [h, List.append_nil]; exact t), fun _ _ p us hp => q p _ (same_new hp) .of⟩
end
theorem kpT {p c a : Addr} {H H' : Hp} {xs : List V} (t : TupX H a xs) (D : Deck H p c) (k : Kp p c H H') : TupX H' a xs := by
  obtain ⟨us, e⟩ := t
  obtain ⟨ys, m, n, h1, h2, _⟩ := D.ex
  exact ⟨us, k a _ (ne_of e h1 (by intro z; cases z)) (ne_of e h2 (by intro z; cases z)) e⟩
/-! ### items -/
/-- each item is some small datum -/
def Al (H : Hp) (xs : List V) : Prop := ∀ x ∈ xs, ∃ d, DV H Any x d ∧ Tame 0 d
theorem Al.same {H H' : Hp} {xs : List V} (a : Al H xs) (s : Same H H') : Al H' xs := fun x hx => let ⟨d, h1, h2⟩ := a x hx; ⟨d, h1.same s, h2⟩
theorem Al.app {H : Hp} {xs ys : List V} (a : Al H xs) (b : Al H ys) : Al H (xs ++ ys) := fun x hx => (List.mem_append.mp hx).elim (a x) (b x)
theorem Al.sub {H : Hp} {xs ys : List V} (a : Al H xs) (h : ∀ x ∈ ys, x ∈ xs) : Al H ys := fun x hx => a x (h x hx)
theorem Al.cut {H : Hp} {xs : List V} {lo hi : Option Int} (a : Al H xs) : Al H (cutV xs lo hi) := a.sub fun x hx => List.mem_of_mem_drop (List.mem_of_mem_take hx)
theorem Al.data {H : Hp} : ∀ {xs : List V}, Al H xs → ∃ ds : List PyData, xs.length = ds.length ∧ (∀ (i : Nat) (v : V) (d : PyData), xs[i]? = some v → ds[i]? = some d → DV H Any v d) ∧ ∀ d ∈ ds, Tame 0 d
  | [], _ => ⟨[], rfl, (fun i v d z => by simp at z), fun _ z => nomatch z⟩
  | x :: xs, a => by
    obtain ⟨d, h1, h2⟩ := a x (List.mem_cons_self ..)
    obtain ⟨ds, g1, g2, g3⟩ := Al.data (xs := xs) fun y hy => a y (List.mem_cons_of_mem _ hy)
    refine ⟨d :: ds, by rw [List.length_cons, List.length_cons, g1], fun i v e z1 z2 => ?_, fun e he => ?_⟩
    · cases i with
      | zero => cases z1; cases z2; exact h1
      | succ i => exact g2 i v e (by simpa using z1) (by simpa using z2)
    · rcases List.mem_cons.mp he with rfl | he
      · exact h2
      · exact g3 e he
theorem tame_big {ds : List PyData} (h : ∀ d ∈ ds, Tame 0 d) (l : ds.length ≤ 40) : Tame 3 (.tuple ds) ∧ Tame 3 (.list ds) := by
  obtain ⟨h1, h2, h3, h4⟩ := all_of h
  have b0 : bb 0 = 20 := rfl
  have b3 : bb 3 = 1280 := rfl
  have q : ds.length * (bb 0 + 1) ≤ 40 * 21 := by rw [b0]; exact Nat.mul_le_mul_right _ l
  exact ⟨⟨by simp only [PyData.showable, h1], by simp only [PyData.leavesShort, h2], by simp only [PyData.depth]; omega, by simp only [PyData.bulk]; omega, by simp only [slimD, slim_of h, Bool.and_true]; exact decide_eq_true (by omega)⟩, ⟨by simp only [PyData.showable, h1], by simp only [PyData.leavesShort, h2], by simp only [PyData.depth]; omega, by simp only [PyData.bulk]; omega, by simp only [slimD]⟩⟩
theorem int12 : ∀ i : Fin 64, PyData.showable (.int (i.val : Int)) = true ∧ PyData.leavesShort 200 (.int (i.val : Int)) = true := by decide +kernel
theorem small12 {i : Int} (h : 0 ≤ i ∧ i < 64) : PyData.showable (.int i) = true ∧ PyData.leavesShort 200 (.int i) = true := by
  have := int12 ⟨i.toNat, by omega⟩
  have e : ((i.toNat : Nat) : Int) = i := by omega
  rwa [show (((⟨i.toNat, by omega⟩ : Fin 64).val : Nat) : Int) = i from e] at this
theorem tame_small {i : Int} (h : 0 ≤ i ∧ i < 64) (k : Nat) : Tame k (.int i) := ⟨(small12 h).1, (small12 h).2, by simp only [PyData.depth]; omega, by simp only [PyData.bulk]; omega, by simp only [slimD]⟩
/-- a row of small ints, as data -/
theorem ints_nice {ns : List Int} (h : ∀ i ∈ ns, 0 ≤ i ∧ i < 64) : PyData.showableAll (ns.map PyData.int) = true ∧ PyData.leavesShortAll 200 (ns.map PyData.int) = true ∧ PyData.depthAll (ns.map PyData.int) = 0 ∧ PyData.bulkAll (ns.map PyData.int) ≤ ns.length := by
  induction ns with
  | nil => exact ⟨by simp only [List.map_nil, PyData.showableAll], by simp only [List.map_nil, PyData.leavesShortAll], by simp only [List.map_nil, PyData.depthAll], by simp only [List.map_nil, PyData.bulkAll]; exact Nat.zero_le _⟩
  | cons i ns ih =>
    obtain ⟨g1, g2, g3, g4⟩ := ih fun j hj => h j (List.mem_cons_of_mem _ hj)
    obtain ⟨s1, s2⟩ := small12 (h i (List.mem_cons_self ..))
    exact ⟨by simp only [List.map_cons, PyData.showableAll, s1, g1, Bool.and_self], by simp only [List.map_cons, PyData.leavesShortAll, s2, g2, Bool.and_self], by simp only [List.map_cons, PyData.depthAll, PyData.depth, g3]; omega,
      by simp only [List.map_cons, PyData.bulkAll, PyData.bulk, List.length_cons]; omega⟩
theorem tame_lot {n : Nat} {ns : List Int} (h : IsLot n ns) (hn : n ≤ 12) : Tame 0 (.tuple (ns.map PyData.int)) := by
  obtain ⟨g1, g2, g3, g4⟩ := ints_nice (ns := ns) fun i hi => by have := h.bel i hi; omega
  have := lot_len h
  have b0 : bb 0 = 20 := rfl
  exact ⟨by simp only [PyData.showable, g1], by simp only [PyData.leavesShort, g2], by simp only [PyData.depth, g3]; omega, by simp only [PyData.bulk]; omega, by simp only [slimD, slim_ints, Bool.and_true]; exact decide_eq_true (by rw [List.length_map]; omega)⟩
theorem dv_ints {H : Hp} (ns : List Int) : ∀ (i : Nat) (v : V) (d : PyData), (ns.map V.int)[i]? = some v → (ns.map PyData.int)[i]? = some d → DV H Any v d := fun i v d z1 z2 => by
  rw [List.getElem?_map] at z1 z2
  cases e : ns[i]? with
  | none => rw [e] at z1; cases z1
  | some k => rw [e] at z1 z2; cases z1; cases z2; exact .int k
theorem dv_lot {H : Hp} {a : Addr} {ns : List Int} (t : TT H a (ns.map V.int)) : DV H Any (.ref a) (.tuple (ns.map PyData.int)) := .tup trivial t (by rw [List.length_map, List.length_map]) (dv_ints ns)
theorem al_lot {H : Hp} {n : Nat} {ns : List Int} (h : IsLot n ns) (hn : n ≤ 12) : Al H (ns.map V.int) := fun x hx => by
  obtain ⟨i, hi, rfl⟩ := List.mem_map.mp hx
  have := h.bel i hi
  exact ⟨.int i, .int i, tame_small (by omega) 0⟩
/-- what a bent lot is -/
def Bnt (H : Hp) (v : V) : Prop := ∃ (e : PyData) (o : Option (List V)), DV H Any v e ∧ Tame 3 e ∧ Th H v o ∧ NT H v
theorem bnt_tup {H : Hp} {r : Addr} {xs : List V} (t : TupX H r xs) (a : Al H xs) (l : xs.length ≤ 40) : Bnt H (.ref r) := by
  obtain ⟨ds, g1, g2, g3⟩ := a.data
  refine ⟨.tuple ds, some xs, .tup trivial (.inr t) g1 g2, (tame_big g3 (by omega)).1, .tup (.inr t) (fun x hx => let ⟨d, h, _⟩ := a x hx; h.vt) (by omega), ?_⟩
  obtain ⟨us, e⟩ := t
  exact nt_frz e (by omega)
theorem cutV_le {xs : List V} {lo hi : Option Int} : (cutV xs lo hi).length ≤ xs.length := by
  unfold cutV
  rw [List.length_take, List.length_drop]
  omega
def spBent : Sp := fun vs H Q _ => ∃ (p c a : Addr) (n : Nat) (ns : List Int), vs = [.ref p, .int n, .ref a] ∧ 1 ≤ n ∧ n ≤ 12 ∧ Deck H p c ∧ TupX H a (ns.map V.int) ∧ IsLot n ns ∧ ∀ (v : V) (H' : Hp), Bnt H' v → Deck H' p c → Kp p c H H' → Q v H'
section
variable {P : Program} {w0 : World} {K : PySem.W.Frag} {mg : Str → Option Value} {base : Heap}
abbrev nBent : List Str := ["_law_deck_here", "_law_n", "_law_lot_here", "_law_way", "_law_at", "_law_odd"]
end
end K0

set_option Elab.async false
set_option linter.all false
set_option maxRecDepth 100000
set_option maxHeartbeats 8000000
/-! check_lot and cut_of, given lots. -/
namespace K0
open PySem PySem.Spec L2
open PyProof.Rows hiding St
def spCheckLot0 : Sp := fun vs H Q _ => ∃ (w a : Addr) (n : Nat) (L : List (Int × Int)) (ns : List Int), vs = [.ref w, .ref a] ∧ GW H w n L ∧ TT H a (ns.map V.int) ∧ IsLot n ns ∧ ∀ H', Same H H' → Q .non H'
def spCutOf0 : Sp := fun vs H Q _ => ∃ (w a : Addr) (n : Nat) (L : List (Int × Int)) (ns : List Int), vs = [.ref w, .ref a] ∧ GW H w n L ∧ TT H a (ns.map V.int) ∧ IsLot n ns ∧ gCut H a n L ns Q
section
variable {P : Program} {w0 : World} {K : PySem.W.Frag} {mg : Str → Option Value} {base : Heap}
theorem ok_checkLot0 {f fI : Addr} {fd fdI : FuncData} (F : Fun K "check_lot" "check_lot" pCheckLot f fd) (GI : Dn P w0 K mg base "is_lot_of" 3 ["web", "thing"] spIsLotOf fI fdI) : FnOk P w0 K mg base CX0 4 f fd ["web", "thing"] spCheckLot0 := by
  refine F.ok scCheckLot (fun vs H Q E h => ?_) (fun cdv A outer s H vs Q E hr h => ?_)
  · obtain ⟨w, a, n, L, ns, rfl, _⟩ := h
    rfl
  · obtain ⟨w, a, n, L, ns, rfl, G, tt, il, k⟩ := h
    refine ⟨_, pss_one (ps_if (pt_not (pt_val (pe_call GI.ok hr rfl GI.g GI.kp GI.b .nil pass0 (pa_cons (pv 0) (pa_cons (pv 1) pa_nil))))) (pss_one ps_never) pss_nil), ?_⟩
    have ln := lot_len il
    have n2 := G.n2
    refine ⟨_, rfl, _, rfl, w, n, L, .ref a, some (ns.map V.int), rfl, G, .tup tt (fun x hx => by obtain ⟨i, _, rfl⟩ := List.mem_map.mp hx; exact ⟨_, .int i⟩) (by rw [List.length_map]; omega), fun H' s1 => ⟨_, rfl, ?_⟩⟩
    have e : lotO n (some (ns.map V.int)) = true := of_lot il
    rw [e]
    exact iteF (k H' s1)
end
end K0

set_option Elab.async false
set_option linter.all false
set_option maxRecDepth 100000
set_option maxHeartbeats 8000000
/-! The program: masks of lots, odd parts, parts, webs within lots. -/
namespace K0
open PySem PySem.Spec L2
open PyProof.Rows hiding St
abbrev pMaskOf : Stmt := top 5
abbrev pPartsOf : Stmt := top 27
abbrev pIsJoined : Stmt := top 28
/-- tuples of places -/
inductive TupsAt (H : Hp) : List V → List (List Nat) → Prop
  | nil : TupsAt H [] []
  | cons {t : Addr} {r : List Nat} {vs : List V} {ys : List (List Nat)} (h : TT H t (r.map natV)) (q : TupsAt H vs ys) : TupsAt H (.ref t :: vs) (r :: ys)
theorem TupsAt.mono {H H' : Hp} {vs : List V} {ys : List (List Nat)} (p : TupsAt H vs ys) (s : ∀ a x, TT H a x → TT H' a x) : TupsAt H' vs ys := by
  induction p with
  | nil => exact .nil
  | cons h _ ih => exact .cons (s _ _ h) ih
theorem TupsAt.same {H H' : Hp} {vs : List V} {ys : List (List Nat)} (p : TupsAt H vs ys) (s : Same H H') : TupsAt H' vs ys := p.mono fun _ _ t => t.keep fun o q => s _ _ q
theorem TupsAt.app {H : Hp} {vs ws : List V} {ys zs : List (List Nat)} (p : TupsAt H vs ys) (q : TupsAt H ws zs) : TupsAt H (vs ++ ws) (ys ++ zs) := by
  induction p with
  | nil => exact q
  | cons h _ ih => exact .cons h ih
theorem TupsAt.len {H : Hp} {vs : List V} {ys : List (List Nat)} (p : TupsAt H vs ys) : vs.length = ys.length := by
  induction p with
  | nil => rfl
  | cons _ _ ih => rw [List.length_cons, List.length_cons, ih]
theorem TupsAt.get {H : Hp} {vs : List V} {ys : List (List Nat)} (p : TupsAt H vs ys) : ∀ {i : Nat} {v : V}, vs[i]? = some v → ∃ t r, v = .ref t ∧ ys[i]? = some r ∧ TT H t (r.map natV) := by
  induction p with
  | nil => intro i v z; cases z
  | @cons t r vs ys h _ ih =>
    intro i v z
    cases i with
    | zero => cases z; exact ⟨t, r, rfl, rfl, h⟩
    | succ i => exact ih (by simpa using z)
theorem LotsAt.tups {H : Hp} {vs : List V} {ps : List (Nat × Nat)} (p : LotsAt H vs ps) : TupsAt H vs (ps.map fun q => lotN q.2) := by
  induction p with
  | nil => exact .nil
  | cons h _ ih => exact .cons (.inl h) ih
/-- all parts of the places m, in order -/
structure IsParts (L : List (Int × Int)) (m : Nat) (ys : List (List Nat)) : Prop where
  cls : Cls L m ys
  asc : ys.Pairwise fun a b => hd a < hd b
theorem IsParts.uniq {L : List (Int × Int)} {m : Nat} {ys zs : List (List Nat)} (a : IsParts L m ys) (b : IsParts L m zs) : ys = zs := a.cls.eq b.cls a.asc b.asc
theorem Parts.is {L : List (Int × Int)} {m : Nat} {ps : List (Nat × Nat)} (P : Parts L m ps) (hm : m < 2 ^ 12) : IsParts L m (ps.map fun q => lotN q.2) := ⟨(P.cls hm).1, (P.cls hm).2⟩
/-- ks as a lot -/
theorem nat_lot {n : Nat} {ks : List Nat} (h : ∀ i ∈ ks, i < n) (p : ks.Pairwise (· < ·)) : IsLot n (ks.map fun i => ((i : Nat) : Int)) := by
  refine ⟨fun i hi => ?_, ?_⟩
  · obtain ⟨j, hj, rfl⟩ := List.mem_map.mp hi
    have := h j hj
    omega
  · rw [List.pairwise_map]
    exact p.imp fun {a b} z => by omega
theorem lot_nat {n : Nat} {ns : List Int} (h : IsLot n ns) : ∃ ks : List Nat, ns = ks.map (fun i => ((i : Nat) : Int)) ∧ (∀ i ∈ ks, i < n) ∧ ks.Pairwise (· < ·) := by
  have e : ns = (ns.map Int.toNat).map (fun i => ((i : Nat) : Int)) := by
    rw [List.map_map]
    have : ∀ i ∈ ns, ((fun i => ((i : Nat) : Int)) ∘ Int.toNat) i = id i := fun i hi => by
      have := h.bel i hi
      show ((i.toNat : Nat) : Int) = i
      omega
    rw [List.map_congr_left this, List.map_id]
  refine ⟨ns.map Int.toNat, e, fun i hi => ?_, ?_⟩
  · obtain ⟨j, hj, rfl⟩ := List.mem_map.mp hi
    have := h.bel j hj
    omega
  · rw [List.pairwise_map]
    refine List.Pairwise.imp_of_mem (fun {a b} ha hb z => ?_) h.inc
    have := h.bel a ha
    have := h.bel b hb
    omega
def spMaskOf : Sp := fun vs H Q _ => ∃ (a : Addr) (ks : List Nat), vs = [.ref a] ∧ TT H a (ks.map natV) ∧ (∀ i ∈ ks, i < 12) ∧ ks.length ≤ 60 ∧ ∀ H', Same H H' → Q (.int ((maskN ks : Nat) : Int)) H'
def spOddParts : Sp := fun vs H Q _ => ∃ (l : Addr) (m n : Nat) (ms : List Nat) (L : List (Int × Int)), vs = [.ref l, .int (m : Int)] ∧ H l = some (.lst (ms.map natV)) ∧ Near L n ms ∧ n ≤ 12 ∧ Bel n L ∧ m < 2 ^ n ∧
  ∀ (ys : List (List Nat)) (H' : Hp), Same H H' → IsParts L m ys → Q (.int (((ys.map fun c => c.length % 2).sum : Nat) : Int)) H'
def spPartsOf : Sp := fun vs H Q _ => ∃ (w : Addr) (n : Nat) (L : List (Int × Int)), vs = [.ref w] ∧ GW H w n L ∧ ∀ (t : Addr) (us : List V) (ys : List (List Nat)) (H' : Hp), Same H H' → H t = none → H' t = some (.tup us) → TupsAt H' us ys → IsParts L (2 ^ n - 1) ys → Q (.ref t) H'
def spIsJoined : Sp := fun vs H Q _ => ∃ (w : Addr) (n : Nat) (L : List (Int × Int)), vs = [.ref w] ∧ GW H w n L ∧ ∀ (ys : List (List Nat)) (H' : Hp), Same H H' → IsParts L (2 ^ n - 1) ys → Q (.bl (decide (ys.length = 1))) H'
/-- the places that a lot leaves -/
def restM (n : Nat) (ks : List Nat) : Nat := (2 ^ n - 1) ^^^ maskN ks
theorem restM_bit {n : Nat} {ks : List Nat} (h : ∀ i ∈ ks, i < n) (nd : ks.Nodup) (i : Nat) : (restM n ks).testBit i = true ↔ i < n ∧ i ∉ ks := by
  unfold restM
  rw [Nat.testBit_xor, full_bit]
  have e := mask_bit nd i
  by_cases hk : i ∈ ks
  · rw [e.mpr hk, decide_eq_true (h i hk)]
    simp [hk]
  · have : (maskN ks).testBit i = false := by
      cases q : (maskN ks).testBit i with
      | false => rfl
      | true => exact absurd (e.mp q) hk
    rw [this, Bool.xor_false, decide_eq_true_eq]
    exact ⟨fun z => ⟨z, hk⟩, fun z => z.1⟩
def spOddRests : Sp := fun vs H Q _ => ∃ (w a : Addr) (n : Nat) (L : List (Int × Int)) (ks : List Nat), vs = [.ref w, .ref a] ∧ GW H w n L ∧ TT H a (ks.map natV) ∧ (∀ i ∈ ks, i < n) ∧ ks.Pairwise (· < ·) ∧
  ∀ (ys : List (List Nat)) (H' : Hp), Same H H' → IsParts L (restM n ks) ys → Q (.int (((ys.map fun c => c.length % 2).sum : Nat) : Int)) H'
def spWithin0 : Sp := fun vs H Q _ => ∃ (w a : Addr) (n : Nat) (L : List (Int × Int)) (ns : List Int), vs = [.ref w, .ref a] ∧ GW H w n L ∧ TT H a (ns.map V.int) ∧ IsLot n ns ∧ ns ≠ [] ∧ gIn H L ns Q
def spWithout0 : Sp := fun vs H Q _ => ∃ (w a : Addr) (n : Nat) (L : List (Int × Int)) (ns : List Int), vs = [.ref w, .ref a] ∧ GW H w n L ∧ TT H a (ns.map V.int) ∧ IsLot n ns ∧ restN n ns ≠ [] ∧ gIn H L (restN n ns) Q
section
variable {P : Program} {w0 : World} {K : PySem.W.Frag} {mg : Str → Option Value} {base : Heap}
abbrev nMaskOf : List Str := ["lot", "place"]
theorem scMaskOf : FnScope nMaskOf ["lot"] (defScope pMaskOf) := ⟨rfl, rfl, rfl, by decide +kernel, rfl, by decide +kernel, by decide +kernel⟩
theorem ok_maskOf {f : Addr} {fd : FuncData} (F : Fun K "mask_of" "mask_of" pMaskOf f fd) (hs : mg "sum" = none) : FnOk P w0 K mg base CX0 1 f fd ["lot"] spMaskOf := by
  refine F.ok scMaskOf (fun vs H Q E h => ?_) (fun cdv A outer s H vs Q E hr h => ?_)
  · obtain ⟨a, ks, rfl, _⟩ := h
    rfl
  · obtain ⟨a, ks, rfl, tt, lt, few, k⟩ := h
    refine ⟨_, pss_one (ps_ret (pe_callB (cr_sum rfl) (by rfl) hs (by decide +kernel) (pa_cons (pe_lc (own := [("place", 1)]) (g := gName 1) (tt := tYes) rfl scMaskOf.nd (pi_tup (pv 0)) (blkOk_by (N := nMaskOf) (sc := defScope pMaskOf) (by decide +kernel))
            (fun _ _ _ _ _ => pg_name (i := 1) scMaskOf.nd rfl (Or.inl rfl)) (fun _ _ _ _ _ => pts_nil) (fun _ _ _ _ _ => pe_op op_oneN pe_int (pv 1))) pa_nil))), ?_⟩
    refine ⟨_, rfl, a, rfl, ⟨_, tt.sq⟩, fun Da hD => ?_⟩
    refine lc_it (walk_tup (xs := ks.map natV)) (fun i M => M Da = some (.lst (((ks.take i).map fun j => ((2 ^ j : Nat) : Int)).map V.int)) ∧ Same H M) ⟨upd_same, same_new hD⟩ (fun i M _ g => (tt.keep fun o q => g.2 _ _ q).sq) ?_ ?_
    · rintro i x M M' hi ⟨g1, g2⟩ ⟨rfl, hx⟩
      rw [List.getElem?_map] at hx
      obtain ⟨j, hj, rfl⟩ := Option.map_eq_some_iff.mp hx
      have := lt j (List.mem_of_getElem? hj)
      refine ⟨rfl, ?_⟩
      unfold tYes
      refine iteT ⟨_, rfl, j, rfl, rfl, by omega, _, g1, by rw [List.length_map, List.length_map, List.length_take, sizeLine_eq]; omega, by rw [upd_same, List.take_add_one, hj] <;> simp, fun b o e => by rw [upd_ne (ne_of_none e hD)]; exact g2 _ _ e⟩
    · rintro M ⟨g1, g2⟩
      rw [List.length_map, List.take_length] at g1
      refine ⟨Da, _, rfl, SqL.of g1, ?_⟩
      have e : (ks.map fun j => ((2 ^ j : Nat) : Int)).sum = ((maskN ks : Nat) : Int) := by
        clear g1 lt few tt k
        induction ks with
        | nil => rfl
        | cons j ks ih =>
          rw [List.map_cons, List.sum_cons, ih]
          show _ = ((2 ^ j + maskN ks : Nat) : Int)
          omega
      rw [e]
      exact k M g2
abbrev nOddParts : List Str := ["near", "mask", "part"]
theorem scPartsOf : FnScope ["web"] ["web"] (defScope pPartsOf) := ⟨rfl, rfl, rfl, by decide +kernel, rfl, by decide +kernel, by decide +kernel⟩
theorem ok_partsOf {f fC fP : Addr} {fd fdC fdP : FuncData} (F : Fun K "parts_of" "parts_of" pPartsOf f fd) (GC : Dn P w0 K mg base "check_web" 5 ["thing"] spCheckWeb fC fdC) (GP : Dn P w0 K mg base "part_lots" 4 ["web"] spPartLots fP fdP) :
    FnOk P w0 K mg base CX0 6 f fd ["web"] spPartsOf := by
  refine F.ok scPartsOf (fun vs H Q E h => ?_) (fun cdv A outer s H vs Q E hr h => ?_)
  · obtain ⟨w, n, L, rfl, _⟩ := h
    rfl
  · obtain ⟨w, n, L, rfl, G, k⟩ := h
    refine ⟨_, pss_cons (ps_expr (pe_call GC.ok hr rfl GC.g GC.kp GC.b .nil pass0 (pa_cons (pv 0) pa_nil))) <| pss_one (ps_ret (pe_call GP.ok (hr.mono (by decide)) rfl GP.g GP.kp GP.b .nil pass0 (pa_cons (pv 0) pa_nil))), ?_⟩
    have p12 : 2 ^ n ≤ 2 ^ 12 := Nat.pow_le_pow_right (n := 2) (by decide) G.n2
    have pos : 0 < 2 ^ n := Nat.two_pow_pos n
    exact ⟨_, rfl, w, n, L, rfl, G, fun H1 s1 => ⟨_, rfl, w, n, L, rfl, G.same s1, fun t us ps H2 s2 ht e la pt => k t us _ H2 (s1.trans s2) (s1.free ht) e la.tups (pt.is (by omega))⟩⟩
theorem scIsJoined : FnScope ["web"] ["web"] (defScope pIsJoined) := ⟨rfl, rfl, rfl, by decide +kernel, rfl, by decide +kernel, by decide +kernel⟩
theorem ok_isJoined {f fC fP : Addr} {fd fdC fdP : FuncData} (F : Fun K "is_joined" "is_joined" pIsJoined f fd) (T : Bj mg) (GC : Dn P w0 K mg base "check_web" 5 ["thing"] spCheckWeb fC fdC) (GP : Dn P w0 K mg base "part_lots" 4 ["web"] spPartLots fP fdP) :
    FnOk P w0 K mg base CX0 6 f fd ["web"] spIsJoined := by
  refine F.ok scIsJoined (fun vs H Q E h => ?_) (fun cdv A outer s H vs Q E hr h => ?_)
  · obtain ⟨w, n, L, rfl, _⟩ := h
    rfl
  · obtain ⟨w, n, L, rfl, G, k⟩ := h
    refine ⟨_, pss_cons (ps_expr (pe_call GC.ok hr rfl GC.g GC.kp GC.b .nil pass0 (pa_cons (pv 0) pa_nil))) <| pss_one (ps_ret (pe_cmpR op_eq (pe_callB call_len_seq (by rfl) T.len PySem.boot_len (pa_cons (pe_call GP.ok (hr.mono (by decide)) rfl GP.g GP.kp GP.b .nil pass0 (pa_cons (pv 0) pa_nil)) pa_nil)) pe_int (nomark _))), ?_⟩
    have p12 : 2 ^ n ≤ 2 ^ 12 := Nat.pow_le_pow_right (n := 2) (by decide) G.n2
    have pos : 0 < 2 ^ n := Nat.two_pow_pos n
    refine ⟨_, rfl, w, n, L, rfl, G, fun H1 s1 => ⟨_, rfl, w, n, L, rfl, G.same s1, fun t us ps H2 s2 ht e la pt => ⟨t, us, rfl, .inr (SqT.of e), ?_⟩⟩⟩
    have := k _ H2 (s1.trans s2) (pt.is (by omega))
    rw [← la.tups.len] at this
    have e1 : decide (V.int ((us.length : Nat) : Int) = V.int 1) = decide (us.length = 1) := by
      by_cases z : us.length = 1
      · rw [z] <;> rfl
      · rw [decide_eq_false z, decide_eq_false]
        intro y
        injection y with y
        omega
    refine ⟨rfl, ?_⟩
    rw [e1]
    exact this
theorem lot_nodup {ks : List Nat} (p : ks.Pairwise (· < ·)) : ks.Nodup := inc_nodup p
theorem nats_ints (ks : List Nat) : (ks.map fun i => ((i : Nat) : Int)).map V.int = ks.map natV := (natV_ints ks).symm
theorem ok_without0 {f fC fL fW fB : Addr} {fd fdC fdL fdW fdB : FuncData} (F : Fun K "without" "without" pWithout f fd) (T : Bk mg) (GC : Dn P w0 K mg base "check_web" 5 ["thing"] spCheckWeb fC fdC) (GL : Dn P w0 K mg base "check_lot" 4 ["web", "thing"] spCheckLot0 fL fdL)
    (GW' : Dn P w0 K mg base "web_of" 1 ["web", "lot"] spWebOf fW fdW) (GB : Dn P w0 K mg base "places_but" 1 ["web", "lot"] spPlacesBut fB fdB) : FnOk P w0 K mg base CX0 6 f fd ["web", "lot"] spWithout0 := by
  refine F.ok scWithout (fun vs H Q E h => ?_) (fun cdv A outer s H vs Q E hr h => ?_)
  · obtain ⟨w, a, n, L, ns, rfl, _⟩ := h
    rfl
  · obtain ⟨w, a, n, L, ns, rfl, G, tt, il, ne, k⟩ := h
    refine ⟨_, pss_cons (ps_expr (pe_call GC.ok hr rfl GC.g GC.kp GC.b .nil pass0 (pa_cons (pv 0) pa_nil)))
      <| pss_cons (ps_expr (pe_call GL.ok (hr.mono (by decide)) rfl GL.g GL.kp GL.b .nil pass0 (pa_cons (pv 0) (pa_cons (pv 1) pa_nil))))
      <| pss_cons (ps_if (pt_cmpR op_eq (pe_callB call_len_seq (by rfl) T.len PySem.boot_len (pa_cons (pv 1) pa_nil)) (pe_ix ix_tup (pv 0) pe_int (fun _ _ => rfl)) (nomark _)) (pss_one ps_never) pss_nil)
      <| pss_one (ps_ret (pe_call GW'.ok (hr.mono (by decide)) rfl GW'.g GW'.kp GW'.b .nil pass0 (pa_cons (pv 0) (pa_cons (pe_call GB.ok (hr.mono (by decide)) rfl GB.g GB.kp GB.b .nil pass0 (pa_cons (pv 0) (pa_cons (pv 1) pa_nil))) pa_nil)))), ?_⟩
    refine ⟨_, rfl, w, n, L, rfl, G, fun H1 s1 => ⟨_, rfl, _, rfl, w, a, n, L, ns, rfl, G.same s1, tt.keep fun o q => s1 _ _ q, il, fun H2 s2 => ?_⟩⟩
    have s12 := s1.trans s2
    have t2 := tt.keep fun o q => s12 _ _ q
    have G2 := G.same s12
    obtain ⟨ta, vs, e1, e2, e3⟩ := G2.web.ex
    have le := rest_len_eq il
    refine ⟨_, rfl, a, _, rfl, .inr t2.sq, _, rfl, w, _, _, _, rfl, rfl, SqT.of e1, atI_nat (j := 0) rfl, rfl, _, rfl, ?_⟩
    by_cases h : ns.length = n
    · have : restN n ns = [] := List.length_eq_zero_iff.mp (by omega)
      exact absurd this ne
    · rw [decide_eq_false (by rw [List.length_map]; intro z; cases z; exact h rfl)]
      refine iteF ⟨_, rfl, _, rfl, _, rfl, w, a, n, L, ns, rfl, G2, t2, fun t H3 s3 ht e => ?_⟩
      have s13 := s12.trans s3
      exact ⟨w, t, n, L, restN n ns, rfl, G.same s13, .inl e, rest_lot n ns, fun w' H4 s4 hw W => k w' H4 (s13.trans s4) (s13.free hw) W⟩
end
end K0

set_option Elab.async false
set_option linter.all false
set_option maxRecDepth 100000
set_option maxHeartbeats 4000000
/-! Rules: how many unlike ints, a tuple of ints sorted. -/
namespace KR
open PySem PySem.Spec L2
open PyProof.Rows hiding St
/-- rows with the same members -/
theorem nd_perm : ∀ {ks ns : List Int}, ks.Nodup → (∀ k ∈ ks, k ∈ ns) → ns.length ≤ ks.length → ks.Perm ns
  | [], ns, _, _, h => by
    have : ns = [] := List.length_eq_zero_iff.mp (Nat.le_zero.mp h)
    rw [this]
  | q :: M, ns, nd, s, h => by
    obtain ⟨n1, n2⟩ := List.nodup_cons.mp nd
    have hq := s q (List.mem_cons_self ..)
    have pe := List.perm_cons_erase hq
    have pos := List.length_pos_of_mem hq
    refine (List.Perm.cons q (nd_perm n2 (fun r hr => ?_) ?_)).trans pe.symm
    · exact (List.mem_erase_of_ne (fun e : r = q => n1 (e ▸ hr))).mpr (s r (List.mem_cons_of_mem _ hr))
    · rw [List.length_erase_of_mem hq]
      rw [List.length_cons] at h
      omega
theorem nd_le : ∀ {ks ns : List Int}, ks.Nodup → (∀ k ∈ ks, k ∈ ns) → ks.length ≤ ns.length
  | [], _, _, _ => Nat.zero_le _
  | q :: M, ns, nd, s => by
    obtain ⟨n1, n2⟩ := List.nodup_cons.mp nd
    have hq := s q (List.mem_cons_self ..)
    have pos := List.length_pos_of_mem hq
    have := nd_le (ks := M) (ns := ns.erase q) n2 fun r hr => (List.mem_erase_of_ne (fun e : r = q => n1 (e ▸ hr))).mpr (s r (List.mem_cons_of_mem _ hr))
    rw [List.length_erase_of_mem hq] at this
    rw [List.length_cons]
    omega
/-- how many there are tells whether there are equal ones -/
theorem nd_count {ks ns : List Int} (nd : ks.Nodup) (h : ∀ k, k ∈ ks ↔ k ∈ ns) : ks.length ≤ ns.length ∧ (ks.length = ns.length ↔ ns.Nodup) := by
  refine ⟨nd_le nd fun k z => (h k).mp z, fun e => ?_, fun z => ?_⟩
  · exact (nd_perm nd (fun k z => (h k).mp z) (by omega)).nodup_iff.mp nd
  · have a := nd_le nd fun k z => (h k).mp z
    have b := nd_le z fun k z => (h k).mpr z
    omega
theorem met_nd (val : Nat → Int) : ∀ i, (firstMet val i).Nodup ∧ ∀ k, k ∈ firstMet val i ↔ k ∈ (List.range i).map val
  | 0 => ⟨by rw [firstMet_zero]; exact .nil, fun k => by rw [firstMet_zero] <;> simp⟩
  | i + 1 => by
    obtain ⟨a, b⟩ := met_nd val i
    rw [firstMet_succ, List.range_succ, List.map_append]
    unfold step_dedup
    by_cases c : (firstMet val i).any (· == val i) = true
    · rw [if_pos c]
      have m : val i ∈ firstMet val i := by
        obtain ⟨x, hx, e⟩ := List.any_eq_true.mp c
        rw [beq_iff_eq] at e
        exact e ▸ hx
      refine ⟨a, fun k => ?_⟩
      rw [b k, List.mem_append]
      exact ⟨.inl, fun z => z.elim id fun z => by rw [List.mem_map] at z; obtain ⟨j, hj, e⟩ := z; rw [List.mem_singleton] at hj; subst hj; rw [← e]; exact (b _).mp m⟩
    · rw [if_neg c]
      refine ⟨List.nodup_append.mpr ⟨a, by simp, fun x hx y hy e => ?_⟩, fun k => ?_⟩
      · rw [List.mem_singleton.mp hy] at e
        subst e
        exact c (List.any_eq_true.mpr ⟨_, hx, beq_self_eq_true _⟩)
      · rw [List.mem_append, List.mem_append, b k]
        simp
section
variable {prog : Program} {w : World} {A : Around} {E : Value → Shared → Prop} {s : Shared} {l : Addr} {its : List Value} {ns : List Int} {Q : Value → Shared → Prop}
/-- sum(t), t a tuple of ints -/
theorem sum_rawT (hh : A.handled = none) (hl : s.heap.IsTuple l its.toArray) (hi : IntsAre its ns)
    (h : ∀ h' tk t', (∀ b o, s.heap.get? b = some o → h'.get? b = some o) → Q (.int ns.sum t') { s with heap := h', toks := tk }) : wpAny (model prog w) A (call (.builtin "sum") [.ref l]) Q E s := by
  obtain ⟨xs, e⟩ := hi.allInts.items
  have hn : numsOf (intItems xs).toList = ns := by rw [← e]; exact hi.numsOf
  rw [nums_intItems] at hn
  rw [e] at hl
  have hlt : l < s.heap.objs.size := by obtain ⟨_, e, _⟩ := hl; exact Heap.lt_size e
  refine call_sum_walkG (wpAny_pyIter_tuple hl ?_)
  refine ⟨_, [_, l], [_], _, _, _, numAt xs, rfl, Walks.tuple (A := A.in1) hh _ l (Nat.ne_of_lt hlt) (intItems xs), ⟨⟨_, Heap.get?_push_size _ rfl, rfl, rfl⟩, hl.push _⟩, fun c hc => ?_, (fun _ _ => intItems_at), fun h' tk t' hk => ?_⟩
  · show c < (s.heap.push _).objs.size
    rw [Heap.size_push]
    rcases List.mem_cons.mp hc with rfl | hc
    · exact Nat.lt_succ_self _
    · rcases List.mem_cons.mp hc with rfl | hc
      · exact Nat.lt_succ_of_lt hlt
      · cases hc
  · have hold : ∀ c o, s.heap.get? c = some o → h'.get? c = some o := fun c o e => by
      refine hk c o (fun hm => ?_) (Heap.get?_push_of_some _ e)
      rcases List.mem_cons.mp hm with e1 | hm
      · have := Heap.lt_size e
        rw [e1] at this
        exact Nat.lt_irrefl _ this
      · cases hm
    have := h h' tk t' hold
    have sz : (intItems xs).size = xs.size := by simp [intItems]
    rw [sz, preSum_eq, List.take_of_length_le (by simp), hn]
    exact this
end
section
variable {X : Cx}
def rSumT (K : PySem.W.Frag) : List V → Hp → VK → Prop := fun vs H Q => ∃ (a : Addr) (ns : List Int), vs = [V.ref a] ∧ SqT K H a (ns.map V.int) ∧ Q (.int ns.sum) H
theorem cr_sumT (hc : X.calm = true) : CallR X (.builtin "sum") (rSumT X.K) := by
  intro pins s σ H vs us Q I r h
  obtain ⟨a, ns, rfl, hs, q⟩ := h
  obtain ⟨its, rv, hl, _⟩ := I.tuple hs
  rw [Vals.ref1 r]
  exact sum_rawT (I.ok.hd hc) hl rv.ints fun h' tk t' hk => ⟨.int _, H, I.kept hk, ⟨_, rfl⟩, q⟩
/-- len of a set of ints -/
def rLenO (w : World) : List V → Hp → VK → Prop := fun xs H Q => ∃ (a : Addr) (S : Int → Bool) (n : Nat), xs = [V.ref a] ∧ H a = some (SetO w a S n) ∧ ∀ ks : List Int, ks.Nodup → (∀ k, S k = true ↔ k ∈ ks) → ks.length = n → Q (.int (n : Nat)) H
theorem call_len_setO : CallR X (.builtin "len") (rLenO X.w) := by
  intro pins s σ H xs us Q I r h
  obtain ⟨a, S, n, rfl, ha, q⟩ := h
  obtain ⟨o, es, ep, t, ho, hex, hd, g, nd, hm, hb, hf, hn, _⟩ := setO_get I ha
  rw [Vals.ref1 r]
  refine call_len_set ho hex hd hf (by unfold scanBound at hb; omega) ⟨.int es.size, H, I.tok _, ⟨_, rfl⟩, ?_⟩
  rw [hn]
  refine q (es.toList.map keyOf) nd hm ?_
  rw [List.length_map, Array.length_toList, hn]
/-- len(set(xs)), xs a list of ints -/
def tLenSetN (K : PySem.W.Frag) (ta : TE) : TE := fun σ H Q => ta σ H fun x H1 => ∃ (l : Addr) (ns : List Int), x = .ref l ∧ SqL K H1 l (ns.map V.int) ∧ ns.length ≤ 4000 ∧ ∀ c : Nat, c ≤ ns.length → (c = ns.length ↔ ns.Nodup) → Q (.int (c : Nat)) H1
theorem pe_lenSetN {a : Expr} {ta : TE} {p p2 q pos : Pos} (hg : Gl X "len") (hm : X.mg "len" = none) (hg2 : Gl X "set") (hm2 : X.mg "set" = none) (ha : PE X a ta) (hc : X.calm = true := by rfl)
    (na : starEach [a] X.env = (false, eval a X.env) :: starEach [] X.env := by rfl) : PE X (.Call (.Name "len" p) [.Call (.Name "set" p2) [a] [] q] [] pos) (tLenSetN X.K ta) := by
  refine ⟨fun pins s σ H Q I h => ?_⟩
  refine Call_ (ld_blt I hg hm boot_len ?_)
  refine PyProof.Rows.callWith_builtin1 (PyProof.Rows.args_cons ?_ rfl) rfl rfl
  refine Call_ (ld_blt I hg2 hm2 boot_set ?_)
  refine PyProof.Rows.callWith_type1 (PyProof.Rows.args_cons (thn (ha.run pins s σ H _ I h) fun v s1 ⟨x, H1, I1, r1, q1⟩ => PyProof.Rows.args_nil ?_) na) na rfl
  obtain ⟨l, ns, rfl, hq, hl, q1⟩ := q1
  cases r1
  obtain ⟨its, r, pl, hz⟩ := I1.list hq
  have hlen : its.toArray.size = ns.length := by rw [List.size_toArray, ← r.length, List.length_map]
  refine call_set_list (I1.ok.hd hc) pl.isList (by simpa using r.ints) (by rw [hlen]; unfold scanBound; omega) fun h' tk hS hk => ?_
  refine PyProof.Rows.args_nil ?_
  rw [hlen] at hS
  obtain ⟨o, es, ep, t, ho, hex, hd, _, _, _, hf, hn⟩ := hS
  have I2 : Inv X pins σ H1 { s1 with heap := h', toks := tk } := I1.kept fun b o e => hk b o (Heap.lt_size e) e
  obtain ⟨m1, m2⟩ := met_nd (fun i => ns.getD i 0) ns.length
  have e0 : (List.range ns.length).map (fun i => ns.getD i 0) = ns := by
    refine List.ext_getElem (by simp) fun i h1 h2 => ?_
    simp [List.getD_eq_getElem?_getD, h2]
  rw [e0] at m2
  obtain ⟨c1, c2⟩ := nd_count m1 m2
  refine call_len_set ho hex hd hf (by rw [hn]; omega) ⟨.int es.size, H1, I2.tok _, ⟨_, rfl⟩, ?_⟩
  rw [hn]
  exact q1 _ c1 c2
/-- sorted(t), t a tuple of ints -/
def rSortTI (K : PySem.W.Frag) : List V → Hp → VK → Prop := fun vs H Q => ∃ (a : Addr) (ns : List Int), vs = [V.ref a] ∧ SqT K H a (ns.map V.int) ∧ ∀ (ms : List Int) (p : Addr), ms.Perm ns → ms.Pairwise (· ≤ ·) → H p = none → Q (.ref p) (upd H p (.lst (ms.map V.int)))
theorem cr_sortTI : CallR X (.builtin "sorted") (rSortTI X.K) := by
  intro pins s σ H vs us Q I r h
  obtain ⟨a, ns, rfl, hs, q⟩ := h
  obtain ⟨its, rv, tp, hz⟩ := I.tuple hs
  rw [Vals.ref1 r]
  have hi := rv.ints
  have len : its.length = ns.length := by rw [← rv.length, List.length_map]
  rw [List.length_map] at hz
  obtain ⟨o, ho, hcl, n, hda⟩ := id tp
  refine Calls.call_function_entry kind_sorted plain_sorted entry_sorted (args_sorted1 _) ?_
  unfold Builtin.«sorted»
  refine wpAny_bind (m := checkCount "sorted" 1 1 _) (wpAny_pure ?_)
  refine wpAny_bind (gather_tup ho hcl hda (by show its.toArray.size ≤ sizeLine; rw [List.size_toArray, len]; exact hz) fun h1 k1 ge => ?_)
  refine wpAny_bind (wpAny_newList ?_ (by show its.length ≤ _; rw [len]; exact hz))
  have atL : (h1.push (seqObj "list" its.toArray 0)).get? h1.objs.size = some (seqObj "list" its.toArray 0) := Heap.get?_push_size _ rfl
  have keep : ∀ b u, s.heap.get? b = some u → (h1.push (seqObj "list" its.toArray 0)).get? b = some u := fun b u e => Heap.get?_push_of_some _ (k1 b u e)
  have atL' : (h1.push (seqObj "list" (its.toArray.toList.toArray) 0)).get? h1.objs.size = some (seqObj "list" its.toArray 0) := by simpa using atL
  have red : its.toArray.toList = its := by simp
  rw [red]
  refine wpAny_bind (wpAny_holding (wpAny_call_entry (s := { s with heap := h1.push (seqObj "list" its.toArray 0) }) PyProof.Rows.slot_list_sort ⟨_, atL, rfl⟩ PyProof.Rows.entry_list_sort
    (SrtO.list_sort_ord SrtO.swo_int atL (by rw [len]; exact hz) (fun h2 => SrtO.ints_sortable hi h2) fun out g1 g2 => ⟨.none, rfl, ?_⟩) (PyProof.Rows.args_list_sort _)))
  obtain ⟨j1, j2, j3⟩ := SrtO.ints_out hi g1 g2
  obtain ⟨c, hc⟩ := sortedHeap_at (vs := its) (out := out.toArray) atL
  have szs : ((out.map SrtO.iv).map V.int).length ≤ sizeLine := by rw [List.length_map, j2.length_eq]; exact hz
  have old : ∀ b u, s.heap.get? b = some u → (sortedHeap (h1.push (seqObj "list" its.toArray 0)) h1.objs.size its out.toArray).get? b = some u := fun b u e => by
    have lt := Heap.lt_size (k1 b u e)
    rw [sortedHeap_old (Nat.ne_of_lt lt) (by rw [size_push']; exact Nat.lt_succ_of_lt lt)]
    exact keep b u e
  exact wpAny_pure ⟨_, rfl, .ref h1.objs.size, upd H h1.objs.size (.lst ((out.map SrtO.iv).map V.int)), I.laid (t' := s.toks) old ge ⟨szs, out, c, vals_of_ints j1, hc⟩, rfl, q _ _ j2 j3 (I.hok.fresh ge)⟩
end
end KR

set_option Elab.async false
set_option linter.all false
set_option maxRecDepth 100000
set_option maxHeartbeats 8000000
/-! The law's own parts. -/
namespace K0
open PySem PySem.Spec L2
open PyProof.Rows hiding St
/-- tuples of places, each known -/
inductive TupsK (H : Hp) : List V → List (List Nat) → Prop
  | nil : TupsK H [] []
  | cons {t : Addr} {r : List Nat} {vs : List V} {ys : List (List Nat)} (h : H t = some (.tup (r.map natV))) (q : TupsK H vs ys) : TupsK H (.ref t :: vs) (r :: ys)
theorem TupsK.mono {H H' : Hp} {vs : List V} {ys : List (List Nat)} (p : TupsK H vs ys) (s : ∀ a x, H a = some (.tup x) → H' a = some (.tup x)) : TupsK H' vs ys := by
  induction p with
  | nil => exact .nil
  | cons h _ ih => exact .cons (s _ _ h) ih
theorem TupsK.same {H H' : Hp} {vs : List V} {ys : List (List Nat)} (p : TupsK H vs ys) (s : Same H H') : TupsK H' vs ys := p.mono fun _ _ t => s _ _ t
theorem TupsK.app {H : Hp} {vs ws : List V} {ys zs : List (List Nat)} (p : TupsK H vs ys) (q : TupsK H ws zs) : TupsK H (vs ++ ws) (ys ++ zs) := by
  induction p with
  | nil => exact q
  | cons h _ ih => exact .cons h ih
theorem TupsK.len {H : Hp} {vs : List V} {ys : List (List Nat)} (p : TupsK H vs ys) : vs.length = ys.length := by
  induction p with
  | nil => rfl
  | cons _ _ ih => rw [List.length_cons, List.length_cons, ih]
theorem TupsK.get {H : Hp} {vs : List V} {ys : List (List Nat)} (p : TupsK H vs ys) : ∀ {i : Nat} {v : V}, vs[i]? = some v → ∃ t r, v = .ref t ∧ ys[i]? = some r ∧ H t = some (.tup (r.map natV)) := by
  induction p with
  | nil => intro i v z; cases z
  | @cons t r vs ys h _ ih =>
    intro i v z
    cases i with
    | zero => cases z; exact ⟨t, r, rfl, rfl, h⟩
    | succ i => exact ih (by simpa using z)
theorem TupsK.at {H : Hp} {vs : List V} {ys : List (List Nat)} (p : TupsK H vs ys) : TupsAt H vs ys := by
  induction p with
  | nil => exact .nil
  | cons h _ ih => exact .cons (.inl h) ih
theorem TupsK.perm {H : Hp} {vs : List V} {ys : List (List Nat)} (p : TupsK H vs ys) {ws : List V} (q : ws.Perm vs) : ∃ zs, zs.Perm ys ∧ TupsK H ws zs := by
  induction q generalizing ys with
  | nil => exact ⟨ys, .refl _, p⟩
  | trans q1 q2 ih1 ih2 =>
    obtain ⟨z1, h1, h2⟩ := ih2 p
    obtain ⟨z2, h3, h4⟩ := ih1 h2
    exact ⟨z2, h3.trans h1, h4⟩
  | swap x y l =>
    cases p with
    | cons h p =>
      cases p with
      | cons g p => exact ⟨_, .swap .., .cons g (.cons h p)⟩
  | cons x _ ih =>
    cases p with
    | cons h p =>
      obtain ⟨zs, h1, h2⟩ := ih p
      exact ⟨_, h1.cons _, .cons h h2⟩
/-- as data -/
abbrev rowD (r : List Nat) : PyData := .tuple ((r.map fun i => ((i : Nat) : Int)).map PyData.int)
theorem dp_ints {K : PySem.W.Frag} {H : Hp} : ∀ ns : List Int, DpAll K H (ns.map V.int) (ns.map PyData.int)
  | [] => .nil
  | i :: ns => .cons (.int i) (dp_ints ns)
theorem dp_row {K : PySem.W.Frag} {H : Hp} {t : Addr} {r : List Nat} (h : TT H t (r.map natV)) : Dp K H (.ref t) (rowD r) := .tup (xs := (r.map fun i => ((i : Nat) : Int)).map V.int) (by rw [← natV_ints]; exact h.sq) (dp_ints _)
theorem TupsAt.dp {K : PySem.W.Frag} {H : Hp} {vs : List V} {ys : List (List Nat)} (p : TupsAt H vs ys) : DpAll K H vs (ys.map rowD) := by
  induction p with
  | nil => exact .nil
  | cons h _ ih => exact .cons (dp_row h) ih
theorem ints_lay (ns : List Int) : PyData.canLayAll0 (ns.map PyData.int) = true ∧ PyData.depthAll (ns.map PyData.int) = 0 := by
  induction ns with
  | nil => exact ⟨by simp [PyData.canLayAll0], by simp [PyData.depthAll]⟩
  | cons y ys ih => exact ⟨by simp [PyData.canLayAll0, PyData.canLay0, ih.1], by simp [PyData.depthAll, PyData.depth, ih.2]⟩
theorem row_lay (r : List Nat) : PyData.canLay0 (rowD r) = true ∧ PyData.depth (rowD r) = 1 := by
  have h := ints_lay (r.map fun i => ((i : Nat) : Int))
  exact ⟨by simp only [PyData.canLay0]; exact h.1, by simp only [PyData.depth, h.2]⟩
theorem rows_lay (ys : List (List Nat)) : PyData.canLayAll0 (ys.map rowD) = true ∧ PyData.depthAll (ys.map rowD) ≤ 1 := by
  induction ys with
  | nil => exact ⟨by simp [PyData.canLayAll0], by simp [PyData.depthAll]⟩
  | cons y ys ih =>
    obtain ⟨h1, h2⟩ := row_lay y
    exact ⟨by simp only [List.map_cons, PyData.canLayAll0, h1, ih.1, Bool.and_self], by simp only [List.map_cons, PyData.depthAll, h2]; have := ih.2; omega⟩
theorem row_sh (r : List Nat) : SeqAt.shaped (rowD r) = true := by
  show (PyData.canLay0 _ && decide (PyData.depth _ ≤ 64)) = true
  rw [(row_lay r).1, (row_lay r).2] <;> rfl
theorem rows_sh (ys : List (List Nat)) : SeqAt.shaped (.list (ys.map rowD)) = true := by
  show (PyData.canLay0 _ && decide (PyData.depth _ ≤ 64)) = true
  have h := rows_lay ys
  rw [Bool.and_eq_true]
  exact ⟨by simp only [PyData.canLay0]; exact h.1, decide_eq_true (by simp only [PyData.depth]; have := h.2; omega)⟩
theorem cast_inj : ∀ {a b : List Nat}, a.map (fun i => ((i : Nat) : Int)) = b.map (fun i => ((i : Nat) : Int)) → a = b
  | [], [], _ => rfl
  | [], _ :: _, h => nomatch h
  | _ :: _, [], h => nomatch h
  | x :: a, y :: b, h => by
    obtain ⟨h1, h2⟩ := List.cons.inj h
    have h1 : ((x : Nat) : Int) = ((y : Nat) : Int) := h1
    rw [cast_inj h2, show x = y by omega]
theorem row_eqv (a b : List Nat) : PyData.eqv (rowD a) (rowD b) = decide (a = b) := by
  simp only [rowD, PyData.eqv]
  rw [eqvAll_ints]
  refine decide_eq_decide.mpr ⟨fun h => ?_, fun h => by rw [h]⟩
  exact cast_inj h
theorem rows_any (ys : List (List Nat)) (r : List Nat) : ((ys.map rowD).any fun z => PyData.eqv z (rowD r)) = decide (r ∈ ys) := by
  rw [List.any_map]
  induction ys with
  | nil => simp
  | cons y ys ih =>
    rw [List.any_cons, ih]
    show (PyData.eqv (rowD y) (rowD r) || _) = _
    rw [row_eqv]
    by_cases e : y = r
    · subst e; simp
    · rw [decide_eq_false e, Bool.false_or]
      refine decide_eq_decide.mpr ?_
      rw [List.mem_cons]
      exact ⟨.inr, fun z => z.resolve_left fun y => e y.symm⟩
/-- the classes that hold one of the ends -/
def nearC (a b : Nat) (xs : List (List Nat)) : List (List Nat) := xs.filter fun c => decide (a ∈ c) || decide (b ∈ c)
theorem inV_nat (k : Nat) (ns : List Nat) : inV (natV k) (ns.map natV) = decide (k ∈ ns) := by
  rw [natV_ints]
  show inV (.int (k : Int)) _ = _
  rw [inV_ints]
  refine decide_eq_decide.mpr ?_
  rw [List.mem_map]
  exact ⟨fun ⟨j, hj, e⟩ => by rw [show k = j by omega]; exact hj, fun h => ⟨k, h, rfl⟩⟩
theorem flat_natV (ns : List Nat) : (ns.map natV).all flatV = true := by rw [natV_ints]; exact flat_ints _
theorem dis_mem {xs : List (List Nat)} (d : xs.Pairwise fun a b => ∀ i, i ∈ a → i ∉ b) {c e : List Nat} (hc : c ∈ xs) (he : e ∈ xs) {i : Nat} (h1 : i ∈ c) (h2 : i ∈ e) : c = e := by
  induction xs with
  | nil => cases hc
  | cons x xs ih =>
    obtain ⟨d1, d2⟩ := List.pairwise_cons.mp d
    rcases List.mem_cons.mp hc with rfl | hc1
    · rcases List.mem_cons.mp he with rfl | he1
      · rfl
      · exact absurd h2 (d1 e he1 i h1)
    · rcases List.mem_cons.mp he with rfl | he1
      · exact absurd h1 (d1 c hc1 i h2)
      · exact ih d2 hc1 he1
/-- there are one or two of them -/
theorem Cls.near {L : List (Int × Int)} {m : Nat} {xs : List (List Nat)} (C : Cls L m xs) {a b : Nat} (ha : m.testBit a = true) (hb : m.testBit b = true) :
    (∃ c, nearC a b xs = [c] ∧ a ∈ c ∧ b ∈ c ∧ c ∈ xs) ∨ ∃ c e, nearC a b xs = [c, e] ∧ c ∈ xs ∧ e ∈ xs ∧ c ≠ e ∧ ((a ∈ c ∧ b ∈ e) ∨ (b ∈ c ∧ a ∈ e)) ∧ xs.Perm (c :: e :: xs.filter fun x => !decide (x ∈ nearC a b xs)) := by
  obtain ⟨c, hc, ac⟩ := C.all a ha
  obtain ⟨e, he, be⟩ := C.all b hb
  have nd : xs.Nodup := by
    refine List.Pairwise.imp_of_mem (fun {x y} hx hy h z => ?_) C.dis
    subst z
    cases q : x with
    | nil => exact C.ne hx q
    | cons i t => exact h i (by rw [q]; exact List.mem_cons_self ..) (by rw [q]; exact List.mem_cons_self ..)
  have mem : ∀ x, x ∈ nearC a b xs ↔ x = c ∨ x = e := fun x => by
    unfold nearC
    rw [List.mem_filter, Bool.or_eq_true, decide_eq_true_eq, decide_eq_true_eq]
    constructor
    · rintro ⟨hx, z | z⟩
      · exact .inl (dis_mem C.dis hx hc z ac)
      · exact .inr (dis_mem C.dis hx he z be)
    · rintro (rfl | rfl)
      · exact ⟨hc, .inl ac⟩
      · exact ⟨he, .inr be⟩
  have nn : (nearC a b xs).Nodup := nd.filter _
  by_cases ce : c = e
  · subst ce
    refine .inl ⟨c, ?_, ac, be, hc⟩
    generalize nearC a b xs = ys at mem nn
    match ys, mem, nn with
    | [], mem, _ => exact absurd ((mem c).mpr (.inl rfl)) (by simp)
    | [x], mem, _ => rw [((mem x).mp (List.mem_singleton.mpr rfl)).elim id id]
    | x :: y :: zs, mem, nn =>
      have h1 := ((mem x).mp (List.mem_cons_self ..)).elim id id
      have h2 := ((mem y).mp (List.mem_cons_of_mem _ (List.mem_cons_self ..))).elim id id
      exact absurd (by rw [h1, h2]; exact List.mem_cons_self ..) (List.nodup_cons.mp nn).1
  · refine .inr ?_
    have pm : xs.Perm (nearC a b xs ++ xs.filter fun x => !decide (x ∈ nearC a b xs)) := by
      have e1 : xs.filter (fun x => decide (x ∈ nearC a b xs)) = nearC a b xs := by
        show _ = xs.filter _
        refine List.filter_congr fun x hx => ?_
        have := mem x
        unfold nearC at this ⊢
        rw [List.mem_filter] at this
        simp only [List.mem_filter, hx, true_and, Bool.decide_eq_true]
      have := List.filter_append_perm (fun x => decide (x ∈ nearC a b xs)) xs
      rw [e1] at this
      exact this.symm
    have two : ∃ x y, nearC a b xs = [x, y] := by
      generalize nearC a b xs = ys at mem nn
      match ys, mem, nn with
      | [], mem, _ => exact absurd ((mem c).mpr (.inl rfl)) (by simp)
      | [x], mem, _ =>
        have h1 := List.mem_singleton.mp ((mem c).mpr (.inl rfl))
        have h2 := List.mem_singleton.mp ((mem e).mpr (.inr rfl))
        exact absurd (h1.trans h2.symm) ce
      | [x, y], _, _ => exact ⟨x, y, rfl⟩
      | x :: y :: z :: zs, mem, nn =>
        have n1 := List.nodup_cons.mp nn
        have n2 := List.nodup_cons.mp n1.2
        have hx := (mem x).mp (by simp)
        have hy := (mem y).mp (by simp)
        have hz := (mem z).mp (by simp)
        have xy : x ≠ y := fun q => n1.1 (by rw [q]; simp)
        have xz : x ≠ z := fun q => n1.1 (by rw [q]; simp)
        have yz : y ≠ z := fun q => n2.1 (by rw [q]; simp)
        rcases hx with rfl | rfl <;> rcases hy with rfl | rfl <;> rcases hz with rfl | rfl <;> simp_all
    obtain ⟨x, y, exy⟩ := two
    rw [exy] at pm nn mem
    have hx := (mem x).mp (by simp)
    have hy := (mem y).mp (by simp)
    have xy : x ≠ y := fun q => (List.nodup_cons.mp nn).1 (by rw [q]; simp)
    refine ⟨x, y, exy, ?_, ?_, xy, ?_, ?_⟩
    · rcases hx with rfl | rfl
      · exact hc
      · exact he
    · rcases hy with rfl | rfl
      · exact hc
      · exact he
    · rcases hx with rfl | rfl
      · rcases hy with rfl | rfl
        · exact absurd rfl xy
        · exact .inl ⟨ac, be⟩
      · rcases hy with rfl | rfl
        · exact .inr ⟨be, ac⟩
        · exact absurd rfl xy
    · rw [exy]
      exact pm

theorem Cls.few {L : List (Int × Int)} {n : Nat} {xs : List (List Nat)} (C : Cls L (2 ^ n - 1) xs) : xs.length ≤ n := by
  have h := C.len (ks := List.range n) List.nodup_range fun i => by rw [full_bit, decide_eq_true_eq, List.mem_range]
  rw [List.length_range] at h
  have g : ∀ ys : List (List Nat), (∀ c ∈ ys, c ≠ []) → ys.length ≤ (ys.map List.length).sum := fun ys hy => by
    induction ys with
    | nil => exact Nat.zero_le _
    | cons c ys ih =>
      have := ih fun d hd => hy d (List.mem_cons_of_mem _ hd)
      have : 0 < c.length := List.length_pos_iff.mpr (hy c (List.mem_cons_self ..))
      rw [List.map_cons, List.sum_cons, List.length_cons]
      omega
  have := g xs fun c hc => C.ne hc
  omega
theorem Cls.short {L : List (Int × Int)} {n : Nat} {xs : List (List Nat)} (C : Cls L (2 ^ n - 1) xs) {c : List Nat} (h : c ∈ xs) : c.length ≤ n ∧ ∀ i ∈ c, i < n := by
  have b : ∀ i ∈ c, i < n := fun i hi => by
    obtain ⟨r, _, e⟩ := C.cls c h
    have := ((e i).mp hi).bit
    rwa [full_bit, decide_eq_true_eq] at this
  have := len_le (inc_nodup (C.inc c h)) (m := List.range n) fun i hi => List.mem_range.mpr (b i hi)
  rw [List.length_range] at this
  exact ⟨this, b⟩
theorem merge {c e : List Nat} (hc : c.Pairwise (· < ·)) (he : e.Pairwise (· < ·)) (d : ∀ i, i ∈ c → i ∉ e) {ms : List Int} (pm : ms.Perm ((c ++ e).map fun i => ((i : Nat) : Int))) (pw : ms.Pairwise (· ≤ ·)) :
    ∃ g : List Nat, ms = g.map (fun i => ((i : Nat) : Int)) ∧ g.Pairwise (· < ·) ∧ (∀ i, i ∈ g ↔ i ∈ c ∨ i ∈ e) ∧ g.length = c.length + e.length := by
  have back : ∀ l : List Nat, (l.map fun i => ((i : Nat) : Int)).map Int.toNat = l := fun l => by
    rw [List.map_map]
    exact (List.map_congr_left fun i _ => Int.toNat_natCast i).trans (List.map_id l)
  have e1 : ms = (ms.map Int.toNat).map (fun i => ((i : Nat) : Int)) := by
    rw [List.map_map]
    have : ∀ i ∈ ms, ((fun i => ((i : Nat) : Int)) ∘ Int.toNat) i = id i := fun i hi => by
      obtain ⟨j, _, rfl⟩ := List.mem_map.mp (pm.mem_iff.mp hi)
      rfl
    rw [List.map_congr_left this, List.map_id]
  have p2 : (ms.map Int.toNat).Perm (c ++ e) := by
    have := pm.map Int.toNat
    rwa [back] at this
  have nd : (ms.map Int.toNat).Nodup := p2.nodup_iff.mpr (List.nodup_append.mpr ⟨inc_nodup hc, inc_nodup he, fun x hx y hy z => by subst z; exact d x hx hy⟩)
  refine ⟨_, e1, ?_, fun i => by rw [p2.mem_iff, List.mem_append], by rw [p2.length_eq, List.length_append]⟩
  have le : (ms.map Int.toNat).Pairwise (· ≤ ·) := by
    rw [List.pairwise_map]
    exact pw.imp fun {a b} z => by omega
  exact (le.and nd).imp fun {a b} z => by have h1 := z.1; have h2 := z.2; omega
/-- the ints of a tuple that is known -/
def kOf (M : Hp) : V → List Int
  | .ref t => match M t with
    | some (.tup xs) => xs.map intV
    | _ => []
  | _ => []
theorem kOf_row {M : Hp} {t : Addr} {r : List Nat} (h : M t = some (.tup (r.map natV))) : kOf M (.ref t) = r.map fun i => ((i : Nat) : Int) := by
  simp only [kOf, h]
  rw [List.map_map]
  exact List.map_congr_left fun _ _ => rfl
theorem lex_hd {a b : List Nat} (ha : a ≠ []) (hb : b ≠ []) (d : ∀ i, i ∈ a → i ∉ b) (h : HT.lexLt (b.map fun i => ((i : Nat) : Int)) (a.map fun i => ((i : Nat) : Int)) = false) : hd a < hd b := by
  cases a with
  | nil => exact absurd rfl ha
  | cons x s =>
    cases b with
    | nil => exact absurd rfl hb
    | cons y t =>
      have ne : x ≠ y := fun z => d x (List.mem_cons_self ..) (by rw [z]; exact List.mem_cons_self ..)
      rw [List.map_cons, List.map_cons, HT.lexLt_cons, if_neg (by omega), decide_eq_false_iff_not] at h
      show x < y
      omega
theorem TupsK.srt {M : Hp} {vs : List V} {ys : List (List Nat)} (p : TupsK M vs ys) (d : ys.Pairwise fun a b => ∀ i, i ∈ a → i ∉ b) (ne : ∀ c ∈ ys, c ≠ []) (h : vs.Pairwise fun x y => HT.lexLt (kOf M y) (kOf M x) = false) : ys.Pairwise fun a b => hd a < hd b := by
  induction p with
  | nil => exact .nil
  | @cons t r vs ys ht q ih =>
    obtain ⟨h1, h2⟩ := List.pairwise_cons.mp h
    obtain ⟨d1, d2⟩ := List.pairwise_cons.mp d
    refine List.pairwise_cons.mpr ⟨fun c hc => ?_, ih d2 (fun c hc => ne c (List.mem_cons_of_mem _ hc)) h2⟩
    obtain ⟨i, hi⟩ := List.getElem?_of_mem hc
    have li : i < vs.length := by rw [q.len]; exact (List.getElem?_eq_some_iff.mp hi).1
    obtain ⟨t', r', e1, e2, e3⟩ := q.get (List.getElem?_eq_getElem li)
    rw [hi] at e2
    cases e2
    have := h1 _ (List.getElem_mem li)
    rw [e1, kOf_row e3, kOf_row ht] at this
    exact lex_hd (ne _ (List.mem_cons_self ..)) (ne c (List.mem_cons_of_mem _ hc)) (d1 c hc) this
theorem TupsK.tupI {K : PySem.W.Frag} {M : Hp} {vs : List V} {ys : List (List Nat)} (p : TupsK M vs ys) (ne : ∀ c ∈ ys, c ≠ []) : ∀ x ∈ vs, TupI K M x (kOf M x) ∧ kOf M x ≠ [] := fun x hx => by
  obtain ⟨i, hi⟩ := List.getElem?_of_mem hx
  obtain ⟨t, r, rfl, e2, e3⟩ := p.get hi
  rw [kOf_row e3]
  refine ⟨⟨t, rfl, ?_⟩, fun z => ne r (List.mem_of_getElem? e2) (List.map_eq_nil_iff.mp z)⟩
  rw [← natV_ints]
  exact SqT.of e3
theorem TupsK.two {H : Hp} {vs : List V} {c e : List Nat} (p : TupsK H vs [c, e]) : ∃ t u, vs = [.ref t, .ref u] ∧ H t = some (.tup (c.map natV)) ∧ H u = some (.tup (e.map natV)) := by
  cases p with
  | cons h p =>
    cases p with
    | cons g p =>
      cases p
      exact ⟨_, _, rfl, h, g⟩
def spLParts : Sp := fun vs H Q _ => ∃ (w : Addr) (n : Nat) (L : List (Int × Int)), vs = [.ref w] ∧ Web H w n L ∧ n ≤ 12 ∧ Bel n L ∧ L.length ≤ 40 ∧ ∀ (t : Addr) (us : List V) (ys : List (List Nat)) (H' : Hp), Same H H' → H t = none → H' t = some (.tup us) → TupsK H' us ys → IsParts L (2 ^ n - 1) ys → Q (.ref t) H'
section
variable {P : Program} {w0 : World} {K : PySem.W.Frag} {mg : Str → Option Value} {base : Heap}
abbrev nLParts : List Str := ["_law_web_here", "_law_found", "_law_one", "_law_other", "_law_near", "_law_place", "_law_part"]
end
end K0

set_option Elab.async false
set_option linter.all false
set_option maxRecDepth 100000
set_option maxHeartbeats 8000000
/-! Calls where nothing is being shown; calls by name; the law called. -/
namespace K0
open PySem PySem.Spec L2
open PyProof.Rows hiding St
open PySem.W (Frag)
open LamX (ExtN Tabs TabB TabS)
/-! ### defs called where nothing is being shown -/
/-- a def's promise, where nothing is being shown -/
structure FnG (P : Program) (w : World) (K : PySem.W.Frag) (mg : Str → Option Value) (base : Heap) (CX : CXT) (k : Nat) (f : Addr) (fd : FuncData) (ps : List Str) (sp : Sp) : Prop where
  len : ∀ vs H Q E, sp vs H Q E → vs.length = ps.length
  run : ∀ (A : Around) (outer : List Env) (s : Shared) (H : Hp) (args : Args) (us : List Value) (vs : List V) (Q : VK) (E : XK), A.guards = some [] → Room k A → Env0 P w K mg base A outer s H → BindsTo s fd args (ps.zip us) → Vals vs us → sp vs H Q E →
    codeAny (model P w) A (.call (.ref f) args) (CR CX outer P w H s Q E) s
/-- as Fun, its code object told -/
structure FunC (K : PySem.W.Frag) (x qual : Str) (st : Stmt) (f : Addr) (fd : FuncData) (c : Addr) : Prop where
  ex : ∃ (oc : Value) (od : Option Addr) (kV doc pm : Value) (an : Option Addr) (ct : Value) (osl : Array (Option Value)),
    fd = PySem.W.fnOf x qual (defArgs st) (defBody st) (defScope st) .none kV doc pm an (.ref c) ct ∧ K.lookup f = some ⟨oc, od, .func fd, osl⟩ ∧ PySem.W.codeIn K (.ref c) qual = true
  kp : PySem.W.keepIn K (.ref f) = true
section
variable {P : Program} {w : World} {K : PySem.W.Frag} {mg : Str → Option Value} {base : Heap}
theorem FunC.fun {x qual : Str} {st : Stmt} {f c : Addr} {fd : FuncData} (F : FunC K x qual st f fd c) : Fun K x qual st f fd :=
  let ⟨oc, od, kV, doc, pm, an, ct, osl, h⟩ := F.ex; ⟨⟨oc, od, kV, doc, pm, an, .ref c, ct, osl, h⟩, F.kp⟩
/-- at one place: the body as a term of rules -/
theorem FunC.run1 {x qual : Str} {st : Stmt} {f c : Addr} {fd : FuncData} {N ps : List Str} {k : Nat} (F : FunC K x qual st f fd c) (S : FnScope N ps (defScope st))
    {A : Around} {outer : List Env} {s : Shared} {H : Hp} {args : Args} {us : List Value} {vs : List V} {Q : VK} {E : XK} (hr : Room (k + 1) A) (e0 : Env0 P w K mg base A outer s H) (hb : BindsTo s fd args (ps.zip us)) (r : Vals vs us) (hl : vs.length = ps.length)
    (hbody : Room k (A.deeper (envOfC qual (defScope st) s.heap.objs.size f (.ref c))) → ∃ t, PSs (cxOf CX0 P w K mg base N qual (defScope st) f (.ref c) A outer s H E).nox (defBody st) t ∧ t { nx := fun _ H' => Q .non H', rt := Q } (start N vs) H) :
    codeAny (model P w) A (.call (.ref f) args) (CR CX0 outer P w H s Q E) s := by
  obtain ⟨oc, od, kV, doc, pm, an, ct, osl, rfl, lk, hcd⟩ := F.ex
  exact LamX.run_ofS lk hcd S hr e0 hb r hl fun h => let ⟨t, h1, h2⟩ := hbody h; ⟨t, h1.nox, h2⟩
theorem FunC.okG {x qual : Str} {st : Stmt} {f c : Addr} {fd : FuncData} {N ps : List Str} {k : Nat} {sp : Sp} (F : FunC K x qual st f fd c) (S : FnScope N ps (defScope st)) (len : ∀ vs H Q E, sp vs H Q E → vs.length = ps.length)
    (hbody : ∀ (A : Around) (outer : List Env) (s : Shared) (H : Hp) (vs : List V) (Q : VK) (E : XK), A.guards = some [] → Room k (A.deeper (envOfC qual (defScope st) s.heap.objs.size f (.ref c))) → sp vs H Q E →
      ∃ t, PSs (cxOf CX0 P w K mg base N qual (defScope st) f (.ref c) A outer s H E).nox (defBody st) t ∧ t { nx := fun _ H' => Q .non H', rt := Q } (start N vs) H) : FnG P w K mg base CX0 (k + 1) f fd ps sp :=
  ⟨len, fun A outer s H args us vs Q E hg hr e0 hb r hsp => F.run1 S hr e0 hb r (len _ _ _ _ hsp) fun h => hbody A outer s H vs Q E hg h hsp⟩
end
section
variable {X : Cx} {CX : CXT} {k : Nat} {f : Addr} {fd : FuncData} {ps : List Str} {sp : Sp} {E : XK} {x : Str} {p pos : Pos} {e : Expr} {es : List Expr} {t : TA}
theorem pe_callG (F : FnG X.prog X.w X.K X.mg X.base CX k f fd ps sp) (gu : X.A.guards = some []) (hr : Room k X.A) (hg : Gl X x) (hm : X.mg x = some (.ref f)) (hk : PySem.W.keepIn X.K (.ref f) = true) (hb : Binds X.K fd ps []) (hx : Passes CX X E)
    (ha : PA X (e :: es) t) (hdb : (x == ("__debug__" : Str)) = false := by decide) (he : starEach (e :: es) X.env = (false, eval e X.env) :: starEach es X.env := by rfl) (hpl : (backTo pos (starEach es X.env)).any (·.1) = false := by rfl) :
    PE X (.Call (.Name x p) (e :: es) [] pos) (tCall sp [] E t) := by
  refine ⟨fun pins s σ H Q I h => wpAny_Call_Name_kw (ld_glob I hg hm ?_ hdb)⟩
  refine PySem.W.callWith_K (h₀ := X.base) I.ok.mod.kin hk (thn (ha.run pos pins s σ H _ I h) fun us s1 ⟨vs, H1, I1, r, q⟩ => ⟨I1.kIn, ?_⟩) he hpl
  have q : sp (vs ++ []) H1 Q E := q
  rw [List.append_nil] at q
  have hl : us.length = ps.length := by rw [← r.length]; exact F.len _ _ _ _ q
  have b := hb s1 us I1.kIn (by rw [List.append_nil]; exact hl)
  rw [List.append_nil] at b
  refine wpAny_call (codeAny_mono (F.run X.A X.stack s1 H1 ⟨us, []⟩ us vs Q E gu hr I1.env0 b r q) fun r s' hq => ?_)
  match r, hq with
  | .error e, hq => exact hx pins σ H1 s1 e s' I1 hq
  | .ok (.ret u), hq => exact I1.after hq
  | .ok .next, hq => exact False.elim hq
  | .ok .brk, hq => exact False.elim hq
  | .ok .cont, hq => exact False.elim hq
/-- all by name -/
theorem pe_callN {ks : List Str} {g : List Value → List Value} {gV : List V → List V} {kws : List Keyword} {tk : TA} (F : FnOk X.prog X.w X.K X.mg X.base CX k f fd ps sp) (hr : Room k X.A) (hg : Gl X x) (hm : X.mg x = some (.ref f)) (hk : PySem.W.keepIn X.K (.ref f) = true)
    (hb : ∀ (s : Shared) (ws : List Value), ws.length = ps.length → BindsTo s fd ⟨[], ks.zip ws⟩ (ps.zip (g ws))) (hgr : ∀ {zs : List V} {ws : List Value}, Vals zs ws → Vals (gV zs) (g ws)) (hgl : ∀ zs : List V, (gV zs).length = ps.length → zs.length = ps.length) (hx : Passes CX X E)
    (hkw : PK X kws tk) (hall : (backToKw pos (keywordEach kws X.env)).all (·.1.isSome) = true := by rfl) (hks : (backToKw pos (keywordEach kws X.env)).filterMap (·.1) = ks := by rfl) (hdb : (x == ("__debug__" : Str)) = false := by decide)
    (hpl : ((backTo pos (starEach [] X.env)).any (·.1) || (backToKw pos (keywordEach kws X.env)).any (·.1.isNone)) = false := by rfl) :
    PE X (.Call (.Name x p) [] kws pos) (fun σ H Q => tk σ H fun zs H2 => sp (gV zs) H2 Q E) := by
  refine ⟨fun pins s σ H Q I h => wpAny_Call_Name_kw (ld_glob I hg hm ?_ hdb)⟩
  refine PySem.W.callWith_KW0 (h₀ := X.base) I.ok.mod.kin hk hall (thn (hkw.run pos pins s σ H _ I h) fun ws s2 ⟨zs, H2, I2, rz, q2⟩ => ⟨I2.kIn, ?_⟩) hpl
  rw [hks]
  have q2 : sp (gV zs) H2 Q E := q2
  have hl := F.len _ _ _ _ q2
  have lz := hgl zs hl
  refine wpAny_call (codeAny_mono (F.run X.A X.stack s2 H2 ⟨[], ks.zip ws⟩ (g ws) (gV zs) Q E hr I2.env0 (hb s2 ws (by rw [← rz.length]; exact lz)) (hgr rz) q2) fun r s' hq => ?_)
  match r, hq with
  | .error e, hq => exact hx pins σ H2 s2 e s' I2 hq
  | .ok (.ret u), hq => exact I2.after hq
  | .ok .next, hq => exact False.elim hq
  | .ok .brk, hq => exact False.elim hq
  | .ok .cont, hq => exact False.elim hq
end
/-! ### calls by name -/
def Kw1 (fd : FuncData) (k : Str) : Prop := ∀ (s : Shared) (a : Value), BindsTo s fd ⟨[], [(k, a)]⟩ [(k, a)]
/-- two parameters, by name: in their order, and in the other one -/
def Kw2 (fd : FuncData) (k1 k2 : Str) : Prop := ∀ (s : Shared) (a b : Value), BindsTo s fd ⟨[], [(k1, a), (k2, b)]⟩ [(k1, a), (k2, b)] ∧ BindsTo s fd ⟨[], [(k2, b), (k1, a)]⟩ [(k1, a), (k2, b)]
def rev2 {α : Type} : List α → List α
  | [a, b] => [b, a]
  | _ => []
section
variable {X : Cx} {CX : CXT} {k : Nat} {f : Addr} {fd : FuncData} {sp : Sp} {E : XK} {x k1 k2 : Str} {p pos q1 q2 : Pos} {e1 e2 : Expr} {t1 t2 : TE}
theorem pe_kw1 (F : FnOk X.prog X.w X.K X.mg X.base CX k f fd [k1] sp) (hr : Room k X.A) (hg : Gl X x) (hm : X.mg x = some (.ref f)) (hk : PySem.W.keepIn X.K (.ref f) = true) (hb : Kw1 fd k1) (hx : Passes CX X E) (h1 : PE X e1 t1)
    (hdb : (x == ("__debug__" : Str)) = false := by decide) : PE X (.Call (.Name x p) [] [⟨some k1, e1, q1⟩] pos) (fun σ H Q => t1 σ H fun v H1 => sp [v] H1 Q E) := by
  have h := pe_callN (p := p) (pos := pos) (ks := [k1]) (g := id) (gV := id) F hr hg hm hk (fun s ws hl => match ws, hl with | [a], _ => hb s a) (fun h => h) (fun zs h => h) hx (pk_cons (kpos := q1) (nm := some k1) h1 pk_nil) (by rfl) (by rfl) hdb (by rfl)
  exact ⟨fun pins s σ H Q I z => h.run pins s σ H Q I z⟩
theorem pe_kw2 (F : FnOk X.prog X.w X.K X.mg X.base CX k f fd [k1, k2] sp) (hr : Room k X.A) (hg : Gl X x) (hm : X.mg x = some (.ref f)) (hk : PySem.W.keepIn X.K (.ref f) = true) (hb : Kw2 fd k1 k2) (hx : Passes CX X E) (h1 : PE X e1 t1) (h2 : PE X e2 t2)
    (hdb : (x == ("__debug__" : Str)) = false := by decide) : PE X (.Call (.Name x p) [] [⟨some k1, e1, q1⟩, ⟨some k2, e2, q2⟩] pos) (fun σ H Q => t1 σ H fun u H1 => t2 σ H1 fun v H2 => sp [u, v] H2 Q E) := by
  have h := pe_callN (p := p) (pos := pos) (ks := [k1, k2]) (g := id) (gV := id) F hr hg hm hk (fun s ws hl => match ws, hl with | [a, b], _ => (hb s a b).1) (fun h => h) (fun zs h => h) hx (pk_cons (kpos := q1) (nm := some k1) h1 (pk_cons (kpos := q2) (nm := some k2) h2 pk_nil)) (by rfl) (by rfl) hdb (by rfl)
  exact ⟨fun pins s σ H Q I z => h.run pins s σ H Q I z⟩
theorem pe_kw2r (F : FnOk X.prog X.w X.K X.mg X.base CX k f fd [k1, k2] sp) (hr : Room k X.A) (hg : Gl X x) (hm : X.mg x = some (.ref f)) (hk : PySem.W.keepIn X.K (.ref f) = true) (hb : Kw2 fd k1 k2) (hx : Passes CX X E) (h2 : PE X e2 t2) (h1 : PE X e1 t1)
    (hdb : (x == ("__debug__" : Str)) = false := by decide) : PE X (.Call (.Name x p) [] [⟨some k2, e2, q2⟩, ⟨some k1, e1, q1⟩] pos) (fun σ H Q => t2 σ H fun v H1 => t1 σ H1 fun u H2 => sp [u, v] H2 Q E) := by
  have h := pe_callN (p := p) (pos := pos) (ks := [k2, k1]) (g := rev2) (gV := rev2) F hr hg hm hk (fun s ws hl => match ws, hl with | [b, a], _ => (hb s a b).2)
    (fun {zs ws} h => match zs, ws, h with | _, _, .nil => .nil | _, _, .cons _ .nil => .nil | _, _, .cons r (.cons r2 .nil) => .cons r2 (.cons r .nil) | _, _, .cons _ (.cons _ (.cons _ _)) => .nil)
    (fun zs h => match zs, h with | [_, _], _ => rfl) hx (pk_cons (kpos := q2) (nm := some k2) h2 (pk_cons (kpos := q1) (nm := some k1) h1 pk_nil)) (by rfl) (by rfl) hdb (by rfl)
  exact ⟨fun pins s σ H Q I z => h.run pins s σ H Q I z⟩
end
/-! ### the law at the place from which it is called -/
section
variable {P : Program} {w : World} {K : Frag} {mg mb : Str → Option Value} {k : Nat} {fa a c0 : Addr} {fd : FuncData} {x name qual : Str} {st : Stmt} {N : List Str} {s₁ : Shared} {vs : List Value} {ns : List Int} {cs : List (Addr × Addr)}
/-- a code object and its empty table -/
def Tbl (K : Frag) (h : Heap) (p : Addr × Addr) : Prop := K.lookup p.2 = none ∧ PySem.W.CodeHd h p.1 p.2 ∧ h.get? p.2 = some (PySem.W.tabObj #[])
def HasMain (mg : Str → Option Value) (h : Heap) : Prop := ∃ (bm : Addr) (ob : Obj), mg "__builtins__" = some (.ref bm) ∧ bm ≠ builtinsNs ∧ h.get? bm = some ob ∧ ob.cls = .type "module" ∧ ob.dict = some builtinsNs ∧ ob.data = .plain
theorem law_outT (F : FunC K name qual st fa fd c0) (S : FnScope N [x] (defScope st)) (KX : K.In s₁.heap) (hns : s₁.heap.Ns mainGlobals mg) (hb : s₁.heap.Ns builtinsNs mb) (hbb : ∀ x : Str, x ≠ "__name__" → mb x = bootBuiltins x) (hlim : s₁.heap.NoLimit) (hg : s₁.gens = #[]) (hm : HasMain mg s₁.heap)
    (tabs : ∀ p ∈ cs, Tbl K s₁.heap p) (ha : s₁.heap.get? a = some { cls := .type "list", data := .seq vs.toArray }) (hi : IntsAre vs ns) (hl : ns.length ≤ sizeLine) (hr : Room (k + 1) callerA) (hbind : ∀ (s : Shared) (u : Value), BindsTo s fd ⟨[u], []⟩ [(x, u)])
    (body : ∀ (base : Heap) (H : Hp) (s : Shared), K.In base → base.Ns mainGlobals mg → (∀ p ∈ cs, TabB base mg p.1 p.2) → (∀ p ∈ cs, H p.2 = some (.tbl #[])) → SqL K H a (ns.map V.int) → Room k (callerA.deeper (envOfC qual (defScope st) s.heap.objs.size fa (.ref c0))) →
      ∃ t, PSs (cxOf CX0 P w K mg base N qual (defScope st) fa (.ref c0) callerA [] s H (fun _ _ _ => False)).nox (defBody st) t ∧ t { nx := fun _ H' => (V.non = .bl true : Prop), rt := fun v _ => v = .bl true } (start N [.ref a]) H) :
    codeAny (model P w) callerA (.call (.ref fa) ⟨[.ref a], []⟩) (fun r s' => r = .ok (.ret (.bool true)) ∧ OldK s₁.heap s'.heap ∧ s'.os = s₁.os ∧ AllBare s'.gens) s₁ := by
  -- over any abstract heap that tracks the script at most, and the tables
  have go : ∀ H : Hp, SqL K H a (ns.map V.int) → (∀ p ∈ cs, H p.2 = some (.tbl #[])) → HOk P w H s₁.heap → (∀ b u, H b = some u → (b = a ∧ K.lookup a = none ∧ ∃ o ys, u = .frz o (.lst ys)) ∨ ∃ p ∈ cs, b = p.2 ∧ u = .tbl #[]) →
      codeAny (model P w) callerA (.call (.ref fa) ⟨[.ref a], []⟩) (fun r s' => r = .ok (.ret (.bool true)) ∧ OldK s₁.heap s'.heap ∧ s'.os = s₁.os ∧ AllBare s'.gens) s₁ := by
    intro H hS hT hok only
    have free : ∀ {b : Addr} {o : Obj}, s₁.heap.get? b = some o → (∀ ys n, o.data ≠ .seq ys n) → o.data ≠ .fields #[] → H b = none := fun {b o} e n1 n2 => by
      cases q : H b with
      | none => rfl
      | some u =>
        rcases only b u q with ⟨z, _⟩ | ⟨p, hp, z, _⟩
        · rw [z, ha] at e
          cases e
          exact (n1 _ _ rfl).elim
        · rw [z, (tabs p hp).2.2] at e
          cases e
          exact (n2 rfl).elim
    have low : ∀ {b : Addr} {m : Str → Option Value}, s₁.heap.Ns b m → (hidT s₁.heap H).Ns b m := fun {b m} ⟨o, es, ep, e, d, r⟩ => ⟨o, es, ep, hidT_get e (free e (fun _ _ z => by rw [d] at z; cases z) fun z => by rw [d] at z; cases z), d, r⟩
    have KB : K.In (hidT s₁.heap H) := fun b o e => hidT_get (KX b o e) (by
      cases q : H b with
      | none => rfl
      | some u =>
        rcases only b u q with ⟨z, n, _⟩ | ⟨p, hp, z, _⟩
        · rw [z, n] at e
          cases e
        · rw [z, (tabs p hp).1] at e
          cases e)
    have TB : ∀ p ∈ cs, TabB (hidT s₁.heap H) mg p.1 p.2 := fun p hp => by
      obtain ⟨_, hC, hP⟩ := tabs p hp
      refine ⟨?_, ?_, fun z => ?_⟩
      · obtain ⟨o, us, i1, i2, i3, i4, i5, i6, i7, g1, g2, g3, g4, gs⟩ := hC
        refine ⟨o, us, i1, i2, i3, i4, i5, i6, i7, hidT_get g1 (free g1 (fun _ _ z => by rw [g3] at z; cases z) fun z => ?_), g2, g3, g4, gs⟩
        rw [g3] at z
        cases z
        simp at g4
      · obtain ⟨bm, ob, y1, y2, y3, y4, y5, y6⟩ := hm
        refine ⟨bm, ob, y1, y2, fun z => ?_, fun z => ?_, hidT_get y3 (free y3 (fun _ _ z => by rw [y6] at z; cases z) fun z => by rw [y6] at z; cases z), y4, y5, y6⟩
        · obtain ⟨o, es, ep, e, hd, _⟩ := hns
          rw [z, e] at y3
          cases y3
          rw [hd] at y6
          cases y6
        · rw [z, hP] at y3
          cases y3
          cases y6
      · obtain ⟨o, es, ep, e, hd, _⟩ := hns
        rw [z, hP] at e
        cases e
        cases hd
    have e0 : Env0 P w K mg (hidT s₁.heap H) callerA [] s₁ H := ⟨rfl, ⟨KB, low hns, ⟨mb, low hb, hbb⟩, hlim.imp fun mc z => ⟨low z.1, z.2⟩⟩, fun b o e => of_hidT e, Nat.le_of_eq (hidT_size _ _), trivial, fun b z => absurd z List.not_mem_nil, hok, .of_eq hg⟩
    refine codeAny_mono (F.run1 (Q := fun v _ => v = .bl true) (E := fun _ _ _ => False) (us := [.ref a]) (vs := [.ref a]) S hr e0 (hbind s₁ (.ref a)) (.cons rfl .nil) rfl fun hr' => body _ H s₁ KB (low hns) TB hT hS hr') fun r s' z => ?_
    match r, z with
    | .ok (.ret u), z =>
      obtain ⟨v, H', os, bare, un, ok', r', q⟩ := z
      have q' : v = .bl true := q
      subst q'
      obtain rfl : u = Value.bool true := r'
      have stays : ∀ b o, s₁.heap.get? b = some o → s'.heap.get? b = some o ∨ ∃ p ∈ cs, b = p.2 := fun b o e => by
        cases q : H b with
        | none => exact .inl (un.keep b o e q (fun y => absurd y List.not_mem_nil) (fun y => absurd y List.not_mem_nil))
        | some u =>
          rcases only b u q with ⟨_, _, ob, ys, rfl⟩ | ⟨p, hp, z, _⟩
          · have y1 := (hok b _ q).1
            rw [e] at y1
            cases y1
            exact .inl (ok' b _ (un.frzs b o _ q)).1
          · exact .inr ⟨p, hp, z⟩
      have grown : ∀ p ∈ cs, ∃ more : Array Value, s'.heap.get? p.2 = some (PySem.W.tabObj more) := fun p hp => (un.tbls p.2 #[] (hT p hp)).elim fun _ z => ⟨_, ok' p.2 _ z⟩
      refine ⟨rfl, ⟨fun b o e => ?_, fun b o e => ?_⟩, os, bare⟩
      · rcases stays b o e with z | ⟨p, hp, rfl⟩
        · exact .inl z
        · obtain ⟨_, hC, hP⟩ := tabs p hp
          rw [hP] at e
          cases e
          obtain ⟨more, hmore⟩ := grown p hp
          exact .inr (.inl ⟨(hC.tab hP).isCodeTable, rfl, #[], more, rfl, hmore.trans (by rw [Array.empty_append])⟩)
      · rcases stays b o e with z | ⟨p, hp, rfl⟩
        · exact ⟨o, z⟩
        · exact (grown p hp).imp' _ fun _ z => z
    | .ok .next, z => exact z.elim
    | .ok .brk, z => exact z.elim
    | .ok .cont, z => exact z.elim
    | .error _, z => exact False.elim z
  have rv := vals_ints hi
  have isT : ∀ p ∈ cs, ¬ a = p.2 := fun p hp z => by
    have e := (tabs p hp).2.2
    rw [← z, ha] at e
    cases e
  let isTab : Addr → Bool := fun b => cs.any fun p => p.2 == b
  have tabY : ∀ p ∈ cs, isTab p.2 = true := fun p hp => List.any_eq_true.mpr ⟨p, hp, beq_self_eq_true _⟩
  have tabN : ∀ b, isTab b = true → ∃ p ∈ cs, b = p.2 := fun b z => by
    obtain ⟨p, hp, e⟩ := List.any_eq_true.mp z
    exact ⟨p, hp, (beq_iff_eq.mp e).symm⟩
  cases hk : K.lookup a with
  | some o =>
    have e := KX a o hk
    rw [ha] at e
    cases e
    have look : ∀ {b : Addr} {u : HO}, (if isTab b = true then some (HO.tbl #[]) else none) = some u → ∃ p ∈ cs, b = p.2 ∧ u = .tbl #[] := fun {b u} z => by
      by_cases h : isTab b = true
      · rw [if_pos h] at z
        obtain ⟨p, hp, q⟩ := tabN b h
        exact ⟨p, hp, q, (Option.some.inj z).symm⟩
      · rw [if_neg h] at z
        cases z
    refine go (fun b => if isTab b = true then some (.tbl #[]) else none) (.inr ⟨_, vs.toArray, _, hk, rfl, rfl, rfl, by rw [List.size_toArray, hi.length]; exact hl, by simpa using rv⟩) (fun p hp => if_pos (tabY p hp)) (fun b u z => ?_) fun b u z => .inr (look z)
    obtain ⟨p, hp, rfl, rfl⟩ := look z
    exact (tabs p hp).2.2
  | none =>
    have look : ∀ {b : Addr} {u : HO}, (if b = a then some (HO.frz { cls := .type "list", data := .seq vs.toArray } (.lst (ns.map V.int))) else if isTab b = true then some (HO.tbl #[]) else none) = some u → (b = a ∧ u = .frz { cls := .type "list", data := .seq vs.toArray } (.lst (ns.map V.int))) ∨ ∃ p ∈ cs, b = p.2 ∧ u = .tbl #[] := fun {b u} z => by
      by_cases h : b = a
      · rw [if_pos h] at z
        exact .inl ⟨h, (Option.some.inj z).symm⟩
      · rw [if_neg h] at z
        by_cases h2 : isTab b = true
        · rw [if_pos h2] at z
          obtain ⟨p, hp, q⟩ := tabN b h2
          exact .inr ⟨p, hp, q, (Option.some.inj z).symm⟩
        · rw [if_neg h2] at z
          cases z
    refine go (fun b => if b = a then some (.frz { cls := .type "list", data := .seq vs.toArray } (.lst (ns.map V.int))) else if isTab b = true then some (.tbl #[]) else none) (.inl (.inr ⟨_, if_pos rfl⟩)) (fun p hp => (if_neg fun z => isT p hp z.symm).trans (if_pos (tabY p hp))) (fun b u z => ?_) fun b u z => (look z).imp (fun y => ⟨y.1, hk, _, _, y.2⟩) id
    rcases look z with ⟨rfl, rfl⟩ | ⟨p, hp, rfl, rfl⟩
    · exact ⟨ha, by rw [List.length_map]; exact hl, vs, _, rv, ha⟩
    · exact (tabs p hp).2.2
end
end K0

set_option Elab.async false
set_option linter.all false
set_option maxRecDepth 100000
set_option maxHeartbeats 8000000
/-! What is told of a lot. -/
namespace K0
open PySem PySem.Spec L2
open PyProof.Rows hiding St
abbrev cas (ks : List Nat) : List Int := ks.map fun i => ((i : Nat) : Int)
/-! ### the web within a lot -/
theorem cas_mem {ks : List Nat} {k : Nat} : ((k : Nat) : Int) ∈ cas ks ↔ k ∈ ks := by
  unfold cas
  rw [List.mem_map]
  exact ⟨fun ⟨j, hj, e⟩ => by rw [show k = j by omega]; exact hj, fun h => ⟨k, h, rfl⟩⟩
theorem cas_idx : ∀ (ks : List Nat) (k : Nat), (cas ks).idxOf ((k : Nat) : Int) = ks.idxOf k
  | [], _ => rfl
  | j :: ks, k => by
    unfold cas
    rw [List.map_cons, List.idxOf_cons, List.idxOf_cons]
    have e : (((j : Nat) : Int) == ((k : Nat) : Int)) = (j == k) := by
      by_cases h : j = k
      · subst h; simp
      · have : ((j : Nat) : Int) ≠ ((k : Nat) : Int) := by omega
        rw [beq_false_of_ne h, beq_false_of_ne this]
    rw [e, show (List.map (fun i => ((i : Nat) : Int)) ks).idxOf ((k : Nat) : Int) = ks.idxOf k from cas_idx ks k]
theorem within_mem {L : List (Int × Int)} {n : Nat} (hB : Bel n L) {ks : List Nat} {q : Int × Int} : q ∈ withinL L (cas ks) ↔ ∃ a b : Nat, ((a : Int), (b : Int)) ∈ L ∧ a ∈ ks ∧ b ∈ ks ∧ q = (((ks.idxOf a : Nat) : Int), ((ks.idxOf b : Nat) : Int)) := by
  unfold withinL
  rw [List.mem_map]
  constructor
  · rintro ⟨⟨x, y⟩, h, rfl⟩
    obtain ⟨h1, h2⟩ := List.mem_filter.mp h
    have bq := hB _ h1
    obtain ⟨a, rfl⟩ : ∃ a : Nat, x = a := ⟨x.toNat, by have := bq.1; dsimp only at this; omega⟩
    obtain ⟨b, rfl⟩ : ∃ b : Nat, y = b := ⟨y.toNat, by have := bq.1; have := bq.2.1; dsimp only at *; omega⟩
    unfold both at h2
    rw [Bool.and_eq_true, decide_eq_true_eq, decide_eq_true_eq] at h2
    refine ⟨a, b, h1, cas_mem.mp h2.1, cas_mem.mp h2.2, ?_⟩
    unfold idx
    rw [cas_idx, cas_idx]
  · rintro ⟨a, b, h1, ha, hb, rfl⟩
    refine ⟨((a : Int), (b : Int)), List.mem_filter.mpr ⟨h1, ?_⟩, ?_⟩
    · unfold both
      rw [decide_eq_true (cas_mem.mpr ha), decide_eq_true (cas_mem.mpr hb)] <;> rfl
    · unfold idx
      rw [cas_idx, cas_idx]
theorem within_ren {L : List (Int × Int)} {n : Nat} (hB : Bel n L) {ks : List Nat} (p : ks.Pairwise (· < ·)) : Ren L (withinL L (cas ks)) ks := fun x y => by
  have go : ∀ x y : Nat, ((x : Int), (y : Int)) ∈ withinL L (cas ks) ↔ ∃ a b, ks[x]? = some a ∧ ks[y]? = some b ∧ ((a : Int), (b : Int)) ∈ L := fun x y => by
    rw [within_mem hB]
    constructor
    · rintro ⟨a, b, h1, ha, hb, e⟩
      have e1 := (Prod.mk.inj e).1
      have e2 := (Prod.mk.inj e).2
      rw [show x = ks.idxOf a by omega, show y = ks.idxOf b by omega]
      exact ⟨a, b, at_idx ha, at_idx hb, h1⟩
    · rintro ⟨a, b, ha, hb, h1⟩
      exact ⟨a, b, h1, List.mem_of_getElem? ha, List.mem_of_getElem? hb, by rw [idx_at p ha, idx_at p hb]⟩
  unfold Adj
  rw [go, go]
  constructor
  · rintro (⟨a, b, h1, h2, h3⟩ | ⟨a, b, h1, h2, h3⟩)
    · exact ⟨a, b, h1, h2, .inl h3⟩
    · exact ⟨b, a, h2, h1, .inr h3⟩
  · rintro ⟨a, b, h1, h2, h3 | h3⟩
    · exact .inl ⟨a, b, h1, h2, h3⟩
    · exact .inr ⟨b, a, h2, h1, h3⟩
theorem within_bel {L : List (Int × Int)} {n : Nat} (hB : Bel n L) {ks : List Nat} (p : ks.Pairwise (· < ·)) : Bel ks.length (withinL L (cas ks)) := fun q hq => by
  obtain ⟨a, b, h1, ha, hb, rfl⟩ := (within_mem hB).mp hq
  have bq := hB _ h1
  dsimp only at bq
  have := idx_mono p ha hb (by omega)
  have := idx_lt hb
  dsimp only
  omega
theorem within_srt {L : List (Int × Int)} {n : Nat} (hB : Bel n L) (hn : n ≤ 12) (hs : Srt L) {ks : List Nat} (p : ks.Pairwise (· < ·)) (lk : ks.length ≤ 12) : Srt (withinL L (cas ks)) := by
  unfold Srt withinL
  rw [List.pairwise_map]
  refine List.Pairwise.imp_of_mem (fun {q r} hq hr h => ?_) (List.Pairwise.filter _ hs)
  obtain ⟨q1, q2⟩ := List.mem_filter.mp hq
  obtain ⟨r1, r2⟩ := List.mem_filter.mp hr
  have bq := hB _ q1
  have br := hB _ r1
  obtain ⟨x, y⟩ := q
  obtain ⟨u, v⟩ := r
  dsimp only at bq br
  obtain ⟨a, rfl⟩ : ∃ a : Nat, x = a := ⟨x.toNat, by omega⟩
  obtain ⟨b, rfl⟩ : ∃ b : Nat, y = b := ⟨y.toNat, by omega⟩
  obtain ⟨c, rfl⟩ : ∃ c : Nat, u = c := ⟨u.toNat, by omega⟩
  obtain ⟨d, rfl⟩ : ∃ d : Nat, v = d := ⟨v.toNat, by omega⟩
  unfold both at q2 r2
  rw [Bool.and_eq_true, decide_eq_true_eq, decide_eq_true_eq] at q2 r2
  have ha := cas_mem.mp q2.1
  have hb := cas_mem.mp q2.2
  have hc := cas_mem.mp r2.1
  have hd := cas_mem.mp r2.2
  unfold cd at h ⊢
  dsimp only at h ⊢
  unfold idx
  rw [cas_idx, cas_idx, cas_idx, cas_idx]
  have la := idx_lt ha
  have lb := idx_lt hb
  have lc := idx_lt hc
  have ld := idx_lt hd
  rcases Nat.lt_trichotomy a c with z | z | z
  · have := idx_mono p ha hc z
    omega
  · subst z
    rcases Nat.lt_trichotomy b d with y | y | y
    · have := idx_mono p hb hd y
      omega
    · subst y
      exact Int.le_refl _
    · omega
  · omega
theorem within_few (L : List (Int × Int)) (ns : List Int) : (withinL L ns).length ≤ L.length := by
  unfold withinL
  rw [List.length_map]
  exact List.length_filter_le _ _
theorem within_gw {H : Hp} {w : Addr} {n : Nat} {L : List (Int × Int)} (hB : Bel n L) (hn : n ≤ 12) (hs : Srt L) (few : L.length ≤ 40) {ks : List Nat} (p : ks.Pairwise (· < ·)) (hk : ∀ i ∈ ks, i < n) (ne : ks ≠ []) (W : Web H w (cas ks).length (withinL L (cas ks))) : GW H w ks.length (withinL L (cas ks)) := by
  have l0 : 0 < ks.length := List.length_pos_iff.mpr ne
  have lk : ks.length ≤ n := by
    have := len_le (inc_nodup p) (m := List.range n) fun i hi => List.mem_range.mpr (hk i hi)
    rwa [List.length_range] at this
  refine ⟨?_, l0, by omega, within_bel hB p, within_srt hB hn hs p (by omega), Nat.le_trans (within_few _ _) few⟩
  have e : (cas ks).length = ks.length := List.length_map ..
  rw [e] at W
  exact W
/-! ### the rest of a lot -/
def restK (n : Nat) (ks : List Nat) : List Nat := (List.range n).filter fun i => !decide (i ∈ ks)
theorem restK_mem {n : Nat} {ks : List Nat} {i : Nat} : i ∈ restK n ks ↔ i < n ∧ i ∉ ks := by
  unfold restK
  rw [List.mem_filter, List.mem_range, Bool.not_eq_true', decide_eq_false_iff_not]
theorem restK_inc (n : Nat) (ks : List Nat) : (restK n ks).Pairwise (· < ·) := List.pairwise_lt_range.filter _
theorem restN_cas (n : Nat) (ks : List Nat) : restN n (cas ks) = cas (restK n ks) := by
  unfold restN restK iota cas
  rw [List.filter_map]
  refine congrArg _ (List.filter_congr fun i _ => ?_)
  show (!decide (((i : Nat) : Int) ∈ cas ks)) = !decide (i ∈ ks)
  rw [decide_eq_decide.mpr cas_mem]
theorem restM_lt {n : Nat} {ks : List Nat} (h : ∀ i ∈ ks, i < n) (p : ks.Pairwise (· < ·)) : restM n ks < 2 ^ n := xor_lt (Nat.sub_lt (Nat.two_pow_pos n) (by decide)) (mask_lt (inc_nodup p) h)
theorem restM_rest {n : Nat} {ks : List Nat} (h : ∀ i ∈ ks, i < n) (p : ks.Pairwise (· < ·)) (i : Nat) : (restM n ks).testBit i = true ↔ i ∈ restK n ks := by rw [restM_bit h (inc_nodup p), restK_mem]
theorem restK_len {n : Nat} {ks : List Nat} (h : ∀ i ∈ ks, i < n) (p : ks.Pairwise (· < ·)) : (restK n ks).length + ks.length = n := by
  have pm := List.filter_append_perm (fun i => decide (i ∈ ks)) (List.range n)
  have e : ((List.range n).filter fun i => decide (i ∈ ks)).length = ks.length := by
    refine Nat.le_antisymm (len_le (List.nodup_range.filter _) fun x hx => of_decide_eq_true (List.mem_filter.mp hx).2) (len_le (inc_nodup p) fun x hx => List.mem_filter.mpr ⟨List.mem_range.mpr (h x hx), decide_eq_true hx⟩)
  have := pm.length_eq
  rw [List.length_append, e, List.length_range] at this
  unfold restK
  omega
/-- parts beside a lot, renamed, are the parts of the web without it -/
theorem IsParts.ren {L : List (Int × Int)} {n m : Nat} (hB : Bel n L) {ks : List Nat} (p : ks.Pairwise (· < ·)) (hm : ∀ i, m.testBit i = true ↔ i ∈ ks) {ys : List (List Nat)} (h : IsParts L m ys) : IsParts (withinL L (cas ks)) (2 ^ ks.length - 1) (ys.map fun c => c.map ks.idxOf) :=
  ⟨h.cls.ren p (within_ren hB p) hm, h.cls.ren_hd p hm h.asc⟩
theorem idx_range : ∀ {ks : List Nat}, ks.Pairwise (· < ·) → ks.map ks.idxOf = List.range ks.length := fun {ks} p => by
  refine List.ext_getElem (by simp) fun i h1 h2 => ?_
  rw [List.getElem_map, List.getElem_range]
  rw [List.length_map] at h1
  exact idx_at p (List.getElem?_eq_getElem h1)
/-- the web within a part is joined -/
theorem IsParts.part {L : List (Int × Int)} {n m : Nat} (hB : Bel n L) {xs : List (List Nat)} (C : Cls L m xs) {c : List Nat} (hc : c ∈ xs) : IsParts (withinL L (cas c)) (2 ^ c.length - 1) [List.range c.length] := by
  have p := C.inc c hc
  have h : IsParts L (maskN c) [c] := ⟨C.alone hc fun i => mask_bit (inc_nodup p) i, List.pairwise_singleton ..⟩
  have := h.ren hB p fun i => mask_bit (inc_nodup p) i
  rw [List.map_singleton, idx_range p] at this
  exact this
/-! ### cuts -/
theorem cut_none {L : List (Int × Int)} {n : Nat} (hB : Bel n L) {ks : List Nat} : cutN L (cas ks) = [] ↔ ∀ x y, Adj L x y → (x ∈ ks ↔ y ∈ ks) := by
  have e : cutN L (cas ks) = [] ↔ ∀ i, i < L.length → crs L (cas ks) i = false := by
    show ((List.range L.length).filter (crs L (cas ks))).map _ = [] ↔ _
    rw [List.map_eq_nil_iff, List.filter_eq_nil_iff]
    exact ⟨fun h i hi => by have := h i (List.mem_range.mpr hi); cases q : crs L (cas ks) i <;> simp_all, fun h i hi q => by rw [h i (List.mem_range.mp hi)] at q; cases q⟩
  rw [e]
  have cr : ∀ (i : Nat) (a b : Nat), L[i]? = some ((a : Int), (b : Int)) → (crs L (cas ks) i = false ↔ (a ∈ ks ↔ b ∈ ks)) := fun i a b h => by
    rw [crs_at h]
    show ((decide (((a : Nat) : Int) ∈ cas ks)) != (decide (((b : Nat) : Int) ∈ cas ks))) = false ↔ _
    rw [show decide (((a : Nat) : Int) ∈ cas ks) = decide (a ∈ ks) from decide_eq_decide.mpr cas_mem, show decide (((b : Nat) : Int) ∈ cas ks) = decide (b ∈ ks) from decide_eq_decide.mpr cas_mem]
    by_cases ha : a ∈ ks <;> by_cases hb : b ∈ ks <;> simp [ha, hb]
  constructor
  · intro h x y a
    rcases a with a | a
    · obtain ⟨i, hi⟩ := List.getElem?_of_mem a
      exact (cr i x y hi).mp (h i (List.getElem?_eq_some_iff.mp hi).1)
    · obtain ⟨i, hi⟩ := List.getElem?_of_mem a
      exact ((cr i y x hi).mp (h i (List.getElem?_eq_some_iff.mp hi).1)).symm
  · intro h i hi
    have g := List.getElem?_eq_getElem hi
    have bq := hB _ (List.getElem_mem hi)
    generalize L[i] = q at g bq
    obtain ⟨x, y⟩ := q
    dsimp only at bq
    obtain ⟨a, rfl⟩ : ∃ a : Nat, x = a := ⟨x.toNat, by omega⟩
    obtain ⟨b, rfl⟩ : ∃ b : Nat, y = b := ⟨y.toNat, by omega⟩
    exact (cr i a b g).mpr (h a b (.inl (List.mem_of_getElem? g)))
theorem adj_bel {L : List (Int × Int)} {n : Nat} (hB : Bel n L) {x y : Nat} (a : Adj L x y) : (2 ^ n - 1).testBit x = true ∧ (2 ^ n - 1).testBit y = true := by
  rw [full_bit, full_bit, decide_eq_true_eq, decide_eq_true_eq]
  rcases a with a | a
  · have := hB _ a; dsimp only at this; omega
  · have := hB _ a; dsimp only at this; omega
/-! ### data -/
theorem empty_text {ds : List PyData} : (PyData.tuple ds).shown = Str.ofString "()" ↔ ds = [] := by
  constructor
  · intro h
    have e : (PyData.tuple ds).shown = tupleText (PyData.shownAll ds) := by simp only [PyData.shown]
    rw [e] at h
    have hl := congrArg Str.length h
    have l2 : (Str.ofString "()").length = 2 := by decide +kernel
    rw [l2] at hl
    match ds with
    | [] => rfl
    | [x] =>
      have : (tupleText [PyData.shown x]).length = (PyData.shown x).length + 3 := by
        rw [tupleText_one]
        simp only [Str.length_append]
        show 1 + _ + 2 = _
        omega
      have e2 : PyData.shownAll [x] = [PyData.shown x] := by simp only [PyData.shownAll]
      rw [e2, this] at hl
      omega
    | x :: y :: r =>
      have := piled_le_tupleText (PyData.shownAll (x :: y :: r))
      simp only [PyData.shownAll, piled, List.map_cons, List.sum_cons] at this hl
      omega
  · rintro rfl
    decide +kernel
end K0

set_option Elab.async false
set_option linter.all false
set_option maxRecDepth 100000
set_option maxHeartbeats 8000000
/-! What is told of a lot, by the law. -/
namespace K0
open PySem PySem.Spec L2
open PyProof.Rows hiding St
open KR (TupX tobj)
def partsD (ys : List (List Nat)) : PyData := .tuple (ys.map rowD)
theorem row_dv {H : Hp} {t : Addr} {r : List Nat} (h : TT H t (r.map natV)) : DV H Any (.ref t) (rowD r) := .tup (xs := r.map natV) trivial h (by rw [List.length_map, List.length_map, List.length_map]) fun i v d z1 z2 => by
  rw [natV_ints] at z1
  exact dv_ints _ i v d z1 z2
theorem TupsAt.dv {H : Hp} {t : Addr} {us : List V} {ys : List (List Nat)} (h : TT H t us) (p : TupsAt H us ys) : DV H Any (.ref t) (partsD ys) := .tup trivial h (by rw [List.length_map, p.len]) fun i v d z1 z2 => by
  obtain ⟨a, r, rfl, e, ht⟩ := p.get z1
  rw [List.getElem?_map, e] at z2
  cases z2
  exact row_dv ht
theorem row_tame {r : List Nat} (h : ∀ i ∈ r, i < 12) (p : r.Pairwise (· < ·)) : Tame 0 (rowD r) := tame_lot (n := 12) (nat_lot h p) (by decide)
theorem parts_tame {L : List (Int × Int)} {n : Nat} {ys : List (List Nat)} (C : Cls L (2 ^ n - 1) ys) (hn : n ≤ 12) : Tame 3 (partsD ys) := by
  have := C.few
  refine (tame_big (fun d hd => ?_) (by rw [List.length_map]; omega)).1
  obtain ⟨r, hr, rfl⟩ := List.mem_map.mp hd
  exact row_tame (fun i hi => by have := (C.short hr).2 i hi; omega) (C.inc r hr)
theorem fit5 {ds : List PyData} (h : ∀ d ∈ ds, Tame 3 d) (l : ds.length ≤ 5) : Fit (.tuple ds) := by
  obtain ⟨h1, h2, h3, h4⟩ := all_of h
  have b3 : bb 3 = 1280 := rfl
  rw [b3] at h4
  have q : ds.length * (1280 + 1) ≤ 5 * (1280 + 1) := Nat.mul_le_mul_right _ l
  exact fit_of (by simp only [PyData.showable, h1]) (by simp only [PyData.leavesShort, h2]) (by simp only [PyData.depth]; omega) (by simp only [PyData.bulk]; omega)
theorem fit1 {d : PyData} (h : Tame 3 d) : Fit d := by
  have b3 : bb 3 = 1280 := rfl
  exact fit_of h.sh h.lv (by have := h.dp; omega) (by have := h.bk; omega)
theorem bl_tame (b : Bool) (k : Nat) : Tame k (.bool b) := tame_plain (.inl ⟨b, rfl⟩) k
theorem it1 {H : Hp} {a : V} {b : PyData} (h1 : DV H Any a b) : ∀ (i : Nat) (v : V) (e : PyData), [a][i]? = some v → [b][i]? = some e → DV H Any v e := fun i v e z1 z2 => match i, z1, z2 with
  | 0, rfl, rfl => h1
  | n + 1, z1, _ => by simp at z1
theorem it2 {H : Hp} {a c : V} {b d : PyData} (h1 : DV H Any a b) (h2 : DV H Any c d) : ∀ (i : Nat) (v : V) (e : PyData), [a, c][i]? = some v → [b, d][i]? = some e → DV H Any v e := fun i v e z1 z2 => match i, z1, z2 with
  | 0, rfl, rfl => h1
  | n + 1, z1, z2 => it1 h2 n v e (by simpa using z1) (by simpa using z2)
theorem it3 {H : Hp} {a c u : V} {b d w : PyData} (h1 : DV H Any a b) (h2 : DV H Any c d) (h3 : DV H Any u w) : ∀ (i : Nat) (v : V) (e : PyData), [a, c, u][i]? = some v → [b, d, w][i]? = some e → DV H Any v e := fun i v e z1 z2 => match i, z1, z2 with
  | 0, rfl, rfl => h1
  | n + 1, z1, z2 => it2 h2 h3 n v e (by simpa using z1) (by simpa using z2)
theorem it4 {H : Hp} {a c u x : V} {b d w y : PyData} (h1 : DV H Any a b) (h2 : DV H Any c d) (h3 : DV H Any u w) (h4 : DV H Any x y) : ∀ (i : Nat) (v : V) (e : PyData), [a, c, u, x][i]? = some v → [b, d, w, y][i]? = some e → DV H Any v e := fun i v e z1 z2 => match i, z1, z2 with
  | 0, rfl, rfl => h1
  | n + 1, z1, z2 => it3 h2 h3 h4 n v e (by simpa using z1) (by simpa using z2)
theorem nKd {ds : List PyData} (kvs) : PyData.tuple ds ≠ .dict kvs := fun z => nomatch z
theorem ne_sm (v : V) : (!decide (v = v)) = false := by simp
def spLotTold : Sp := fun vs H Q _ => ∃ (w tp a : Addr) (n : Nat) (L : List (Int × Int)) (us : List V) (xs : List (List Nat)) (ks : List Nat), vs = [.ref w, .ref tp, .ref a] ∧ GW H w n L ∧ H tp = some (.tup us) ∧ TupsK H us xs ∧ IsParts L (2 ^ n - 1) xs ∧
  TT H a (ks.map natV) ∧ (∀ i ∈ ks, i < n) ∧ ks.Pairwise (· < ·) ∧ ∀ H', Same H H' → Q (.bl true) H'
/-- the names of the first comprehension -/
def lotSc : Scope := { kind := .function, names := [(".0", .local), ("_law_part", .local), ("len", .globalImplicit), ("_law_lot_here", .cell)], isGenerator := false, isCoroutine := false }
section
variable {P : Program} {w0 : World} {K : PySem.W.Frag} {mg : Str → Option Value} {base : Heap}
abbrev nLotTold : List Str := ["_law_web_here", "_law_parts_here", "_law_lot_here", "_law_broken", "_law_rest_here", "_law_below", "_law_some", "_law_told", "_law_odd", "_law_part", "_law_place"]
end
end K0

/-! Threefold webs. -/
namespace K0
/-- the places of m hold together -/
def Conn (L : List (Int × Int)) (m : Nat) : Prop := (∃ r, m.testBit r = true) ∧ ∀ a b, m.testBit a = true → m.testBit b = true → Rch L m a b
theorem Cls.nodup {L : List (Int × Int)} {m : Nat} {ys : List (List Nat)} (C : Cls L m ys) : ys.Nodup := by
  refine List.Pairwise.imp_of_mem (fun {x y} hx hy h z => ?_) C.dis
  subst z
  cases q : x with
  | nil => exact C.ne hx q
  | cons i t => exact h i (by rw [q]; exact List.mem_cons_self ..) (by rw [q]; exact List.mem_cons_self ..)
theorem Cls.conn {L : List (Int × Int)} {m : Nat} {ys : List (List Nat)} (C : Cls L m ys) : ys.length = 1 ↔ Conn L m := by
  constructor
  · intro h
    obtain ⟨c, rfl⟩ := List.length_eq_one_iff.mp h
    have hc : c ∈ [c] := List.mem_singleton.mpr rfl
    refine ⟨?_, fun a b ha hb => ?_⟩
    · obtain ⟨r, hr, _⟩ := C.cls c hc
      exact ⟨r, hr⟩
    · obtain ⟨d, hd', ad⟩ := C.all a ha
      obtain ⟨e, he, be⟩ := C.all b hb
      rw [List.mem_singleton.mp hd'] at ad
      rw [List.mem_singleton.mp he] at be
      exact (C.one hc ad b).mp be
  · rintro ⟨⟨r, hr⟩, h⟩
    obtain ⟨c, hc, rc⟩ := C.all r hr
    have all : ∀ d ∈ ys, d = c := fun d hd' => by
      obtain ⟨i, t, e⟩ : ∃ i t, d = i :: t := by
        cases q : d with
        | nil => exact absurd q (C.ne hd')
        | cons i t => exact ⟨i, t, rfl⟩
      have hi : i ∈ d := by rw [e]; exact List.mem_cons_self ..
      have bi : m.testBit i = true := ((C.one hd' hi i).mp hi).bit
      have ci : i ∈ c := (C.one hc rc i).mpr (h r i hr bi)
      have : ∀ {zs : List (List Nat)}, (zs.Pairwise fun a b => ∀ i, i ∈ a → i ∉ b) → d ∈ zs → c ∈ zs → d = c := fun {zs} => by
        induction zs with
        | nil => intro _ z; cases z
        | cons x zs ih =>
          intro p h1 h2
          obtain ⟨p1, p2⟩ := List.pairwise_cons.mp p
          rcases List.mem_cons.mp h1 with e1 | h1
          · rcases List.mem_cons.mp h2 with e2 | h2
            · rw [e1, e2]
            · exact absurd ci (p1 c h2 i (e1 ▸ hi))
          · rcases List.mem_cons.mp h2 with e2 | h2
            · exact absurd hi (p1 d h1 i (e2 ▸ ci))
            · exact ih p2 h1 h2
      exact this C.dis hd' hc
    have nd := C.nodup
    match ys, all, nd, hc with
    | [x], _, _, _ => rfl
    | x :: y :: zs, all, nd, _ =>
      have h1 := all x (List.mem_cons_self ..)
      have h2 := all y (List.mem_cons_of_mem _ (List.mem_cons_self ..))
      exact absurd (by rw [h1, h2]; exact List.mem_cons_self ..) (List.nodup_cons.mp nd).1
    | [], _, _, hc => cases hc
/-- what is left of n places without ks -/
def leftM (n : Nat) (ks : List Nat) : Nat := (2 ^ n - 1) ^^^ maskN ks
/-- at most two places, in order -/
structure Few2 (n : Nat) (ks : List Nat) : Prop where
  few : ks.length ≤ 2
  inc : ks.Pairwise (· < ·)
  lt : ∀ i ∈ ks, i < n
def TF (n : Nat) (L : List (Int × Int)) : Prop := 4 ≤ n ∧ ∀ ks, Few2 n ks → Conn L (leftM n ks)
/-- all of them -/
def lots2 (n : Nat) : List (List Nat) := [[]] ++ (List.range n).map (fun i => [i]) ++ (List.range n).flatMap fun a => ((List.range n).filter fun b => decide (a < b)).map fun b => [a, b]
theorem mem_lots2 {n : Nat} {ks : List Nat} : ks ∈ lots2 n ↔ Few2 n ks := by
  unfold lots2
  rw [List.mem_append, List.mem_append, List.mem_singleton, List.mem_map, List.mem_flatMap]
  constructor
  · rintro ((rfl | ⟨i, hi, rfl⟩) | ⟨a, ha, h⟩)
    · exact ⟨Nat.zero_le _, .nil, fun _ z => nomatch z⟩
    · exact ⟨by simp, List.pairwise_singleton .., fun j hj => by rw [List.mem_singleton.mp hj]; exact List.mem_range.mp hi⟩
    · obtain ⟨b, hb, rfl⟩ := List.mem_map.mp h
      obtain ⟨hb1, hb2⟩ := List.mem_filter.mp hb
      have ab := of_decide_eq_true hb2
      refine ⟨by simp, List.pairwise_cons.mpr ⟨fun j hj => by rw [List.mem_singleton.mp hj]; exact ab, List.pairwise_singleton ..⟩, fun j hj => ?_⟩
      rcases List.mem_cons.mp hj with rfl | hj
      · exact List.mem_range.mp ha
      · rw [List.mem_singleton.mp hj]; exact List.mem_range.mp hb1
  · intro h
    match ks, h with
    | [], _ => exact .inl (.inl rfl)
    | [i], h => exact .inl (.inr ⟨i, List.mem_range.mpr (h.lt i (List.mem_cons_self ..)), rfl⟩)
    | [a, b], h =>
      have ab := (List.pairwise_cons.mp h.inc).1 b (List.mem_cons_self ..)
      exact .inr ⟨a, List.mem_range.mpr (h.lt a (List.mem_cons_self ..)), List.mem_map.mpr ⟨b, List.mem_filter.mpr ⟨List.mem_range.mpr (h.lt b (by simp)), decide_eq_true ab⟩, rfl⟩⟩
    | a :: b :: c :: t, h => exact absurd h.few (by simp)
theorem tf_lots {n : Nat} {L : List (Int × Int)} : TF n L ↔ 4 ≤ n ∧ ∀ ks ∈ lots2 n, Conn L (leftM n ks) := by
  unfold TF
  exact ⟨fun h => ⟨h.1, fun ks hk => h.2 ks (mem_lots2.mp hk)⟩, fun h => ⟨h.1, fun ks hk => h.2 ks (mem_lots2.mpr hk)⟩⟩
theorem Few2.nodup {n : Nat} {ks : List Nat} (h : Few2 n ks) : ks.Nodup := inc_nodup h.inc
theorem Few2.mask {n : Nat} {ks : List Nat} (h : Few2 n ks) : maskN ks < 2 ^ n := mask_lt h.nodup h.lt
theorem left_bit {n : Nat} {ks : List Nat} (lt : ∀ i ∈ ks, i < n) (nd : ks.Nodup) (i : Nat) : (leftM n ks).testBit i = true ↔ i < n ∧ i ∉ ks := by
  unfold leftM
  rw [Nat.testBit_xor, full_bit]
  have e := mask_bit nd i
  by_cases hk : i ∈ ks
  · rw [e.mpr hk, decide_eq_true (lt i hk)]
    simp [hk]
  · have : (maskN ks).testBit i = false := by
      cases q : (maskN ks).testBit i with
      | false => rfl
      | true => exact absurd (e.mp q) hk
    rw [this, Bool.xor_false, decide_eq_true_eq]
    exact ⟨fun z => ⟨z, hk⟩, fun z => z.1⟩
/-! ### renamed, without double ties -/
theorem Rch.map {L M : List (Int × Int)} {m m' : Nat} {f : Nat → Nat} (ha : ∀ x y, m.testBit x = true → m.testBit y = true → Adj L x y → Adj M (f x) (f y)) (hb : ∀ x, m.testBit x = true → m'.testBit (f x) = true) {a b : Nat} (h : Rch L m a b) : Rch M m' (f a) (f b) := by
  induction h with
  | refl z => exact .refl (hb _ z)
  | step q ad z ih => exact .step ih (ha _ _ q.bit z ad) (hb _ z)
/-- a web with other names: what one tells the other tells -/
structure Iso (n : Nat) (L M : List (Int × Int)) (f g : Nat → Nat) : Prop where
  fl : ∀ x, x < n → f x < n
  gl : ∀ x, x < n → g x < n
  fg : ∀ x, x < n → f (g x) = x
  gf : ∀ x, x < n → g (f x) = x
  to : ∀ x y, x < n → y < n → Adj L x y → Adj M (f x) (f y)
  fro : ∀ x y, x < n → y < n → Adj M x y → Adj L (g x) (g y)
theorem Iso.symm {n : Nat} {L M : List (Int × Int)} {f g : Nat → Nat} (h : Iso n L M f g) : Iso n M L g f := ⟨h.gl, h.fl, h.gf, h.fg, h.fro, h.to⟩
/-- the places that f makes of ks, in order -/
def imgs (n : Nat) (g : Nat → Nat) (ks : List Nat) : List Nat := (List.range n).filter fun y => decide (g y ∈ ks)
theorem Iso.imgs {n : Nat} {L M : List (Int × Int)} {f g : Nat → Nat} (h : Iso n L M f g) {ks : List Nat} (k : Few2 n ks) : Few2 n (K0.imgs n g ks) := by
  refine ⟨?_, List.pairwise_lt_range.filter _, fun i hi => List.mem_range.mp (List.mem_filter.mp hi).1⟩
  have nd : (K0.imgs n g ks).Nodup := List.nodup_range.filter _
  have nm : ((K0.imgs n g ks).map g).Nodup := by
    unfold List.Nodup
    rw [List.pairwise_map]
    refine List.Pairwise.imp_of_mem (fun {a b} ha hb ne e => ne ?_) nd
    have la := List.mem_range.mp (List.mem_filter.mp ha).1
    have lb := List.mem_range.mp (List.mem_filter.mp hb).1
    rw [← h.fg a la, ← h.fg b lb, e]
  have := len_le nm (m := ks) fun x hx => by
    obtain ⟨y, hy, rfl⟩ := List.mem_map.mp hx
    exact of_decide_eq_true (List.mem_filter.mp hy).2
  rw [List.length_map] at this
  exact Nat.le_trans this k.few
theorem Iso.conn {n : Nat} {L M : List (Int × Int)} {f g : Nat → Nat} (h : Iso n L M f g) {ks : List Nat} (k : Few2 n ks) (c : Conn M (leftM n (K0.imgs n g ks))) : Conn L (leftM n ks) := by
  have k2 := h.imgs k
  have b1 := left_bit k.lt k.nodup
  have b2 := left_bit k2.lt k2.nodup
  have m2 : ∀ y, y ∈ K0.imgs n g ks ↔ y < n ∧ g y ∈ ks := fun y => by
    unfold K0.imgs
    rw [List.mem_filter, List.mem_range, decide_eq_true_eq]
  have go : ∀ x, (leftM n ks).testBit x = true → (leftM n (K0.imgs n g ks)).testBit (f x) = true := fun x hx => by
    obtain ⟨x1, x2⟩ := (b1 x).mp hx
    refine (b2 (f x)).mpr ⟨h.fl x x1, fun z => x2 ?_⟩
    have := ((m2 _).mp z).2
    rwa [h.gf x x1] at this
  have back : ∀ y, (leftM n (K0.imgs n g ks)).testBit y = true → (leftM n ks).testBit (g y) = true := fun y hy => by
    obtain ⟨y1, y2⟩ := (b2 y).mp hy
    exact (b1 (g y)).mpr ⟨h.gl y y1, fun z => y2 ((m2 y).mpr ⟨y1, z⟩)⟩
  obtain ⟨⟨r, hr⟩, c⟩ := c
  refine ⟨⟨g r, back r hr⟩, fun a b ha hb => ?_⟩
  have q := c (f a) (f b) (go a ha) (go b hb)
  have := q.map (f := g) (M := L) (m' := leftM n ks) (fun x y hx hy ad => h.fro x y ((b2 x).mp hx).1 ((b2 y).mp hy).1 ad) back
  rwa [h.gf a ((b1 a).mp ha).1, h.gf b ((b1 b).mp hb).1] at this
theorem Iso.tf {n : Nat} {L M : List (Int × Int)} {f g : Nat → Nat} (h : Iso n L M f g) : TF n L ↔ TF n M :=
  ⟨fun t => ⟨t.1, fun ks k => h.symm.conn k (t.2 _ (h.symm.imgs k))⟩, fun t => ⟨t.1, fun ks k => h.conn k (t.2 _ (h.imgs k))⟩⟩
/-- ties met twice change nothing -/
theorem TF.adj {n : Nat} {L M : List (Int × Int)} (h : ∀ x y, Adj L x y ↔ Adj M x y) : TF n L ↔ TF n M :=
  Iso.tf (f := id) (g := id) ⟨fun _ z => z, fun _ z => z, fun _ _ => rfl, fun _ _ => rfl, fun x y _ _ a => (h x y).mp a, fun x y _ _ a => (h x y).mpr a⟩
end K0

/-! Parts by labels. -/
namespace K0
/-- the label of a place -/
def lb (ns : List Nat) (x : Nat) : Nat := ns.getD x 0
theorem lb_at {ns : List Nat} {x : Nat} (h : x < ns.length) : ns[x]? = some (lb ns x) := by
  unfold lb
  rw [List.getD_eq_getElem?_getD, List.getElem?_eq_getElem h] <;> rfl
theorem lb_map {ns : List Nat} {x : Nat} (h : x < ns.length) (f : Nat → Nat) : lb (ns.map f) x = f (lb ns x) := by
  unfold lb
  rw [List.getD_eq_getElem?_getD, List.getD_eq_getElem?_getD, List.getElem?_map, List.getElem?_eq_getElem h] <;> rfl
theorem lb_range {n x : Nat} (h : x < n) : lb (List.range n) x = x := by
  unfold lb
  rw [List.getD_eq_getElem?_getD, List.getElem?_range h] <;> rfl
structure Lab (L : List (Int × Int)) (n : Nat) (gone ns : List Nat) : Prop where
  len : ns.length = n
  own : ∀ x, x < n → x ∈ gone → lb ns x = x
  out : ∀ x, x < n → x ∉ gone → lb ns x < n ∧ lb ns x ∉ gone
  iff : ∀ x y, x < n → y < n → x ∉ gone → y ∉ gone → (lb ns x = lb ns y ↔ Rch L (leftM n gone) x y)
section
variable {L : List (Int × Int)} {n : Nat} {gone ns : List Nat}
theorem Lab.start (lt : ∀ i ∈ gone, i < n) (nd : gone.Nodup) : Lab [] n gone (List.range n) := by
  refine ⟨List.length_range, fun x hx _ => lb_range hx, fun x hx h => by rw [lb_range hx]; exact ⟨hx, h⟩, fun x y hx hy gx gy => ?_⟩
  rw [lb_range hx, lb_range hy]
  constructor
  · rintro rfl
    exact .refl ((left_bit lt nd x).mpr ⟨hx, gx⟩)
  · intro h
    refine (h.closed (S := fun z => z = x) rfl fun b c _ a _ => ?_).symm
    unfold Adj at a
    simp at a
theorem Rch.skip {a b x y m : Nat} (h : ¬ (m.testBit a = true ∧ m.testBit b = true)) : Rch (L ++ [((a : Int), (b : Int))]) m x y ↔ Rch L m x y := by
  constructor
  · intro r
    refine (r.closed (S := fun z => Rch L m x z) (.refl r.root) fun u v hu ad hv => ?_)
    rcases adj_snocN.mp ad with z | ⟨rfl, rfl⟩ | ⟨rfl, rfl⟩
    · exact .step hu z hv
    · exact absurd ⟨hu.bit, hv⟩ h
    · exact absurd ⟨hv, hu.bit⟩ h
  · exact fun r => r.ties fun u v z => adj_snocN.mpr (.inl z)
/-- a tie that joins nothing -/
theorem Lab.stay (B : Lab L n gone ns) (lt : ∀ i ∈ gone, i < n) (nd : gone.Nodup) {a b : Nat} (ha : a < n) (hb : b < n) (h : lb ns a = lb ns b ∨ a ∈ gone ∨ b ∈ gone) : Lab (L ++ [((a : Int), (b : Int))]) n gone ns := by
  refine ⟨B.len, B.own, B.out, fun x y hx hy gx gy => (B.iff x y hx hy gx gy).trans ?_⟩
  by_cases g : a ∈ gone ∨ b ∈ gone
  · refine (Rch.skip fun z => ?_).symm
    rcases g with g | g
    · exact ((left_bit lt nd a).mp z.1).2 g
    · exact ((left_bit lt nd b).mp z.2).2 g
  · have ga : a ∉ gone := fun z => g (.inl z)
    have gb : b ∉ gone := fun z => g (.inr z)
    have e : lb ns a = lb ns b := by
      rcases h with h | h
      · exact h
      · exact absurd h g
    have r := (B.iff a b ha hb ga gb).mp e
    rw [rch_snoc ((left_bit lt nd a).mpr ⟨ha, ga⟩) ((left_bit lt nd b).mpr ⟨hb, gb⟩)]
    exact ⟨.inl, fun z => z.elim id fun z => z.elim (fun z => (z.1.trans r).trans z.2) fun z => (z.1.trans r.symm).trans z.2⟩
/-- a tie that joins two parts -/
theorem Lab.join (B : Lab L n gone ns) (lt : ∀ i ∈ gone, i < n) (nd : gone.Nodup) {a b : Nat} (ha : a < n) (hb : b < n) (ga : a ∉ gone) (gb : b ∉ gone) :
    Lab (L ++ [((a : Int), (b : Int))]) n gone (ns.map fun x => if x = lb ns b then lb ns a else x) := by
  have oa := B.out a ha ga
  have ob := B.out b hb gb
  have lx : ∀ x, x < n → lb (ns.map fun x => if x = lb ns b then lb ns a else x) x = if lb ns x = lb ns b then lb ns a else lb ns x := fun x hx => lb_map (by rw [B.len]; exact hx) _
  refine ⟨by rw [List.length_map]; exact B.len, fun x hx gx => ?_, fun x hx gx => ?_, fun x y hx hy gx gy => ?_⟩
  · rw [lx x hx, B.own x hx gx, if_neg (show ¬ x = lb ns b from fun z => ob.2 (z ▸ gx))]
  · rw [lx x hx]
    split
    · exact oa
    · exact B.out x hx gx
  · rw [lx x hx, lx y hy, rch_snoc ((left_bit lt nd a).mpr ⟨ha, ga⟩) ((left_bit lt nd b).mpr ⟨hb, gb⟩)]
    have xy := B.iff x y hx hy gx gy
    have xa := B.iff x a hx ha gx ga
    have xb := B.iff x b hx hb gx gb
    have ay := B.iff a y ha hy ga gy
    have by' := B.iff b y hb hy gb gy
    rw [← xy, ← xa, ← xb, ← ay, ← by']
    by_cases h1 : lb ns x = lb ns b
    · rw [if_pos h1]
      by_cases h2 : lb ns y = lb ns b
      · rw [if_pos h2]
        exact ⟨fun _ => .inl (h1.trans h2.symm), fun _ => rfl⟩
      · rw [if_neg h2]
        constructor
        · exact fun z => .inr (.inr ⟨h1, z⟩)
        · rintro (z | ⟨z, w⟩ | ⟨z, w⟩)
          · exact absurd (z.symm.trans h1) h2
          · exact absurd w.symm h2
          · exact w
    · rw [if_neg h1]
      by_cases h2 : lb ns y = lb ns b
      · rw [if_pos h2]
        constructor
        · exact fun z => .inr (.inl ⟨z, h2.symm⟩)
        · rintro (z | ⟨z, w⟩ | ⟨z, w⟩)
          · exact absurd (z.trans h2) h1
          · exact z
          · exact absurd z h1
      · rw [if_neg h2]
        constructor
        · exact .inl
        · rintro (z | ⟨z, w⟩ | ⟨z, w⟩)
          · exact z
          · exact absurd w.symm h2
          · exact absurd z h1
/-- the least place of its part -/
def isRep (gone ns : List Nat) (f : Nat) : Bool := !decide (f ∈ gone) && decide (ns.idxOf (lb ns f) = f)
def clsOf (n : Nat) (ns : List Nat) (f : Nat) : List Nat := (List.range n).filter fun p => decide (lb ns p = lb ns f)
theorem rep_least (hl : ns.length = n) {f p : Nat} (hf : ns.idxOf (lb ns f) = f) (hp : p < n) (e : lb ns p = lb ns f) : f ≤ p := by
  rcases Nat.lt_or_ge p f with z | z
  · exfalso
    have h := lb_at (ns := ns) (x := p) (by omega)
    rw [e] at h
    have hm : lb ns f ∈ ns := List.mem_of_getElem? h
    have h2 : p < ns.idxOf (lb ns f) := by rw [hf]; exact z
    have := List.not_of_lt_findIdx (p := fun x => x == lb ns f) (xs := ns) (i := p) h2
    have e3 : ns[p]'(by omega) = lb ns f := by
      have := (List.getElem?_eq_some_iff.mp h).2
      exact this
    rw [e3] at this
    simp at this
  · exact z
theorem Lab.cls (B : Lab L n gone ns) (lt : ∀ i ∈ gone, i < n) (nd : gone.Nodup) :
    Cls L (leftM n gone) (((List.range n).filter (isRep gone ns)).map (clsOf n ns)) ∧ (((List.range n).filter (isRep gone ns)).map (clsOf n ns)).Pairwise fun a b => hd a < hd b := by
  have mem : ∀ f, f < n → f ∉ gone → ∀ p, p ∈ clsOf n ns f ↔ Rch L (leftM n gone) f p := fun f hf gf p => by
    unfold clsOf
    rw [List.mem_filter, List.mem_range, decide_eq_true_eq]
    constructor
    · rintro ⟨hp, e⟩
      have gp : p ∉ gone := fun z => by
        rw [B.own p hp z] at e
        exact (B.out f hf gf).2 (e ▸ z)
      exact (B.iff f p hf hp gf gp).mp e.symm
    · intro r
      obtain ⟨hp, gp⟩ := (left_bit lt nd p).mp r.bit
      exact ⟨hp, ((B.iff f p hf hp gf gp).mpr r).symm⟩
  have reps : ∀ f ∈ (List.range n).filter (isRep gone ns), f < n ∧ f ∉ gone ∧ ns.idxOf (lb ns f) = f := fun f hf => by
    obtain ⟨h1, h2⟩ := List.mem_filter.mp hf
    unfold isRep at h2
    rw [Bool.and_eq_true, Bool.not_eq_true', decide_eq_false_iff_not, decide_eq_true_eq] at h2
    exact ⟨List.mem_range.mp h1, h2.1, h2.2⟩
  have head : ∀ f, f < n → ns.idxOf (lb ns f) = f → hd (clsOf n ns f) = f := fun f hf hi => by
    have fm : f ∈ clsOf n ns f := List.mem_filter.mpr ⟨List.mem_range.mpr hf, decide_eq_true rfl⟩
    have inc : (clsOf n ns f).Pairwise (· < ·) := List.pairwise_lt_range.filter _
    have least : ∀ p ∈ clsOf n ns f, f ≤ p := fun p hp => by
      obtain ⟨h1, h2⟩ := List.mem_filter.mp hp
      exact rep_least B.len hi (List.mem_range.mp h1) (of_decide_eq_true h2)
    cases q : clsOf n ns f with
    | nil => rw [q] at fm; cases fm
    | cons x t =>
      rw [q] at fm inc least
      show x = f
      rcases List.mem_cons.mp fm with z | z
      · exact z.symm
      · have := (List.pairwise_cons.mp inc).1 f z
        have := least x (List.mem_cons_self ..)
        omega
  have asc : ((List.range n).filter (isRep gone ns)).Pairwise (· < ·) := List.pairwise_lt_range.filter _
  refine ⟨⟨fun c hc => ?_, fun c hc => ?_, fun i hi => ?_, ?_⟩, ?_⟩
  · obtain ⟨f, hf, rfl⟩ := List.mem_map.mp hc
    exact List.pairwise_lt_range.filter _
  · obtain ⟨f, hf, rfl⟩ := List.mem_map.mp hc
    obtain ⟨h1, h2, h3⟩ := reps f hf
    exact ⟨f, (left_bit lt nd f).mpr ⟨h1, h2⟩, mem f h1 h2⟩
  · obtain ⟨hi, gi⟩ := (left_bit lt nd i).mp hi
    have hm : lb ns i ∈ ns := List.mem_of_getElem? (lb_at (by rw [B.len]; exact hi))
    have hlt := List.idxOf_lt_length_of_mem hm
    rw [B.len] at hlt
    have e1 : lb ns (ns.idxOf (lb ns i)) = lb ns i := by
      have h1 := lb_at (ns := ns) (x := ns.idxOf (lb ns i)) (by rw [B.len]; exact hlt)
      rw [at_idx hm] at h1
      exact (Option.some.inj h1).symm
    have g1 : ns.idxOf (lb ns i) ∉ gone := fun z => by
      have := B.own _ hlt z
      rw [e1] at this
      exact (B.out i hi gi).2 (this ▸ z)
    refine ⟨_, List.mem_map.mpr ⟨ns.idxOf (lb ns i), List.mem_filter.mpr ⟨List.mem_range.mpr hlt, ?_⟩, rfl⟩, List.mem_filter.mpr ⟨List.mem_range.mpr hi, decide_eq_true e1.symm⟩⟩
    unfold isRep
    rw [e1, decide_eq_true (rfl : ns.idxOf (lb ns i) = _), decide_eq_false g1] <;> rfl
  · rw [List.pairwise_map]
    refine List.Pairwise.imp_of_mem (fun {f g} hf hg fg i hi hj => ?_) asc
    obtain ⟨f1, f2, f3⟩ := reps f hf
    obtain ⟨g1, g2, g3⟩ := reps g hg
    obtain ⟨_, i2⟩ := List.mem_filter.mp hi
    obtain ⟨_, j2⟩ := List.mem_filter.mp hj
    have e := (of_decide_eq_true i2).symm.trans (of_decide_eq_true j2)
    rw [e, g3] at f3
    omega
  · rw [List.pairwise_map]
    refine List.Pairwise.imp_of_mem (fun {f g} hf hg fg => ?_) asc
    obtain ⟨f1, f2, f3⟩ := reps f hf
    obtain ⟨g1, g2, g3⟩ := reps g hg
    rw [head f f1 f3, head g g1 g3]
    exact fg
end
end K0

set_option Elab.async false
set_option linter.all false
set_option maxRecDepth 100000
set_option maxHeartbeats 8000000
/-! A deck of ints made; an order as a tuple; the inner walk of a comprehension of two. -/
namespace K0
open PySem PySem.Spec L2
open PyProof.Rows hiding St
/-- any walk: Pv by the turn and the heap; what a turn does is body -/
theorem walk_all {J : It} {n : Nat} {G : Hp → Prop} {Y : Nat → Hp → V → Hp → Prop} (w : Walk J n G Y) {body : V → Hp → (Hp → Prop) → Prop} {H0 : Hp} {Qd : Hp → Prop} (Pv : Nat → Hp → Prop) (h0 : Pv 0 H0) (hG : ∀ i H, i ≤ n → Pv i H → G H)
    (hs : ∀ i x H H', i < n → Pv i H → Y i H x H' → body x H' (Pv (i + 1))) (hd : ∀ H, Pv n H → Qd H) :
    ∃ W : Nat → Nat → Hp → Prop, (∃ m, W 0 m H0) ∧ ∀ i m H, W i m H →
      (J.stop i H ∧ Qd H) ∨ (J.go i H ∧ ∃ Nx : Hp → Prop, (∀ H', Nx H' → ∃ m', m' < m ∧ W (i + 1) m' H') ∧ ∀ x H', J.yld i H x H' → body x H' Nx) := by
  refine ⟨fun i m H => m = n - i ∧ i ≤ n ∧ Pv i H, ⟨n, by simp, Nat.zero_le _, h0⟩, ?_⟩
  rintro i m H ⟨rfl, hi, p⟩
  have q := hG i H hi p
  by_cases hlt : i < n
  · exact .inr ⟨w.goes i H hlt q, Pv (i + 1), fun H' p' => ⟨n - (i + 1), by omega, rfl, hlt, p'⟩, fun x H' y => hs i x H H' hlt p (w.yields i H x H' hlt q y)⟩
  · have e : i = n := by omega
    subst e
    exact .inl ⟨w.stops H q, hd H p⟩
abbrev uDeck : Stmt := top 35
abbrev uOrder : Stmt := top 38
section
variable {P : Program} {w : World} {K : PySem.W.Frag} {mg : Str → Option Value} {base : Heap}
abbrev nUDeck : List Str := ["_law_script", "_law_mixed", "_law_cell"]
theorem scUDeck : FnScope nUDeck ["_law_script"] (defScope uDeck) := ⟨rfl, rfl, rfl, by decide +kernel, rfl, by decide +kernel, by decide +kernel⟩
theorem ok_uDeck {f : Addr} {fd : FuncData} (F : Fun K "_law_deck" "_law_deck" uDeck f fd) (T : Bi mg) : FnOk P w K mg base CX0 1 f fd ["_law_script"] (spDeck K) := by
  refine F.ok scUDeck (fun vs H Q E h => ?_) (fun cdv A outer s H vs Q E hr h => ?_)
  · obtain ⟨a, ns, rfl, _⟩ := h
    rfl
  · obtain ⟨a, ns, rfl, hS, k⟩ := h
    refine ⟨_, pss_cons (ps_set (i := 1) scUDeck.nd rfl (.inl rfl) pe_int)
      <| pss_cons (ps_for PassesOwn.never rfl (pi_list (pe_slice sl_list (pv 0) po_none (po_some pe_int))) (pg_name (i := 2) scUDeck.nd rfl (.inl rfl))
          (pss_one (ps_set (i := 1) scUDeck.nd rfl (.inl rfl) (pe_op op_modN (pe_callTy call_int1 (by rfl) T.int (by decide +kernel) (pa_cons (pe_op op_add (pe_op op_add (pe_op op_mul (pv 1) pe_int)
            (pe_op op_modN (pe_callTy call_int1 (by rfl) T.int (by decide +kernel) (pa_cons (pv 2) pa_nil)) pe_int)) pe_int) pa_nil)) pe_int))))
      <| pss_one (ps_ret (pe_disp (pps_cons pe_str (pe_revL (pe_lc (own := [("_law_cell", 2)]) (g := gName 2) (tt := tYes) rfl scUDeck.nd (pi_list (pe_slice sl_list (pv 0) po_none (po_some pe_int)))
            (blkOk_by (N := nUDeck) (sc := defScope uDeck) (by decide +kernel)) (fun _ _ _ _ _ => pg_name (i := 2) scUDeck.nd rfl (Or.inl rfl)) (fun _ _ _ _ _ => pts_nil) (fun _ _ _ _ _ => pe_callTy call_int1 (by rfl) T.int (by decide +kernel) (pa_cons (pv 2) pa_nil))))
          (pps_cons pe_str (pv 1) (pps_cons pe_str pe_int pps_nil))) rfl rfl (fun z => nomatch z) (by decide))), ?_⟩
    refine ⟨_, rfl, _, rfl, a, _, rfl, hS, fun p0 hp0 => ?_⟩
    rw [cut63]
    have s0 : Same H (upd H p0 (.lst ((ns.take 63).map V.int))) := same_new hp0
    refine ⟨p0, rfl, ⟨_, SqL.of upd_same⟩, for_list (K := K) (a := p0) (xs := (ns.take 63).map V.int) (fun i σ H2 => ∃ (m : Int) (v : Option V), σ = [some (.ref a), some (.int m), v] ∧ H2 = upd H p0 (.lst ((ns.take 63).map V.int)))
      ⟨_, none, rfl, rfl⟩ (fun i σ H2 _ ⟨_, _, _, e⟩ => by rw [e]; exact SqL.of upd_same) ?_ ?_⟩
    · rintro i y σ H2 hi ⟨m, v, rfl, rfl⟩
      obtain ⟨z, rfl⟩ := int_of hi
      exact ⟨_, rfl, _, _, rfl, rfl, .inr ⟨by decide, by decide⟩, _, rfl, .inl ⟨_, rfl, _, _, rfl, rfl, (by show ¬ ((_ : Int) = 0); decide), _, _, rfl, rfl, _, _, rfl, rfl, .inl ⟨_, rfl, _, _, rfl, rfl, (by show ¬ ((_ : Int) = 0); decide), _, _, rfl, rfl⟩⟩⟩
    · rintro σ H2 ⟨m, v, rfl, rfl⟩
      intro p hp
      have s1 : Same H (upd (upd H p0 (.lst ((ns.take 63).map V.int))) p (.dK [])) := s0.trans (same_new hp)
      have ep : (upd (upd H p0 (.lst ((ns.take 63).map V.int))) p (.dK [])) p = some (.dK []) := upd_same
      have hpH : H p = none := s0.free hp
      generalize upd (upd H p0 (.lst ((ns.take 63).map V.int))) p (.dK []) = M1 at s1 ep ⊢
      refine ⟨_, rfl, _, rfl, a, _, rfl, s1.seq hS, fun p1 hp1 => ?_⟩
      rw [cut63]
      have s2 : Same M1 (upd M1 p1 (.lst ((ns.take 63).map V.int))) := same_new hp1
      have e1 : (upd M1 p1 (.lst ((ns.take 63).map V.int))) p1 = some (.lst ((ns.take 63).map V.int)) := upd_same
      generalize upd M1 p1 (.lst ((ns.take 63).map V.int)) = M2 at s2 e1 ⊢
      refine ⟨p1, rfl, ⟨_, SqL.of e1⟩, fun Da hD => ?_⟩
      refine lc_it (walk_list (xs := (ns.take 63).map V.int)) (fun i N => N Da = some (.lst (((ns.take 63).take i).map V.int)) ∧ Same M2 N) ⟨upd_same, same_new hD⟩ (fun i N _ ⟨_, g2⟩ => SqL.of (g2 _ _ e1)) ?_ ?_
      · rintro i y N N' hi ⟨g1, g2⟩ ⟨rfl, hy⟩
        rw [List.getElem?_map] at hy
        obtain ⟨z, hz, rfl⟩ := Option.map_eq_some_iff.mp hy
        refine ⟨rfl, ?_⟩
        unfold tYes
        have ll : ((ns.take 63).take i).length ≤ 63 := by rw [List.length_take, List.length_take]; omega
        refine iteT ⟨_, rfl, .inl ⟨_, rfl, _, g1, by rw [List.length_map, sizeLine_eq]; omega, ?_, set_same hD g2⟩⟩
        rw [upd_same, take_snoc hz, List.map_append] <;> rfl
      · rintro N ⟨g1, g2⟩
        rw [List.length_map, List.take_length] at g1
        have s3 := (s1.trans s2).trans g2
        refine ⟨Da, _, rfl, SqL.of g1, fun c hc => ?_⟩
        have epN := g2 _ _ (s2 _ _ ep)
        have npc : p ≠ c := ne_of_none epN hc
        refine ⟨_, rfl, ?_, [(Sum.inr ("cells" : Str), V.ref c), (Sum.inr ("mixed" : Str), V.int m), (Sum.inr ("turn" : Str), V.int 0)], rfl, (by show 3 ≤ 15; decide), ?_⟩
        · rw [upd_ne npc]
          exact epN
        · rw [deck_kvs]
          have hcH : H c = none := s3.free hc
          refine k p c _ ⟨(ns.take 63).reverse, m, 0, upd_same, ?_, ?_⟩ (fun b o e => ?_) hpH hcH
          · rw [upd_ne npc.symm, upd_same, List.map_reverse]
          · rw [List.length_reverse, List.length_take]; omega
          · rw [upd_ne (ne_of_none e hpH), upd_ne (ne_of_none e hcH)]
            exact s3 b o e
/-- an order of n places, as a tuple -/
def spUOrder : Sp := fun vs H Q _ => ∃ (p c : Addr) (n : Nat), vs = [.ref p, .int n] ∧ n ≤ 12 ∧ Deck H p c ∧ ∀ (t : Addr) (os : List Int) (H' : Hp), IsOrd n os → H t = none → H' t = some (.tup (os.map V.int)) → Deck H' p c → Kp p c H H' → Q (.ref t) H'
abbrev nUOrder : List Str := ["_law_deck_here", "_law_n", "_law_left", "_law_found", "_law_go"]
theorem scUOrder : FnScope nUOrder ["_law_deck_here", "_law_n"] (defScope uOrder) := ⟨rfl, rfl, rfl, by decide +kernel, rfl, by decide +kernel, by decide +kernel⟩
theorem ok_uOrder {f fD : Addr} {fd fdD : FuncData} (F : Fun K "_law_order" "_law_order" uOrder f fd) (T : Bj mg) (GD : Dn P w K mg base "_law_draw" 1 ["_law_deck_here", "_law_below"] spDraw fD fdD) :
    FnOk P w K mg base CX0 2 f fd ["_law_deck_here", "_law_n"] spUOrder := by
  refine F.ok scUOrder (fun vs H Q E h => ?_) (fun cdv A outer s H vs Q E hr h => ?_)
  · obtain ⟨p, c, n, rfl, _⟩ := h
    rfl
  · obtain ⟨p, c, n, rfl, hn, D, k⟩ := h
    refine ⟨_, pss_cons (ps_par (i := 2) (j := 3) rfl scUOrder.nd rfl rfl (by decide) rfl rfl (pa_cons (pe_listRg rfl (by rfl) T.list (prg_1 (by rfl) T.range (pv 1))) (pa_cons (pe_lst pa_nil) pa_nil)) (by rfl))
      <| pss_cons (ps_for PassesOwn.never rfl (pi_range1 (by rfl) T.range (pa_cons (pv 1) pa_nil)) (pg_name (i := 4) scUOrder.nd rfl (.inl rfl))
        (pss_one (ps_expr (pe_bm PySem.F.plainAttrs_list PySem.F.slot_list_append PySem.F.type_list_append mt_append (pv 3) (pa_cons
          (pe_bm PySem.F.plainAttrs_list PySem.F.slot_list_pop PySem.F.type_list_pop mt_popAt (pv 2) (pa_cons (pe_call GD.ok hr rfl GD.g GD.kp GD.b .nil pass0 (pa_cons (pv 0) (pa_cons (pe_callB call_len_seq (by rfl) T.len PySem.boot_len (pa_cons (pv 2) pa_nil)) pa_nil))) pa_nil)) pa_nil)))))
      <| pss_one (ps_ret (pe_callTy call_tuple_of (by rfl) T.tuple (by decide +kernel) (pa_cons (pv 3) pa_nil))), ?_⟩
    refine ⟨_, rfl, _, rfl, .of_le (by omega) (by omega) (by omega) (by omega), fun q hq => ?_⟩
    rw [rg_ints]
    obtain ⟨qp, qc⟩ := D.inp hq
    refine ⟨Nat.zero_le _, fun l hl => ⟨_, _, rfl, ?_⟩⟩
    have D1 := D.new (o := .lst (((List.range n).map fun i => ((i : Nat) : Int)).map V.int)) hq
    obtain ⟨lp, lc⟩ := D1.inp hl
    have lq : l ≠ q := (ne_of_none upd_same hl).symm
    have hlH : H l = none := by rw [upd_ne lq] at hl; exact hl
    refine ⟨_, rfl, _, rfl, by omega, by omega, ?_⟩
    refine for_range (lo := 0) (n := (n : Int).toNat) (fun i σ M => ∃ (ls os : List Int) (o4 : Option V), σ = [some (.ref p), some (.int n), some (.ref q), some (.ref l), o4] ∧ M q = some (.lst (ls.map V.int)) ∧ M l = some (.lst (os.map V.int)) ∧ IsOrd n (os ++ ls) ∧ os.length = i ∧ Deck M p c ∧ Kp p c H M)
      ⟨_, [], none, rfl, by rw [upd_ne lq.symm]; exact upd_same, upd_same, iota_ord n, rfl, D1.new hl, ((kp_new hq).own hlH)⟩ ?_ ?_
    · rintro i σ M hi ⟨ls, os, o4, rfl, e1, e2, e3, e4, D2, K2⟩
      have len := e3.len
      rw [List.length_append, e4] at len
      refine ⟨_, rfl, .inl ⟨rfl, _, SqL.of e2⟩, _, rfl, .inl ⟨rfl, _, SqL.of e1⟩, _, rfl, _, rfl, q, _, rfl, .inl (SqL.of e1), p, c, _, rfl, D2, ?_, ?_, fun r M1 r0 r1 D3 K3 => ?_⟩
      · show (1 : Int) ≤ ((ls.map V.int).length : Nat); rw [List.length_map]; omega
      · show (((ls.map V.int).length : Nat) : Int) < 1000000; rw [List.length_map]; omega
      · have r1' : r < ls.length := by rw [List.length_map] at r1; exact r1
        obtain ⟨j, rfl⟩ : ∃ j : Nat, r = j := ⟨r.toNat, by omega⟩
        have hj : j < ls.length := by omega
        have e1' := K3 q _ qp qc e1
        have e2' := K3 l _ lp lc e2
        have si : seqIndex? (j : Int) (ls.map V.int).length = some j := (ixN_seq (n := (ls.map V.int).length) (by unfold ixN; rw [List.length_map, if_pos (by omega), if_pos (by omega)]; rfl)).1
        refine ⟨q, _, _, j, .int ls[j], rfl, rfl, e1', by omega, by omega, si, by simp [hj], ?_⟩
        refine ⟨l, _, _, rfl, rfl, by rw [upd_ne lq]; exact e2', by rw [List.length_map, sizeLine_eq]; omega, ls.eraseIdx j, os ++ [ls[j]], _, rfl, ?_, by rw [upd_same, List.map_append] <;> rfl, ?_, by rw [List.length_append, e4] <;> rfl, (D3.put qp qc).put lp lc, ?_⟩
        · rw [upd_ne lq.symm, upd_same, erase_map]
        · refine List.Perm.trans ?_ e3
          rw [List.append_assoc]
          exact List.Perm.append_left os (perm_move (List.getElem?_eq_getElem hj)).symm
        · exact ((K2.trans K3).own (D.new (o := .lst []) hq |> fun _ => hq)).own hlH
    · rintro σ M ⟨ls, os, o4, rfl, e1, e2, e3, e4, D2, K2⟩
      have l0 : ls = [] := by
        have := e3.len
        rw [List.length_append, e4] at this
        exact List.length_eq_zero_iff.mp (by omega)
      subst l0
      rw [List.append_nil] at e3
      exact ⟨_, rfl, l, _, rfl, .inl ⟨SqL.of e2, fun t ht => k t os _ e3 (K2.dom D2 ht) upd_same (D2.new ht) (K2.trans (kp_new ht))⟩⟩
end
end K0

set_option Elab.async false
set_option linter.all false
set_option maxRecDepth 100000
set_option maxHeartbeats 8000000
/-! Threefold webs, as the program looks at them. -/
namespace K0
open PySem PySem.Spec L2
open PyProof.Rows hiding St
abbrev pPairsIn : Stmt := top 30
abbrev pBeside : Stmt := top 31
abbrev pThree : Stmt := top 32
abbrev pThreeWeb : Stmt := top 33
/-- all pairs of places, in order -/
def prs2 (n : Nat) : List (List Nat) := (List.range n).flatMap fun a => ((List.range n).filter fun b => decide (a < b)).map fun b => [a, b]
theorem lots2_prs (n : Nat) : lots2 n = [[]] ++ (List.range n).map (fun i => [i]) ++ prs2 n := rfl
theorem flat_snoc {α β : Type} (f : α → List β) (xs : List α) (x : α) : (xs ++ [x]).flatMap f = xs.flatMap f ++ f x := by
  rw [List.flatMap_append]
  simp
def spPairsIn : Sp := fun vs H Q _ => ∃ (a : Addr) (n : Nat), vs = [.ref a] ∧ n ≤ 12 ∧ TT H a ((List.range n).map natV) ∧ ∀ (l : Addr) (us : List V) (H' : Hp), Same H H' → H l = none → H' l = some (.lst us) → TupsK H' us (prs2 n) → Q (.ref l) H'
def spBeside : Sp := fun vs H Q _ => ∃ (w a : Addr) (n : Nat) (L : List (Int × Int)) (ks : List Nat), vs = [.ref w, .ref a] ∧ GW H w n L ∧ TT H a (ks.map natV) ∧ (∀ i ∈ ks, i < n) ∧ ks.Pairwise (· < ·) ∧
  ∀ (l : Addr) (us : List V) (H' : Hp), Same H H' → H l = none → H' l = some (.lst us) → (us.length = 1 ↔ Conn L (leftM n ks)) → Q (.ref l) H'
/-- what is told of threefold webs -/
def spThree : Sp := fun vs H Q _ => ∃ (w : Addr) (n : Nat) (L : List (Int × Int)), vs = [.ref w] ∧ GW H w n L ∧ ∀ (b : Bool) (H' : Hp), Same H H' → (b = true ↔ TF n L) → Q (.bl b) H'
theorem few_prs (n : Nat) (h : n ≤ 12) : (prs2 n).length ≤ 144 := by
  have : n = 0 ∨ n = 1 ∨ n = 2 ∨ n = 3 ∨ n = 4 ∨ n = 5 ∨ n = 6 ∨ n = 7 ∨ n = 8 ∨ n = 9 ∨ n = 10 ∨ n = 11 ∨ n = 12 := by omega
  rcases this with rfl | rfl | rfl | rfl | rfl | rfl | rfl | rfl | rfl | rfl | rfl | rfl | rfl <;> decide
section
variable {P : Program} {w0 : World} {K : PySem.W.Frag} {mg : Str → Option Value} {base : Heap}
abbrev nPairsIn : List Str := ["lot", "a", "b"]
theorem scPairsIn : FnScope nPairsIn ["lot"] (defScope pPairsIn) := ⟨rfl, rfl, rfl, by decide +kernel, rfl, by decide +kernel, by decide +kernel⟩
theorem ok_pairsIn {f : Addr} {fd : FuncData} (F : Fun K "pairs_in" "pairs_in" pPairsIn f fd) : FnOk P w0 K mg base CX0 1 f fd ["lot"] spPairsIn := by
  refine F.ok scPairsIn (fun vs H Q E h => ?_) (fun cdv A outer s H vs Q E hr h => ?_)
  · obtain ⟨a, n, rfl, _⟩ := h
    rfl
  · obtain ⟨a, n, rfl, hn, tt, k⟩ := h
    refine ⟨_, pss_one (ps_ret (pe_lc2 (own := [("a", 1), ("b", 2)]) (vs1 := [2]) (g := gName 1) (g1 := gName 2) (tt := tYes) (wi1 := iTup K fun σ H Q => ∃ v, σ[0]? = some (some v) ∧ Q v H) rfl scPairsIn.nd (pi_tup (pv 0)) (blkOk_by (N := nPairsIn) (sc := defScope pPairsIn) (by decide +kernel)) (by decide)
      (fun _ _ _ _ _ => pg_name (i := 1) scPairsIn.nd rfl (Or.inl rfl)) (fun _ _ _ _ _ => pts_nil) (fun _ _ _ _ _ => show PI _ _ _ (iTup K _) from pi_tup (pv 0)) (fun _ _ _ _ _ => pg_name (i := 2) scPairsIn.nd rfl (Or.inl rfl))
      (fun _ _ _ _ _ => pts_one (pt_cmpR op_lt (pv 1) (pv 2) (nomark _))) (fun _ _ _ _ _ => pe_tup (pa_cons (pv 1) (pa_cons (pv 2) pa_nil))))), ?_⟩
    refine ⟨_, rfl, a, rfl, ⟨_, tt.sq⟩, fun Da hD => ?_⟩
    have few : ∀ i, i ≤ n → (((List.range i).flatMap fun a => ((List.range n).filter fun b => decide (a < b)).map fun b => [a, b])).length ≤ i * 12 := fun i => by
      induction i with
      | zero => intro _; simp
      | succ i ih =>
        intro hi
        have := ih (by omega)
        rw [List.range_succ, flat_snoc, List.length_append, List.length_map]
        have fl := List.length_filter_le (fun b => decide (i < b)) (List.range n)
        rw [List.length_range] at fl
        omega
    refine walk_all (walk_tup (xs := (List.range n).map natV)) (fun i N => ∃ us, N Da = some (.lst us) ∧ Same H N ∧ TupsK N us ((List.range i).flatMap fun a => ((List.range n).filter fun b => decide (a < b)).map fun b => [a, b])) ⟨[], upd_same, same_new hD, .nil⟩ (fun i N _ ⟨_, _, g2, _⟩ => (tt.keep fun o q => g2 _ _ q).sq) ?_ ?_
    · rintro i x N N' hi ⟨us, g1, g2, g3⟩ ⟨rfl, hx⟩
      rw [List.length_map, List.length_range] at hi
      have ex : x = natV i := by
        rw [List.getElem?_map, List.getElem?_range hi] at hx
        exact (Option.some.inj hx).symm
      subst ex
      refine ⟨rfl, ?_⟩
      unfold tYes
      refine iteT ⟨_, rfl, a, rfl, ⟨_, (tt.keep fun o q => g2 _ _ q).sq⟩, ?_⟩
      refine walk_all (walk_tup (xs := (List.range n).map natV)) (fun j N => ∃ us, N Da = some (.lst us) ∧ Same H N ∧ TupsK N us (((List.range i).flatMap fun a => ((List.range n).filter fun b => decide (a < b)).map fun b => [a, b]) ++ ((List.range j).filter fun b => decide (i < b)).map fun b => [i, b])) ⟨us, g1, g2, by simpa using g3⟩ (fun j N _ ⟨_, _, g2, _⟩ => (tt.keep fun o q => g2 _ _ q).sq) ?_ ?_
      · rintro j y M M' hj ⟨us, h1, h2, h3⟩ ⟨rfl, hy⟩
        rw [List.length_map, List.length_range] at hj
        have ey : y = natV j := by
          rw [List.getElem?_map, List.getElem?_range hj] at hy
          exact (Option.some.inj hy).symm
        subst ey
        have lu := h3.len
        rw [List.length_append, List.length_map] at lu
        have l1 := few i (by omega)
        have l2 := List.length_filter_le (fun b => decide (i < b)) (List.range j)
        rw [List.length_range] at l2
        have ec : decide (((i : Nat) : Int) < ((j : Nat) : Int)) = decide (i < j) := decide_eq_decide.mpr (by omega)
        refine ⟨rfl, _, rfl, _, rfl, _, _, rfl, rfl, _, rfl, ?_⟩
        rw [ec]
        by_cases hij : i < j
        · rw [decide_eq_true hij]
          refine iteT ⟨_, rfl, _, rfl, by show 2 ≤ sizeLine; decide, fun t ht => ?_⟩
          have s1 : Same M' (upd M' t (.tup [natV i, natV j])) := same_new ht
          refine ⟨us, s1 _ _ h1, Nat.lt_of_le_of_lt (show us.length ≤ 1000 by omega) (by rw [sizeLine_eq]; decide), us ++ [.ref t], upd_same, set_same hD (h2.trans s1), ?_⟩
          rw [List.range_succ, List.filter_append, List.filter_cons_of_pos (p := fun b => decide (i < b)) (decide_eq_true hij), List.filter_nil, List.map_append, ← List.append_assoc]
          exact ((h3.mono (same_tup s1)).app (.cons (r := [i, j]) upd_same .nil)).mono (upd_tup (s1 _ _ h1))
        · rw [decide_eq_false hij]
          refine iteF ⟨us, h1, h2, ?_⟩
          rw [List.range_succ, List.filter_append, List.filter_cons_of_neg (p := fun b => decide (i < b)) (by rw [decide_eq_false hij]; decide), List.filter_nil, List.append_nil]
          exact h3
      · rintro M ⟨us, h1, h2, h3⟩
        rw [List.length_map, List.length_range] at h3
        refine ⟨us, h1, h2, ?_⟩
        rw [List.range_succ, flat_snoc]
        exact h3
    · rintro N ⟨us, g1, g2, g3⟩
      rw [List.length_map, List.length_range] at g3
      exact k Da us N g2 hD g1 g3
abbrev nBeside : List Str := ["web", "lot", "part"]
theorem scBeside : FnScope nBeside ["web", "lot"] (defScope pBeside) := ⟨rfl, rfl, rfl, by decide +kernel, rfl, by decide +kernel, by decide +kernel⟩
theorem ok_beside {f fL fP fN fF fM : Addr} {fd fdL fdP fdN fdF fdM : FuncData} (F : Fun K "parts_beside" "parts_beside" pBeside f fd) (GL : Dn P w0 K mg base "lot_of" 1 ["mask"] spLotOf fL fdL) (GP : Dn P w0 K mg base "part_masks" 3 ["near", "mask"] spParts fP fdP)
    (GN : Dn P w0 K mg base "near_masks" 1 ["web"] spNear fN fdN) (GF : Dn P w0 K mg base "full_mask" 1 ["web"] spFull fF fdF) (GM : Dn P w0 K mg base "mask_of" 1 ["lot"] spMaskOf fM fdM) : FnOk P w0 K mg base CX0 4 f fd ["web", "lot"] spBeside := by
  refine F.ok scBeside (fun vs H Q E h => ?_) (fun cdv A outer s H vs Q E hr h => ?_)
  · obtain ⟨w, a, n, L, ks, rfl, _⟩ := h
    rfl
  · obtain ⟨w, a, n, L, ks, rfl, G, tt, lt, inc, k⟩ := h
    have hr1 : Room 1 _ := hr.mono (by decide)
    refine ⟨_, pss_one (ps_ret (pe_lc (own := [("part", 2)]) (g := gName 2) (tt := tYes) rfl scBeside.nd
      (pi_list (pe_call GP.ok hr rfl GP.g GP.kp GP.b .nil pass0 (pa_cons (pe_call GN.ok hr1 rfl GN.g GN.kp GN.b .nil pass0 (pa_cons (pv 0) pa_nil)) (pa_cons (pe_op op_xorN (pe_call GF.ok hr1 rfl GF.g GF.kp GF.b .nil pass0 (pa_cons (pv 0) pa_nil)) (pe_call GM.ok hr1 rfl GM.g GM.kp GM.b .nil pass0 (pa_cons (pv 1) pa_nil))) pa_nil))))
      (blkOk_by (N := nBeside) (sc := defScope pBeside) (by decide +kernel)) (fun _ _ _ _ _ => pg_name (i := 2) scBeside.nd rfl (Or.inl rfl)) (fun _ _ _ _ _ => pts_nil) (fun _ _ _ _ _ => pe_call GL.ok hr1 rfl GL.g GL.kp GL.b .nil pass0 (pa_cons (pv 2) pa_nil)))), ?_⟩
    have n2 := G.n2
    have p12 : 2 ^ n ≤ 4096 := Nat.pow_le_pow_right (n := 2) (by decide) n2
    have pos : 0 < 2 ^ n := Nat.two_pow_pos n
    have lk : ks.length ≤ n := by
      have := len_le (inc_nodup inc) (m := List.range n) fun i hi => List.mem_range.mpr (lt i hi)
      rwa [List.length_range] at this
    have ml := mask_lt (inc_nodup inc) lt
    refine ⟨_, rfl, w, n, L, rfl, G, fun l ms M s1 hl el nr => ?_⟩
    refine ⟨_, rfl, w, n, L, rfl, G.same s1, _, rfl, a, ks, rfl, tt.keep fun o q => s1 _ _ q, fun i hi => by have := lt i hi; omega, by omega, fun M0 s0 => ⟨_, _, rfl, rfl, ?_⟩⟩
    have hm : leftM n ks < 2 ^ n := xor_lt (by omega) ml
    refine ⟨l, leftM n ks, n, ms, L, rfl, s0 _ _ el, nr, n2, G.bel, hm, fun a ps M1 s2 ha ea pt => ⟨a, rfl, ⟨_, SqL.of ea⟩, fun Da hD => ?_⟩⟩
    have s12 := (s1.trans s0).trans s2
    have few := inc_few (n := n) (Nat.zero_le _) pt.inc fun q hq => ⟨Nat.zero_le _, bit_lt hm (pt.part q hq).1⟩
    refine lc_list (K := K) (a := a) (xs := ps.map fun q => natV q.2) (fun i N => ∃ us, N Da = some (.lst us) ∧ LotsAt N us (ps.take i) ∧ N a = some (.lst (ps.map fun q => natV q.2)) ∧ Same M1 N) ⟨[], upd_same, .nil, by rw [upd_ne (ne_of_none ea hD)]; exact ea, same_new hD⟩ (fun i N _ ⟨_, _, _, e, _⟩ => SqL.of e) ?_ ?_
    · rintro i x N hx ⟨us, f1, f2, f3, f4⟩
      rw [List.getElem?_map] at hx
      obtain ⟨q, hq, rfl⟩ := Option.map_eq_some_iff.mp hx
      have hqp := pt.part q (List.mem_of_getElem? hq)
      have lq : q.2 < 4096 := by
        have : q.2 ≤ leftM n ks := sub_le fun j z => ((hqp.2.1 j).mp z).bit
        omega
      have tl := f2.len
      rw [List.length_take] at tl
      refine ⟨rfl, ?_⟩
      unfold tYes
      refine iteT ⟨_, rfl, q.2, rfl, lq, fun t N1 s3 ht et => ⟨us, s3 _ _ f1, by rw [sizeLine_eq]; omega, _, upd_same, ?_, by rw [upd_ne (ne_of_none ea hD)]; exact s3 _ _ f3, set_same hD (f4.trans s3)⟩⟩
      rw [take_snoc hq]
      exact ((f2.mono (same_tup s3)).app (.cons et .nil)).mono (upd_tup (s3 _ _ f1))
    · rintro N ⟨us, f1, f2, f3, f4⟩
      rw [List.length_map, List.take_length] at f2
      have cl := (pt.is (by omega)).cls.conn
      rw [List.length_map] at cl
      exact k Da us N (s12.trans f4) (s12.free hD) f1 (by rw [f2.len]; exact cl)
abbrev nThreeWeb : List Str := ["web", "places", "lots", "place", "lot"]
theorem scThreeWeb : FnScope nThreeWeb ["web"] (defScope pThreeWeb) := ⟨rfl, rfl, rfl, by decide +kernel, rfl, by decide +kernel, by decide +kernel⟩
theorem ok_threeWeb {f fB fP fQ : Addr} {fd fdB fdP fdQ : FuncData} (F : Fun K "is_threefold_web" "is_threefold_web" pThreeWeb f fd) (T : Bj mg) (hall : mg "all" = none) (GB : Dn P w0 K mg base "places_but" 1 ["web", "lot"] spPlacesBut fB fdB) (GP : Dn P w0 K mg base "pairs_in" 1 ["lot"] spPairsIn fP fdP)
    (GQ : Dn P w0 K mg base "parts_beside" 4 ["web", "lot"] spBeside fQ fdQ) : FnOk P w0 K mg base CX0 5 f fd ["web"] spThree := by
  refine F.ok scThreeWeb (fun vs H Q E h => ?_) (fun cdv A outer s H vs Q E hr h => ?_)
  · obtain ⟨w, n, L, rfl, _⟩ := h
    rfl
  · obtain ⟨w, n, L, rfl, G, k⟩ := h
    have hr1 : Room 1 _ := hr.mono (by decide)
    refine ⟨_, pss_cons (ps_set (i := 1) scThreeWeb.nd rfl (.inl rfl) (pe_call GB.ok hr1 rfl GB.g GB.kp GB.b .nil pass0 (pa_cons (pv 0) (pa_cons (pe_tup pa_nil) pa_nil))))
      <| pss_cons (ps_set (i := 2) scThreeWeb.nd rfl (.inl rfl) (pe_op op_cat (pe_op op_cat (pe_lst (pa_cons (pe_tup pa_nil) pa_nil)) (pe_lc (own := [("place", 3)]) (g := gName 3) (tt := tYes) rfl scThreeWeb.nd (pi_tup (pv 1))
          (blkOk_by (N := nThreeWeb) (sc := defScope pThreeWeb) (by decide +kernel)) (fun _ _ _ _ _ => pg_name (i := 3) scThreeWeb.nd rfl (Or.inl rfl)) (fun _ _ _ _ _ => pts_nil) (fun _ _ _ _ _ => pe_tup (pa_cons (pv 3) pa_nil))))
          (pe_call GP.ok hr1 rfl GP.g GP.kp GP.b .nil pass0 (pa_cons (pv 1) pa_nil))))
      <| pss_one (ps_ret (pe_and (pe_cmpR op_ge (pe_callB call_len_seq (by rfl) T.len PySem.boot_len (pa_cons (pv 1) pa_nil)) pe_int (nomark _))
          (pe_one (pe_callB (cr_all rfl) (by rfl) hall (by decide +kernel) (pa_cons (pe_lc (own := [("lot", 4)]) (g := gName 4) (tt := tYes) rfl scThreeWeb.nd (pi_list (pv 2)) (blkOk_by (N := nThreeWeb) (sc := defScope pThreeWeb) (by decide +kernel))
            (fun _ _ _ _ _ => pg_name (i := 4) scThreeWeb.nd rfl (Or.inl rfl)) (fun _ _ _ _ _ => pts_nil)
            (fun _ _ _ _ _ => pe_cmpR op_eq (pe_callB (show CallR _ (.builtin "len") (fun xs H Q => ∃ p ys, xs = [V.ref p] ∧ (SqL K H p ys ∨ SqT K H p ys) ∧ Q (.int ys.length) H) from call_len_seq) (by rfl) T.len PySem.boot_len (pa_cons (pe_call GQ.ok hr rfl GQ.g GQ.kp GQ.b .nil pass0 (pa_cons (pv 0) (pa_cons (pv 4) pa_nil))) pa_nil)) pe_int (nomark _))) pa_nil))))), ?_⟩
    have n2 := G.n2
    refine ⟨_, rfl, by show 0 ≤ sizeLine; exact Nat.zero_le _, fun t0 ht0 => ?_⟩
    have s0 : Same H (upd H t0 (.tup [])) := same_new ht0
    refine ⟨w, t0, n, L, [], rfl, G.same s0, .inl upd_same, fun tp M1 s1 hp ep => ?_⟩
    have er : (restN n []).map V.int = (List.range n).map natV := by
      have : restN n [] = iota n := by
        unfold restN
        exact List.filter_eq_self.mpr fun i _ => by simp
      rw [this]
      unfold iota
      rw [List.map_map] <;> rfl
    rw [er] at ep
    have s01 := s0.trans s1
    refine ⟨by show 0 ≤ sizeLine; exact Nat.zero_le _, fun t1 ht1 => ⟨by show 1 ≤ sizeLine; decide, fun l1 hl1 => ?_⟩⟩
    have s2 : Same M1 (upd (upd M1 t1 (.tup [])) l1 (.lst [.ref t1])) := (same_new ht1).trans (same_new hl1)
    have k1 : TupsK (upd (upd M1 t1 (.tup [])) l1 (.lst [.ref t1])) [.ref t1] [[]] := .cons (same_new hl1 _ _ upd_same) .nil
    have e1 : (upd (upd M1 t1 (.tup [])) l1 (.lst [.ref t1])) l1 = some (.lst [.ref t1]) := upd_same
    generalize upd (upd M1 t1 (.tup [])) l1 (.lst [.ref t1]) = M2 at s2 k1 e1 ⊢
    have ep2 := s2 _ _ ep
    refine ⟨_, rfl, tp, rfl, ⟨_, SqT.of ep2⟩, fun Da hD => ?_⟩
    refine lc_it (walk_tup (xs := (List.range n).map natV)) (fun i N => ∃ us, N Da = some (.lst us) ∧ Same M2 N ∧ TupsK N us ((List.range i).map fun i => [i])) ⟨[], upd_same, same_new hD, .nil⟩ (fun i N _ ⟨_, _, g2, _⟩ => SqT.of (g2 _ _ ep2)) ?_ ?_
    · rintro i x N N' hi ⟨us, g1, g2, g3⟩ ⟨rfl, hx⟩
      rw [List.length_map, List.length_range] at hi
      have ex : x = natV i := by
        rw [List.getElem?_map, List.getElem?_range hi] at hx
        exact (Option.some.inj hx).symm
      subst ex
      have lu := g3.len
      rw [List.length_map, List.length_range] at lu
      refine ⟨rfl, ?_⟩
      unfold tYes
      refine iteT ⟨_, rfl, by show 1 ≤ sizeLine; decide, fun t ht => ?_⟩
      have s3 : Same N' (upd N' t (.tup [natV i])) := same_new ht
      refine ⟨us, s3 _ _ g1, Nat.lt_of_le_of_lt (show us.length ≤ 1000 by omega) (by rw [sizeLine_eq]; decide), us ++ [.ref t], upd_same, set_same hD (g2.trans s3), ?_⟩
      rw [List.range_succ, List.map_append]
      exact ((g3.mono (same_tup s3)).app (.cons (r := [i]) upd_same .nil)).mono (upd_tup (s3 _ _ g1))
    rintro M3 ⟨us3, g1, g2, g3⟩
    rw [List.length_map, List.length_range] at g3
    have l3 := g3.len
    rw [List.length_map, List.length_range] at l3
    refine ⟨l1, Da, _, _, rfl, rfl, g2 _ _ e1, g1, by show 1 + us3.length ≤ sizeLine; rw [sizeLine_eq]; omega, fun l4 hl4 => ?_⟩
    have s4 : Same M3 (upd M3 l4 (.lst ([.ref t1] ++ us3))) := same_new hl4
    have k4 : TupsK (upd M3 l4 (.lst ([.ref t1] ++ us3))) ([.ref t1] ++ us3) ([[]] ++ (List.range n).map fun i => [i]) := ((k1.same g2).app g3).same s4
    have e4 : (upd M3 l4 (.lst ([.ref t1] ++ us3))) l4 = some (.lst ([.ref t1] ++ us3)) := upd_same
    have s24 := (s2.trans g2).trans s4
    generalize upd M3 l4 (.lst ([.ref t1] ++ us3)) = M4 at s4 k4 e4 s24 ⊢
    generalize [V.ref t1] ++ us3 = us4 at k4 e4 ⊢
    clear g1 g2 g3 l3 k1 e1 ep2 s4
    refine ⟨_, rfl, tp, n, rfl, n2, .inl (s24 _ _ ep), fun l5 us5 M5 s5 hl5 e5 k5 => ?_⟩
    have l4' := k4.len
    have l5' := k5.len
    have fp := few_prs n n2
    rw [List.length_append, List.length_map, List.length_range] at l4'
    simp only [List.length_singleton] at l4'
    refine ⟨l4, l5, _, _, rfl, rfl, s5 _ _ e4, e5, by rw [sizeLine_eq]; omega, fun l6 hl6 => ?_⟩
    have s6 : Same M5 (upd M5 l6 (.lst (us4 ++ us5))) := same_new hl6
    have k6 : TupsK (upd M5 l6 (.lst (us4 ++ us5))) (us4 ++ us5) (lots2 n) := ((k4.same s5).app k5).same s6
    have e6 : (upd M5 l6 (.lst (us4 ++ us5))) l6 = some (.lst (us4 ++ us5)) := upd_same
    have s06 := ((s01.trans s24).trans s5).trans s6
    have ep6 := (((s24.trans s5).trans s6)) _ _ ep
    generalize upd M5 l6 (.lst (us4 ++ us5)) = M6 at k6 e6 s06 ep6 ⊢
    have l6' := k6.len
    have ll : (us4 ++ us5).length ≤ 200 := by rw [List.length_append]; omega
    generalize us4 ++ us5 = us6 at k6 e6 l6' ll ⊢
    refine ⟨_, rfl, tp, _, rfl, .inr (SqT.of ep6), _, _, rfl, rfl, _, rfl, ?_⟩
    rw [List.length_map, List.length_range]
    by_cases h4 : (n : Int) ≥ 4
    rotate_left
    · rw [decide_eq_false h4]
      refine iteF (k _ _ s06 ⟨fun z => (by cases z), fun z => absurd z.1 (by omega)⟩)
    rw [decide_eq_true h4]
    refine iteT ⟨_, rfl, l6, rfl, ⟨_, SqL.of e6⟩, fun De hDe => ?_⟩
    refine lc_it (walk_list (xs := us6)) (fun i N => ∃ bs : List Bool, N De = some (.lst (bs.map V.bl)) ∧ Same M6 N ∧ bs.length = i ∧ (bs.all id = true ↔ ∀ ks ∈ (lots2 n).take i, Conn L (leftM n ks))) ⟨[], upd_same, same_new hDe, rfl, by simp⟩ (fun i N _ ⟨_, _, g2, _⟩ => SqL.of (g2 _ _ e6)) ?_ ?_
    · rintro i x N N' hi ⟨bs, g1, g2, g3, g4⟩ ⟨rfl, hx⟩
      obtain ⟨t, ks, rfl, hk, ht⟩ := k6.get hx
      have fw := mem_lots2.mp (List.mem_of_getElem? hk)
      refine ⟨rfl, ?_⟩
      unfold tYes
      refine iteT ⟨_, rfl, _, rfl, w, t, n, L, ks, rfl, G.same (s06.trans g2), .inl (g2 _ _ ht), fw.lt, fw.inc, fun l us N2 s2 hl el cn => ?_⟩
      refine ⟨l, us, rfl, .inl (SqL.of el), rfl, ?_⟩
      have e1 : decide (V.int ((us.length : Nat) : Int) = V.int 1) = decide (us.length = 1) := by
        by_cases z : us.length = 1
        · rw [z] <;> rfl
        · rw [decide_eq_false z, decide_eq_false]
          intro y
          injection y with y
          omega
      rw [e1]
      refine ⟨_, s2 _ _ g1, by rw [List.length_map, sizeLine_eq]; omega, bs ++ [decide (us.length = 1)], by rw [upd_same, List.map_append] <;> rfl, set_same hDe (g2.trans s2), by rw [List.length_append, g3] <;> rfl, ?_⟩
      rw [List.all_append, Bool.and_eq_true, g4, take_snoc hk]
      simp only [List.all_cons, List.all_nil, Bool.and_true, id_eq, decide_eq_true_eq, List.mem_append, List.mem_singleton]
      rw [cn]
      exact ⟨fun z ks hk => hk.elim (z.1 ks) fun e => e ▸ z.2, fun z => ⟨fun ks hk => z ks (.inl hk), z _ (.inr rfl)⟩⟩
    · rintro N ⟨bs, g1, g2, g3, g4⟩
      refine ⟨De, _, rfl, SqL.of g1, ?_⟩
      rw [l6', List.take_length] at g4
      refine k _ N (s06.trans g2) ?_
      rw [tf_lots, g4]
      exact ⟨fun z => ⟨by omega, z⟩, fun z => z.2⟩
theorem scThree : FnScope ["web"] ["web"] (defScope pThree) := ⟨rfl, rfl, rfl, by decide +kernel, rfl, by decide +kernel, by decide +kernel⟩
theorem ok_three {f fC fT : Addr} {fd fdC fdT : FuncData} (F : Fun K "is_threefold" "is_threefold" pThree f fd) (GC : Dn P w0 K mg base "check_web" 5 ["thing"] spCheckWeb fC fdC) (GT : Dn P w0 K mg base "is_threefold_web" 5 ["web"] spThree fT fdT) : FnOk P w0 K mg base CX0 6 f fd ["web"] spThree := by
  refine F.ok scThree (fun vs H Q E h => ?_) (fun cdv A outer s H vs Q E hr h => ?_)
  · obtain ⟨w, n, L, rfl, _⟩ := h
    rfl
  · obtain ⟨w, n, L, rfl, G, k⟩ := h
    refine ⟨_, pss_cons (ps_expr (pe_call GC.ok hr rfl GC.g GC.kp GC.b .nil pass0 (pa_cons (pv 0) pa_nil))) <| pss_one (ps_ret (pe_call GT.ok hr rfl GT.g GT.kp GT.b .nil pass0 (pa_cons (pv 0) pa_nil))), ?_⟩
    exact ⟨_, rfl, w, n, L, rfl, G, fun H1 s1 => ⟨_, rfl, w, n, L, rfl, G.same s1, fun b H2 s2 hb => k b H2 (s1.trans s2) hb⟩⟩
end
end K0

set_option Elab.async false
set_option linter.all false
set_option maxRecDepth 100000
set_option maxHeartbeats 8000000
/-! A web of any ties. -/
namespace K0
open PySem PySem.Spec L2
open PyProof.Rows hiding St
abbrev uWeb : Stmt := top 39
/-- ends of ties, in any order -/
def Ends (n : Int) (L : List (Int × Int)) : Prop := ∀ q ∈ L, (0 ≤ q.1 ∧ q.1 < n) ∧ (0 ≤ q.2 ∧ q.2 < n) ∧ q.1 ≠ q.2
theorem Ends.bel {n : Int} {L : List (Int × Int)} (h : Ends n L) : Bel n (L.map fun q => mm q.1 q.2) := fun q hq => by
  obtain ⟨r, hr, rfl⟩ := List.mem_map.mp hq
  obtain ⟨h1, h2, h3⟩ := h r hr
  exact mm_bel h1 h2 h3
theorem Ends.nil {n : Int} : Ends n [] := fun _ z => nomatch z
theorem Ends.app {n : Int} {L M : List (Int × Int)} (a : Ends n L) (b : Ends n M) : Ends n (L ++ M) := fun q z => (List.mem_append.mp z).elim (a q) (b q)
theorem Ends.sub {n : Int} {L M : List (Int × Int)} (a : Ends n L) (s : ∀ q ∈ M, q ∈ L) : Ends n M := fun q z => a q (s q z)
theorem Ends.one {n : Int} {q : Int × Int} (h : (0 ≤ q.1 ∧ q.1 < n) ∧ (0 ≤ q.2 ∧ q.2 < n) ∧ q.1 ≠ q.2) : Ends n [q] := fun r hr => by rw [List.mem_singleton.mp hr]; exact h
theorem Ends.up {n m : Int} {L : List (Int × Int)} (a : Ends n L) (h : n ≤ m) : Ends m L := fun q z => by
  obtain ⟨h1, h2, h3⟩ := a q z
  exact ⟨⟨h1.1, by omega⟩, ⟨h2.1, by omega⟩, h3⟩
def spUWeb : Sp := fun vs H Q _ => ∃ (l : Addr) (n : Nat) (us : List V) (L : List (Int × Int)), vs = [.int n, .ref l] ∧ 1 ≤ n ∧ n ≤ 12 ∧ H l = some (.lst us) ∧ Prs H us L ∧ Ends n L ∧ L.length ≤ 40 ∧
  ∀ (w : Addr) (M : List (Int × Int)) (H' : Hp), Same H H' → H w = none → GW H' w n M → M.Perm (L.map fun q => mm q.1 q.2) → Q (.ref w) H'
section
variable {P : Program} {w0 : World} {K : PySem.W.Frag} {mg : Str → Option Value} {base : Heap}
abbrev nUWeb : List Str := ["_law_n", "_law_ties_here", "_law_a", "_law_b"]
theorem scUWeb : FnScope nUWeb ["_law_n", "_law_ties_here"] (defScope uWeb) := ⟨rfl, rfl, rfl, by decide +kernel, rfl, by decide +kernel, by decide +kernel⟩
theorem ok_uWeb {f : Addr} {fd : FuncData} (F : Fun K "_law_web" "_law_web" uWeb f fd) (T : Bj mg) : FnOk P w0 K mg base CX0 1 f fd ["_law_n", "_law_ties_here"] spUWeb := by
  refine F.ok scUWeb (fun vs H Q E h => ?_) (fun cdv A outer s H vs Q E hr h => ?_)
  · obtain ⟨l, n, us, L, rfl, _⟩ := h
    rfl
  · obtain ⟨l, n, us, L, rfl, n1, n2, hl, pr, hE, few, k⟩ := h
    refine ⟨_, pss_one (ps_ret (pe_tup (pa_cons (pv 0) (pa_cons (pe_callTy call_tuple_of (by rfl) T.tuple (by decide +kernel) (pa_cons (pe_callB (cr_sortT (d := 2) (B := 64) (by decide)) (by rfl) T.sorted (by decide +kernel) (pa_cons
        (pe_lc (own := [("_law_a", 2), ("_law_b", 3)]) (g := gTup K 2 (gCons (gName 2) (gCons (gName 3) gNil))) (tt := tYes) rfl scUWeb.nd (pi_list (pv 1)) (blkOk_by (N := nUWeb) (sc := defScope uWeb) (by decide +kernel))
          (fun _ _ _ _ _ => pg_tup rfl (pgs_cons (pg_name (i := 2) scUWeb.nd rfl (.inl rfl) (.inr rfl)) (pgs_cons (pg_name (i := 3) scUWeb.nd rfl (.inl rfl) (.inr rfl)) pgs_nil))) (fun _ _ _ _ _ => pts_nil)
          (fun _ _ _ _ _ => pe_tup (pa_cons (pe_callB (call_min2 rfl) (by rfl) T.min (by decide +kernel) (pa_cons (pv 2) (pa_cons (pv 3) pa_nil))) (pa_cons (pe_callB (call_max2 rfl) (by rfl) T.max (by decide +kernel) (pa_cons (pv 2) (pa_cons (pv 3) pa_nil))) pa_nil)))) pa_nil)) pa_nil)) pa_nil)))), ?_⟩
    have lu := pr.len
    refine ⟨_, rfl, _, rfl, l, rfl, ⟨_, SqL.of hl⟩, fun Da hD => ?_⟩
    refine lc_it (walk_list (xs := us)) (fun i N => ∃ ws, N Da = some (.lst ws) ∧ Same H N ∧ Prs N ws ((L.take i).map fun q => mm q.1 q.2)) ⟨[], upd_same, same_new hD, .nil⟩ (fun i N _ ⟨_, _, g2, _⟩ => SqL.of (g2 _ _ hl)) ?_ ?_
    · rintro i x N N' hi ⟨ws, g1, g2, g3⟩ ⟨rfl, hx⟩
      obtain ⟨b, q, rfl, hq, hb⟩ := pr.get hx
      have lw := g3.len
      rw [List.length_map, List.length_take] at lw
      refine ⟨b, _, rfl, SqT.of (g2 _ _ hb), rfl, _, _, rfl, _, _, rfl, rfl, rfl, ?_⟩
      unfold tYes
      refine iteT ⟨_, rfl, _, rfl, _, _, rfl, _, rfl, _, rfl, _, _, rfl, by show 2 ≤ sizeLine; decide, fun t ht => ?_⟩
      have s1 : Same N' (upd N' t (.tup [.int (mm q.1 q.2).1, .int (mm q.1 q.2).2])) := same_new ht
      refine ⟨ws, s1 _ _ g1, Nat.lt_of_le_of_lt (show ws.length ≤ 1000 by omega) (by rw [sizeLine_eq]; decide), ws ++ [.ref t], upd_same, set_same hD (g2.trans s1), ?_⟩
      rw [take_snoc hq, List.map_append]
      exact ((g3.mono (same_tup s1)).app (.cons (q := mm q.1 q.2) upd_same .nil)).mono (upd_tup (s1 _ _ g1))
    · rintro N ⟨ws, g1, g2, g3⟩
      rw [lu, List.take_length] at g3
      have lw := g3.len
      rw [List.length_map] at lw
      have hB := hE.bel
      refine ⟨Da, ws, rfl, SqL.of g1, by omega, g3.tups hB (by omega), fun ys b pm pw hb => ?_⟩
      obtain ⟨M2, pm2, p2⟩ := Prs.perm pm g3
      have sr := p2.srt pw
      refine ⟨b, ys, rfl, .inl ⟨SqL.of upd_same, fun t ht => ⟨by show 2 ≤ sizeLine; decide, fun wa hw => ?_⟩⟩⟩
      have p3 : Prs (upd (upd (upd N b (.lst ys)) t (.tup ys)) wa (.tup [.int n, .ref t])) ys M2 := ((p2.mono (new_tup hb)).mono (new_tup ht)).mono (new_tup hw)
      have s3 := ((g2.trans (same_new (o := .lst ys) hb)).trans (same_new (o := .tup ys) ht))
      refine k wa M2 _ (s3.trans (same_new hw)) (s3.free hw) ⟨⟨t, ys, upd_same, by rw [upd_ne (ne_of_none upd_same hw)]; exact upd_same, p3⟩, n1, n2, hB.sub fun q z => pm2.mem_iff.mp z, sr, by rw [pm2.length_eq, List.length_map]; exact few⟩ pm2
end
end K0

set_option Elab.async false
set_option linter.all false
set_option maxRecDepth 100000
set_option maxHeartbeats 8000000
/-! Parts by labels, as the law looks at them. -/
namespace K0
open PySem PySem.Spec L2
open PyProof.Rows hiding St
abbrev uParts : Stmt := top 40
def spUParts : Sp := fun vs H Q _ => ∃ (w g : Addr) (n : Nat) (L : List (Int × Int)) (ks : List Nat), vs = [.ref w, .ref g] ∧ GW H w n L ∧ TT H g (ks.map natV) ∧ (∀ i ∈ ks, i < n) ∧ ks.Nodup ∧
  ∀ (l : Addr) (us : List V) (ys : List (List Nat)) (H' : Hp), Same H H' → H l = none → H' l = some (.lst us) → TupsK H' us ys → IsParts L (leftM n ks) ys → Q (.ref l) H'
theorem idx_spec (ns : List Nat) {j : Nat} {v : Nat} (h : ns[j]? = some v) : ∃ i, ns.idxOf v = i ∧ ns[i]? = some v ∧ ∀ m z, m < i → ns[m]? = some z → (z == v) = false := by
  have hm := List.mem_of_getElem? h
  refine ⟨_, rfl, at_idx hm, fun m z hl hz => ?_⟩
  have := List.not_of_lt_findIdx (p := fun x => x == v) (xs := ns) (i := m) hl
  have e := (List.getElem?_eq_some_iff.mp hz).2
  rw [e] at this
  exact this
theorem nat_eqV (a b : Nat) : eqV (natV a) (natV b) = (a == b) := by
  show (((a : Nat) : Int) == ((b : Nat) : Int)) = (a == b)
  rw [Bool.eq_iff_iff, beq_iff_eq, beq_iff_eq]
  omega
theorem nat_dec (a b : Nat) : decide (V.int ((a : Nat) : Int) = V.int ((b : Nat) : Int)) = decide (a = b) := decide_eq_decide.mpr ⟨fun z => by injection z with z; omega, fun z => by rw [z]⟩
theorem nat_decV (a b : Nat) : decide (natV a = natV b) = decide (a = b) := nat_dec a b
theorem get_nat {ns : List Nat} {x : Nat} (h : x < ns.length) : (ns.map natV)[x]? = some (natV (lb ns x)) := by
  rw [List.getElem?_map, lb_at h] <;> rfl
section
variable {P : Program} {w0 : World} {K : PySem.W.Frag} {mg : Str → Option Value} {base : Heap}
abbrev nUParts : List Str := ["_law_web_here", "_law_gone", "_law_names", "_law_a", "_law_b", "_law_new", "_law_old", "_law_found", "_law_first", "_law_name", "_law_place"]
theorem scUParts : FnScope nUParts ["_law_web_here", "_law_gone"] (defScope uParts) := ⟨rfl, rfl, rfl, by decide +kernel, rfl, by decide +kernel, by decide +kernel⟩
theorem ok_uParts {f : Addr} {fd : FuncData} (F : Fun K "_law_parts" "_law_parts" uParts f fd) (T : Bk mg) : FnOk P w0 K mg base CX0 1 f fd ["_law_web_here", "_law_gone"] spUParts := by
  refine F.ok scUParts (fun vs H Q E h => ?_) (fun cdv A outer s H vs Q E hr h => ?_)
  · obtain ⟨w, g, n, L, ks, rfl, _⟩ := h
    rfl
  · obtain ⟨w, g, n, L, ks, rfl, G, tt, lt, nd, k⟩ := h
    refine ⟨_, pss_cons (ps_set (i := 2) scUParts.nd rfl (.inr rfl) (pe_listRg rfl (by rfl) T.list (prg_1 (by rfl) T.range (pe_ix ix_tup (pv 0) pe_int (fun _ _ => rfl)))))
      <| pss_cons (ps_for PassesOwn.never rfl (pi_tup (pe_ix ix_tup (pv 0) pe_int (fun _ _ => rfl))) (pg_tup rfl (pgs_cons (pg_name (i := 3) scUParts.nd rfl (.inl rfl)) (pgs_cons (pg_name (i := 4) scUParts.nd rfl (.inl rfl)) pgs_nil)))
          (pss_one (ps_if (PW.pt (pw_and (pt_cmpR op_ne (pe_ix ix_list (pv 2) (pv 3) (fun _ _ => rfl)) (pe_ix ix_list (pv 2) (pv 4) (fun _ _ => rfl)) (nomark _))
                (pw_and (pt_cmpR (show OpR _ (compareOp .NotIn) (rIn K true) from op_notIn_seq) (pv 3) (pv 1) (by rfl)) (pw_and1 (pt_cmpR (show OpR _ (compareOp .NotIn) (rIn K true) from op_notIn_seq) (pv 4) (pv 1) (by rfl))))))
              (pss_cons (ps_asg (pe_tup (pa_cons (pe_ix ix_list (pv 2) (pv 3) (fun _ _ => rfl)) (pa_cons (pe_ix ix_list (pv 2) (pv 4) (fun _ _ => rfl)) pa_nil))) (pg_tup rfl (pgs_cons (pg_name (i := 5) scUParts.nd rfl (.inr rfl)) (pgs_cons (pg_name (i := 6) scUParts.nd rfl (.inr rfl)) pgs_nil))))
              <| pss_one (ps_set (i := 2) scUParts.nd rfl (.inr rfl) (pe_lc (own := [("_law_name", 9)]) (g := gName 9) (tt := tYes) rfl scUParts.nd (pi_list (pv 2)) (blkOk_by (N := nUParts) (sc := defScope uParts) (by decide +kernel))
                  (fun _ _ _ _ _ => pg_name (i := 9) scUParts.nd rfl (Or.inl rfl)) (fun _ _ _ _ _ => pts_nil) (fun _ _ _ _ _ => pe_ifExp (pt_cmpR op_eq (pv 9) (pv 6) (nomark _)) (pv 5) (pv 9))))) pss_nil)))
      <| pss_cons (ps_set (i := 7) scUParts.nd rfl (.inl rfl) (pe_lst pa_nil))
      <| pss_cons (ps_for PassesOwn.never rfl (pi_range1 (by rfl) T.range (pa_cons (pe_ix ix_tup (pv 0) pe_int (fun _ _ => rfl)) pa_nil)) (pg_name (i := 8) scUParts.nd rfl (.inr rfl))
          (pss_one (ps_if (PW.pt (pw_and (pt_cmpR (show OpR _ (compareOp .NotIn) (rIn K true) from op_notIn_seq) (pv 8) (pv 1) (by rfl))
                (pw_and1 (pt_cmpR op_eq (pe_bm PySem.F.plainAttrs_list PySem.F.slot_list_index PySem.F.type_list_index mt_index (pv 2) (pa_cons (pe_ix ix_list (pv 2) (pv 8) (fun _ _ => rfl)) pa_nil)) (pv 8) (nomark _)))))
              (pss_one (ps_expr (pe_bm PySem.F.plainAttrs_list PySem.F.slot_list_append PySem.F.type_list_append mt_append (pv 7) (pa_cons (pe_callTy call_tuple_of (by rfl) T.tuple (by decide +kernel) (pa_cons
                (pe_lc (own := [("_law_place", 10)]) (g := gName 10) rfl scUParts.nd (pi_range1 (by rfl) T.range (pa_cons (pe_ix ix_tup (pv 0) pe_int (fun _ _ => rfl)) pa_nil)) (blkOk_by (N := nUParts) (sc := defScope uParts) (by decide +kernel))
                  (fun _ _ _ _ _ => pg_name (i := 10) scUParts.nd rfl (Or.inl rfl)) (fun _ _ _ _ _ => pts_one (pt_cmpR op_eq (pe_ix (show IxR _ (rIxL K) from ix_list) (pv 2) (pv 10) (fun _ _ => rfl)) (pe_ix (show IxR _ (rIxL K) from ix_list) (pv 2) (pv 8) (fun _ _ => rfl)) (nomark _))) (fun _ _ _ _ _ => pv 10)) pa_nil)) pa_nil)))) pss_nil)))
      <| pss_one (ps_ret (pe_callB (show CallR _ (.builtin "sorted") (KR.rSortTL K) from KR.cr_sortTL) (by rfl) T.sorted (by decide +kernel) (pa_cons (pv 7) pa_nil))), ?_⟩
    obtain ⟨ta, vs, e1, e2, e3⟩ := G.web.ex
    have n1 := G.n1
    have n2 := G.n2
    have hB := G.bel
    have few := G.few
    have lvs := e3.len
    have flk := flat_natV ks
    have lk : ks.length ≤ n := by
      have := len_le nd (m := List.range n) fun i hi => List.mem_range.mpr (lt i hi)
      rwa [List.length_range] at this
    have inK : ∀ x : Nat, inV (natV x) (ks.map natV) = decide (x ∈ ks) := fun x => inV_nat x ks
    have inKI : ∀ x : Nat, inV (V.int (x : Int)) (ks.map natV) = decide (x ∈ ks) := fun x => inV_nat x ks
    refine ⟨_, rfl, w, _, _, _, rfl, rfl, SqT.of e1, atI_nat (j := 0) rfl, _, rfl, .of_le (by omega) (by omega) (by omega) (by omega), fun q hq => ?_⟩
    rw [rg_ints]
    have s0 : Same H (upd H q (.lst (((List.range n).map fun i => ((i : Nat) : Int)).map V.int))) := same_new hq
    have eq0 : (upd H q (.lst (((List.range n).map fun i => ((i : Nat) : Int)).map V.int))) q = some (.lst ((List.range n).map natV)) := by rw [upd_same, natV_ints]
    generalize upd H q (.lst (((List.range n).map fun i => ((i : Nat) : Int)).map V.int)) = M0 at s0 eq0 ⊢
    refine ⟨_, rfl, w, _, _, _, rfl, rfl, SqT.of (s0 _ _ e1), atI_nat (j := 1) rfl, ta, rfl, ⟨_, SqT.of (s0 _ _ e2)⟩, ?_⟩
    refine for_tup (K := K) (a := ta) (xs := vs) (fun i σ M => ∃ (q : Addr) (ns : List Nat) (o3 o4 o5 o6 : Option V), σ = [some (.ref w), some (.ref g), some (.ref q), o3, o4, o5, o6, none, none, none, none] ∧ M q = some (.lst (ns.map natV)) ∧ Lab (L.take i) n ks ns ∧ Same H M)
      ⟨q, _, none, none, none, none, rfl, eq0, by rw [List.take_zero]; exact Lab.start lt nd, s0⟩ (fun i σ M _ ⟨_, _, _, _, _, _, _, _, _, s'⟩ => SqT.of (s' _ _ e2)) ?_ ?_
    · rintro i x σ M hx ⟨q, ns, o3, o4, o5, o6, rfl, eq, B, sM⟩
      obtain ⟨b, qq, rfl, hq', hb⟩ := e3.get hx
      have bq := hB qq (List.mem_of_getElem? hq')
      obtain ⟨q1, q2⟩ := qq
      obtain ⟨a1, rfl⟩ : ∃ a1 : Nat, q1 = a1 := ⟨q1.toNat, by have := bq.1; dsimp only at this; omega⟩
      obtain ⟨a2, rfl⟩ : ∃ a2 : Nat, q2 = a2 := ⟨q2.toNat, by have := bq.1; have := bq.2.1; dsimp only at *; omega⟩
      dsimp only at bq hb
      have l1 : a1 < n := by omega
      have l2 : a2 < n := by omega
      have ln := B.len
      have ts := take_snoc hq'
      refine ⟨b, _, rfl, SqT.of (sM _ _ hb), rfl, _, _, rfl, _, _, rfl, rfl, ?_⟩
      refine ⟨_, rfl, _, rfl, q, _, _, _, rfl, rfl, SqL.of eq, atI_nat (j := a1) (get_nat (by omega)), _, rfl, _, rfl, q, _, _, _, rfl, rfl, SqL.of eq, atI_nat (j := a2) (get_nat (by omega)), rfl, _, rfl, ?_⟩
      have stay : (lb ns a1 = lb ns a2 ∨ a1 ∈ ks ∨ a2 ∈ ks) → Lab (L.take (i + 1)) n ks ns := fun h => by rw [ts]; exact B.stay lt nd l1 l2 h
      first | rw [nat_decV] | rw [nat_dec]
      by_cases h1 : lb ns a1 = lb ns a2
      · rw [decide_eq_true h1]
        exact iteF (iteF ⟨q, ns, _, _, o5, o6, rfl, eq, stay (.inl h1), sM⟩)
      rw [decide_eq_false h1]
      refine iteT ⟨_, rfl, _, rfl, g, _, rfl, .inr (tt.keep fun o q => sM _ _ q).sq, rfl, flk, _, rfl, ?_⟩
      rw [if_pos rfl]
      first | rw [inK] | rw [inKI]
      by_cases h2 : a1 ∈ ks
      · rw [decide_eq_true h2]
        exact iteF (iteF ⟨q, ns, _, _, o5, o6, rfl, eq, stay (.inr (.inl h2)), sM⟩)
      rw [decide_eq_false h2]
      refine iteT ⟨_, rfl, _, rfl, g, _, rfl, .inr (tt.keep fun o q => sM _ _ q).sq, rfl, flk, _, rfl, ?_⟩
      rw [if_pos rfl]
      first | rw [inK] | rw [inKI]
      by_cases h3 : a2 ∈ ks
      · rw [decide_eq_true h3]
        exact iteF ⟨q, ns, _, _, o5, o6, rfl, eq, stay (.inr (.inr h3)), sM⟩
      rw [decide_eq_false h3]
      refine iteT ⟨_, rfl, _, rfl, q, _, _, _, rfl, rfl, SqL.of eq, atI_nat (j := a1) (get_nat (by omega)), _, rfl, _, rfl, q, _, _, _, rfl, rfl, SqL.of eq, atI_nat (j := a2) (get_nat (by omega)), by show 2 ≤ sizeLine; decide, fun t2 ht2 => ?_⟩
      have s2 : Same M (upd M t2 (.tup [natV (lb ns a1), natV (lb ns a2)])) := same_new ht2
      refine ⟨t2, _, rfl, SqT.of upd_same, rfl, _, _, rfl, _, _, rfl, rfl, ?_⟩
      have eq2 := s2 _ _ eq
      have sM2 := sM.trans s2
      generalize upd M t2 (.tup [natV (lb ns a1), natV (lb ns a2)]) = M2 at s2 eq2 sM2 ⊢
      refine ⟨_, rfl, q, rfl, ⟨_, SqL.of eq2⟩, fun Da hD => ?_⟩
      refine lc_it (walk_list (xs := ns.map natV)) (fun j N => N Da = some (.lst (((ns.take j).map fun x => if x = lb ns a2 then lb ns a1 else x).map natV)) ∧ Same M2 N) ⟨upd_same, same_new hD⟩ (fun j N _ ⟨_, g2⟩ => SqL.of (g2 _ _ eq2)) ?_ ?_
      · rintro j y N N' hj ⟨g1, g2⟩ ⟨rfl, hy⟩
        rw [List.getElem?_map] at hy
        obtain ⟨z, hz, rfl⟩ := Option.map_eq_some_iff.mp hy
        rw [List.length_map] at hj
        have nx1 : ∀ v : Nat, v = (if z = lb ns a2 then lb ns a1 else z) → (upd N' Da (.lst ((((ns.take j).map fun x => if x = lb ns a2 then lb ns a1 else x).map natV) ++ [natV v]))) Da = some (.lst (((ns.take (j + 1)).map fun x => if x = lb ns a2 then lb ns a1 else x).map natV)) := fun v hv => by
          rw [upd_same, take_snoc hz, List.map_append, List.map_append, hv] <;> rfl
        have lz : ((((ns.take j).map fun x => if x = lb ns a2 then lb ns a1 else x).map natV)).length < sizeLine := by
          rw [List.length_map, List.length_map, List.length_take, sizeLine_eq]
          omega
        refine ⟨rfl, ?_⟩
        unfold tYes
        refine iteT ⟨_, rfl, _, rfl, rfl, _, rfl, ?_⟩
        first | rw [nat_decV] | rw [nat_dec]
        by_cases hz2 : z = lb ns a2
        · rw [decide_eq_true hz2]
          exact iteT ⟨_, rfl, _, g1, lz, nx1 _ (by rw [if_pos hz2]), set_same hD g2⟩
        · rw [decide_eq_false hz2]
          exact iteF ⟨_, rfl, _, g1, lz, nx1 _ (by rw [if_neg hz2]), set_same hD g2⟩
      · rintro N ⟨g1, g2⟩
        rw [List.length_map, List.take_length] at g1
        exact ⟨Da, _, _, _, _, _, rfl, g1, by rw [ts]; exact B.join lt nd l1 l2 h2 h3, sM2.trans g2⟩
    · rintro σ M ⟨q, ns, o3, o4, o5, o6, rfl, eq, B, sM⟩
      rw [lvs, List.take_length] at B
      have ln := B.len
      obtain ⟨C, asc⟩ := B.cls lt nd
      refine ⟨by show 0 ≤ sizeLine; exact Nat.zero_le _, fun lf hlf => ?_⟩
      have s1 : Same M (upd M lf (.lst [])) := same_new hlf
      have ef : (upd M lf (.lst [])) lf = some (.lst []) := upd_same
      have hlfH : H lf = none := sM.free hlf
      have sM1 := sM.trans s1
      have eq1 := s1 _ _ eq
      have nlf : q ≠ lf := ne_of_none eq hlf
      generalize upd M lf (.lst []) = M1 at ef sM1 eq1 ⊢
      clear s1 eq sM hlf
      refine ⟨_, rfl, w, _, _, _, rfl, rfl, SqT.of (sM1 _ _ e1), atI_nat (j := 0) rfl, _, rfl, by omega, by omega, ?_⟩
      refine for_range (lo := 0) (n := (n : Int).toNat) (fun i σ N => ∃ (us : List V) (o8 : Option V), σ = [some (.ref w), some (.ref g), some (.ref q), o3, o4, o5, o6, some (.ref lf), o8, none, none] ∧ Same H N ∧ N q = some (.lst (ns.map natV)) ∧ N lf = some (.lst us) ∧ TupsK N us (((List.range i).filter (isRep ks ns)).map (clsOf n ns)) ∧ us.length ≤ i)
        ⟨[], none, rfl, sM1, eq1, ef, .nil, Nat.zero_le _⟩ ?_ ?_
      · rintro i σ N hi ⟨us, o8, rfl, g1, g2, g3, g4, g5⟩
        have hin : i < n := by omega
        have z0 : (0 : Int) + (i : Int) = (i : Int) := by omega
        have rs : ((List.range (i + 1)).filter (isRep ks ns)).map (clsOf n ns) = ((List.range i).filter (isRep ks ns)).map (clsOf n ns) ++ ([i].filter (isRep ks ns)).map (clsOf n ns) := by rw [List.range_succ, List.filter_append, List.map_append]
        have no : isRep ks ns i = false → TupsK N us (((List.range (i + 1)).filter (isRep ks ns)).map (clsOf n ns)) := fun h => by
          rw [rs, List.filter_cons_of_neg (by rw [h]; decide), List.filter_nil, List.map_nil, List.append_nil]
          exact g4
        refine ⟨_, rfl, _, rfl, g, _, rfl, .inr (tt.keep fun o q => g1 _ _ q).sq, rfl, flk, _, rfl, ?_⟩
        rw [if_pos rfl, z0]
        first | rw [inK] | rw [inKI]
        by_cases h2 : i ∈ ks
        · rw [decide_eq_true h2]
          refine iteF (iteF ⟨us, _, rfl, g1, g2, g3, no ?_, by omega⟩)
          unfold isRep
          rw [decide_eq_true h2] <;> rfl
        rw [decide_eq_false h2]
        obtain ⟨j, ej, ej2, ej3⟩ := idx_spec ns (lb_at (ns := ns) (x := i) (by omega))
        refine iteT ⟨_, rfl, .inl ⟨rfl, _, SqL.of g2⟩, _, rfl, _, rfl, q, _, _, _, rfl, rfl, SqL.of g2, atI_nat (j := i) (get_nat (by omega)), q, _, _, j, natV (lb ns i), rfl, rfl, SqL.of g2, rfl, flat_natV _, by rw [List.getElem?_map, ej2] <;> rfl, by rw [nat_eqV]; exact beq_self_eq_true _, fun m z' hm hz' => ?_, ?_⟩
        · rw [List.getElem?_map] at hz'
          obtain ⟨z, hz, rfl⟩ := Option.map_eq_some_iff.mp hz'
          rw [nat_eqV]
          exact ej3 m z hm hz
        refine ⟨_, rfl, rfl, _, rfl, ?_⟩
        first | rw [nat_decV] | rw [nat_dec]
        by_cases h3 : j = i
        rotate_left
        · rw [decide_eq_false h3]
          refine iteF ⟨us, _, rfl, g1, g2, g3, no ?_, by omega⟩
          unfold isRep
          rw [ej, decide_eq_false h3, Bool.and_false]
        rw [decide_eq_true h3]
        have yes : isRep ks ns i = true := by
          unfold isRep
          rw [ej, decide_eq_true h3, decide_eq_false h2] <;> rfl
        refine iteT ⟨_, rfl, .inl ⟨rfl, _, SqL.of g3⟩, _, rfl, w, _, _, _, rfl, rfl, SqT.of (g1 _ _ e1), atI_nat (j := 0) rfl, _, rfl, by omega, by omega, fun Da hD => ?_⟩
        refine lc_range (lo := 0) (n := (n : Int).toNat) (fun m N2 => N2 Da = some (.lst (((List.range m).filter fun p => decide (lb ns p = lb ns i)).map natV)) ∧ Same N N2) ⟨upd_same, same_new hD⟩ ?_ ?_
        · rintro m N2 hm ⟨f1, f2⟩
          have fl := List.length_filter_le (fun p => decide (lb ns p = lb ns i)) (List.range m)
          rw [List.length_range] at fl
          have f3 := f2 _ _ g2
          have rs2 : (List.range (m + 1)).filter (fun p => decide (lb ns p = lb ns i)) = (List.range m).filter (fun p => decide (lb ns p = lb ns i)) ++ [m].filter fun p => decide (lb ns p = lb ns i) := by rw [List.range_succ, List.filter_append]
          refine ⟨rfl, _, rfl, _, rfl, q, _, _, _, rfl, rfl, SqL.of f3, by rw [Int.zero_add]; exact atI_nat (j := m) (get_nat (by omega)), _, rfl, _, rfl, q, _, _, _, rfl, rfl, SqL.of f3, atI_nat (j := i) (get_nat (by omega)), rfl, _, rfl, ?_⟩
          first | rw [nat_decV] | rw [nat_dec]
          cases hc : decide (lb ns m = lb ns i) with
          | true =>
            refine iteT ⟨_, rfl, _, f1, by rw [List.length_map, sizeLine_eq]; omega, ?_, set_same hD f2⟩
            rw [upd_same, rs2, List.filter_cons_of_pos (p := fun p => decide (lb ns p = lb ns i)) hc, List.filter_nil, List.map_append, Int.zero_add] <;> rfl
          | false =>
            refine iteF ⟨?_, f2⟩
            rw [f1, rs2, List.filter_cons_of_neg (p := fun p => decide (lb ns p = lb ns i)) (by rw [hc]; decide), List.filter_nil, List.append_nil]
        · rintro N2 ⟨f1, f2⟩
          rw [Int.toNat_natCast] at f1
          refine ⟨Da, _, rfl, .inl ⟨SqL.of f1, fun t ht => ?_⟩⟩
          have s3 := f2.trans (same_new (o := .tup (((List.range n).filter fun p => decide (lb ns p = lb ns i)).map natV)) ht)
          have et : (upd N2 t (.tup (((List.range n).filter fun p => decide (lb ns p = lb ns i)).map natV))) t = some (.tup ((clsOf n ns i).map natV)) := upd_same
          generalize upd N2 t (.tup (((List.range n).filter fun p => decide (lb ns p = lb ns i)).map natV)) = N3 at s3 et ⊢
          refine ⟨lf, us, _, rfl, rfl, s3 _ _ g3, Nat.lt_of_le_of_lt (show us.length ≤ 1000 by omega) (by rw [sizeLine_eq]; decide), ?_⟩
          refine ⟨us ++ [.ref t], _, rfl, set_same hlfH (g1.trans s3), by rw [upd_ne nlf]; exact s3 _ _ g2, upd_same, ?_, by rw [List.length_append, List.length_singleton]; omega⟩
          rw [rs, List.filter_cons_of_pos yes, List.filter_nil]
          exact ((g4.same s3).app (.cons (r := clsOf n ns i) et .nil)).mono (upd_tup (s3 _ _ g3))
      · rintro σ N ⟨us, o8, rfl, g1, g2, g3, g4, g5⟩
        rw [Int.toNat_natCast] at g4
        refine ⟨_, rfl, lf, us, kOf N, rfl, SqL.of g3, g4.tupI fun c hc => C.ne hc, fun ys p pm pw hp => ?_⟩
        obtain ⟨zs, z1, z2⟩ := g4.perm pm
        have C2 := C.perm z1
        have asc2 := z2.srt C2.dis (fun c hc => C2.ne hc) pw
        exact k p ys zs _ (g1.trans (same_new hp)) (g1.free hp) upd_same (z2.mono (new_tup hp)) ⟨C2, asc2⟩
end
end K0

set_option Elab.async false
set_option linter.all false
set_option maxRecDepth 100000
set_option maxHeartbeats 8000000
/-! Threefold webs, as the law looks at them. -/
namespace K0
open PySem PySem.Spec L2
open PyProof.Rows hiding St
abbrev uPairs : Stmt := top 41
abbrev uThree : Stmt := top 42
/-- pairs of places below m -/
def prN (m : Nat) : List (Nat × Nat) := (List.range m).flatMap fun a => ((List.range m).drop (a + 1)).map fun b => (a, b)
def prR (m : Nat) : List (List Nat) := (prN m).map fun q => [q.1, q.2]
theorem mem_drop_range {m k b : Nat} : b ∈ (List.range m).drop k ↔ k ≤ b ∧ b < m := by
  rw [List.range_eq_range', List.drop_range', List.mem_range']
  constructor
  · rintro ⟨i, hi, rfl⟩
    omega
  · rintro ⟨h1, h2⟩
    exact ⟨b - k, by omega, by omega⟩
theorem mem_prN {m a b : Nat} : (a, b) ∈ prN m ↔ a < b ∧ b < m := by
  unfold prN
  rw [List.mem_flatMap]
  constructor
  · rintro ⟨x, hx, h⟩
    obtain ⟨y, hy, e⟩ := List.mem_map.mp h
    cases e
    have := mem_drop_range.mp hy
    omega
  · rintro ⟨h1, h2⟩
    exact ⟨a, List.mem_range.mpr (by omega), List.mem_map.mpr ⟨b, mem_drop_range.mpr ⟨h1, h2⟩, rfl⟩⟩
theorem few_prN {m : Nat} (h : m ≤ 12) : (prN m).length ≤ 66 ∧ (m ≤ 6 → (prN m).length ≤ 15) := by
  have : m = 0 ∨ m = 1 ∨ m = 2 ∨ m = 3 ∨ m = 4 ∨ m = 5 ∨ m = 6 ∨ m = 7 ∨ m = 8 ∨ m = 9 ∨ m = 10 ∨ m = 11 ∨ m = 12 := by omega
  rcases this with rfl | rfl | rfl | rfl | rfl | rfl | rfl | rfl | rfl | rfl | rfl | rfl | rfl <;> decide
def lots3 (n : Nat) : List (List Nat) := [[]] ++ (List.range n).map (fun i => [i]) ++ prR n
theorem mem_lots3 {n : Nat} {ks : List Nat} : ks ∈ lots3 n ↔ Few2 n ks := by
  rw [← mem_lots2]
  have e : ks ∈ prR n ↔ ks ∈ prs2 n := by
    unfold prR prs2
    rw [List.mem_map, List.mem_flatMap]
    constructor
    · rintro ⟨⟨a, b⟩, h, rfl⟩
      have := mem_prN.mp h
      exact ⟨a, List.mem_range.mpr (by omega), List.mem_map.mpr ⟨b, List.mem_filter.mpr ⟨List.mem_range.mpr this.2, decide_eq_true this.1⟩, rfl⟩⟩
    · rintro ⟨a, ha, h⟩
      obtain ⟨b, hb, rfl⟩ := List.mem_map.mp h
      obtain ⟨h1, h2⟩ := List.mem_filter.mp hb
      exact ⟨(a, b), mem_prN.mpr ⟨of_decide_eq_true h2, List.mem_range.mp h1⟩, rfl⟩
  rw [lots2_prs]
  unfold lots3
  rw [List.mem_append, List.mem_append, List.mem_append, List.mem_append, e]
theorem tf_lots3 {n : Nat} {L : List (Int × Int)} : TF n L ↔ 4 ≤ n ∧ ∀ ks ∈ lots3 n, Conn L (leftM n ks) := by
  unfold TF
  exact ⟨fun h => ⟨h.1, fun ks hk => h.2 ks (mem_lots3.mp hk)⟩, fun h => ⟨h.1, fun ks hk => h.2 ks (mem_lots3.mpr hk)⟩⟩
theorem cut_from {xs : List V} {k : Nat} (h : k ≤ xs.length) : cutV xs (some (k : Int)) none = xs.drop k := by
  unfold cutV
  rw [HT.sIx_nat, HT.sIx_none, Nat.min_eq_left h]
  exact List.take_of_length_le (by rw [List.length_drop]; exact Nat.le_refl _)
theorem cut_to {xs : List V} {k : Nat} : cutV xs none (some (k : Int)) = xs.take k := by
  unfold cutV
  rw [HT.sIx_nat, HT.sIx_none, List.drop_zero, Nat.sub_zero]
  rcases Nat.le_total k xs.length with h | h
  · rw [Nat.min_eq_left h]
  · rw [Nat.min_eq_right h, List.take_of_length_le h, List.take_of_length_le (Nat.le_refl _)]
def spUPairs : Sp := fun vs H Q _ => ∃ (l : Addr) (m : Nat), vs = [.ref l] ∧ m ≤ 12 ∧ H l = some (.lst ((List.range m).map natV)) ∧ ∀ (r : Addr) (us : List V) (H' : Hp), Same H H' → H r = none → H' r = some (.lst us) → TupsK H' us (prR m) → Q (.ref r) H'
section
variable {P : Program} {w0 : World} {K : PySem.W.Frag} {mg : Str → Option Value} {base : Heap}
abbrev nUPairs : List Str := ["_law_some", "_law_found", "_law_at", "_law_one", "_law_other"]
theorem scUPairs : FnScope nUPairs ["_law_some"] (defScope uPairs) := ⟨rfl, rfl, rfl, by decide +kernel, rfl, by decide +kernel, by decide +kernel⟩
theorem ok_uPairs {f : Addr} {fd : FuncData} (F : Fun K "_law_pairs" "_law_pairs" uPairs f fd) (T : Bj mg) : FnOk P w0 K mg base CX0 1 f fd ["_law_some"] spUPairs := by
  refine F.ok scUPairs (fun vs H Q E h => ?_) (fun cdv A outer s H vs Q E hr h => ?_)
  · obtain ⟨l, m, rfl, _⟩ := h
    rfl
  · obtain ⟨l, m, rfl, hm, hl, k⟩ := h
    refine ⟨_, pss_cons (ps_set (i := 1) scUPairs.nd rfl (.inl rfl) (pe_lst pa_nil))
      <| pss_cons (ps_for PassesOwn.never rfl (pi_enum (by rfl) T.enu (pa_cons (pv 0) pa_nil)) (pg_tup rfl (pgs_cons (pg_name (i := 2) scUPairs.nd rfl (.inl rfl)) (pgs_cons (pg_name (i := 3) scUPairs.nd rfl (.inr rfl)) pgs_nil)))
          (pss_one (ps_expr (pe_bm PySem.F.plainAttrs_list PySem.F.slot_list_extend PySem.F.type_list_extend mt_extend (pv 1) (pa_cons
            (pe_lc (own := [("_law_other", 4)]) (g := gName 4) (tt := tYes) rfl scUPairs.nd (pi_list (pe_slice sl_list (pv 0) (po_some (pe_op op_add (pv 2) pe_int)) po_none)) (blkOk_by (N := nUPairs) (sc := defScope uPairs) (by decide +kernel))
              (fun _ _ _ _ _ => pg_name (i := 4) scUPairs.nd rfl (Or.inl rfl)) (fun _ _ _ _ _ => pts_nil) (fun _ _ _ _ _ => pe_tup (pa_cons (pv 3) (pa_cons (pv 4) pa_nil)))) pa_nil)))))
      <| pss_one (ps_ret (pv 1)), ?_⟩
    refine ⟨by show 0 ≤ sizeLine; exact Nat.zero_le _, fun lf hlf => ?_⟩
    refine ⟨_, rfl, l, _, rfl, SqL.of (same_new hlf _ _ hl), ?_⟩
    have few : ∀ i, i ≤ m → (((List.range i).flatMap fun a => ((List.range m).drop (a + 1)).map fun b => (a, b))).length ≤ i * 12 := fun i => by
      induction i with
      | zero => intro _; simp
      | succ i ih =>
        intro hi
        have := ih (by omega)
        rw [List.range_succ, flat_snoc, List.length_append, List.length_map, List.length_drop, List.length_range]
        omega
    refine for_it (walk_enum (xs := (List.range m).map natV)) (fun i σ M => ∃ (us : List V) (o2 o3 : Option V), σ = [some (.ref l), some (.ref lf), o2, o3, none] ∧ Same H M ∧ M lf = some (.lst us) ∧ TupsK M us (((List.range i).flatMap fun a => ((List.range m).drop (a + 1)).map fun b => (a, b)).map fun q => [q.1, q.2]))
      ⟨[], none, none, rfl, same_new hlf, upd_same, .nil⟩ (fun i σ M _ ⟨_, _, _, _, s, _⟩ => SqL.of (s _ _ hl)) ?_ ?_
    · rintro i x σ M M' hi ⟨us, o2, o3, rfl, g1, g2, g3⟩ ⟨Tt, u, y, rfl, hT, rfl, e7, e8⟩
      cases e7
      rw [List.length_map, List.length_range] at hi
      have ey : y = natV i := by
        dsimp only at e8
        rw [List.getElem?_map, List.getElem?_range hi] at e8
        exact (Option.some.inj e8).symm
      subst ey
      have s1 : Same M (upd M Tt (.tup [.int (i : Nat), natV i])) := same_new hT
      refine ⟨Tt, _, rfl, SqT.of upd_same, rfl, _, _, rfl, _, _, rfl, rfl, ?_⟩
      have g1' := g1.trans s1
      have g2' := s1 _ _ g2
      have g3' := g3.same s1
      generalize upd M Tt (.tup [.int (i : Nat), natV i]) = M1 at g1' g2' g3' ⊢
      have lu := g3'.len
      rw [List.length_map] at lu
      have fw := few i (by omega)
      refine ⟨_, rfl, .inl ⟨rfl, _, SqL.of g2'⟩, _, rfl, _, rfl, _, _, rfl, rfl, _, rfl, l, _, rfl, SqL.of (g1' _ _ hl), fun p hp => ?_⟩
      have ec : cutV ((List.range m).map natV) (some ((i : Int) + 1)) none = ((List.range m).drop (i + 1)).map natV := by
        rw [show ((i : Int) + 1) = ((i + 1 : Nat) : Int) by omega, cut_from (by rw [List.length_map, List.length_range]; omega), List.map_drop]
      rw [ec]
      have s2 : Same M1 (upd M1 p (.lst (((List.range m).drop (i + 1)).map natV))) := same_new hp
      have ep : (upd M1 p (.lst (((List.range m).drop (i + 1)).map natV))) p = some (.lst (((List.range m).drop (i + 1)).map natV)) := upd_same
      have npf : lf ≠ p := ne_of_none g2' hp
      generalize upd M1 p (.lst (((List.range m).drop (i + 1)).map natV)) = M2 at s2 ep ⊢
      refine ⟨p, rfl, ⟨_, SqL.of ep⟩, fun Da hD => ?_⟩
      have nfd : lf ≠ Da := ne_of_none (s2 _ _ g2') hD
      refine lc_it (walk_list (xs := ((List.range m).drop (i + 1)).map natV)) (fun j N => ∃ ws, N Da = some (.lst ws) ∧ Same M2 N ∧ TupsK N ws (((List.range m).drop (i + 1)).take j |>.map fun b => [i, b])) ⟨[], upd_same, same_new hD, .nil⟩ (fun j N _ ⟨_, _, g2, _⟩ => SqL.of (g2 _ _ ep)) ?_ ?_
      · rintro j y N N' hj ⟨ws, f1, f2, f3⟩ ⟨rfl, hy⟩
        rw [List.getElem?_map] at hy
        obtain ⟨z, hz, rfl⟩ := Option.map_eq_some_iff.mp hy
        have lw := f3.len
        rw [List.length_map, List.length_take, List.length_drop, List.length_range] at lw
        refine ⟨rfl, ?_⟩
        unfold tYes
        refine iteT ⟨_, rfl, _, rfl, by show 2 ≤ sizeLine; decide, fun t ht => ?_⟩
        have s3 : Same N' (upd N' t (.tup [natV i, natV z])) := same_new ht
        refine ⟨ws, s3 _ _ f1, Nat.lt_of_le_of_lt (show ws.length ≤ 1000 by omega) (by rw [sizeLine_eq]; decide), ws ++ [.ref t], upd_same, set_same hD (f2.trans s3), ?_⟩
        rw [take_snoc hz, List.map_append]
        exact ((f3.mono (same_tup s3)).app (.cons (r := [i, z]) upd_same .nil)).mono (upd_tup (s3 _ _ f1))
      · rintro N ⟨ws, f1, f2, f3⟩
        rw [List.length_map, List.take_length] at f3
        have lw := f3.len
        rw [List.length_map, List.length_drop, List.length_range] at lw
        have g2N := f2 _ _ (s2 _ _ g2')
        refine ⟨lf, Da, us, ws, rfl, rfl, g2N, f1, by rw [sizeLine_eq]; omega, ?_⟩
        refine ⟨us ++ ws, _, _, rfl, fun b o e => ?_, upd_same, ?_⟩
        · rw [upd_ne (ne_of_none e hlf)]
          exact f2 _ _ (s2 _ _ (g1' _ _ e))
        · rw [List.range_succ, flat_snoc, List.map_append, List.map_map]
          exact ((g3'.mono (same_tup (s2.trans f2))).app f3).mono (upd_tup g2N)
    · rintro σ M ⟨us, o2, o3, rfl, g1, g2, g3⟩
      rw [List.length_map, List.length_range] at g3
      exact ⟨_, rfl, k lf us M g1 hlf g2 g3⟩
abbrev nUThree : List Str := ["_law_web_here", "_law_places", "_law_gone", "_law_place"]
theorem scUThree : FnScope nUThree ["_law_web_here"] (defScope uThree) := ⟨rfl, rfl, rfl, by decide +kernel, rfl, by decide +kernel, by decide +kernel⟩
theorem ok_uThree {f fP fQ : Addr} {fd fdP fdQ : FuncData} (F : Fun K "_law_is_threefold" "_law_is_threefold" uThree f fd) (T : Bj mg) (GP : Dn P w0 K mg base "_law_pairs" 1 ["_law_some"] spUPairs fP fdP) (GQ : Dn P w0 K mg base "_law_parts" 1 ["_law_web_here", "_law_gone"] spUParts fQ fdQ) :
    FnOk P w0 K mg base CX0 2 f fd ["_law_web_here"] spThree := by
  refine F.ok scUThree (fun vs H Q E h => ?_) (fun cdv A outer s H vs Q E hr h => ?_)
  · obtain ⟨w, n, L, rfl, _⟩ := h
    rfl
  · obtain ⟨w, n, L, rfl, G, k⟩ := h
    refine ⟨_, pss_cons (ps_set (i := 1) scUThree.nd rfl (.inl rfl) (pe_listRg rfl (by rfl) T.list (prg_1 (by rfl) T.range (pe_ix ix_tup (pv 0) pe_int (fun _ _ => rfl)))))
      <| pss_cons (ps_if (pt_cmpR op_lt (pe_ix ix_tup (pv 0) pe_int (fun _ _ => rfl)) pe_int (nomark _)) (pss_one (ps_ret pe_bl)) pss_nil)
      <| pss_cons (ps_for PassesOwn.never rfl (pi_list (pe_op op_cat (pe_op op_cat (pe_lst (pa_cons (pe_tup pa_nil) pa_nil)) (pe_lc (own := [("_law_place", 3)]) (g := gName 3) (tt := tYes) rfl scUThree.nd (pi_list (pv 1))
          (blkOk_by (N := nUThree) (sc := defScope uThree) (by decide +kernel)) (fun _ _ _ _ _ => pg_name (i := 3) scUThree.nd rfl (Or.inl rfl)) (fun _ _ _ _ _ => pts_nil) (fun _ _ _ _ _ => pe_tup (pa_cons (pv 3) pa_nil))))
          (pe_call GP.ok hr rfl GP.g GP.kp GP.b .nil pass0 (pa_cons (pv 1) pa_nil)))) (pg_name (i := 2) scUThree.nd rfl (.inl rfl))
          (pss_one (ps_if (pt_cmpR op_ne (pe_callB call_len_seq (by rfl) T.len PySem.boot_len (pa_cons (pe_call GQ.ok hr rfl GQ.g GQ.kp GQ.b .nil pass0 (pa_cons (pv 0) (pa_cons (pv 2) pa_nil))) pa_nil)) pe_int (nomark _)) (pss_one (ps_ret pe_bl)) pss_nil)))
      <| pss_one (ps_ret pe_bl), ?_⟩
    obtain ⟨ta, vs, e1, e2, e3⟩ := G.web.ex
    have n1 := G.n1
    have n2 := G.n2
    refine ⟨_, rfl, w, _, _, _, rfl, rfl, SqT.of e1, atI_nat (j := 0) rfl, _, rfl, .of_le (by omega) (by omega) (by omega) (by omega), fun q hq => ?_⟩
    rw [rg_ints]
    have s0 : Same H (upd H q (.lst (((List.range n).map fun i => ((i : Nat) : Int)).map V.int))) := same_new hq
    have eq0 : (upd H q (.lst (((List.range n).map fun i => ((i : Nat) : Int)).map V.int))) q = some (.lst ((List.range n).map natV)) := by rw [upd_same, natV_ints]
    generalize upd H q (.lst (((List.range n).map fun i => ((i : Nat) : Int)).map V.int)) = M1 at s0 eq0 ⊢
    refine ⟨_, rfl, w, _, _, _, rfl, rfl, SqT.of (s0 _ _ e1), atI_nat (j := 0) rfl, _, _, rfl, rfl, _, rfl, ?_⟩
    by_cases h4 : (n : Int) < 4
    · rw [decide_eq_true h4]
      exact iteT (k false M1 s0 ⟨fun z => (by cases z), fun z => absurd z.1 (by omega)⟩)
    rw [decide_eq_false h4]
    refine iteF ⟨by show 0 ≤ sizeLine; exact Nat.zero_le _, fun t1 ht1 => ⟨by show 1 ≤ sizeLine; decide, fun l1 hl1 => ?_⟩⟩
    have s2 : Same M1 (upd (upd M1 t1 (.tup [])) l1 (.lst [.ref t1])) := (same_new ht1).trans (same_new hl1)
    have k1 : TupsK (upd (upd M1 t1 (.tup [])) l1 (.lst [.ref t1])) [.ref t1] [[]] := .cons (same_new hl1 _ _ upd_same) .nil
    have e1' : (upd (upd M1 t1 (.tup [])) l1 (.lst [.ref t1])) l1 = some (.lst [.ref t1]) := upd_same
    generalize upd (upd M1 t1 (.tup [])) l1 (.lst [.ref t1]) = M2 at s2 k1 e1' ⊢
    have ep2 := s2 _ _ eq0
    refine ⟨_, rfl, q, rfl, ⟨_, SqL.of ep2⟩, fun Da hD => ?_⟩
    refine lc_it (walk_list (xs := (List.range n).map natV)) (fun i N => ∃ us, N Da = some (.lst us) ∧ Same M2 N ∧ TupsK N us ((List.range i).map fun i => [i])) ⟨[], upd_same, same_new hD, .nil⟩ (fun i N _ ⟨_, _, g2, _⟩ => SqL.of (g2 _ _ ep2)) ?_ ?_
    · rintro i x N N' hi ⟨us, g1, g2, g3⟩ ⟨rfl, hx⟩
      rw [List.length_map, List.length_range] at hi
      have ex : x = natV i := by
        rw [List.getElem?_map, List.getElem?_range hi] at hx
        exact (Option.some.inj hx).symm
      subst ex
      have lu := g3.len
      rw [List.length_map, List.length_range] at lu
      refine ⟨rfl, ?_⟩
      unfold tYes
      refine iteT ⟨_, rfl, by show 1 ≤ sizeLine; decide, fun t ht => ?_⟩
      have s3 : Same N' (upd N' t (.tup [natV i])) := same_new ht
      refine ⟨us, s3 _ _ g1, Nat.lt_of_le_of_lt (show us.length ≤ 1000 by omega) (by rw [sizeLine_eq]; decide), us ++ [.ref t], upd_same, set_same hD (g2.trans s3), ?_⟩
      rw [List.range_succ, List.map_append]
      exact ((g3.mono (same_tup s3)).app (.cons (r := [i]) upd_same .nil)).mono (upd_tup (s3 _ _ g1))
    rintro M3 ⟨us3, g1, g2, g3⟩
    rw [List.length_map, List.length_range] at g3
    have l3 := g3.len
    rw [List.length_map, List.length_range] at l3
    refine ⟨l1, Da, _, _, rfl, rfl, g2 _ _ e1', g1, by show 1 + us3.length ≤ sizeLine; rw [sizeLine_eq]; omega, fun l4 hl4 => ?_⟩
    have s4 : Same M3 (upd M3 l4 (.lst ([.ref t1] ++ us3))) := same_new hl4
    have k4 : TupsK (upd M3 l4 (.lst ([.ref t1] ++ us3))) ([.ref t1] ++ us3) ([[]] ++ (List.range n).map fun i => [i]) := ((k1.same g2).app g3).same s4
    have e4 : (upd M3 l4 (.lst ([.ref t1] ++ us3))) l4 = some (.lst ([.ref t1] ++ us3)) := upd_same
    have s24 := (s2.trans g2).trans s4
    generalize upd M3 l4 (.lst ([.ref t1] ++ us3)) = M4 at s4 k4 e4 s24 ⊢
    generalize [V.ref t1] ++ us3 = us4 at k4 e4 ⊢
    clear g1 g2 g3 l3 k1 e1' ep2 s4
    refine ⟨_, rfl, q, n, rfl, n2, s24 _ _ eq0, fun l5 us5 M5 s5 hl5 e5 k5 => ?_⟩
    have l4' := k4.len
    have l5' := k5.len
    have fp := (few_prN n2).1
    unfold prR at l5'
    rw [List.length_map] at l5'
    rw [List.length_append, List.length_map, List.length_range] at l4'
    simp only [List.length_singleton] at l4'
    refine ⟨l4, l5, _, _, rfl, rfl, s5 _ _ e4, e5, by rw [sizeLine_eq]; omega, fun l6 hl6 => ?_⟩
    have s6 : Same M5 (upd M5 l6 (.lst (us4 ++ us5))) := same_new hl6
    have k6 : TupsK (upd M5 l6 (.lst (us4 ++ us5))) (us4 ++ us5) (lots3 n) := ((k4.same s5).app k5).same s6
    have e6 : (upd M5 l6 (.lst (us4 ++ us5))) l6 = some (.lst (us4 ++ us5)) := upd_same
    have s06 := ((s0.trans s24).trans s5).trans s6
    generalize upd M5 l6 (.lst (us4 ++ us5)) = M6 at k6 e6 s06 ⊢
    have l6' := k6.len
    generalize us4 ++ us5 = us6 at k6 e6 l6' ⊢
    refine ⟨l6, rfl, ⟨_, SqL.of e6⟩, ?_⟩
    refine for_list (K := K) (a := l6) (xs := us6) (fun i σ N => ∃ o2 : Option V, σ = [some (.ref w), some (.ref q), o2, none] ∧ Same M6 N ∧ ∀ ks ∈ (lots3 n).take i, Conn L (leftM n ks)) ⟨none, rfl, Same.refl _, fun ks hk => by simp at hk⟩ (fun i σ N _ ⟨_, _, g2, _⟩ => SqL.of (g2 _ _ e6)) ?_ ?_
    · rintro i x σ N hx ⟨o2, rfl, g2, g4⟩
      obtain ⟨t, ks, rfl, hk, ht⟩ := k6.get hx
      have km := List.mem_of_getElem? hk
      have fw := mem_lots3.mp km
      refine ⟨_, rfl, _, rfl, w, t, n, L, ks, rfl, G.same (s06.trans g2), .inl (g2 _ _ ht), fw.lt, fw.nodup, fun l us ys N2 s2 hl el ky ip => ?_⟩
      have cn := ip.cls.conn
      have ly := ky.len
      refine ⟨l, us, rfl, .inl (SqL.of el), rfl, _, rfl, ?_⟩
      have e1 : decide (V.int ((us.length : Nat) : Int) = V.int 1) = decide (us.length = 1) := by
        by_cases z : us.length = 1
        · rw [z] <;> rfl
        · rw [decide_eq_false z, decide_eq_false]
          intro y
          injection y with y
          omega
      rw [e1]
      by_cases z : us.length = 1
      · rw [decide_eq_true z]
        refine iteF ⟨_, rfl, g2.trans s2, fun js hj => ?_⟩
        rw [take_snoc hk] at hj
        rcases List.mem_append.mp hj with hj | hj
        · exact g4 js hj
        · rw [List.mem_singleton.mp hj]
          exact cn.mp (by rw [← ly]; exact z)
      · rw [decide_eq_false z]
        refine iteT (k false N2 ((s06.trans g2).trans s2) ⟨fun y => (by cases y), fun tf => absurd ?_ z⟩)
        rw [ly]
        exact cn.mpr (tf.2 ks fw)
    · rintro σ N ⟨o2, rfl, g2, g4⟩
      rw [l6', List.take_length] at g4
      exact k true N (s06.trans g2) ⟨fun _ => tf_lots3.mpr ⟨by omega, g4⟩, fun _ => rfl⟩
end
end K0

set_option Elab.async false
set_option linter.all false
set_option maxRecDepth 100000
set_option maxHeartbeats 8000000
/-! Drawn ties. -/
namespace K0
open PySem PySem.Spec L2
open PyProof.Rows hiding St
abbrev uTies : Stmt := top 43
def rSlY : V → Option Int → Option Int → Hp → VK → Prop := fun x lo hi H Q => ∃ a xs, x = .ref a ∧ H a = some (.tup xs) ∧ ∀ (p : Addr) (H' : Hp), Same H H' → H' p = some (.tup (cutV xs lo hi)) → Q (.ref p) H'
theorem cut_wholeY (xs : List V) {lo hi : Option Int} (e : HT.sIx xs.length 0 lo = 0 ∧ HT.sIx xs.length xs.length hi = xs.length) : cutV xs lo hi = xs := by
  unfold cutV
  rw [e.1, e.2, List.drop_zero, Nat.sub_zero]
  exact List.take_of_length_le (Nat.le_refl _)
theorem sl_Y {X : Cx} : SlR X rSlY := fun pins s σ H x v vl vu lo hi sl Q I rx hs pl pu h => by
  obtain ⟨a, xs, rfl, ha, q⟩ := h
  refine sl_tupA pins s σ H _ v vl vu lo hi sl Q I rx hs pl pu ⟨a, xs, rfl, SqT.of ha, fun e => ?_, fun _ p hp => ?_⟩
  · exact q a H (Same.refl _) (by rw [cut_wholeY xs e]; exact ha)
  · exact q p _ (same_new hp) upd_same
/-- as ps_invP, where it may be returned -/
def tInvQ {α : Type} (J J' : α → L2.St → Hp → Prop) (R : α → V → Hp → Prop) : TS := fun D σ H => ∃ x : α, J x σ H ∧ (∀ σ' H', J' x σ' H' → D.nx σ' H') ∧ ∀ v H', R x v H' → D.rt v H'
theorem ps_invQ {α : Type} {X : Cx} {st : Stmt} {t : TS} {J J' : α → L2.St → Hp → Prop} {R : α → V → Hp → Prop} (h : PS X st t) (w : ∀ x D σ H, J x σ H → (∀ σ' H', J' x σ' H' → D.nx σ' H') → (∀ v H', R x v H' → D.rt v H') → t D σ H) : PS X st (tInvQ J J' R) :=
  ⟨fun pins s σ H D I q => let ⟨x, q1, q2, q3⟩ := q; h.run pins s σ H D I (w x D σ H q1 q2 q3)⟩
theorem TupsK.prs {H : Hp} {us : List V} {ps : List (Nat × Nat)} (h : TupsK H us (ps.map fun q => [q.1, q.2])) : Prs H us (ps.map fun q => ((q.1 : Int), (q.2 : Int))) := by
  induction ps generalizing us with
  | nil => cases h; exact .nil
  | cons q ps ih =>
    cases h with
    | cons e t => exact .cons (q := ((q.1 : Int), (q.2 : Int))) e (ih t)
theorem prN_ends (m : Nat) : Ends m ((prN m).map fun q => ((q.1 : Int), (q.2 : Int))) := fun q hq => by
  obtain ⟨⟨a, b⟩, h, rfl⟩ := List.mem_map.mp hq
  have := mem_prN.mp h
  dsimp only
  omega
theorem Prs.drop {H : Hp} {vs : List V} {L : List (Int × Int)} (p : Prs H vs L) : ∀ k : Nat, Prs H (vs.drop k) (L.drop k) := by
  induction p with
  | nil => intro k; rw [List.drop_nil, List.drop_nil]; exact .nil
  | @cons a q vs L h t ih =>
    intro k
    cases k with
    | zero => exact .cons h t
    | succ k => exact ih k
theorem Prs.take {H : Hp} {vs : List V} {L : List (Int × Int)} (p : Prs H vs L) : ∀ k : Nat, Prs H (vs.take k) (L.take k) := by
  induction p with
  | nil => intro k; rw [List.take_nil, List.take_nil]; exact .nil
  | @cons a q vs L h t ih =>
    intro k
    cases k with
    | zero => exact .nil
    | succ k => exact .cons h (ih k)
theorem ord_nodup {n : Nat} {os : List Int} (h : IsOrd n os) : os.Nodup := by
  refine h.nodup_iff.mpr ?_
  unfold List.Nodup
  rw [List.pairwise_map]
  exact List.nodup_range.imp fun {a b} ne e => ne (by omega)
/-- a list of ties, growing -/
structure EJ (M : Hp) (D : Addr) (m : Int) (i : Nat) : Prop where
  ex : ∃ us L, M D = some (.lst us) ∧ Prs M us L ∧ Ends m L ∧ L.length ≤ i
theorem EJ.nil {H : Hp} {D : Addr} {m : Int} : EJ (upd H D (.lst [])) D m 0 := ⟨[], [], upd_same, .nil, .nil, Nat.le_refl _⟩
theorem EJ.put {M : Hp} {D t : Addr} {m x y : Int} {i : Nat} (h : EJ M D m i) (ht : M t = none) (e : (0 ≤ x ∧ x < m) ∧ (0 ≤ y ∧ y < m) ∧ x ≠ y) (hi : i ≤ 900) :
    ∃ us, (upd M t (.tup [.int x, .int y])) D = some (.lst us) ∧ us.length < sizeLine ∧ EJ (upd (upd M t (.tup [.int x, .int y])) D (.lst (us ++ [.ref t]))) D m (i + 1) := by
  obtain ⟨us, L, h1, h2, h3, h4⟩ := h.ex
  have s1 : Same M (upd M t (.tup [.int x, .int y])) := same_new ht
  have lu := h2.len
  refine ⟨us, s1 _ _ h1, Nat.lt_of_le_of_lt (show us.length ≤ 1000 by omega) (by rw [sizeLine_eq]; decide), us ++ [.ref t], L ++ [(x, y)], upd_same, ?_, h3.app (.one e), by rw [List.length_append, List.length_singleton]; omega⟩
  exact ((h2.mono (same_tup s1)).app (.cons (q := (x, y)) upd_same .nil)).mono (upd_tup (s1 _ _ h1))
/-- what is fixed while ties are drawn -/
structure UT where
  H : Hp
  p : Addr
  c : Addr
  n : Nat
def TiesR (x : UT) (v : V) (M : Hp) : Prop := ∃ (t l : Addr) (m : Nat) (us : List V) (L : List (Int × Int)), v = .ref t ∧ M t = some (.tup [.int (m : Int), .ref l]) ∧ M l = some (.lst us) ∧ x.H l = none ∧ Prs M us L ∧ Ends m L ∧ L.length ≤ 40 ∧
  1 ≤ m ∧ m ≤ x.n ∧ (3 ≤ x.n → 3 ≤ m) ∧ Deck M x.p x.c ∧ Kp x.p x.c x.H M
theorem ties_ret {x : UT} {M : Hp} {t l : Addr} {m : Nat} {us : List V} {L : List (Int × Int)} (ht : M t = none) (h1 : M l = some (.lst us)) (h2 : x.H l = none) (h3 : Prs M us L) (h4 : Ends m L) (h5 : L.length ≤ 40) (h6 : 1 ≤ m) (h7 : m ≤ x.n) (h8 : 3 ≤ x.n → 3 ≤ m) (h9 : Deck M x.p x.c) (h10 : Kp x.p x.c x.H M) :
    TiesR x (.ref t) (upd M t (.tup [.int (m : Int), .ref l])) :=
  ⟨t, l, m, us, L, rfl, upd_same, same_new ht _ _ h1, h2, h3.mono (new_tup ht), h4, h5, h6, h7, h8, h9.new ht, h10.trans (kp_new ht)⟩
def TsJ (x : UT) : L2.St → Hp → Prop := fun σ M => ∃ (way : Int) (q : Addr), σ = [some (.ref x.p), some (.int (x.n : Int)), some (.int way), some (.ref q), none, none, none, none, none, none, none, none] ∧ M q = some (.lst ((List.range x.n).map natV)) ∧ Deck M x.p x.c ∧ Kp x.p x.c x.H M ∧ 1 ≤ x.n ∧ x.n ≤ 12
def spUTies : Sp := fun vs H Q _ => ∃ (p c : Addr) (n : Nat), vs = [.ref p, .int n] ∧ 1 ≤ n ∧ n ≤ 12 ∧ Deck H p c ∧ ∀ v M, TiesR ⟨H, p, c, n⟩ v M → Q v M
/-- so many turns, or none -/
def IfTn (σ : L2.St) (M : Hp) (Q : VK) : Prop := ∃ (p c : Addr) (n : Nat), σ[0]? = some (some (.ref p)) ∧ σ[1]? = some (some (.int (n : Int))) ∧ n ≤ 12 ∧ Deck M p c ∧ ∀ (r : Int) (M1 : Hp), 0 ≤ r → r < n + 2 → (n ≤ 1 → r = 0) → Deck M1 p c → Kp p c M M1 → Q (.int r) M1
theorem ring_next {i k : Nat} (hi : i < k) (hk : 2 ≤ k) : 0 ≤ ((i : Int) + 1).fmod k ∧ ((i : Int) + 1).fmod k < k ∧ ((i : Int) + 1).fmod k ≠ i := by
  rw [Int.fmod_eq_emod_of_nonneg _ (by omega)]
  rcases Nat.lt_or_ge (i + 1) k with z | z
  · rw [Int.emod_eq_of_lt (by omega) (by omega)]
    omega
  · rw [show ((i : Int) + 1) = k by omega, Int.emod_self]
    omega
section
variable {P : Program} {w0 : World} {K : PySem.W.Frag} {mg : Str → Option Value} {base : Heap}
abbrev nUTies : List Str := ["_law_deck_here", "_law_n", "_law_way", "_law_some", "_law_ring", "_law_near", "_law_ties_here", "_law_one", "_law_half", "_law_at", "_law_go", "_law_other"]
theorem scUTies : FnScope nUTies ["_law_deck_here", "_law_n"] (defScope uTies) := ⟨rfl, rfl, rfl, by decide +kernel, rfl, by decide +kernel, by decide +kernel⟩
theorem ok_uTies {f fD fP fR fO : Addr} {fd fdD fdP fdR fdO : FuncData} (F : Fun K "_law_ties" "_law_ties" uTies f fd) (T : Bj mg) (GD : Dn P w0 K mg base "_law_draw" 1 ["_law_deck_here", "_law_below"] spDraw fD fdD) (GP : Dn P w0 K mg base "_law_pick" 2 ["_law_deck_here", "_law_some"] spPick fP fdP)
    (GR : Dn P w0 K mg base "_law_pairs" 1 ["_law_some"] spUPairs fR fdR) (GO : Dn P w0 K mg base "_law_order" 2 ["_law_deck_here", "_law_n"] spUOrder fO fdO) : FnOk P w0 K mg base CX0 3 f fd ["_law_deck_here", "_law_n"] spUTies := by
  refine F.ok scUTies (fun vs H Q E h => ?_) (fun cdv A outer s H vs Q E hr h => ?_)
  · obtain ⟨p, c, n, rfl, _⟩ := h
    rfl
  · obtain ⟨p, c, n, rfl, n1, n2, D, k⟩ := h
    have hr1 : Room 1 (A.deeper (envOfC "_law_ties" (defScope uTies) s.heap.objs.size f cdv)) := hr.mono (by decide)
    refine ⟨_, pss_cons (ps_par (i := 2) (j := 3) rfl scUTies.nd rfl rfl (by decide) rfl rfl (pa_cons (pe_call GD.ok hr1 rfl GD.g GD.kp GD.b .nil pass0 (pa_cons (pv 0) (pa_cons pe_int pa_nil))) (pa_cons (pe_listRg rfl (by rfl) T.list (prg_1 (by rfl) T.range (pv 1))) pa_nil)) (by rfl))
      <| pss_cons (ps_invQ (J := TsJ) (J' := TsJ) (R := TiesR) (ps_if (pt_cmpR op_eq (pv 2) pe_int (nomark _))
          (pss_cons (ps_set (i := 1) scUTies.nd rfl (.inr rfl) (pe_callB (call_min2 rfl) (by rfl) T.min (by decide +kernel) (pa_cons (pv 1) (pa_cons pe_int pa_nil))))
          <| pss_one (ps_ret (pe_tup (pa_cons (pv 1) (pa_cons (pe_call GR.ok hr1 rfl GR.g GR.kp GR.b .nil pass0 (pa_cons (pe_slice sl_list (pv 3) po_none (po_some (pv 1))) pa_nil)) pa_nil))))) pss_nil) ?i0)
      <| pss_cons (ps_invQ (J := TsJ) (J' := TsJ) (R := TiesR) (ps_if (PW.pt (pw_and (pt_cmpR op_eq (pv 2) pe_int (nomark _)) (pw_and1 (pt_cmpR op_gt (pv 1) pe_int (nomark _)))))
          (pss_cons (ps_set (i := 1) scUTies.nd rfl (.inr rfl) (pe_callB (call_min2 rfl) (by rfl) T.min (by decide +kernel) (pa_cons (pv 1) (pa_cons pe_int pa_nil))))
          <| pss_cons (ps_setLc (i := 4) (own := [("_law_at", 9)]) (g := gName 9) (tt := tYes) rfl scUTies.nd rfl rfl (sw_true rfl rfl rfl (by decide +kernel)) (pi_range1 (by rfl) T.range (pa_cons (pe_op op_sub (pv 1) pe_int) pa_nil)) (blkOk_by (N := nUTies) (sc := defScope uTies) (by decide +kernel))
              (fun _ _ _ _ _ => pg_name (i := 9) scUTies.nd rfl (Or.inl rfl)) (fun _ _ _ _ _ => pts_nil) (fun _ _ _ _ _ => pe_tup (pa_cons (pv 9) (pa_cons (pe_op op_modN (pe_callTy call_int1 (by rfl) T.int (by decide +kernel) (pa_cons (pe_op op_add (pv 9) pe_int) pa_nil)) (pe_op op_sub (pv 1) pe_int)) pa_nil))))
          <| pss_one (ps_ret (pe_tup (pa_cons (pv 1) (pa_cons (pe_op op_cat (pv 4) (pe_lc (own := [("_law_at", 9)]) (g := gName 9) (tt := tYes) rfl scUTies.nd (pi_range1 (by rfl) T.range (pa_cons (pe_op op_sub (pv 1) pe_int) pa_nil)) (blkOk_by (N := nUTies) (sc := defScope uTies) (by decide +kernel))
              (fun _ _ _ _ _ => pg_name (i := 9) scUTies.nd rfl (Or.inl rfl)) (fun _ _ _ _ _ => pts_nil) (fun _ _ _ _ _ => pe_tup (pa_cons (pv 9) (pa_cons (pe_op op_sub (pv 1) pe_int) pa_nil))))) pa_nil))))) pss_nil) ?i1)
      <| pss_cons (ps_invQ (J := TsJ) (J' := TsJ) (R := TiesR) (ps_if (PW.pt (pw_and (pt_cmpR op_eq (pv 2) pe_int (nomark _)) (pw_and1 (pt_cmpR op_gt (pv 1) pe_int (nomark _)))))
          (pss_cons (ps_asg (pe_tup (pa_cons (pe_callB (call_min2 rfl) (by rfl) T.min (by decide +kernel) (pa_cons (pv 1) (pa_cons pe_int pa_nil))) (pa_cons (pe_call GP.ok hr rfl GP.g GP.kp GP.b .nil pass0 (pa_cons (pv 0) (pa_cons (pe_lst (pa_cons pe_int (pa_cons pe_int (pa_cons pe_int (pa_cons pe_int pa_nil))))) pa_nil))) (pa_cons (pe_lst pa_nil) pa_nil))))
              (pg_tup rfl (pgs_cons (pg_name (i := 1) scUTies.nd rfl (.inr rfl)) (pgs_cons (pg_name (i := 5) scUTies.nd rfl (.inl rfl)) (pgs_cons (pg_name (i := 6) scUTies.nd rfl (.inl rfl)) pgs_nil)))))
          <| pss_cons (ps_for PassesOwn.never rfl (pi_range1 (by rfl) T.range (pa_cons (pv 5) pa_nil)) (pg_name (i := 7) scUTies.nd rfl (.inr rfl))
              (pss_one (ps_expr (pe_bm PySem.F.plainAttrs_list PySem.F.slot_list_extend PySem.F.type_list_extend mt_extend (pv 6) (pa_cons
                (pe_lc (own := [("_law_other", 11)]) (g := gName 11) (tt := tYes) rfl scUTies.nd (pi_range2 (by rfl) T.range (pa_cons (pv 5) (pa_cons (pv 1) pa_nil))) (blkOk_by (N := nUTies) (sc := defScope uTies) (by decide +kernel))
                  (fun _ _ _ _ _ => pg_name (i := 11) scUTies.nd rfl (Or.inl rfl)) (fun _ _ _ _ _ => pts_nil) (fun _ _ _ _ _ => pe_tup (pa_cons (pv 7) (pa_cons (pv 11) pa_nil)))) pa_nil)))))
          <| pss_one (ps_ret (pe_tup (pa_cons (pv 1) (pa_cons (pv 6) pa_nil))))) pss_nil) ?i2)
      <| pss_cons (ps_invQ (J := TsJ) (J' := TsJ) (R := TiesR) (ps_if (PW.pt (pw_and (pt_cmpR op_eq (pv 2) pe_int (nomark _)) (pw_and1 (pt_cmpR op_gt (pv 1) pe_int (nomark _)))))
          (pss_cons (ps_par (i := 8) (j := 6) rfl scUTies.nd rfl rfl (by decide) rfl rfl (pa_cons (pe_op op_fdivN (pv 1) pe_int) (pa_cons (pe_lst pa_nil) pa_nil)) (by rfl))
          <| pss_cons (ps_for PassesOwn.never rfl (pi_range1 (by rfl) T.range (pa_cons (pv 8) pa_nil)) (pg_name (i := 9) scUTies.nd rfl (.inl rfl))
              (pss_one (ps_expr (pe_bm PySem.F.plainAttrs_list PySem.F.slot_list_extend PySem.F.type_list_extend mt_extend (pv 6) (pa_cons (pe_lst
                (pa_cons (pe_tup (pa_cons (pv 9) (pa_cons (pe_op op_modN (pe_callTy call_int1 (by rfl) T.int (by decide +kernel) (pa_cons (pe_op op_add (pv 9) pe_int) pa_nil)) (pv 8)) pa_nil)))
                (pa_cons (pe_tup (pa_cons (pe_op op_add (pv 8) (pv 9)) (pa_cons (pe_op op_add (pv 8) (pe_op op_modN (pe_callTy call_int1 (by rfl) T.int (by decide +kernel) (pa_cons (pe_op op_add (pv 9) pe_int) pa_nil)) (pv 8))) pa_nil)))
                (pa_cons (pe_tup (pa_cons (pv 9) (pa_cons (pe_op op_add (pv 8) (pv 9)) pa_nil))) pa_nil)))) pa_nil)))))
          <| pss_one (ps_ret (pe_tup (pa_cons (pe_op op_mul pe_int (pv 8)) (pa_cons (pv 6) pa_nil))))) pss_nil) ?i3)
      <| pss_cons (ps_set (i := 6) scUTies.nd rfl (.inl rfl) (pe_op op_cat (pe_lc (own := [("_law_at", 9)]) (g := gName 9) (tt := tYes) rfl scUTies.nd (pi_range2 (by rfl) T.range (pa_cons pe_int (pa_cons (pv 1) pa_nil))) (blkOk_by (N := nUTies) (sc := defScope uTies) (by decide +kernel))
              (fun _ _ _ _ _ => pg_name (i := 9) scUTies.nd rfl (Or.inl rfl)) (fun _ _ _ _ _ => pts_nil) (fun _ _ _ _ _ => pe_tup (pa_cons (pe_op op_sub (pv 9) pe_int) (pa_cons (pv 9) pa_nil))))
            (pe_lc (own := [("_law_go", 10)]) (g := gName 10) rfl scUTies.nd (pi_range1 (by rfl) T.range (pa_cons pe_int pa_nil)) (blkOk_by (N := nUTies) (sc := defScope uTies) (by decide +kernel))
              (fun _ _ _ _ _ => pg_name (i := 10) scUTies.nd rfl (Or.inl rfl)) (fun _ _ _ _ _ => pts_one (pt_cmpR op_gt (pv 1) pe_int (nomark _))) (fun _ _ _ _ _ => pe_tup (pa_cons pe_int (pa_cons (pe_op op_sub (pv 1) pe_int) pa_nil))))))
      <| pss_cons (ps_for PassesOwn.never rfl (pi_range1 (by rfl) T.range (pa_cons (pe_imp (t' := IfTn) (pe_ifExp (pt_cmpR op_gt (pv 1) pe_int (nomark _)) (pe_call GD.ok hr1 rfl GD.g GD.kp GD.b .nil pass0 (pa_cons (pv 0) (pa_cons (pe_op op_add (pv 1) pe_int) pa_nil))) pe_int) ?ifn) pa_nil)) (pg_name (i := 10) scUTies.nd rfl (.inl rfl))
          (pss_one (ps_expr (pe_bm PySem.F.plainAttrs_list PySem.F.slot_list_append PySem.F.type_list_append mt_append (pv 6) (pa_cons (pe_slice sl_Y (pe_call GO.ok hr rfl GO.g GO.kp GO.b .nil pass0 (pa_cons (pv 0) (pa_cons (pv 1) pa_nil))) po_none (po_some pe_int)) pa_nil)))))
      <| pss_one (ps_ret (pe_tup (pa_cons (pv 1) (pa_cons (pe_ifExp (pt_cmpR op_gt (pv 2) pe_int (nomark _)) (pv 6) (pe_slice sl_list (pv 6) (po_some (pe_call GD.ok hr1 rfl GD.g GD.kp GD.b .nil pass0 (pa_cons (pv 0) (pa_cons (pe_op op_add (pe_callB call_len_seq (by rfl) T.len PySem.boot_len (pa_cons (pv 6) pa_nil)) pe_int) pa_nil)))) po_none)) pa_nil)))), ?main⟩
    case ifn =>
      rintro σ M Q ⟨p, c, n, h0, h1, hn, D, k⟩
      refine ⟨_, h1, _, _, rfl, rfl, _, rfl, ?_⟩
      by_cases z : (n : Int) > 1
      · rw [decide_eq_true z]
        refine iteT ⟨_, h0, _, h1, _, _, rfl, rfl, p, c, _, rfl, D, by omega, by omega, fun r M1 r0 r1 D1 K1 => k r M1 r0 r1 (fun y => by omega) D1 K1⟩
      · rw [decide_eq_false z]
        exact iteF (k 0 M (by omega) (by omega) (fun _ => rfl) D fun _ _ _ _ y => y)
    case i0 =>
      rintro ⟨H, p, c, n⟩ D0 σ M ⟨way, q, rfl, hq, DM, KM, n1, n2⟩ nx rt
      dsimp only at *
      refine ⟨_, rfl, rfl, _, rfl, ite2 (fun _ => ?_) (fun _ => nx _ _ ⟨way, q, rfl, hq, DM, KM, n1, n2⟩)⟩
      obtain ⟨m, em, m1, m2, m3, m4⟩ : ∃ m : Nat, (if (6 : Int) < (n : Int) then (6 : Int) else n) = m ∧ 1 ≤ m ∧ m ≤ n ∧ m ≤ 6 ∧ (3 ≤ n → 3 ≤ m) := by
        by_cases z : (6 : Int) < (n : Int)
        · exact ⟨6, by rw [if_pos z] <;> rfl, by omega, by omega, by omega, by omega⟩
        · exact ⟨n, by rw [if_neg z], by omega, by omega, by omega, by omega⟩
      refine ⟨_, rfl, _, _, rfl, ?_⟩
      show gName 1 (.int (if (6 : Int) < (n : Int) then (6 : Int) else n)) _ _ _
      rw [em]
      refine ⟨_, rfl, _, rfl, _, rfl, _, rfl, q, _, rfl, SqL.of hq, fun p1 hp1 => ?_⟩
      rw [cut_to, ← List.map_take, List.take_range, Nat.min_eq_left m2]
      have s1 : Same M (upd M p1 (.lst ((List.range m).map natV))) := same_new hp1
      refine ⟨p1, m, rfl, by omega, upd_same, fun r us M1 s2 hr' er kr => ⟨by show 2 ≤ sizeLine; decide, fun t ht => ?_⟩⟩
      have s12 := s1.trans s2
      have fw := (few_prN (m := m) (by omega)).2 m3
      unfold prR at kr
      exact rt _ _ (ties_ret ht er (KM.dom DM (s1.free hr')) kr.prs (prN_ends m) (by rw [List.length_map]; omega) m1 m2 m4 (DM.same s12) (KM.trans (kp_same s12)))
    case i1 =>
      rintro ⟨H, p, c, n⟩ D0 σ M ⟨way, q, rfl, hq, DM, KM, n1, n2⟩ nx rt
      dsimp only at *
      refine ⟨_, rfl, rfl, _, rfl, ite2 (fun _ => ?_) (fun _ => iteF (nx _ _ ⟨way, q, rfl, hq, DM, KM, n1, n2⟩))⟩
      refine ⟨_, rfl, _, _, rfl, rfl, _, rfl, ?_⟩
      by_cases h4 : (n : Int) > 3
      rotate_left
      · rw [decide_eq_false h4]
        exact iteF (nx _ _ ⟨way, q, rfl, hq, DM, KM, n1, n2⟩)
      rw [decide_eq_true h4]
      obtain ⟨m, em, m1, m2, m3⟩ : ∃ m : Nat, (if (11 : Int) < (n : Int) then (11 : Int) else n) = m ∧ 4 ≤ m ∧ m ≤ n ∧ m ≤ 11 := by
        by_cases z : (11 : Int) < (n : Int)
        · exact ⟨11, by rw [if_pos z] <;> rfl, by omega, by omega, by omega⟩
        · exact ⟨n, by rw [if_neg z], by omega, by omega, by omega⟩
      refine iteT ⟨_, rfl, _, _, rfl, ?_⟩
      show gName 1 (.int (if (11 : Int) < (n : Int) then (11 : Int) else n)) _ _ _
      rw [em]
      refine ⟨_, rfl, _, _, rfl, rfl, _, rfl, by omega, by omega, fun Da hD => ?_⟩
      obtain ⟨k, ek⟩ : ∃ k : Nat, m = k + 1 := ⟨m - 1, by omega⟩
      subst ek
      have e1 : (((k + 1 : Nat) : Int) - 1) = (k : Int) := by omega
      rw [e1]
      refine lc_range (lo := 0) (n := (k : Int).toNat) (fun i N => EJ N Da ((k + 1 : Nat) : Int) i ∧ Same M N) ⟨EJ.nil, same_new hD⟩ ?_ ?_
      · rintro i N hi ⟨g1, g2⟩
        have rn := ring_next (i := i) (k := k) (by omega) (by omega)
        refine ⟨rfl, ?_⟩
        unfold tYes
        refine iteT ⟨_, rfl, _, rfl, _, _, rfl, rfl, .inl ⟨_, rfl, _, rfl, _, _, rfl, rfl, _, _, rfl, rfl, (by rw [e1]; omega), by show 2 ≤ sizeLine; decide, fun t ht => ?_⟩⟩
        rw [e1, Int.zero_add] at *
        obtain ⟨us, u1, u2, u3⟩ := g1.put (x := (i : Int)) (y := ((i : Int) + 1).fmod k) ht (by omega) (by omega)
        exact ⟨us, u1, u2, u3, set_same hD (g2.trans (same_new ht))⟩
      rintro N ⟨g1, g2⟩
      obtain ⟨us1, L1, a1, a2, a3, a4⟩ := g1.ex
      refine ⟨_, rfl, _, rfl, _, rfl, _, _, rfl, rfl, _, rfl, by omega, by omega, fun Db hB => ?_⟩
      rw [e1]
      have ndb : Da ≠ Db := ne_of_none a1 hB
      refine lc_range (lo := 0) (n := (k : Int).toNat) (fun i N2 => EJ N2 Db ((k + 1 : Nat) : Int) i ∧ Same N N2) ⟨EJ.nil, same_new hB⟩ ?_ ?_
      · rintro i N2 hi ⟨f1, f2⟩
        refine ⟨rfl, ?_⟩
        unfold tYes
        refine iteT ⟨_, rfl, _, rfl, _, _, rfl, rfl, by show 2 ≤ sizeLine; decide, fun t ht => ?_⟩
        rw [e1, Int.zero_add] at *
        obtain ⟨us, u1, u2, u3⟩ := f1.put (x := (i : Int)) (y := ((k + 1 : Nat) : Int) - 1) ht (by omega) (by omega)
        exact ⟨us, u1, u2, u3, set_same hB (f2.trans (same_new ht))⟩
      rintro N2 ⟨f1, f2⟩
      obtain ⟨us2, L2, b1, b2, b3, b4⟩ := f1.ex
      have l1 := a2.len
      have l2 := b2.len
      refine ⟨Da, Db, us1, us2, rfl, rfl, f2 _ _ a1, b1, by rw [sizeLine_eq]; omega, fun l hl => ⟨by show 2 ≤ sizeLine; decide, fun t ht => ?_⟩⟩
      have s3 := (g2.trans f2).trans (same_new (o := .lst (us1 ++ us2)) hl)
      refine rt _ _ (ties_ret ht upd_same (KM.dom DM ((g2.trans f2).free hl)) ?_ (a3.app b3) (by rw [List.length_append]; omega) (by omega) m2 (fun _ => by omega) (DM.same s3) (KM.trans (kp_same s3)))
      exact ((a2.mono (same_tup f2)).app b2).mono (new_tup hl)
    case i2 =>
      rintro ⟨H, p, c, n⟩ D0 σ M ⟨way, q, rfl, hq, DM, KM, n1, n2⟩ nx rt
      dsimp only at *
      refine ⟨_, rfl, rfl, _, rfl, ite2 (fun _ => ?_) (fun _ => iteF (nx _ _ ⟨way, q, rfl, hq, DM, KM, n1, n2⟩))⟩
      refine ⟨_, rfl, _, _, rfl, rfl, _, rfl, ?_⟩
      by_cases h4 : (n : Int) > 4
      rotate_left
      · rw [decide_eq_false h4]
        exact iteF (nx _ _ ⟨way, q, rfl, hq, DM, KM, n1, n2⟩)
      rw [decide_eq_true h4]
      obtain ⟨m, em, m1, m2, m3⟩ : ∃ m : Nat, (if (9 : Int) < (n : Int) then (9 : Int) else n) = m ∧ 5 ≤ m ∧ m ≤ n ∧ m ≤ 9 := by
        by_cases z : (9 : Int) < (n : Int)
        · exact ⟨9, by rw [if_pos z] <;> rfl, by omega, by omega, by omega⟩
        · exact ⟨n, by rw [if_neg z], by omega, by omega, by omega⟩
      refine iteT ⟨_, rfl, _, _, rfl, ?_⟩
      rw [em]
      refine ⟨_, rfl, by show 4 ≤ sizeLine; decide, fun lm hlm => ?_⟩
      obtain ⟨lmp, lmc⟩ := DM.inp hlm
      refine ⟨p, c, lm, _, rfl, DM.new hlm, upd_same, lmp, lmc, by show 1 ≤ 4; decide, by show 4 < 1000; decide, fun j v M1 hj D1 K1 => ?_⟩
      obtain ⟨r, rfl, r1, r2⟩ : ∃ r : Nat, v = .int (r : Int) ∧ 2 ≤ r ∧ r ≤ 4 := by
        have hv := List.mem_of_getElem? hj
        simp only [List.mem_cons, List.not_mem_nil, or_false] at hv
        rcases hv with rfl | rfl | rfl | rfl
        · exact ⟨2, rfl, by decide, by decide⟩
        · exact ⟨3, rfl, by decide, by decide⟩
        · exact ⟨3, rfl, by decide, by decide⟩
        · exact ⟨4, rfl, by decide, by decide⟩
      have K01 := (KM.trans (kp_new (o := .lst [.int 2, .int 3, .int 3, .int 4]) hlm)).trans K1
      clear hj K1 lmp lmc hlm
      refine ⟨by show 0 ≤ sizeLine; exact Nat.zero_le _, fun lt hlt => ⟨by show 3 ≤ sizeLine; decide, fun t0 ht0 => ?_⟩⟩
      have ltH : H lt = none := K01.dom D1 hlt
      obtain ⟨ltp, ltc⟩ := D1.inp hlt
      have e0 : EJ (upd (upd M1 lt (.lst [])) t0 (.tup [.int (m : Int), .int (r : Int), .ref lt])) lt m 0 := by
        refine ⟨[], [], ?_, .nil, .nil, Nat.le_refl _⟩
        rw [upd_ne (ne_of_none upd_same ht0)]
        exact upd_same
      have D2 := (D1.new (o := .lst []) hlt).new (o := .tup [.int (m : Int), .int (r : Int), .ref lt]) ht0
      have K2 : Kp p c H (upd (upd M1 lt (.lst [])) t0 (.tup [.int (m : Int), .int (r : Int), .ref lt])) := (K01.trans (kp_new hlt)).trans (kp_new ht0)
      refine ⟨t0, _, rfl, SqT.of upd_same, rfl, _, _, rfl, _, _, rfl, _, _, rfl, rfl, ?_⟩
      generalize upd (upd M1 lt (.lst [])) t0 (.tup [.int (m : Int), .int (r : Int), .ref lt]) = M2 at e0 D2 K2 ⊢
      refine ⟨_, rfl, _, rfl, by omega, by omega, ?_⟩
      refine for_range (lo := 0) (n := (r : Int).toNat) (fun i σ M => ∃ o7 : Option V, σ = [some (.ref p), some (.int (m : Int)), some (.int way), some (.ref q), none, some (.int (r : Int)), some (.ref lt), o7, none, none, none, none] ∧ EJ M lt m (9 * i) ∧ Deck M p c ∧ Kp p c H M)
        ⟨none, rfl, e0, D2, K2⟩ ?_ ?_
      · rintro i σ M hi ⟨o7, rfl, g1, D3, K3⟩
        obtain ⟨us, L, a1, a2, a3, a4⟩ := g1.ex
        have la := a2.len
        refine ⟨_, rfl, .inl ⟨rfl, _, SqL.of a1⟩, _, rfl, _, rfl, _, _, rfl, ⟨by omega, by omega, by omega, by omega⟩, fun Da hD => ?_⟩
        have nd : lt ≠ Da := ne_of_none a1 hD
        refine lc_range (lo := (r : Int)) (n := ((m : Int) - (r : Int)).toNat) (fun j N => EJ N Da m j ∧ Same M N) ⟨EJ.nil, same_new hD⟩ ?_ ?_
        · rintro j N hj ⟨f1, f2⟩
          refine ⟨rfl, ?_⟩
          unfold tYes
          refine iteT ⟨_, rfl, _, rfl, by show 2 ≤ sizeLine; decide, fun t ht => ?_⟩
          obtain ⟨us', u1, u2, u3⟩ := f1.put (x := 0 + (i : Int)) (y := (r : Int) + (j : Int)) ht (by omega) (by omega)
          exact ⟨us', u1, u2, u3, set_same hD (f2.trans (same_new ht))⟩
        · rintro N ⟨f1, f2⟩
          obtain ⟨us2, L2, b1, b2, b3, b4⟩ := f1.ex
          have lb2 := b2.len
          refine ⟨lt, Da, us, us2, rfl, rfl, f2 _ _ a1, b1, by rw [sizeLine_eq]; omega, ?_⟩
          refine ⟨_, rfl, ⟨us ++ us2, L ++ L2, upd_same, ?_, a3.app b3, by rw [List.length_append]; omega⟩, (D3.same f2).put ltp ltc, (K3.trans (kp_same f2)).own ltH⟩
          exact ((a2.mono (same_tup f2)).app b2).mono (upd_tup (f2 _ _ a1))
      · rintro σ M ⟨o7, rfl, g1, D3, K3⟩
        obtain ⟨us, L, a1, a2, a3, a4⟩ := g1.ex
        refine ⟨_, rfl, _, rfl, by show 2 ≤ sizeLine; decide, fun t ht => ?_⟩
        exact rt _ _ (ties_ret ht a1 ltH a2 a3 (by omega) (by omega) m2 (fun _ => by omega) D3 K3)
    case i3 =>
      rintro ⟨H, p, c, n⟩ D0 σ M ⟨way, q, rfl, hq, DM, KM, n1, n2⟩ nx rt
      dsimp only at *
      refine ⟨_, rfl, rfl, _, rfl, ite2 (fun _ => ?_) (fun _ => iteF (nx _ _ ⟨way, q, rfl, hq, DM, KM, n1, n2⟩))⟩
      refine ⟨_, rfl, _, _, rfl, rfl, _, rfl, ?_⟩
      by_cases h4 : (n : Int) > 5
      rotate_left
      · rw [decide_eq_false h4]
        exact iteF (nx _ _ ⟨way, q, rfl, hq, DM, KM, n1, n2⟩)
      rw [decide_eq_true h4]
      obtain ⟨h, eh, h1, h2, h3⟩ : ∃ h : Nat, ((n : Int).fdiv 2) = h ∧ 3 ≤ h ∧ h ≤ 6 ∧ 2 * h ≤ n := ⟨n / 2, by rw [Int.fdiv_eq_ediv_of_nonneg _ (by decide)]; omega, by omega, by omega, by omega⟩
      refine iteT ⟨_, rfl, _, _, rfl, rfl, ⟨by decide, by decide⟩, by show 0 ≤ sizeLine; exact Nat.zero_le _, fun lt hlt => ⟨_, _, rfl, ?_⟩⟩
      dsimp only
      rw [eh]
      have ltH : H lt = none := KM.dom DM hlt
      obtain ⟨ltp, ltc⟩ := DM.inp hlt
      have D2 := DM.new (o := .lst []) hlt
      have K2 : Kp p c H (upd M lt (.lst [])) := KM.trans (kp_new hlt)
      have e0 : EJ (upd M lt (.lst [])) lt ((2 * h : Nat) : Int) 0 := EJ.nil
      generalize upd M lt (.lst []) = M2 at e0 D2 K2 ⊢
      refine ⟨_, rfl, _, rfl, by omega, by omega, ?_⟩
      refine for_range (lo := 0) (n := (h : Int).toNat) (fun i σ M => ∃ o9 : Option V, σ = [some (.ref p), some (.int (n : Int)), some (.int way), some (.ref q), none, none, some (.ref lt), none, some (.int (h : Int)), o9, none, none] ∧ EJ M lt ((2 * h : Nat) : Int) (3 * i) ∧ Deck M p c ∧ Kp p c H M)
        ⟨none, rfl, e0, D2, K2⟩ ?_ ?_
      · rintro i σ M hi ⟨o9, rfl, g1, D3, K3⟩
        obtain ⟨us, L, a1, a2, a3, a4⟩ := g1.ex
        have la := a2.len
        have rn := ring_next (i := i) (k := h) (by omega) (by omega)
        refine ⟨_, rfl, .inl ⟨rfl, _, SqL.of a1⟩, _, rfl, _, rfl, _, _, rfl, rfl, .inl ⟨_, rfl, _, rfl, _, _, rfl, rfl, (by omega), by show 2 ≤ sizeLine; decide, fun t1 ht1 => ?_⟩⟩
        refine ⟨_, rfl, _, rfl, _, _, rfl, rfl, _, rfl, _, rfl, _, _, rfl, rfl, .inl ⟨_, rfl, _, rfl, _, _, rfl, rfl, (by omega), _, _, rfl, rfl, by show 2 ≤ sizeLine; decide, fun t2 ht2 => ?_⟩⟩
        refine ⟨_, rfl, _, rfl, _, rfl, _, _, rfl, rfl, by show 2 ≤ sizeLine; decide, fun t3 ht3 => ⟨by show 3 ≤ sizeLine; decide, fun l3 hl3 => ?_⟩⟩
        dsimp only at ht1 ht2 ht3 hl3 ⊢
        rw [Int.zero_add] at *
        generalize ((i : Int) + 1).fmod (h : Int) = z at *
        have s1 : Same M (upd M t1 (.tup [.int (i : Int), .int z])) := same_new ht1
        have y1 : (upd M t1 (.tup [.int (i : Int), .int z])) t1 = some (.tup [.int (i : Int), .int z]) := upd_same
        generalize upd M t1 (.tup [.int (i : Int), .int z]) = N1 at s1 y1 ht2 ht3 hl3 ⊢
        have s2 : Same N1 (upd N1 t2 (.tup [.int ((h : Int) + i), .int ((h : Int) + z)])) := same_new ht2
        have y2 : (upd N1 t2 (.tup [.int ((h : Int) + i), .int ((h : Int) + z)])) t2 = some (.tup [.int ((h : Int) + i), .int ((h : Int) + z)]) := upd_same
        generalize upd N1 t2 (.tup [.int ((h : Int) + i), .int ((h : Int) + z)]) = N2 at s2 y2 ht3 hl3 ⊢
        have s3 : Same N2 (upd N2 t3 (.tup [.int (i : Int), .int ((h : Int) + i)])) := same_new ht3
        have y3 : (upd N2 t3 (.tup [.int (i : Int), .int ((h : Int) + i)])) t3 = some (.tup [.int (i : Int), .int ((h : Int) + i)]) := upd_same
        generalize upd N2 t3 (.tup [.int (i : Int), .int ((h : Int) + i)]) = N3 at s3 y3 hl3 ⊢
        have s4 : Same N3 (upd N3 l3 (.lst [.ref t1, .ref t2, .ref t3])) := same_new hl3
        have s14 := ((s1.trans s2).trans s3).trans s4
        have pr : Prs (upd N3 l3 (.lst [.ref t1, .ref t2, .ref t3])) [.ref t1, .ref t2, .ref t3] [((i : Int), z), ((h : Int) + i, (h : Int) + z), ((i : Int), (h : Int) + i)] :=
          .cons (q := ((i : Int), z)) (s4 _ _ (s3 _ _ (s2 _ _ y1))) (.cons (q := ((h : Int) + i, (h : Int) + z)) (s4 _ _ (s3 _ _ y2)) (.cons (q := ((i : Int), (h : Int) + i)) (s4 _ _ y3) .nil))
        refine ⟨lt, l3, us, _, rfl, rfl, s14 _ _ a1, upd_same, by show us.length + 3 ≤ sizeLine; rw [sizeLine_eq]; omega, ?_⟩
        refine ⟨_, rfl, ⟨us ++ [.ref t1, .ref t2, .ref t3], L ++ [((i : Int), z), ((h : Int) + i, (h : Int) + z), ((i : Int), (h : Int) + i)], upd_same, ?_, a3.app fun r hr => ?_, by rw [List.length_append]; show L.length + 3 ≤ _; omega⟩, (D3.same s14).put ltp ltc, (K3.trans (kp_same s14)).own ltH⟩
        · exact ((a2.mono (same_tup s14)).app pr).mono (upd_tup (s14 _ _ a1))
        · simp only [List.mem_cons, List.not_mem_nil, or_false] at hr
          rcases hr with rfl | rfl | rfl <;> dsimp only <;> omega
      · rintro σ M ⟨o9, rfl, g1, D3, K3⟩
        obtain ⟨us, L, a1, a2, a3, a4⟩ := g1.ex
        have e2 : (2 : Int) * (h : Int) = ((2 * h : Nat) : Int) := by omega
        refine ⟨_, rfl, _, _, rfl, rfl, .inl ⟨by decide, by decide⟩, _, rfl, by show 2 ≤ sizeLine; decide, fun t ht => ?_⟩
        dsimp only at ht ⊢
        rw [e2]
        exact rt _ _ (ties_ret ht a1 ltH a2 a3 (by omega) (by omega) h3 (fun _ => by omega) D3 K3)
    case main =>
    refine ⟨_, rfl, p, c, _, rfl, D, by decide, by decide, fun way M1 w0 w1 D1 K1 => ⟨_, rfl, _, rfl, .of_le (by omega) (by omega) (by omega) (by omega), fun q hq => ⟨_, _, rfl, ?_⟩⟩⟩
    rw [rg_ints]
    refine ⟨⟨H, p, c, n⟩, ⟨way, q, rfl, by rw [upd_same, natV_ints], D1.new hq, K1.trans (kp_new hq), n1, n2⟩, fun σ M h => ⟨_, h, fun σ M h => ⟨_, h, fun σ M h => ⟨_, h, fun σ M h => ?_, fun v M h => k v M h⟩, fun v M h => k v M h⟩, fun v M h => k v M h⟩, fun v M h => k v M h⟩
    obtain ⟨way, q, rfl, hq, DM, KM, _, _⟩ := h
    dsimp only at hq DM KM
    refine ⟨_, rfl, _, _, rfl, ⟨by omega, by omega, by omega, by omega⟩, fun Da hD => ?_⟩
    refine lc_range (lo := 1) (n := ((n : Int) - 1).toNat) (fun i N => EJ N Da (n : Int) i ∧ Same M N) ⟨EJ.nil, same_new hD⟩ ?_ ?_
    · rintro i N hi ⟨g1, g2⟩
      refine ⟨rfl, ?_⟩
      unfold tYes
      refine iteT ⟨_, rfl, _, _, rfl, rfl, _, rfl, by show 2 ≤ sizeLine; decide, fun t ht => ?_⟩
      obtain ⟨us, u1, u2, u3⟩ := g1.put (x := (1 : Int) + (i : Int) - 1) (y := (1 : Int) + (i : Int)) ht (by omega) (by omega)
      exact ⟨us, u1, u2, u3, set_same hD (g2.trans (same_new ht))⟩
    rintro N ⟨g1, g2⟩
    obtain ⟨us1, L1, a1, a2, a3, a4⟩ := g1.ex
    refine ⟨_, rfl, by decide, by decide, fun Db hB => ?_⟩
    have ndb : Da ≠ Db := ne_of_none a1 hB
    refine lc_range (lo := 0) (n := 1) (fun i N2 => EJ N2 Db (n : Int) i ∧ Same N N2) ⟨EJ.nil, same_new hB⟩ ?_ ?_
    · rintro i N2 hi ⟨f1, f2⟩
      refine ⟨rfl, _, rfl, _, _, rfl, rfl, _, rfl, ?_⟩
      by_cases h2 : (n : Int) > 2
      · rw [decide_eq_true h2]
        refine iteT ⟨_, rfl, _, _, rfl, rfl, by show 2 ≤ sizeLine; decide, fun t ht => ?_⟩
        obtain ⟨us, u1, u2, u3⟩ := f1.put (x := (0 : Int)) (y := (n : Int) - 1) ht (by omega) (by omega)
        exact ⟨us, u1, u2, u3, set_same hB (f2.trans (same_new ht))⟩
      · rw [decide_eq_false h2]
        obtain ⟨us, L, y1, y2, y3, y4⟩ := f1.ex
        exact iteF ⟨⟨us, L, y1, y2, y3, by omega⟩, f2⟩
    rintro N2 ⟨f1, f2⟩
    obtain ⟨us2, L2, b1, b2, b3, b4⟩ := f1.ex
    have l1 := a2.len
    have l2 := b2.len
    refine ⟨Da, Db, us1, us2, rfl, rfl, f2 _ _ a1, b1, by rw [sizeLine_eq]; omega, fun l hl => ?_⟩
    have s2 := g2.trans f2
    have lH : H l = none := KM.dom DM (s2.free hl)
    obtain ⟨lp, lc⟩ := DM.inp (s2.free hl)
    have s3 := s2.trans (same_new (o := .lst (us1 ++ us2)) hl)
    have e0 : EJ (upd N2 l (.lst (us1 ++ us2))) l (n : Int) 13 := ⟨us1 ++ us2, L1 ++ L2, upd_same, ((a2.mono (same_tup f2)).app b2).mono (new_tup hl), a3.app b3, by rw [List.length_append]; omega⟩
    have D3 := DM.same s3
    have K3 := KM.trans (kp_same s3)
    generalize upd N2 l (.lst (us1 ++ us2)) = M3 at e0 D3 K3 ⊢
    clear s3 s2 b1 b2 b3 b4 f1 f2 a1 a2 a3 a4 g1 g2 hl ndb hB hD l1 l2 DM KM hq D1 K1
    refine ⟨p, c, n, rfl, rfl, n2, D3, fun r M4 r0 r1 rz D4 K4 => ⟨_, rfl, by omega, by omega, ?_⟩⟩
    have e4 : EJ M4 l (n : Int) 13 := by
      obtain ⟨us, L, y1, y2, y3, y4⟩ := e0.ex
      exact ⟨us, L, K4 _ _ lp lc y1, y2.mono (K4.tup D3), y3, y4⟩
    refine for_range (lo := 0) (n := r.toNat) (fun i σ M => ∃ o10 : Option V, σ = [some (.ref p), some (.int (n : Int)), some (.int way), some (.ref q), none, none, some (.ref l), none, none, none, o10, none] ∧ EJ M l (n : Int) (13 + i) ∧ Deck M p c ∧ Kp p c H M)
      ⟨none, rfl, e4, D4, K3.trans K4⟩ ?_ ?_
    · rintro i σ M hi ⟨o10, rfl, g1, DM, KM⟩
      obtain ⟨us, L, a1, a2, a3, a4⟩ := g1.ex
      have la := a2.len
      refine ⟨_, rfl, .inl ⟨rfl, _, SqL.of a1⟩, _, rfl, _, rfl, p, c, n, rfl, n2, DM, fun t os M1 ord ht et D5 K5 => ⟨_, rfl, t, _, rfl, et, fun r2 M2 s2 er => ?_⟩⟩
      have lo := ord.len
      obtain ⟨x, y, rest, rfl⟩ : ∃ x y rest, os = x :: y :: rest := by
        match os, lo with
        | [], lo => exact absurd lo (by simp; omega)
        | [x], lo => exact absurd lo (by simp; omega)
        | x :: y :: rest, _ => exact ⟨x, y, rest, rfl⟩
      have ec : cutV ((x :: y :: rest).map V.int) none (some 2) = [.int x, .int y] := by
        rw [show (some (2 : Int)) = some ((2 : Nat) : Int) from rfl, cut_to] <;> rfl
      rw [ec] at er
      have K6 := (KM.trans K5).trans (kp_same s2)
      have K56 := K5.trans (kp_same s2)
      have a1' := K56 _ _ lp lc a1
      refine ⟨l, us, _, rfl, rfl, a1', by rw [sizeLine_eq]; omega, ?_⟩
      have hx := ord.mem (List.mem_cons_self ..)
      have hy := ord.mem (i := y) (List.mem_cons_of_mem _ (List.mem_cons_self ..))
      have hne : x ≠ y := fun z => (List.nodup_cons.mp (ord_nodup ord)).1 (by rw [z]; exact List.mem_cons_self ..)
      refine ⟨_, rfl, ⟨us ++ [.ref r2], L ++ [(x, y)], upd_same, ?_, a3.app (.one ⟨hx, hy, hne⟩), by rw [List.length_append, List.length_singleton]; omega⟩, (D5.same s2).put lp lc, K6.own lH⟩
      exact ((a2.mono (K56.tup DM)).app (.cons (q := (x, y)) er .nil)).mono (upd_tup a1')
    · rintro σ M ⟨o10, rfl, g1, DM, KM⟩
      obtain ⟨us, L, a1, a2, a3, a4⟩ := g1.ex
      have la := a2.len
      refine ⟨_, rfl, _, rfl, _, _, rfl, rfl, _, rfl, ite2 (fun _ => ?_) (fun _ => ?_)⟩
      · exact ⟨_, rfl, by show 2 ≤ sizeLine; decide, fun t ht => k _ _ (ties_ret ht a1 lH a2 a3 (by omega) n1 (Nat.le_refl _) (fun z => z) DM KM)⟩
      · refine ⟨_, rfl, _, rfl, _, rfl, l, _, rfl, .inl (SqL.of a1), _, _, rfl, rfl, p, c, _, rfl, DM, by omega, by omega, fun d M1 d0 d1 D5 K5 => ⟨_, rfl, l, us, rfl, SqL.of (K5 _ _ lp lc a1), fun l2 hl2 => ⟨by show 2 ≤ sizeLine; decide, fun t ht => ?_⟩⟩⟩
        obtain ⟨dn, rfl⟩ : ∃ dn : Nat, d = dn := ⟨d.toNat, by omega⟩
        have ed : cutV us (some ((dn : Nat) : Int)) none = us.drop dn := cut_from (by omega)
        rw [ed] at ht ⊢
        refine k _ _ (ties_ret ht upd_same ((KM.trans K5).dom D5 hl2) (((a2.mono (K5.tup DM)).drop dn).mono (new_tup hl2)) (a3.sub fun q z => List.mem_of_mem_drop z) (by rw [List.length_drop]; omega) n1 (Nat.le_refl _) (fun z => z) (D5.new hl2) ((KM.trans K5).trans (kp_new hl2)))
end
end K0

set_option Elab.async false
set_option linter.all false
set_option maxRecDepth 100000
set_option maxHeartbeats 8000000
/-! Any web. -/
namespace K0
open PySem PySem.Spec L2
open PyProof.Rows hiding St
abbrev uAny : Stmt := top 44
theorem EJ.kp {p c : Addr} {M M' : Hp} {D : Addr} {m : Int} {i : Nat} (h : EJ M D m i) (DM : Deck M p c) (k : Kp p c M M') (lp : D ≠ p) (lc : D ≠ c) : EJ M' D m i := by
  obtain ⟨us, L, y1, y2, y3, y4⟩ := h.ex
  exact ⟨us, L, k _ _ lp lc y1, y2.mono (k.tup DM), y3, y4⟩
theorem EJ.up {M : Hp} {D : Addr} {m m' : Int} {i j : Nat} (h : EJ M D m i) (hm : m ≤ m') (hi : i ≤ j) : EJ M D m' j := by
  obtain ⟨us, L, y1, y2, y3, y4⟩ := h.ex
  exact ⟨us, L, y1, y2, y3.up hm, by omega⟩
def spUAny : Sp := fun vs H Q _ => ∃ (p c : Addr), vs = [.ref p] ∧ Deck H p c ∧ ∀ (w : Addr) (n : Nat) (L : List (Int × Int)) (M : Hp), GW M w n L → Deck M p c → Kp p c H M → Q (.ref w) M
structure UAx where
  H : Hp
  p : Addr
  c : Addr
/-- so many places, these ties -/
def AJ (b : Nat) (x : UAx) : L2.St → Hp → Prop := fun σ M => ∃ (n : Nat) (l : Addr) (o3 o4 o5 o6 o7 : Option V), σ = [some (.ref x.p), some (.int (n : Int)), some (.ref l), o3, o4, o5, o6, o7, none, none, none] ∧ 1 ≤ n ∧ n ≤ 12 ∧ EJ M l (n : Int) b ∧ x.H l = none ∧ l ≠ x.p ∧ l ≠ x.c ∧ Deck M x.p x.c ∧ Kp x.p x.c x.H M
theorem rep_one {α : Type} (x : α) : ∀ k : Nat, (List.replicate k [x]).flatten = List.replicate k x
  | 0 => rfl
  | k + 1 => by rw [List.replicate_succ, List.flatten_cons, rep_one x k] <;> rfl
theorem Prs.rep {H : Hp} {a : Addr} {q : Int × Int} (h : H a = some (.tup [.int q.1, .int q.2])) : ∀ k : Nat, Prs H (List.replicate k (.ref a)) (List.replicate k q)
  | 0 => .nil
  | k + 1 => .cons h (Prs.rep h k)
/-- so many ties at most -/
def CutE (σ : L2.St) (M : Hp) (Q : VK) : Prop := ∃ n : Nat, σ[1]? = some (some (.int (n : Int))) ∧ 1 ≤ n ∧ n ≤ 12 ∧ ∀ (j : Nat) (M' : Hp), Same M M' → j ≤ 30 → Q (.int (j : Int)) M'
section
variable {P : Program} {w0 : World} {K : PySem.W.Frag} {mg : Str → Option Value} {base : Heap}
abbrev nUAny : List Str := ["_law_deck_here", "_law_n", "_law_ties_here", "_law_more", "_law_others", "_law_shift", "_law_go", "_law_tie", "_law_order_here", "_law_a", "_law_b"]
theorem scUAny : FnScope nUAny ["_law_deck_here"] (defScope uAny) := ⟨rfl, rfl, rfl, by decide +kernel, rfl, by decide +kernel, by decide +kernel⟩
theorem ok_uAny {f fD fP fT fO fW : Addr} {fd fdD fdP fdT fdO fdW : FuncData} (F : Fun K "_law_any" "_law_any" uAny f fd) (T : Bj mg) (GD : Dn P w0 K mg base "_law_draw" 1 ["_law_deck_here", "_law_below"] spDraw fD fdD) (GP : Dn P w0 K mg base "_law_pick" 2 ["_law_deck_here", "_law_some"] spPick fP fdP)
    (GT : Dn P w0 K mg base "_law_ties" 3 ["_law_deck_here", "_law_n"] spUTies fT fdT) (GO : Dn P w0 K mg base "_law_order" 2 ["_law_deck_here", "_law_n"] spUOrder fO fdO) (GW' : Dn P w0 K mg base "_law_web" 1 ["_law_n", "_law_ties_here"] spUWeb fW fdW) : FnOk P w0 K mg base CX0 4 f fd ["_law_deck_here"] spUAny := by
  refine F.ok scUAny (fun vs H Q E h => ?_) (fun cdv A outer s H vs Q E hr h => ?_)
  · obtain ⟨p, c, rfl, _⟩ := h
    rfl
  · obtain ⟨p, c, rfl, D, k⟩ := h
    have hu0 : (A.deeper (envOfC "_law_any" (defScope uAny) s.heap.objs.size f cdv)).units < cLine := hr.units0
    have hr1 : Room 1 (A.deeper (envOfC "_law_any" (defScope uAny) s.heap.objs.size f cdv)) := hr.mono (by decide)
    have hr2 : Room 2 (A.deeper (envOfC "_law_any" (defScope uAny) s.heap.objs.size f cdv)) := hr.mono (by decide)
    refine ⟨_, pss_cons (ps_asg (pe_call GT.ok hr rfl GT.g GT.kp GT.b .nil pass0 (pa_cons (pv 0) (pa_cons (pe_call GP.ok hr2 rfl GP.g GP.kp GP.b .nil pass0 (pa_cons (pv 0) (pa_cons (pe_lst (pa_cons pe_int (pa_cons pe_int (pa_cons pe_int (pa_cons pe_int (pa_cons pe_int (pa_cons pe_int (pa_cons pe_int (pa_cons pe_int
            (pa_cons pe_int (pa_cons pe_int (pa_cons pe_int (pa_cons pe_int (pa_cons pe_int (pa_cons pe_int (pa_cons pe_int (pa_cons pe_int pa_nil))))))))))))))))) pa_nil))) pa_nil))) (pg_tup rfl (pgs_cons (pg_name (i := 1) scUAny.nd rfl (.inl rfl)) (pgs_cons (pg_name (i := 2) scUAny.nd rfl (.inl rfl)) pgs_nil))))
      <| pss_cons (ps_invQ (J := AJ 40) (J' := AJ 80) (R := fun _ _ _ => False) (ps_if (PW.pt (pw_and (pt_cmpR op_lt (pv 1) pe_int (nomark _)) (pw_and1 (pt_cmpR op_eq (pe_call GD.ok hr1 rfl GD.g GD.kp GD.b .nil pass0 (pa_cons (pv 0) (pa_cons pe_int pa_nil))) pe_int (nomark _)))))
          (pss_cons (ps_asg (pe_call GT.ok hr rfl GT.g GT.kp GT.b .nil pass0 (pa_cons (pv 0) (pa_cons (pe_call GP.ok hr2 rfl GP.g GP.kp GP.b .nil pass0 (pa_cons (pv 0) (pa_cons (pe_lst (pa_cons pe_int (pa_cons pe_int (pa_cons pe_int (pa_cons pe_int pa_nil))))) pa_nil))) pa_nil))) (pg_tup rfl (pgs_cons (pg_name (i := 3) scUAny.nd rfl (.inl rfl)) (pgs_cons (pg_name (i := 4) scUAny.nd rfl (.inl rfl)) pgs_nil))))
          <| pss_cons (ps_set (i := 5) scUAny.nd rfl (.inr rfl) (pe_callB (call_max2 rfl) (by rfl) T.max (by decide +kernel) (pa_cons pe_int (pa_cons (pe_op op_sub (pv 1) (pe_call GD.ok hr1 rfl GD.g GD.kp GD.b .nil pass0 (pa_cons (pv 0) (pa_cons pe_int pa_nil)))) pa_nil))))
          <| pss_one (ps_par (i := 1) (j := 2) rfl scUAny.nd rfl rfl (by decide) rfl rfl (pa_cons (pe_callB (call_min2 rfl) (by rfl) T.min (by decide +kernel) (pa_cons pe_int (pa_cons (pe_op op_add (pv 5) (pv 3)) pa_nil))) (pa_cons
              (pe_op op_cat (pv 2) (pe_lc (own := [("_law_a", 9), ("_law_b", 10)]) (g := gTup K 2 (gCons (gName 9) (gCons (gName 10) gNil))) rfl scUAny.nd (pi_list (pv 4)) (blkOk_by (N := nUAny) (sc := defScope uAny) (by decide +kernel))
                (fun _ _ _ _ _ => pg_tup rfl (pgs_cons (pg_name (i := 9) scUAny.nd rfl (.inl rfl) (.inr rfl)) (pgs_cons (pg_name (i := 10) scUAny.nd rfl (.inl rfl) (.inr rfl)) pgs_nil)))
                (fun _ _ _ _ _ => pts_one (pt_cmpR op_lt (pe_op op_add (pe_callB (call_max2 rfl) (by rfl) T.max (by decide +kernel) (pa_cons (pv 9) (pa_cons (pv 10) pa_nil))) (pv 5)) pe_int (nomark _)))
                (fun _ _ _ _ _ => pe_tup (pa_cons (pe_op op_add (pv 9) (pv 5)) (pa_cons (pe_op op_add (pv 10) (pv 5)) pa_nil))))) pa_nil)) (by rfl))) pss_nil) ?i1)
      <| pss_cons (ps_for PassesOwn.never rfl (pi_range1 (by rfl) T.range (pa_cons (pe_call GD.ok hr1 rfl GD.g GD.kp GD.b .nil pass0 (pa_cons (pv 0) (pa_cons pe_int pa_nil))) pa_nil)) (pg_name (i := 6) scUAny.nd rfl (.inl rfl))
          (pss_one (ps_if (pt_cmpR (op_ne0 hu0) (pv 2) (pe_lst pa_nil) (nomark _))
            (pss_cons (ps_set (i := 7) scUAny.nd rfl (.inl rfl) (pe_bm PySem.F.plainAttrs_list PySem.F.slot_list_pop PySem.F.type_list_pop mt_popAt (pv 2) (pa_cons (pe_call GD.ok hr1 rfl GD.g GD.kp GD.b .nil pass0 (pa_cons (pv 0) (pa_cons (pe_callB call_len_seq (by rfl) T.len PySem.boot_len (pa_cons (pv 2) pa_nil)) pa_nil))) pa_nil)))
            <| pss_one (ps_set (i := 2) scUAny.nd rfl (.inl rfl) (pe_op op_cat (pv 2) (pe_op op_rep (pe_lst (pa_cons (pv 7) pa_nil)) (pe_call GP.ok hr2 rfl GP.g GP.kp GP.b .nil pass0 (pa_cons (pv 0) (pa_cons (pe_lst (pa_cons pe_int (pa_cons pe_int (pa_cons pe_int (pa_cons pe_int pa_nil))))) pa_nil))))))) pss_nil)))
      <| pss_cons (ps_set (i := 8) scUAny.nd rfl (.inr rfl) (pe_call GO.ok hr2 rfl GO.g GO.kp GO.b .nil pass0 (pa_cons (pv 0) (pa_cons (pv 1) pa_nil))))
      <| pss_cons (ps_setLc (i := 2) (own := [("_law_a", 9), ("_law_b", 10)]) (g := gTup K 2 (gCons (gName 9) (gCons (gName 10) gNil))) (tt := tYes) rfl scUAny.nd rfl rfl (sw_true rfl rfl rfl (by decide +kernel)) (pi_list (pv 2)) (blkOk_by (N := nUAny) (sc := defScope uAny) (by decide +kernel))
                (fun _ _ _ _ _ => pg_tup rfl (pgs_cons (pg_name (i := 9) scUAny.nd rfl (.inl rfl) (.inr rfl)) (pgs_cons (pg_name (i := 10) scUAny.nd rfl (.inl rfl) (.inr rfl)) pgs_nil))) (fun _ _ _ _ _ => pts_nil)
                (fun _ _ _ _ _ => pe_tup (pa_cons (pe_ix (show IxR _ (rIxT K) from ix_tup) (pv 8) (pv 9) (fun _ _ => rfl)) (pa_cons (pe_ix (show IxR _ (rIxT K) from ix_tup) (pv 8) (pv 10) (fun _ _ => rfl)) pa_nil))))
      <| pss_one (ps_ret (pe_call GW'.ok hr1 rfl GW'.g GW'.kp GW'.b .nil pass0 (pa_cons (pv 1) (pa_cons (pe_slice sl_list (pv 2) po_none (po_some (pe_imp (t' := CutE) (pe_ifExp (pt_cmpR op_gt (pv 1) pe_int (nomark _))
          (pe_ix ix_tup (pe_tup (pa_cons pe_int (pa_cons pe_int (pa_cons pe_int (pa_cons pe_int (pa_cons pe_int (pa_cons pe_int pa_nil))))))) (pe_op op_sub pe_int (pv 1)) (fun _ _ => rfl)) pe_int) ?icut))) pa_nil)))), ?main⟩
    case icut =>
      rintro σ M Q ⟨n, h1, n1, n2, k⟩
      refine ⟨_, h1, _, _, rfl, rfl, _, rfl, ?_⟩
      by_cases h6 : (n : Int) > 6
      rotate_left
      · rw [decide_eq_false h6]
        exact iteF (k 30 M (Same.refl M) (Nat.le_refl _))
      rw [decide_eq_true h6]
      refine iteT ⟨by show 6 ≤ sizeLine; decide, fun t ht => ⟨_, h1, _, _, rfl, rfl, ?_⟩⟩
      have hn : n = 7 ∨ n = 8 ∨ n = 9 ∨ n = 10 ∨ n = 11 ∨ n = 12 := by omega
      have st : Same M (upd M t (.tup [.int 21, .int 30, .int 22, .int 30, .int 26, .int 30])) := same_new ht
      rcases hn with rfl | rfl | rfl | rfl | rfl | rfl
      · exact ⟨t, _, _, _, rfl, rfl, SqT.of upd_same, atI_nat (j := 5) rfl, k 30 _ st (by decide)⟩
      · exact ⟨t, _, _, _, rfl, rfl, SqT.of upd_same, atI_nat (j := 4) rfl, k 26 _ st (by decide)⟩
      · exact ⟨t, _, _, _, rfl, rfl, SqT.of upd_same, atI_nat (j := 3) rfl, k 30 _ st (by decide)⟩
      · exact ⟨t, _, _, _, rfl, rfl, SqT.of upd_same, atI_nat (j := 2) rfl, k 22 _ st (by decide)⟩
      · exact ⟨t, _, _, _, rfl, rfl, SqT.of upd_same, atI_nat (j := 1) rfl, k 30 _ st (by decide)⟩
      · exact ⟨t, _, _, _, rfl, rfl, SqT.of upd_same, atI_nat (j := 0) rfl, k 21 _ st (by decide)⟩
    case i1 =>
      rintro ⟨H, p, c⟩ D0 σ M ⟨n, l, o3, o4, o5, o6, o7, rfl, n1, n2, ej, lH, lp, lc, DM, KM⟩ nx _
      dsimp only at lH lp lc DM KM
      have no : ∀ M' : Hp, EJ M' l (n : Int) 80 → Deck M' p c → Kp p c H M' → D0.nx [some (.ref p), some (.int (n : Int)), some (.ref l), o3, o4, o5, o6, o7, none, none, none] M' := fun M' h1 h2 h3 => nx _ _ ⟨n, l, o3, o4, o5, o6, o7, rfl, n1, n2, h1, lH, lp, lc, h2, h3⟩
      refine ⟨_, rfl, _, _, rfl, rfl, _, rfl, ?_⟩
      by_cases h8 : (n : Int) < 8
      rotate_left
      · rw [decide_eq_false h8]
        exact iteF (iteF (no M (ej.up (Int.le_refl _) (by decide)) DM KM))
      rw [decide_eq_true h8]
      refine iteT ⟨_, rfl, p, c, _, rfl, DM, by decide, by decide, fun r M1 r0 r1 D1 K1 => ⟨rfl, _, rfl, ite2 (fun _ => ?_) (fun _ => no M1 ((ej.kp DM K1 lp lc).up (Int.le_refl _) (by decide)) D1 (KM.trans K1))⟩⟩
      refine ⟨_, rfl, _, rfl, by show 4 ≤ sizeLine; decide, fun lm hlm => ?_⟩
      obtain ⟨lmp, lmc⟩ := D1.inp hlm
      refine ⟨p, c, lm, _, rfl, D1.new hlm, upd_same, lmp, lmc, by show 1 ≤ 4; decide, by show 4 < 1000; decide, fun j v M2 hj D2 K2 => ?_⟩
      obtain ⟨m0, rfl, z1, z2⟩ : ∃ m0 : Nat, v = .int (m0 : Int) ∧ 3 ≤ m0 ∧ m0 ≤ 6 := by
        have hv := List.mem_of_getElem? hj
        simp only [List.mem_cons, List.not_mem_nil, or_false] at hv
        rcases hv with rfl | rfl | rfl | rfl
        · exact ⟨4, rfl, by decide, by decide⟩
        · exact ⟨5, rfl, by decide, by decide⟩
        · exact ⟨3, rfl, by decide, by decide⟩
        · exact ⟨6, rfl, by decide, by decide⟩
      have K02 := (K1.trans (kp_new (o := .lst [.int 4, .int 5, .int 3, .int 6]) hlm)).trans K2
      clear hj K2 lmp lmc hlm
      refine ⟨p, c, m0, rfl, by omega, by omega, D2, fun v M3 hv => ?_⟩
      obtain ⟨t, l2, m, us2, L2, rfl, et, el2, l2H, pr2, en2, lf2, m1, m2, m3, D3, K3⟩ := hv
      dsimp only at l2H m2 m3 D3 K3
      have m3 := m3 z1
      have K03 := K02.trans K3
      have ej3 := ej.kp DM K03 lp lc
      obtain ⟨l2p, l2c⟩ := D2.inp l2H
      refine ⟨t, _, rfl, SqT.of et, rfl, _, _, rfl, _, _, rfl, rfl, ?_⟩
      refine ⟨_, rfl, _, rfl, p, c, _, rfl, D3, by decide, by decide, fun d M4 d0 d1 D4 K4 => ⟨_, _, rfl, rfl, _, _, rfl, ?_⟩⟩
      obtain ⟨sh, esh, sh1, sh2⟩ : ∃ sh : Nat, (if (n : Int) - d > 0 then (n : Int) - d else 0) = sh ∧ n ≤ sh + 2 ∧ sh ≤ n := by
        by_cases z : (n : Int) - d > 0
        · exact ⟨((n : Int) - d).toNat, by rw [if_pos z]; omega, by omega, by omega⟩
        · exact ⟨0, by rw [if_neg z] <;> rfl, by omega, by omega⟩
      show gName 5 (.int (if (n : Int) - d > 0 then (n : Int) - d else 0)) _ _ _
      rw [esh]
      have K04 := K03.trans K4
      have ej4 := ej3.kp D3 K4 lp lc
      have el4 := K4 _ _ l2p l2c el2
      have pr4 := pr2.mono (K4.tup D3)
      obtain ⟨nn, enn, nn1, nn2, nn3⟩ : ∃ nn : Nat, (if (sh : Int) + (m : Int) < 12 then (sh : Int) + (m : Int) else 12) = nn ∧ n ≤ nn ∧ nn ≤ 12 ∧ (nn = 12 ∨ nn = sh + m) := by
        by_cases z : (sh : Int) + (m : Int) < 12
        · exact ⟨sh + m, by rw [if_pos z]; omega, by omega, by omega, .inr rfl⟩
        · exact ⟨12, by rw [if_neg z] <;> rfl, by omega, by omega, .inl rfl⟩
      refine ⟨_, rfl, _, rfl, _, _, rfl, rfl, _, _, rfl, _, rfl, _, rfl, l2, rfl, ⟨_, SqL.of el4⟩, fun Da hD => ?_⟩
      refine lc_it (walk_list (xs := us2)) (fun i N => EJ N Da (nn : Int) i ∧ Same M4 N) ⟨EJ.nil, same_new hD⟩ (fun i N _ ⟨_, g2⟩ => SqL.of (g2 _ _ el4)) ?_ ?_
      · rintro i x N N' hi ⟨g1, g2⟩ ⟨rfl, hx⟩
        obtain ⟨b, q, rfl, hq, hb⟩ := pr4.get hx
        have eq := en2 q (List.mem_of_getElem? hq)
        have lu := pr2.len
        refine ⟨b, _, rfl, SqT.of (g2 _ _ hb), rfl, _, _, rfl, _, _, rfl, rfl, rfl, ?_⟩
        refine ⟨_, rfl, _, rfl, _, _, rfl, _, rfl, _, _, rfl, rfl, _, _, rfl, rfl, _, rfl, ?_⟩
        dsimp only
        by_cases hc : (if q.2 > q.1 then q.2 else q.1) + (sh : Int) < 12
        · rw [decide_eq_true hc]
          refine iteT ⟨_, rfl, _, rfl, _, _, rfl, rfl, _, rfl, _, rfl, _, _, rfl, rfl, by show 2 ≤ sizeLine; decide, fun t ht => ?_⟩
          obtain ⟨us, u1, u2, u3⟩ := g1.put (x := q.1 + (sh : Int)) (y := q.2 + (sh : Int)) ht (by split at hc <;> omega) (by omega)
          exact ⟨us, u1, u2, u3, set_same hD (g2.trans (same_new ht))⟩
        · rw [decide_eq_false hc]
          exact iteF ⟨g1.up (Int.le_refl _) (by omega), g2⟩
      rintro N ⟨g1, g2⟩
      obtain ⟨us, L, a1, a2, a3, a4⟩ := (ej4.up (m' := (nn : Int)) (by omega) (Nat.le_refl _)).ex
      obtain ⟨us', L', b1, b2, b3, b4⟩ := g1.ex
      have la := a2.len
      have lb' := b2.len
      have lu2 := pr2.len
      refine ⟨l, Da, us, us', rfl, rfl, g2 _ _ a1, b1, by rw [sizeLine_eq]; omega, fun l3 hl3 => ⟨_, _, rfl, ?_⟩⟩
      have s3 := g2.trans (same_new (o := .lst (us ++ us')) hl3)
      obtain ⟨l3p, l3c⟩ := D4.inp (g2.free hl3)
      dsimp only
      rw [enn]
      exact nx _ _ ⟨nn, l3, _, _, _, _, _, rfl, by omega, nn2, ⟨us ++ us', L ++ L', upd_same, ((a2.mono (same_tup g2)).app b2).mono (new_tup hl3), a3.app b3, by rw [List.length_append]; omega⟩, (KM.trans K04).dom D4 (g2.free hl3), l3p, l3c, D4.same s3, (KM.trans K04).trans (kp_same s3)⟩
    case main =>
    refine ⟨_, rfl, _, rfl, by show 16 ≤ sizeLine; decide, fun lm hlm => ?_⟩
    obtain ⟨lmp, lmc⟩ := D.inp hlm
    refine ⟨p, c, lm, _, rfl, D.new hlm, upd_same, lmp, lmc, by show 1 ≤ 16; decide, by show 16 < 1000; decide, fun j v M1 hj D1 K1 => ?_⟩
    obtain ⟨m0, rfl, z1, z2⟩ : ∃ m0 : Nat, v = .int (m0 : Int) ∧ 1 ≤ m0 ∧ m0 ≤ 12 := by
      have hv := List.mem_of_getElem? hj
      simp only [List.mem_cons, List.not_mem_nil, or_false] at hv
      rcases hv with rfl | rfl | rfl | rfl | rfl | rfl | rfl | rfl | rfl | rfl | rfl | rfl | rfl | rfl | rfl | rfl <;> exact ⟨_, rfl, by decide, by decide⟩
    have K01 : Kp p c H M1 := (kp_new hlm).trans K1
    clear hj K1 lmp lmc hlm
    refine ⟨p, c, m0, rfl, z1, z2, D1, fun v M2 hv => ?_⟩
    obtain ⟨t, l, n, us, L, rfl, et, el, lH, pr, en, lf, n1, n2, _, D2, K2⟩ := hv
    dsimp only at lH n2 D2 K2
    obtain ⟨lp, lc⟩ := D1.inp lH
    refine ⟨t, _, rfl, SqT.of et, rfl, _, _, rfl, _, _, rfl, rfl, ?_⟩
    refine ⟨⟨H, p, c⟩, ⟨n, l, none, none, none, none, none, rfl, n1, by omega, ⟨us, L, el, pr, en, lf⟩, K01.dom D1 lH, lp, lc, D2, K01.trans K2⟩, fun σ M h => ?_, fun v M h => h.elim⟩
    clear et el lH pr en lf n1 n2 D2 K2 lp lc z1 z2 K01 D1
    obtain ⟨n, l, o3, o4, o5, o6, o7, rfl, n1, n2, ej, lH, lp, lc, DM, KM⟩ := h
    dsimp only at lH lp lc DM KM
    refine ⟨_, rfl, p, c, _, rfl, DM, by decide, by decide, fun r M3 r0 r1 D3 K3 => ⟨_, rfl, by omega, by omega, ?_⟩⟩
    refine for_range (lo := 0) (n := r.toNat) (fun i σ M => ∃ (l : Addr) (o6 o7 : Option V), σ = [some (.ref p), some (.int (n : Int)), some (.ref l), o3, o4, o5, o6, o7, none, none, none] ∧ EJ M l (n : Int) (80 + i) ∧ H l = none ∧ l ≠ p ∧ l ≠ c ∧ Deck M p c ∧ Kp p c H M)
      ⟨l, o6, o7, rfl, ej.kp DM K3 lp lc, lH, lp, lc, D3, KM.trans K3⟩ ?_ ?_
    · rintro i σ M hi ⟨l, o6, o7, rfl, ej, lH, lp, lc, DM, KM⟩
      obtain ⟨us, L, a1, a2, a3, a4⟩ := ej.ex
      have la := a2.len
      refine ⟨_, rfl, by show 0 ≤ sizeLine; exact Nat.zero_le _, fun e he => ?_⟩
      have sE : Same M (upd M e (.lst [])) := same_new he
      have ee : (upd M e (.lst [])) e = some (.lst []) := upd_same
      have a1' := sE _ _ a1
      have a2' := a2.mono (same_tup sE)
      have DE := DM.same sE
      have KE' := KM.trans (kp_same (p := p) (c := c) sE)
      generalize upd M e (.lst []) = M1 at sE ee a1' a2' DE KE' ⊢
      refine ⟨l, e, us, rfl, rfl, SqL.of a1', SqL.of ee, _, rfl, ?_⟩
      by_cases h0 : us = []
      · subst h0
        exact iteF ⟨l, _, _, rfl, ⟨[], L, a1', a2', a3, by omega⟩, lH, lp, lc, DE, KE'⟩
      have pos : 0 < us.length := List.length_pos_iff.mpr h0
      have hz : (!us.isEmpty) = true := by
        cases us with
        | nil => exact absurd rfl h0
        | cons a b => rfl
      rw [hz]
      refine iteT ⟨_, rfl, .inl ⟨rfl, _, SqL.of a1'⟩, _, rfl, _, rfl, l, _, rfl, .inl (SqL.of a1'), p, c, _, rfl, DE, by omega, by omega, fun r M6 r0 r1 D8 K8 => ?_⟩
      obtain ⟨k, rfl⟩ : ∃ k : Nat, r = k := ⟨r.toNat, by omega⟩
      have hk : k < us.length := by omega
      have si : seqIndex? (k : Int) us.length = some k := (ixN_seq (n := us.length) (by unfold ixN; rw [if_pos (by omega), if_pos (by omega)]; rfl)).1
      have g1 := K8 _ _ lp lc a1'
      have g2 := a2'.mono (K8.tup DE)
      refine ⟨l, _, _, k, us[k], rfl, rfl, g1, by omega, by omega, si, by simp [hk], ?_⟩
      obtain ⟨ta, q, eu, hq, hta⟩ := g2.get (List.getElem?_eq_getElem hk)
      rw [eu]
      have pe := (g2.erase k).mono (upd_tup (o := .lst (us.eraseIdx k)) g1)
      have hta' := upd_tup (o := .lst (us.eraseIdx k)) g1 _ _ hta
      have el9 : (upd M6 l (.lst (us.eraseIdx k))) l = some (.lst (us.eraseIdx k)) := upd_same
      have D9 := D8.put (o := .lst (us.eraseIdx k)) lp lc
      have K9 : Kp p c H (upd M6 l (.lst (us.eraseIdx k))) := (KE'.trans K8).own lH
      have enE : Ends (n : Int) (L.eraseIdx k) := a3.sub fun q z => List.mem_of_mem_eraseIdx z
      have lE : (L.eraseIdx k).length ≤ 79 + i := by rw [List.length_eraseIdx, if_pos (by omega)]; omega
      have lE2 : (us.eraseIdx k).length ≤ 79 + i := by rw [List.length_eraseIdx, if_pos (by omega)]; omega
      have eqq := a3 q (List.mem_of_getElem? hq)
      generalize upd M6 l (.lst (us.eraseIdx k)) = M9 at pe hta' el9 D9 K9 ⊢
      generalize us.eraseIdx k = us9 at pe el9 lE2
      generalize L.eraseIdx k = L9 at pe enE lE
      refine ⟨_, rfl, _, rfl, by show 1 ≤ sizeLine; exact (by rw [sizeLine_eq]; decide), fun l1 hl1 => ?_⟩
      have s1 : Same M9 (upd M9 l1 (.lst [.ref ta])) := same_new hl1
      obtain ⟨l1p, l1c⟩ := D9.inp hl1
      refine ⟨_, rfl, by show 4 ≤ sizeLine; decide, fun lm hlm => ?_⟩
      have s2 := s1.trans (same_new (o := .lst [.int 0, .int 2, .int 0, .int 1]) hlm)
      have e1 : (upd (upd M9 l1 (.lst [.ref ta])) lm (.lst [.int 0, .int 2, .int 0, .int 1])) l1 = some (.lst [.ref ta]) := same_new hlm _ _ upd_same
      obtain ⟨lmp, lmc⟩ := (D9.same s1).inp hlm
      have D10 := D9.same s2
      refine ⟨p, c, lm, _, rfl, D10, upd_same, lmp, lmc, by show 1 ≤ 4; decide, by show 4 < 1000; decide, fun j v M11 hj D11 K11 => ?_⟩
      obtain ⟨kk, rfl, z2⟩ : ∃ kk : Nat, v = .int (kk : Int) ∧ kk ≤ 2 := by
        have hv := List.mem_of_getElem? hj
        simp only [List.mem_cons, List.not_mem_nil, or_false] at hv
        rcases hv with rfl | rfl | rfl | rfl <;> exact ⟨_, rfl, by decide⟩
      have K10 : Kp p c M9 M11 := (kp_same s2).trans K11
      have e11 := K11 _ _ l1p l1c e1
      refine ⟨l1, (kk : Int), [.ref ta], rfl, rfl, e11, by omega, by omega, by show 1 * (kk : Int).toNat ≤ sizeLine; rw [sizeLine_eq]; omega, fun l2 hl2 => ?_⟩
      rw [rep_one, Int.toNat_natCast]
      have s12 : Same M11 (upd M11 l2 (.lst (List.replicate kk (.ref ta)))) := same_new hl2
      have K12 : Kp p c M9 (upd M11 l2 (.lst (List.replicate kk (.ref ta)))) := K10.trans (kp_new hl2)
      refine ⟨l, l2, us9, List.replicate kk (.ref ta), rfl, rfl, K12 _ _ lp lc el9, upd_same, by rw [List.length_replicate, sizeLine_eq]; omega, fun l3 hl3 => ?_⟩
      have D12 := D11.new (o := .lst (List.replicate kk (.ref ta))) hl2
      obtain ⟨l3p, l3c⟩ := D12.inp hl3
      have K13 := K12.trans (kp_new (o := .lst (us9 ++ List.replicate kk (.ref ta))) hl3)
      refine ⟨l3, _, _, rfl, ⟨us9 ++ List.replicate kk (.ref ta), L9 ++ List.replicate kk q, upd_same, ?_, enE.app fun r hr => by rw [List.eq_of_mem_replicate hr]; exact eqq, by rw [List.length_append, List.length_replicate]; omega⟩, (K9.trans K12).dom D12 hl3, l3p, l3c, D12.new hl3, K9.trans K13⟩
      exact (pe.mono (K13.tup D9)).app (Prs.rep (K13.tup D9 _ _ hta') kk)
    · rintro σ M ⟨l, o6, o7, rfl, ej, lH, lp, lc, DM, KM⟩
      refine ⟨_, rfl, _, rfl, p, c, n, rfl, n2, DM, fun t os M1 ord ht et D5 K5 => ?_⟩
      obtain ⟨us, L, a1, a2, a3, a4⟩ := (ej.kp DM K5 lp lc).ex
      have la := a2.len
      have lo := ord.len
      have nd := ord_nodup ord
      refine ⟨_, rfl, l, rfl, ⟨_, SqL.of a1⟩, fun Da hD => ?_⟩
      refine lc_it (walk_list (xs := us)) (fun i N => EJ N Da (n : Int) i ∧ Same M1 N) ⟨EJ.nil, same_new hD⟩ (fun i N _ ⟨_, g2⟩ => SqL.of (g2 _ _ a1)) ?_ ?_
      · rintro i x N N' hi ⟨g1, g2⟩ ⟨rfl, hx⟩
        obtain ⟨b, q, rfl, hq, hb⟩ := a2.get hx
        obtain ⟨h1, h2, h3⟩ := a3 q (List.mem_of_getElem? hq)
        obtain ⟨q1, q2⟩ := q
        obtain ⟨x1, rfl⟩ : ∃ x1 : Nat, q1 = x1 := ⟨q1.toNat, by dsimp only at h1; omega⟩
        obtain ⟨x2, rfl⟩ : ∃ x2 : Nat, q2 = x2 := ⟨q2.toNat, by dsimp only at h2; omega⟩
        dsimp only at h1 h2 h3 hb
        have l1 : x1 < os.length := by omega
        have l2 : x2 < os.length := by omega
        have gt : ∀ {y : Nat} (hy : y < os.length), (os.map V.int)[y]? = some (.int os[y]) := fun hy => by rw [List.getElem?_map, List.getElem?_eq_getElem hy] <;> rfl
        refine ⟨b, _, rfl, SqT.of (g2 _ _ hb), rfl, _, _, rfl, _, _, rfl, rfl, rfl, ?_⟩
        unfold tYes
        refine iteT ⟨_, rfl, _, rfl, t, _, _, _, rfl, rfl, SqT.of (g2 _ _ et), atI_nat (j := x1) (gt l1), _, rfl, _, rfl, t, _, _, _, rfl, rfl, SqT.of (g2 _ _ et), atI_nat (j := x2) (gt l2), by show 2 ≤ sizeLine; decide, fun t' ht' => ?_⟩
        have m1 := ord.mem (List.getElem_mem l1)
        have m2 := ord.mem (List.getElem_mem l2)
        have ne : os[x1] ≠ os[x2] := fun z => h3 (by have := (List.getElem_inj nd).mp z; omega)
        obtain ⟨us', u1, u2, u3⟩ := g1.put (x := os[x1]) (y := os[x2]) ht' ⟨m1, m2, ne⟩ (by omega)
        exact ⟨us', u1, u2, u3, set_same hD (g2.trans (same_new ht'))⟩
      rintro N ⟨g1, g2⟩
      obtain ⟨us', L', b1, b2, b3, b4⟩ := g1.ex
      refine ⟨_, rfl, _, rfl, n, rfl, n1, n2, fun j M' s' hj => ⟨_, rfl, Da, us', rfl, SqL.of (s' _ _ b1), fun l2 hl2 => ?_⟩⟩
      rw [cut_to]
      have s2 := (g2.trans s').trans (same_new (o := .lst (us'.take j)) hl2)
      refine ⟨l2, n, us'.take j, L'.take j, rfl, n1, n2, upd_same, ((b2.mono (same_tup s')).take j).mono (new_tup hl2), b3.sub fun q z => List.mem_of_mem_take z, by rw [List.length_take]; omega, fun w Mw M2 s3 hw G pm => ?_⟩
      have s23 := s2.trans s3
      exact k w n Mw M2 G (D5.same s23) ((KM.trans K5).trans (kp_same s23))
end
end K0

set_option Elab.async false
set_option linter.all false
set_option maxRecDepth 100000
set_option maxHeartbeats 8000000
/-! The law of threefold webs: what it wants to know. -/
namespace K0
open PySem PySem.Spec L2
open PyProof.Rows hiding St
theorem call_repr_bool {X : Cx} : CallR X (.builtin "repr") (fun xs H Q => ∃ b, xs = [.bl b] ∧ Q (.str (if b = true then "True" else "False")) H) := by
  intro pins s σ H xs us Q I r h
  obtain ⟨b, rfl, q⟩ := h
  obtain ⟨u, rfl, r1⟩ := vals1 r
  cases r1
  exact PySem.P.repr_of_bool ⟨.str _, H, I.tok _, ⟨_, rfl⟩, q⟩
/-! ### a web led by an order -/
theorem mm_or (x y : Int) (h : x ≠ y) : mm x y = (x, y) ∨ mm x y = (y, x) := by
  unfold mm
  rcases Int.lt_trichotomy x y with z | z | z
  · left
    rw [if_neg (by omega), if_pos (by omega)]
  · exact absurd z h
  · right
    rw [if_pos (by omega), if_neg (by omega)]
/-- the place's name, and back -/
def ordF (os : List Int) (x : Nat) : Nat := (os.getD x 0).toNat
def ordG (os : List Int) (y : Nat) : Nat := os.idxOf ((y : Nat) : Int)
theorem ordF_at {n : Nat} {os : List Int} (o : IsOrd n os) {x : Nat} (h : x < n) : os[x]? = some ((ordF os x : Nat) : Int) ∧ ordF os x < n := by
  have hl : x < os.length := by rw [o.len]; exact h
  have e : os.getD x 0 = os[x] := by rw [List.getD_eq_getElem?_getD, List.getElem?_eq_getElem hl] <;> rfl
  have m := o.mem (List.getElem_mem hl)
  unfold ordF
  rw [e, List.getElem?_eq_getElem hl]
  exact ⟨congrArg some (by omega), by omega⟩
theorem ordG_at {n : Nat} {os : List Int} (o : IsOrd n os) {y : Nat} (h : y < n) : ordG os y < n ∧ os[ordG os y]? = some ((y : Nat) : Int) := by
  have hm : ((y : Nat) : Int) ∈ os := o.mem_iff.mpr (List.mem_map.mpr ⟨y, List.mem_range.mpr h, rfl⟩)
  have hl := List.idxOf_lt_length_of_mem hm
  refine ⟨by unfold ordG; rw [← o.len]; exact hl, ?_⟩
  unfold ordG
  rw [List.getElem?_eq_getElem hl]
  exact congrArg some (List.getElem_idxOf hl)
theorem ord_iso {n : Nat} {L M : List (Int × Int)} {os : List Int} (hB : Bel n L) (o : IsOrd n os) (pm : M.Perm ((L.map fun q => (((ordF os q.1.toNat : Nat) : Int), ((ordF os q.2.toNat : Nat) : Int))).map fun q => mm q.1 q.2)) : Iso n L M (ordF os) (ordG os) := by
  have nd := ord_nodup o
  have fg : ∀ y, y < n → ordF os (ordG os y) = y := fun y hy => by
    obtain ⟨h1, h2⟩ := ordG_at o hy
    have := (ordF_at o h1).1
    rw [h2] at this
    have := Option.some.inj this
    omega
  have gf : ∀ x, x < n → ordG os (ordF os x) = x := fun x hx => by
    obtain ⟨h1, h2⟩ := ordF_at o hx
    obtain ⟨h3, h4⟩ := ordG_at o h2
    have hl : x < os.length := by rw [o.len]; exact hx
    have hl' : ordG os (ordF os x) < os.length := by rw [o.len]; exact h3
    rw [← h1, List.getElem?_eq_getElem hl, List.getElem?_eq_getElem hl'] at h4
    exact (List.getElem_inj nd).mp (Option.some.inj h4)
  have ne : ∀ x y, x < n → y < n → x ≠ y → ((ordF os x : Nat) : Int) ≠ ((ordF os y : Nat) : Int) := fun x y hx hy h z => h (by rw [← gf x hx, ← gf y hy, show ordF os x = ordF os y by omega])
  have mem : ∀ x y : Nat, ((x : Int), (y : Int)) ∈ L → x < n ∧ y < n ∧ x ≠ y ∧ (mm ((ordF os x : Nat) : Int) ((ordF os y : Nat) : Int)) ∈ M := fun x y h => by
    have b := hB _ h
    dsimp only at b
    refine ⟨by omega, by omega, by omega, pm.mem_iff.mpr (List.mem_map.mpr ⟨_, List.mem_map.mpr ⟨_, h, rfl⟩, ?_⟩)⟩
    simp only [Int.toNat_natCast]
  refine ⟨fun x hx => (ordF_at o hx).2, fun y hy => (ordG_at o hy).1, fg, gf, fun x y hx hy a => ?_, fun u v hu hv a => ?_⟩
  · rcases a with h | h
    · obtain ⟨h1, h2, h3, h4⟩ := mem x y h
      rcases mm_or _ _ (ne x y h1 h2 h3) with e | e
      · rw [e] at h4; exact .inl h4
      · rw [e] at h4; exact .inr h4
    · obtain ⟨h1, h2, h3, h4⟩ := mem y x h
      rcases mm_or _ _ (ne y x h1 h2 h3) with e | e
      · rw [e] at h4; exact .inr h4
      · rw [e] at h4; exact .inl h4
  · have key : ∀ u v : Nat, ((u : Int), (v : Int)) ∈ M → Adj L (ordG os u) (ordG os v) := fun u v h => by
      obtain ⟨q, hq, e⟩ := List.mem_map.mp (pm.mem_iff.mp h)
      obtain ⟨r, hr, rfl⟩ := List.mem_map.mp hq
      have b := hB r hr
      obtain ⟨r1, r2⟩ := r
      obtain ⟨x, rfl⟩ : ∃ x : Nat, r1 = x := ⟨r1.toNat, by dsimp only at b; omega⟩
      obtain ⟨y, rfl⟩ : ∃ y : Nat, r2 = y := ⟨r2.toNat, by dsimp only at b; omega⟩
      dsimp only at b e
      simp only [Int.toNat_natCast] at e
      rcases mm_or _ _ (ne x y (by omega) (by omega) (by omega)) with z | z
      · rw [z] at e
        have e1 := congrArg Prod.fst e
        have e2 := congrArg Prod.snd e
        dsimp only at e1 e2
        rw [show u = ordF os x by omega, show v = ordF os y by omega, gf x (by omega), gf y (by omega)]
        exact .inl hr
      · rw [z] at e
        have e1 := congrArg Prod.fst e
        have e2 := congrArg Prod.snd e
        dsimp only at e1 e2
        rw [show u = ordF os y by omega, show v = ordF os x by omega, gf x (by omega), gf y (by omega)]
        exact .inr hr
    rcases a with h | h
    · exact key u v h
    · exact (key v u h).symm
theorem pl_tf {n : Nat} {L M : List (Int × Int)} (p : IsPl L M) : TF n M ↔ TF n L := TF.adj fun x y => by
  unfold Adj
  rw [p.mem, p.mem]
theorem iff_bool {a b : Bool} {p : Prop} (h : a = true ↔ p) (g : b = true ↔ p) : a = b := by
  rw [Bool.eq_iff_iff, h, g]
/-- the law's names -/
abbrev lLaw : Stmt := top 45
structure Lw (P : Program) (w0 : World) (K : PySem.W.Frag) (mg : Str → Option Value) (base : Heap) : Prop where
  bk : Bk mg
  deck : ∃ f fd, Dn P w0 K mg base "_law_deck" 1 ["_law_script"] (spDeck K) f fd
  draw : ∃ f fd, Dn P w0 K mg base "_law_draw" 1 ["_law_deck_here", "_law_below"] spDraw f fd
  order : ∃ f fd, Dn P w0 K mg base "_law_order" 2 ["_law_deck_here", "_law_n"] spUOrder f fd
  any : ∃ f fd, Dn P w0 K mg base "_law_any" 4 ["_law_deck_here"] spUAny f fd
  web : ∃ f fd, Dn P w0 K mg base "_law_web" 1 ["_law_n", "_law_ties_here"] spUWeb f fd
  parts : ∃ f fd, Dn P w0 K mg base "_law_parts" 1 ["_law_web_here", "_law_gone"] spUParts f fd
  due : ∃ f fd, Dn P w0 K mg base "_law_is_threefold" 2 ["_law_web_here"] spThree f fd
  three : ∃ f fd, Dn P w0 K mg base "is_threefold" 6 ["web"] spThree f fd ∧ Kw1 fd "web"
  plain : ∃ f fd, Dn P w0 K mg base "plain_web" 6 ["web"] spPlainOf f fd
  without : ∃ f fd, Dn P w0 K mg base "without" 6 ["web", "lot"] spWithout0 f fd
  partsOf : ∃ f fd, Dn P w0 K mg base "parts_of" 6 ["web"] spPartsOf f fd
  joined : ∃ f fd, Dn P w0 K mg base "is_joined" 6 ["web"] spIsJoined f fd
structure V3 where
  a : Addr
  p : Addr
  c : Addr
  w : Addr
  n : Nat
  L : List (Int × Int)
  b : Bool
structure B3 (x : V3) (M : Hp) : Prop where
  dk : Deck M x.p x.c
  gw : GW M x.w x.n x.L
  tf : x.b = true ↔ TF x.n x.L
theorem GW.tups {H H' : Hp} {w : Addr} {n : Nat} {L : List (Int × Int)} (g : GW H w n L) (s : ∀ a x, H a = some (.tup x) → H' a = some (.tup x)) : GW H' w n L := ⟨g.web.mono s, g.n1, g.n2, g.bel, g.srt, g.few⟩
theorem B3.go {x : V3} {M M' : Hp} (b : B3 x M) (D : Deck M' x.p x.c) (k : Kp x.p x.c M M') : B3 x M' := ⟨D, b.gw.tups (k.tup b.dk), b.tf⟩
theorem B3.same {x : V3} {M M' : Hp} (b : B3 x M) (s : Same M M') : B3 x M' := b.go (b.dk.same s) (kp_same s)
abbrev st3 (x : V3) (o2 o5 o6 o7 o8 o9 o10 : Option V) : L2.St := [some (.ref x.a), some (.ref x.p), o2, some (.ref x.w), some (.bl x.b), o5, o6, o7, o8, o9, o10, none, none, none, none]
def K0J (x : V3) : L2.St → Hp → Prop := fun σ M => ∃ (o2 o5 o6 o7 o8 o9 o10 : Option V), σ = st3 x o2 o5 o6 o7 o8 o9 o10 ∧ B3 x M
def K1J (x : V3) : L2.St → Hp → Prop := fun σ M => ∃ (o2 o6 o7 o8 o9 o10 : Option V) (t : Addr) (os : List Int), σ = st3 x o2 (some (.ref t)) o6 o7 o8 o9 o10 ∧ B3 x M ∧ IsOrd x.n os ∧ M t = some (.tup (os.map V.int))
def K2J (x : V3) : L2.St → Hp → Prop := fun σ M => ∃ (o2 o5 o7 o8 o9 o10 : Option V) (g : Addr) (ks : List Nat), σ = st3 x o2 o5 (some (.ref g)) o7 o8 o9 o10 ∧ B3 x M ∧ M g = some (.tup (ks.map natV)) ∧ (∀ i ∈ ks, i < x.n) ∧ ks.Pairwise (· < ·) ∧ ks.length < x.n
/-- the web that is left, its parts as the law tells them -/
structure Lf (x : V3) (M : Hp) (ks : List Nat) (wl lp : Addr) (us : List V) (ys : List (List Nat)) : Prop where
  wl : GW M wl (restK x.n ks).length (withinL x.L (cas (restK x.n ks)))
  el : M lp = some (.lst us)
  np : lp ≠ x.p
  nc : lp ≠ x.c
  tk : TupsK M us ys
  ip : IsParts x.L (leftM x.n ks) ys
def K3J (x : V3) : L2.St → Hp → Prop := fun σ M => ∃ (o2 o5 o9 o10 : Option V) (g : Addr) (ks : List Nat) (wl lp : Addr) (us : List V) (ys : List (List Nat)), σ = st3 x o2 o5 (some (.ref g)) (some (.ref wl)) (some (.ref lp)) o9 o10 ∧ B3 x M ∧ M g = some (.tup (ks.map natV)) ∧ (∀ i ∈ ks, i < x.n) ∧ ks.Pairwise (· < ·) ∧ Lf x M ks wl lp us ys
def K4J (x : V3) : L2.St → Hp → Prop := fun σ M => ∃ (o2 o5 o6 o10 : Option V) (lr : Addr) (ks : List Nat) (wl lp : Addr) (us : List V) (ys : List (List Nat)), σ = st3 x o2 o5 o6 (some (.ref wl)) (some (.ref lp)) (some (.ref lr)) o10 ∧ B3 x M ∧ M lr = some (.lst ((restK x.n ks).map natV)) ∧ (∀ i ∈ ks, i < x.n) ∧ ks.Pairwise (· < ·) ∧ Lf x M ks wl lp us ys
def K5J (x : V3) : L2.St → Hp → Prop := fun σ M => ∃ (o2 o5 o6 o9 : Option V) (ln : Addr) (ks : List Nat) (wl lp : Addr) (us : List V) (ys : List (List Nat)) (vs : List V) (zs : List (List Nat)), σ = st3 x o2 o5 o6 (some (.ref wl)) (some (.ref lp)) o9 (some (.ref ln)) ∧ B3 x M ∧ M ln = some (.lst vs) ∧ TupsK M vs zs ∧ IsParts (withinL x.L (cas (restK x.n ks))) (2 ^ (restK x.n ks).length - 1) zs ∧ zs.length = ys.length ∧ Lf x M ks wl lp us ys
abbrev nLaw : List Str := ["_law_script", "_law_deck_here", "_law_go", "_law_web_here", "_law_due", "_law_order_here", "_law_gone", "_law_left", "_law_parts_here", "_law_rest", "_law_named", "_law_a", "_law_b", "_law_place", "_law_part"]
theorem scLaw : FnScope nLaw ["_law_script"] (defScope lLaw) := ⟨rfl, rfl, rfl, by decide +kernel, rfl, by decide +kernel, by decide +kernel⟩
section
variable (P : Program) (w0 : World) (K : PySem.W.Frag) (mg : Str → Option Value) (base : Heap) (c0 fa : Addr) (s : Shared) (H : Hp)
abbrev lawA : Around := callerA.deeper (envOfC "law" (defScope lLaw) s.heap.objs.size fa (.ref c0))
abbrev lawX : Cx := (cxOf CX0 P w0 K mg base nLaw "law" (defScope lLaw) fa (.ref c0) callerA [] s H (fun _ _ _ => False)).nox
end
end K0

set_option Elab.async false
set_option linter.all false
set_option maxRecDepth 100000
set_option maxHeartbeats 8000000
/-! The law of threefold webs. -/
namespace K0
open PySem PySem.Spec L2
open PyProof.Rows hiding St
theorem yes_of {σ : L2.St} {H : Hp} {Q : Bool → Hp → Prop} (h : Q true H) : tYes σ H Q := h
/-- the names of the comprehension of named parts -/
def namedSc : Scope := { kind := .function, names := [(".0", .local), ("_law_part", .local), ("tuple", .globalImplicit), ("_law_rest", .cell)], isGenerator := false, isCoroutine := false }
section
variable {P : Program} {w0 : World} {K : PySem.W.Frag} {mg : Str → Option Value} {base : Heap} {c0 fa a : Addr}
theorem law_body (Z : Lw P w0 K mg base) {s : Shared} {H : Hp} {ns : List Int} (hS : SqL K H a (ns.map V.int)) (hr : Room 10 (lawA c0 fa s)) :
    ∃ t, PSs (lawX P w0 K mg base c0 fa s H) (defBody lLaw) t ∧ t { nx := fun _ H' => (V.non = .bl true : Prop), rt := fun v _ => v = .bl true } (start nLaw [.ref a]) H := by
  have T := Z.bk
  obtain ⟨_, _, GDk⟩ := Z.deck
  obtain ⟨_, _, GD⟩ := Z.draw
  obtain ⟨_, _, GO⟩ := Z.order
  obtain ⟨_, _, GA⟩ := Z.any
  obtain ⟨_, _, GWb⟩ := Z.web
  obtain ⟨_, _, GQ⟩ := Z.parts
  obtain ⟨_, _, GU⟩ := Z.due
  obtain ⟨_, _, GT, kT⟩ := Z.three
  obtain ⟨_, _, GP⟩ := Z.plain
  obtain ⟨_, _, GN⟩ := Z.without
  obtain ⟨_, _, GR⟩ := Z.partsOf
  obtain ⟨_, _, GJ⟩ := Z.joined
  have hu : callerA.units + 3 + 64 < cLine := by decide +kernel
  have hgu : (lawA c0 fa s).guards = some [] := rfl
  have r1 : Room 1 (lawA c0 fa s) := hr.mono (by decide)
  have r2 : Room 2 (lawA c0 fa s) := hr.mono (by decide)
  have r4 : Room 4 (lawA c0 fa s) := hr.mono (by decide)
  have r6 : Room 6 (lawA c0 fa s) := hr.mono (by decide)
  refine ⟨_, pss_cons (ps_set (i := 1) scLaw.nd rfl (.inl rfl) (pe_call GDk.ok r1 rfl GDk.g GDk.kp GDk.b .nil pass0 (pa_cons (pv 0) pa_nil)))
    <| pss_cons (ps_for PassesOwn.never rfl (pi_range1 (by rfl) T.range (pa_cons pe_int pa_nil)) (pg_name (i := 2) scLaw.nd rfl (.inl rfl))
      (pss_cons (ps_set (i := 3) scLaw.nd rfl (.inl rfl) (pe_call GA.ok r4 rfl GA.g GA.kp GA.b .nil pass0 (pa_cons (pv 1) pa_nil)))
      <| pss_cons (ps_set (i := 4) scLaw.nd rfl (.inl rfl) (pe_call GU.ok r2 rfl GU.g GU.kp GU.b .nil pass0 (pa_cons (pv 3) pa_nil)))
      <| pss_cons (ps_invQ (J := K0J) (J' := K0J) (R := fun _ _ _ => False) (ps_if (pt_cmpR op_ne (pe_callB (call_repr hgu hu) (by rfl) T.repr (by decide +kernel) (pa_cons (pe_tup (pa_cons (pe_call GT.ok r6 rfl GT.g GT.kp GT.b .nil pass0 (pa_cons (pv 3) pa_nil))
            (pa_cons (pe_kw1 GT.ok r6 rfl GT.g GT.kp kT pass0 (pe_call GP.ok r6 rfl GP.g GP.kp GP.b .nil pass0 (pa_cons (pv 3) pa_nil))) pa_nil))) pa_nil))
          (pe_callB (call_repr hgu hu) (by rfl) T.repr (by decide +kernel) (pa_cons (pe_tup (pa_cons (pv 4) (pa_cons (pv 4) pa_nil))) pa_nil)) (nomark _)) (pss_one (ps_ret pe_bl)) pss_nil) ?s1)
      <| pss_cons (ps_set (i := 5) scLaw.nd rfl (.inr rfl) (pe_call GO.ok r2 rfl GO.g GO.kp GO.b .nil pass0 (pa_cons (pv 1) (pa_cons (pe_ix ix_tup (pv 3) pe_int (fun _ _ => rfl)) pa_nil))))
      <| pss_cons (ps_invQ (J := K1J) (J' := K1J) (R := fun _ _ _ => False) (ps_if (pt_cmpR op_ne (pe_callB call_repr_bool (by rfl) T.repr (by decide +kernel) (pa_cons (pe_call GT.ok r6 rfl GT.g GT.kp GT.b .nil pass0 (pa_cons (pe_call GWb.ok r1 rfl GWb.g GWb.kp GWb.b .nil pass0 (pa_cons (pe_ix ix_tup (pv 3) pe_int (fun _ _ => rfl)) (pa_cons
            (pe_lc (own := [("_law_a", 11), ("_law_b", 12)]) (g := gTup K 2 (gCons (gName 11) (gCons (gName 12) gNil))) (tt := tYes) rfl scLaw.nd (pi_tup (pe_ix ix_tup (pv 3) pe_int (fun _ _ => rfl))) (blkOk_by (N := nLaw) (sc := defScope lLaw) (by decide +kernel))
              (fun _ _ _ _ _ => pg_tup rfl (pgs_cons (pg_name (i := 11) scLaw.nd rfl (.inl rfl) (.inr rfl)) (pgs_cons (pg_name (i := 12) scLaw.nd rfl (.inl rfl) (.inr rfl)) pgs_nil))) (fun _ _ _ _ _ => pts_nil)
              (fun _ _ _ _ _ => pe_tup (pa_cons (pe_ix (show IxR _ (rIxT K) from ix_tup) (pv 5) (pv 11) (fun _ _ => rfl)) (pa_cons (pe_ix (show IxR _ (rIxT K) from ix_tup) (pv 5) (pv 12) (fun _ _ => rfl)) pa_nil)))) pa_nil))) pa_nil)) pa_nil))
          (pe_callB call_repr_bool (by rfl) T.repr (by decide +kernel) (pa_cons (pv 4) pa_nil)) (nomark _)) (pss_one (ps_ret pe_bl)) pss_nil) ?s2)
      <| pss_cons (ps_invQ (J := K1J) (J' := K2J) (R := fun _ _ _ => False) (ps_set (i := 6) scLaw.nd rfl (.inr rfl) (pe_callTy call_tuple_of (by rfl) T.tuple (by decide +kernel) (pa_cons (pe_callB (KR.cr_sortTI) (by rfl) T.sorted (by decide +kernel)
            (pa_cons (pe_slice sl_Y (pv 5) po_none (po_some (pe_call GD.ok r1 rfl GD.g GD.kp GD.b .nil pass0 (pa_cons (pv 1) (pa_cons (pe_callB (call_min2 rfl) (by rfl) T.min (by decide +kernel) (pa_cons pe_int (pa_cons (pe_ix ix_tup (pv 3) pe_int (fun _ _ => rfl)) pa_nil))) pa_nil))))) pa_nil)) pa_nil))) ?s3)
      <| pss_cons (ps_invQ (J := K2J) (J' := K3J) (R := fun _ _ _ => False) (ps_par (i := 7) (j := 8) rfl scLaw.nd rfl rfl (by decide) rfl rfl (pa_cons (pe_call GN.ok r6 rfl GN.g GN.kp GN.b .nil pass0 (pa_cons (pv 3) (pa_cons (pv 6) pa_nil))) (pa_cons (pe_call GQ.ok r1 rfl GQ.g GQ.kp GQ.b .nil pass0 (pa_cons (pv 3) (pa_cons (pv 6) pa_nil))) pa_nil)) (by rfl)) ?s4)
      <| pss_cons (ps_invQ (J := K3J) (J' := K4J) (R := fun _ _ _ => False) (ps_set (i := 9) scLaw.nd rfl (.inr rfl) (pe_lc (own := [("_law_place", 13)]) (g := gName 13) rfl scLaw.nd (pi_range1 (by rfl) T.range (pa_cons (pe_ix ix_tup (pv 3) pe_int (fun _ _ => rfl)) pa_nil)) (blkOk_by (N := nLaw) (sc := defScope lLaw) (by decide +kernel))
              (fun _ _ _ _ _ => pg_name (i := 13) scLaw.nd rfl (Or.inl rfl)) (fun _ _ _ _ _ => pts_one (pt_cmpR (show OpR _ (compareOp .NotIn) (rIn K true) from op_notIn_seq) (pv 13) (pv 6) (by rfl))) (fun _ _ _ _ _ => pv 13))) ?s5)
      <| pss_cons (ps_invQ (J := K4J) (J' := K5J) (R := fun _ _ _ => False) (ps_set (i := 10) scLaw.nd rfl (.inl rfl) (pe_callB (show CallR _ (.builtin "sorted") (KR.rSortTL K) from KR.cr_sortTL) (by rfl) T.sorted (by decide +kernel) (pa_cons
            (pe_lc (own := [("_law_part", 14)]) (g := gName 14) (tt := tYes) rfl scLaw.nd (pi_list (pv 8)) (blkOk_by (N := nLaw) (sc := defScope lLaw) (by decide +kernel)) (fun _ _ _ _ _ => pg_name (i := 14) scLaw.nd rfl (Or.inl rfl)) (fun _ _ _ _ _ => pts_nil)
              (fun _ _ _ _ _ => pe_callTy (show CallR _ (.type "tuple") (fun xs H Q => ∃ p ys, xs = [V.ref p] ∧ ((SqL K H p ys ∧ ∀ l, H l = none → Q (.ref l) (upd H l (.tup ys))) ∨ (SqT K H p ys ∧ Q (.ref p) H))) from call_tuple_of) (by rfl) T.tuple (by decide +kernel) (pa_cons
                (pe_lc (own := [("_law_place", 13)]) (g := gName 13) (tt := tYes) (te := tBM K "list" (rIndex K) (tVar 9) (tCons (tVar 13) tNil)) rfl scLaw.nd (show PI _ _ _ (iTup K (tVar 14)) from by exact pi_tup (pv 14)) (blkOk_by (N := nLaw) (sc := namedSc) (by decide +kernel))
                  (fun _ _ _ _ _ => pg_name (i := 13) scLaw.nd rfl (Or.inl rfl)) (fun _ _ _ _ _ => pts_nil)
                  (fun _ _ _ _ _ => show PE _ _ (tBM K "list" (rIndex K) (tVar 9) (tCons (tVar 13) tNil)) from by exact pe_bm PySem.F.plainAttrs_list PySem.F.slot_list_index PySem.F.type_list_index mt_index (pv 9) (pa_cons (pv 13) pa_nil))) pa_nil))) pa_nil))) ?s6)
      <| pss_one (ps_if (pt_cmpR op_ne (pe_callB (call_repr hgu hu) (by rfl) T.repr (by decide +kernel) (pa_cons (pe_tup (pa_cons (pe_call GR.ok r6 rfl GR.g GR.kp GR.b .nil pass0 (pa_cons (pv 7) pa_nil)) (pa_cons (pe_call GJ.ok r6 rfl GJ.g GJ.kp GJ.b .nil pass0 (pa_cons (pv 7) pa_nil)) pa_nil))) pa_nil))
          (pe_callB (call_repr hgu hu) (by rfl) T.repr (by decide +kernel) (pa_cons (pe_tup (pa_cons (pe_callTy call_tuple_of (by rfl) T.tuple (by decide +kernel) (pa_cons (pv 10) pa_nil)) (pa_cons (pe_cmpR op_eq (pe_callB call_len_seq (by rfl) T.len PySem.boot_len (pa_cons (pv 8) pa_nil)) pe_int (nomark _)) pa_nil))) pa_nil)) (nomark _)) (pss_one (ps_ret pe_bl)) pss_nil)))
    <| pss_one (ps_ret pe_bl), ?main⟩
  case s1 =>
    rintro ⟨a, p, c, w, n, L, b⟩ D0 σ M ⟨o2, o5, o6, o7, o8, o9, o10, rfl, B⟩ nx _
    have G := B.gw
    have tf := B.tf
    dsimp only at G tf
    have fb : ∀ d ∈ ([.bool b, .bool b] : List PyData), Tame 3 d := fun d hd => by
      simp only [List.mem_cons, List.not_mem_nil, or_false] at hd
      rcases hd with rfl | rfl <;> exact bl_tame b 3
    refine ⟨_, rfl, w, n, L, rfl, G, fun b1 M1 s1 h1 => ⟨_, rfl, w, n, L, rfl, G.same s1, fun w' Lp M2 s2 hw' W' pl => ⟨w', n, Lp, rfl, (G.same (s1.trans s2)).pl W' pl, fun b2 M3 s3 h2 => ?_⟩⟩⟩
    obtain rfl := iff_bool h1 tf
    obtain rfl := iff_bool (h2.trans (pl_tf pl)) tf
    have s03 := (s1.trans s2).trans s3
    refine ⟨by show 2 ≤ sizeLine; decide, fun y1 hy1 => ⟨y1, .tuple [.bool b2, .bool b2], rfl, .tup trivial (.inl upd_same) rfl (it2 (.bl _) (.bl _)), fit5 fb (by simp), nKd, ?_⟩⟩
    refine ⟨_, rfl, _, rfl, by show 2 ≤ sizeLine; decide, fun y2 hy2 => ⟨y2, .tuple [.bool b2, .bool b2], rfl, .tup trivial (.inl upd_same) rfl (it2 (.bl _) (.bl _)), fit5 fb (by simp), nKd, rfl, _, rfl, ?_⟩⟩
    rw [ne_sm]
    exact iteF (nx _ _ ⟨o2, o5, o6, o7, o8, o9, o10, rfl, B.same ((s03.trans (same_new hy1)).trans (same_new hy2))⟩)
  case s2 =>
    rintro ⟨a, p, c, w, n, L, b⟩ D0 σ M ⟨o2, o6, o7, o8, o9, o10, t, os, rfl, B, ord, et⟩ nx _
    have G := B.gw
    have tf := B.tf
    dsimp only at G tf ord
    obtain ⟨ta, vs, e1, e2, e3⟩ := G.web.ex
    have n1 := G.n1
    have n2 := G.n2
    have hB := G.bel
    have few := G.few
    have lv := e3.len
    refine ⟨_, rfl, w, _, _, _, rfl, rfl, SqT.of e1, atI_nat (j := 0) rfl, _, rfl, w, _, _, _, rfl, rfl, SqT.of e1, atI_nat (j := 1) rfl, ta, rfl, ⟨_, SqT.of e2⟩, fun Da hD => ?_⟩
    refine lc_it (walk_tup (xs := vs)) (fun i N => ∃ ws, N Da = some (.lst ws) ∧ Same M N ∧ Prs N ws ((L.take i).map fun q => (((ordF os q.1.toNat : Nat) : Int), ((ordF os q.2.toNat : Nat) : Int)))) ⟨[], upd_same, same_new hD, .nil⟩ (fun i N _ ⟨_, _, g2, _⟩ => SqT.of (g2 _ _ e2)) ?_ ?_
    · rintro i x N N' hi ⟨ws, g1, g2, g3⟩ ⟨rfl, hx⟩
      obtain ⟨b', q, rfl, hq, hb⟩ := e3.get hx
      have bq := hB q (List.mem_of_getElem? hq)
      obtain ⟨q1, q2⟩ := q
      obtain ⟨x1, rfl⟩ : ∃ x1 : Nat, q1 = x1 := ⟨q1.toNat, by dsimp only at bq; omega⟩
      obtain ⟨x2, rfl⟩ : ∃ x2 : Nat, q2 = x2 := ⟨q2.toNat, by dsimp only at bq; omega⟩
      dsimp only at bq hb
      have gt : ∀ {y : Nat} (hy : y < n), (os.map V.int)[y]? = some (.int ((ordF os y : Nat) : Int)) := fun hy => by rw [List.getElem?_map, (ordF_at ord hy).1] <;> rfl
      have lw := g3.len
      rw [List.length_map, List.length_take] at lw
      refine ⟨b', _, rfl, SqT.of (g2 _ _ hb), rfl, _, _, rfl, _, _, rfl, rfl, rfl, ?_⟩
      unfold tYes
      refine iteT ⟨_, rfl, _, rfl, t, _, _, _, rfl, rfl, SqT.of (g2 _ _ et), atI_nat (j := x1) (gt (by omega)), _, rfl, _, rfl, t, _, _, _, rfl, rfl, SqT.of (g2 _ _ et), atI_nat (j := x2) (gt (by omega)), by show 2 ≤ sizeLine; decide, fun t' ht' => ?_⟩
      have s1 : Same N' (upd N' t' (.tup [.int ((ordF os x1 : Nat) : Int), .int ((ordF os x2 : Nat) : Int)])) := same_new ht'
      refine ⟨ws, s1 _ _ g1, Nat.lt_of_le_of_lt (show ws.length ≤ 1000 by omega) (by rw [sizeLine_eq]; decide), ws ++ [.ref t'], upd_same, set_same hD (g2.trans s1), ?_⟩
      rw [take_snoc hq, List.map_append]
      exact ((g3.mono (same_tup s1)).app (.cons (q := (((ordF os x1 : Nat) : Int), ((ordF os x2 : Nat) : Int))) upd_same .nil)).mono (upd_tup (s1 _ _ g1))
    · rintro N ⟨ws, g1, g2, g3⟩
      rw [lv, List.take_length] at g3
      have hE : Ends (n : Int) (L.map fun q => (((ordF os q.1.toNat : Nat) : Int), ((ordF os q.2.toNat : Nat) : Int))) := fun r hr => by
        obtain ⟨q, hq, rfl⟩ := List.mem_map.mp hr
        have bq := hB q hq
        have i1 := ordF_at ord (x := q.1.toNat) (by omega)
        have i2 := ordF_at ord (x := q.2.toNat) (by omega)
        refine ⟨⟨by dsimp only; omega, by dsimp only; omega⟩, ⟨by dsimp only; omega, by dsimp only; omega⟩, fun z => ?_⟩
        dsimp only at z
        have e : os[q.1.toNat]? = os[q.2.toNat]? := by rw [i1.1, i2.1, z]
        have l1 : q.1.toNat < os.length := by rw [ord.len]; omega
        have l2 : q.2.toNat < os.length := by rw [ord.len]; omega
        rw [List.getElem?_eq_getElem l1, List.getElem?_eq_getElem l2] at e
        have := (List.getElem_inj (ord_nodup ord)).mp (Option.some.inj e)
        omega
      refine ⟨Da, n, ws, _, rfl, n1, n2, g1, g3, hE, by rw [List.length_map]; exact few, fun w2 M2 N2 s2 hw2 G2 pm => ?_⟩
      have iso := (ord_iso hB ord pm).tf
      refine ⟨w2, n, M2, rfl, G2, fun b2 N3 s3 h2 => ⟨b2, rfl, _, rfl, b, rfl, rfl, _, rfl, ?_⟩⟩
      obtain rfl := iff_bool (h2.trans iso.symm) tf
      rw [ne_sm]
      have s4 := (g2.trans s2).trans s3
      exact iteF (nx _ _ ⟨o2, o6, o7, o8, o9, o10, t, os, rfl, B.same s4, ord, s4 _ _ et⟩)
  case s3 =>
    rintro ⟨a, p, c, w, n, L, b⟩ D0 σ M ⟨o2, o6, o7, o8, o9, o10, t, os, rfl, B, ord, et⟩ nx _
    have G := B.gw
    have D := B.dk
    dsimp only at G D ord
    obtain ⟨ta, vs, e1, e2, e3⟩ := G.web.ex
    have n1 := G.n1
    have n2 := G.n2
    obtain ⟨mm', em, m1, m2⟩ : ∃ mm' : Nat, (if (n : Int) < 3 then (n : Int) else 3) = mm' ∧ 1 ≤ mm' ∧ mm' ≤ n := by
      by_cases z : (n : Int) < 3
      · exact ⟨n, by rw [if_pos z], n1, Nat.le_refl _⟩
      · exact ⟨3, by rw [if_neg z] <;> rfl, by omega, by omega⟩
    refine ⟨_, rfl, _, rfl, _, rfl, w, _, _, _, rfl, rfl, SqT.of e1, atI_nat (j := 0) rfl, _, _, rfl, ?_⟩
    rw [em]
    refine ⟨p, c, _, rfl, D, by omega, by omega, fun d M1 d0 d1 D1 K1 => ⟨_, rfl, t, _, rfl, K1.tup D _ _ et, fun t2 M2 s2 e2' => ?_⟩⟩
    obtain ⟨dn, rfl⟩ : ∃ dn : Nat, d = dn := ⟨d.toNat, by omega⟩
    rw [cut_to, ← List.map_take] at e2'
    refine ⟨t2, os.take dn, rfl, SqT.of e2', fun ms p2 pm pw hp2 => ?_⟩
    have nd : ms.Nodup := pm.nodup_iff.mpr ((ord_nodup ord).sublist (List.take_sublist _ _))
    have mem : ∀ i ∈ ms, 0 ≤ i ∧ i < n := fun i hi => ord.mem (List.mem_of_mem_take (pm.mem_iff.mp hi))
    have ek : ms = (ms.map Int.toNat).map (fun i => ((i : Nat) : Int)) := by
      rw [List.map_map]
      have : ∀ i ∈ ms, ((fun i => ((i : Nat) : Int)) ∘ Int.toNat) i = id i := fun i hi => by
        have := mem i hi
        show ((i.toNat : Nat) : Int) = i
        omega
      rw [List.map_congr_left this, List.map_id]
    have inc : (ms.map Int.toNat).Pairwise (· < ·) := by
      rw [List.pairwise_map]
      refine List.Pairwise.imp_of_mem (fun {x y} hx hy z => ?_) (pw.and nd)
      have := mem x hx
      have := mem y hy
      have h1 := z.1
      have h2 := z.2
      omega
    have lm : (ms.map Int.toNat).length < n := by
      rw [List.length_map, pm.length_eq, List.length_take]
      omega
    refine ⟨p2, _, rfl, .inl ⟨SqL.of upd_same, fun g hg => ?_⟩⟩
    have s3 := (s2.trans (same_new (o := .lst (ms.map V.int)) hp2)).trans (same_new (o := .tup (ms.map V.int)) hg)
    refine nx _ _ ⟨o2, _, o7, o8, o9, o10, g, ms.map Int.toNat, rfl, (B.go D1 K1).same s3, ?_, fun i hi => ?_, inc, lm⟩
    · rw [upd_same, natV_ints, ← ek]
    · obtain ⟨j, hj, rfl⟩ := List.mem_map.mp hi
      have := mem j hj
      show j.toNat < n
      omega
  case s4 =>
    rintro ⟨a, p, c, w, n, L, b⟩ D0 σ M ⟨o2, o5, o7, o8, o9, o10, g, ks, rfl, B, eg, lt, inc, lk⟩ nx _
    have G := B.gw
    have D := B.dk
    dsimp only at G D lt lk
    have n2 := G.n2
    have il := nat_lot lt inc
    have rl := restK_len lt inc
    have hz : restK n ks ≠ [] := fun z => by
      rw [z] at rl
      simp at rl
      omega
    have nz : restN n (cas ks) ≠ [] := fun z => by rw [restN_cas] at z; exact hz (List.map_eq_nil_iff.mp z)
    refine ⟨_, rfl, _, rfl, w, g, n, L, cas ks, rfl, G, .inl (by rw [nats_ints]; exact eg), il, nz, fun w6 M1 s1 hw6 W6 => ?_⟩
    rw [restN_cas] at W6
    have G6 := within_gw G.bel n2 G.srt G.few (restK_inc n ks) (fun i hi => (restK_mem.mp hi).1) hz W6
    refine ⟨_, rfl, _, rfl, w, g, n, L, ks, rfl, G.same s1, .inl (s1 _ _ eg), lt, inc_nodup inc, fun l us ys M2 s2 hl el tk ip => ⟨_, _, rfl, ?_⟩⟩
    have s12 := s1.trans s2
    obtain ⟨lp, lc⟩ := D.inp (s1.free hl)
    exact nx _ _ ⟨o2, o5, o9, o10, g, ks, w6, l, us, ys, rfl, B.same s12, s12 _ _ eg, lt, inc, ⟨G6.same s2, el, lp, lc, tk, ip⟩⟩
  case s5 =>
    rintro ⟨a, p, c, w, n, L, b⟩ D0 σ M ⟨o2, o5, o9, o10, g, ks, wl, lp, us, ys, rfl, B, eg, lt, inc, lf⟩ nx _
    have G := B.gw
    have D := B.dk
    dsimp only at G D lt
    obtain ⟨ta, vs, e1, e2, e3⟩ := G.web.ex
    have n1 := G.n1
    have n2 := G.n2
    refine ⟨_, rfl, w, _, _, _, rfl, rfl, SqT.of e1, atI_nat (j := 0) rfl, _, rfl, by omega, by omega, fun Da hD => ?_⟩
    refine lc_range (lo := 0) (n := (n : Int).toNat) (fun i N => N Da = some (.lst ((restK i ks).map natV)) ∧ Same M N) ⟨upd_same, same_new hD⟩ ?_ ?_
    · rintro i N hi ⟨g1, g2⟩
      have rs : restK (i + 1) ks = restK i ks ++ [i].filter fun i => !decide (i ∈ ks) := by
        unfold restK
        rw [List.range_succ, List.filter_append]
      have fl := List.length_filter_le (fun i => !decide (i ∈ ks)) (List.range i)
      rw [List.length_range] at fl
      have fl : (restK i ks).length ≤ i := fl
      refine ⟨rfl, _, rfl, _, rfl, g, _, rfl, .inr (SqT.of (g2 _ _ eg)), rfl, flat_natV ks, _, rfl, ?_⟩
      rw [if_pos rfl, Int.zero_add]
      have ei : inV (V.int (i : Int)) (ks.map natV) = decide (i ∈ ks) := inV_nat i ks
      rw [ei]
      cases hc : (!decide (i ∈ ks)) with
      | true =>
        refine iteT ⟨_, rfl, _, g1, by rw [List.length_map, sizeLine_eq]; omega, ?_, set_same hD g2⟩
        rw [upd_same, rs, List.filter_cons_of_pos (p := fun i => !decide (i ∈ ks)) hc, List.filter_nil, List.map_append] <;> rfl
      | false =>
        refine iteF ⟨?_, g2⟩
        rw [g1, rs, List.filter_cons_of_neg (p := fun i => !decide (i ∈ ks)) (by rw [hc]; decide), List.filter_nil, List.append_nil]
    · rintro N ⟨g1, g2⟩
      rw [Int.toNat_natCast] at g1
      exact nx _ _ ⟨o2, o5, _, o10, Da, ks, wl, lp, us, ys, rfl, B.same g2, g1, lt, inc, ⟨lf.wl.same g2, g2 _ _ lf.el, lf.np, lf.nc, lf.tk.same g2, lf.ip⟩⟩
  case s6 =>
    rintro ⟨a, p, c, w, n, L, b⟩ D0 σ M ⟨o2, o5, o6, o10, lr, ks, wl, lp, us, ys, rfl, B, er, lt, inc, lf⟩ nx _
    have G := B.gw
    have D := B.dk
    dsimp only at G D lt er
    have n2 := G.n2
    have C := lf.ip.cls
    dsimp only at C
    have inR : ∀ c ∈ ys, ∀ i ∈ c, i ∈ restK n ks := fun c hc i hi => by
      obtain ⟨r, _, h⟩ := C.cls c hc
      exact (restM_rest lt inc i).mp (((h i).mp hi).bit)
    have lr12 : (restK n ks).length ≤ 12 := by
      have := restK_len lt inc
      omega
    have ly := lf.tk.len
    have fewY : ys.length ≤ 12 := by
      have := (lf.ip.ren G.bel (restK_inc n ks) (restM_rest lt inc)).cls.few
      rw [List.length_map] at this
      omega
    refine ⟨_, rfl, lp, rfl, ⟨_, SqL.of lf.el⟩, fun Da hD => ?_⟩
    refine lc_it (walk_list (xs := us)) (fun i N => ∃ ws, N Da = some (.lst ws) ∧ Same M N ∧ TupsK N ws ((ys.take i).map fun c => c.map (restK n ks).idxOf)) ⟨[], upd_same, same_new hD, .nil⟩ (fun i N _ ⟨_, _, g2, _⟩ => SqL.of (g2 _ _ lf.el)) ?_ ?_
    · rintro i x N N' hi ⟨ws, g1, g2, g3⟩ ⟨rfl, hx⟩
      obtain ⟨t, r, rfl, hr', ht⟩ := lf.tk.get hx
      have rm := List.mem_of_getElem? hr'
      have ht' := g2 _ _ ht
      have lw := g3.len
      rw [List.length_map, List.length_take] at lw
      have lrr : r.length ≤ 12 := by
        have := len_le (inc_nodup (C.inc r rm)) (m := restK n ks) fun i hi => inR r rm i hi
        omega
      refine ⟨rfl, ?_⟩
      refine yes_of ?_
      refine iteT ⟨_, rfl, t, rfl, ⟨_, SqT.of ht'⟩, fun Dp hDp => ?_⟩
      refine lc_it (walk_tup (xs := r.map natV)) (fun j N2 => N2 Dp = some (.lst (((r.take j).map (restK n ks).idxOf).map natV)) ∧ Same N' N2) ⟨upd_same, same_new hDp⟩ (fun j N2 _ g => SqT.of (g.2 _ _ ht')) ?_ ?_
      · rintro j y N2 N3 hj ⟨f1, f2⟩ ⟨rfl, hy⟩
        rw [List.getElem?_map] at hy
        obtain ⟨e, he, rfl⟩ := Option.map_eq_some_iff.mp hy
        have em := inR r rm e (List.mem_of_getElem? he)
        obtain ⟨j2, ej, ej2, ej3⟩ := idx_spec (restK n ks) (at_idx em)
        have er' := f2 _ _ (g2 _ _ er)
        refine ⟨rfl, ?_⟩
        refine yes_of ?_
        refine iteT ⟨_, rfl, .inl ⟨rfl, _, SqL.of er'⟩, _, rfl, lr, _, _, j2, natV e, rfl, rfl, SqL.of er', rfl, flat_natV _, by rw [List.getElem?_map, ej2] <;> rfl, by rw [nat_eqV]; exact beq_self_eq_true _, fun m z' hm hz' => ?_, _, f1, ?_, ?_, set_same hDp f2⟩
        · rw [List.getElem?_map] at hz'
          obtain ⟨z, hz, rfl⟩ := Option.map_eq_some_iff.mp hz'
          rw [nat_eqV]
          exact ej3 m z hm hz
        · rw [List.length_map, List.length_map, List.length_take, sizeLine_eq]
          omega
        · rw [upd_same, take_snoc he, List.map_append, List.map_append, ← ej] <;> rfl
      · rintro N2 ⟨f1, f2⟩
        rw [List.length_map, List.take_length] at f1
        refine ⟨Dp, _, rfl, .inl ⟨SqL.of f1, fun t2 ht2 => ?_⟩⟩
        have s3 := f2.trans (same_new (o := .tup ((r.map (restK n ks).idxOf).map natV)) ht2)
        refine ⟨ws, s3 _ _ g1, Nat.lt_of_le_of_lt (show ws.length ≤ 1000 by omega) (by rw [sizeLine_eq]; decide), ws ++ [.ref t2], upd_same, set_same hD (g2.trans s3), ?_⟩
        rw [take_snoc hr', List.map_append]
        exact ((g3.same s3).app (.cons (r := r.map (restK n ks).idxOf) upd_same .nil)).mono (upd_tup (s3 _ _ g1))
    · rintro N ⟨ws, g1, g2, g3⟩
      rw [ly, List.take_length] at g3
      have ipr := lf.ip.ren G.bel (restK_inc n ks) (restM_rest lt inc)
      have C2 := ipr.cls
      refine ⟨Da, ws, kOf N, rfl, SqL.of g1, g3.tupI fun c hc => C2.ne hc, fun vs2 p2 pm pw hp => ?_⟩
      obtain ⟨zs, z1, z2⟩ := g3.perm pm
      have C3 := C2.perm z1
      have asc := z2.srt C3.dis (fun c hc => C3.ne hc) pw
      have s3 := g2.trans (same_new (o := .lst vs2) hp)
      exact nx _ _ ⟨o2, o5, o6, _, p2, ks, wl, lp, us, ys, vs2, zs, rfl, B.same s3, upd_same, z2.mono (new_tup hp), ⟨C3, asc⟩, by rw [z1.length_eq, List.length_map], ⟨lf.wl.same s3, s3 _ _ lf.el, lf.np, lf.nc, lf.tk.same s3, lf.ip⟩⟩
  case main =>
    refine ⟨_, rfl, a, ns, rfl, hS, fun p c H1 D1 s1 hp hc => ?_⟩
    refine ⟨_, rfl, by decide, by decide, ?_⟩
    refine for_range (lo := 0) (n := 3) (fun i σ M => ∃ (o2 o3 o4 o5 o6 o7 o8 o9 o10 : Option V), σ = [some (.ref a), some (.ref p), o2, o3, o4, o5, o6, o7, o8, o9, o10, none, none, none, none] ∧ Deck M p c)
      ⟨none, none, none, none, none, none, none, none, none, rfl, D1⟩ ?_ ?_
    · rintro i σ M hi ⟨o2, o3, o4, o5, o6, o7, o8, o9, o10, rfl, D⟩
      refine ⟨_, rfl, p, c, rfl, D, fun w n L M1 G D2 K1 => ?_⟩
      refine ⟨_, rfl, w, n, L, rfl, G, fun b M2 s2 tf => ?_⟩
      refine ⟨⟨a, p, c, w, n, L, b⟩, ⟨_, o5, o6, o7, o8, o9, o10, rfl, ⟨D2.same s2, G.same s2, tf⟩⟩, fun σ M h => ?_, fun v M h => h.elim⟩
      clear G D2 K1 s2 D
      obtain ⟨o2, o5, o6, o7, o8, o9, o10, rfl, B⟩ := h
      have G := B.gw
      have D := B.dk
      dsimp only at G D
      obtain ⟨ta, vs, e1, e2, e3⟩ := G.web.ex
      refine ⟨_, rfl, _, rfl, w, _, _, _, rfl, rfl, SqT.of e1, atI_nat (j := 0) rfl, p, c, n, rfl, G.n2, D, fun t os M3 ord ht et D3 K3 => ?_⟩
      refine ⟨⟨a, p, c, w, n, L, b⟩, ⟨o2, o6, o7, o8, o9, o10, t, os, rfl, B.go D3 K3, ord, et⟩, fun σ M h => ⟨_, h, fun σ M h => ⟨_, h, fun σ M h => ⟨_, h, fun σ M h => ⟨_, h, fun σ M h => ?_, fun v M h => h.elim⟩, fun v M h => h.elim⟩, fun v M h => h.elim⟩, fun v M h => h.elim⟩, fun v M h => h.elim⟩
      clear ord et D3 K3 B G D e1 e2 e3
      obtain ⟨o2, o5, o6, o9, ln, ks, wl, lp, us, ys, vs2, zs, rfl, B, eln, tkz, ipz, lzy, lf⟩ := h
      dsimp only at ipz lzy
      have D := B.dk
      dsimp only at D
      have nn := lf.wl.n2
      dsimp only at nn
      refine ⟨_, rfl, wl, _, _, rfl, lf.wl, fun tp1 us1 y1 M1 s1 htp1 ep1 tk1 ip1 => ?_⟩
      refine ⟨_, rfl, wl, _, _, rfl, lf.wl.same s1, fun y2 M2 s2 ip2 => ⟨by show 2 ≤ sizeLine; decide, fun p7 hp7 => ?_⟩⟩
      obtain rfl := ip1.uniq ipz
      obtain rfl := ip2.uniq ipz
      have C5 := ipz.cls
      have tm := parts_tame C5 nn
      have ff : Fit (.tuple [partsD y2, .bool (decide (y2.length = 1))]) := fit5 (fun d hd => by
        rcases List.mem_cons.mp hd with rfl | hd
        · exact tm
        · rw [List.mem_singleton.mp hd]; exact bl_tame _ 3) (by simp)
      have d1 : ∀ m : Nat, decide (V.int ((m : Nat) : Int) = V.int 1) = decide (m = 1) := fun m => by
        refine decide_eq_decide.mpr ⟨fun z => ?_, fun z => by rw [z] <;> rfl⟩
        injection z with z
        omega
      have s3 : Same M2 (upd M2 p7 (.tup [.ref tp1, .bl (decide (y2.length = 1))])) := same_new hp7
      have s13 := (s1.trans s2).trans s3
      refine ⟨p7, _, rfl, .tup trivial (.inl upd_same) rfl (it2 ((tk1.same (s2.trans s3)).dv (.inl ((s2.trans s3) _ _ ep1))) (.bl _)), ff, nKd, ?_⟩
      refine ⟨_, rfl, ln, _, rfl, .inl ⟨SqL.of (s13 _ _ eln), fun tn htn => ?_⟩⟩
      have s4 := same_new (H := upd M2 p7 (.tup [.ref tp1, .bl (decide (y2.length = 1))])) (o := .tup vs2) htn
      have s14 := s13.trans s4
      refine ⟨_, rfl, lp, _, rfl, .inl (SqL.of (s14 _ _ lf.el)), rfl, by show 2 ≤ sizeLine; decide, fun p9 hp9 => ?_⟩
      rw [d1]
      have elen : us.length = y2.length := by rw [lf.tk.len, lzy]
      rw [elen]
      have s5 := same_new (H := upd (upd M2 p7 (.tup [.ref tp1, .bl (decide (y2.length = 1))])) tn (.tup vs2)) (o := .tup [.ref tn, .bl (decide (y2.length = 1))]) hp9
      refine ⟨p9, .tuple [partsD y2, .bool (decide (y2.length = 1))], rfl, .tup trivial (.inl upd_same) rfl (it2 (TupsAt.dv (.inl (s5 _ _ upd_same)) (tkz.same (s14.trans s5)).at) (.bl _)), ff, nKd, rfl, _, rfl, ?_⟩
      rw [ne_sm]
      exact iteF ⟨_, _, _, _, _, _, _, _, _, rfl, D.same (s14.trans s5)⟩
    · rintro σ M ⟨o2, o3, o4, o5, o6, o7, o8, o9, o10, rfl, D⟩
      rfl
end
end K0

set_option Elab.async false
set_option linter.all false
set_option maxRecDepth 100000
set_option maxHeartbeats 4000000
/-! What the top has written, put together. -/
namespace K0
open PySem PySem.Spec L2
open PyProof.Rows hiding St
open PySem.W (Frag)
open LamX (ExtN Tabs TabB TabS)
/-- a def of the row -/
def Df (K : Frag) (mg : Str → Option Value) (n : Str) (st : Stmt) (f : Addr) (fd : FuncData) : Prop := mg n = some (.ref f) ∧ PySem.W.keepIn K (.ref f) = true ∧ Fun K n n st f fd
theorem df_mk {K : Frag} {h : Heap} {mg : Str → Option Value} {n : Str} {st : Stmt} {f : Addr} {oc : Value} {od an : Option Addr} {osl : Array (Option Value)} {kV doc pm cdv ct : Value} (X : K.In h) (G : h.Ns mainGlobals mg)
    (a : PySem.W.nsIn K mainGlobals n = some (some (.ref f))) (l : K.lookup f = some ⟨oc, od, .func (PySem.W.fnOf n n (defArgs st) (defBody st) (defScope st) .none kV doc pm an cdv ct), osl⟩)
    (c : PySem.W.codeIn K cdv n = true) (k : PySem.W.keepIn K (.ref f) = true) : Df K mg n st f (PySem.W.fnOf n n (defArgs st) (defBody st) (defScope st) .none kV doc pm an cdv ct) := ⟨PySem.W.mg_of X G a, k, fun_mk l c k⟩

/-- a def of the row, its code object told -/
def DfC (K : Frag) (mg : Str → Option Value) (n : Str) (st : Stmt) (f c : Addr) (fd : FuncData) : Prop := mg n = some (.ref f) ∧ PySem.W.keepIn K (.ref f) = true ∧ FunC K n n st f fd c
theorem dfc_mk {K : Frag} {h : Heap} {mg : Str → Option Value} {n : Str} {st : Stmt} {f c : Addr} {oc : Value} {od an : Option Addr} {osl : Array (Option Value)} {kV doc pm ct : Value} (X : K.In h) (G : h.Ns mainGlobals mg)
    (a : PySem.W.nsIn K mainGlobals n = some (some (.ref f))) (l : K.lookup f = some ⟨oc, od, .func (PySem.W.fnOf n n (defArgs st) (defBody st) (defScope st) .none kV doc pm an (.ref c) ct), osl⟩)
    (z : PySem.W.codeIn K (.ref c) n = true) (k : PySem.W.keepIn K (.ref f) = true) : DfC K mg n st f c (PySem.W.fnOf n n (defArgs st) (defBody st) (defScope st) .none kV doc pm an (.ref c) ct) := ⟨PySem.W.mg_of X G a, k, ⟨_, _, _, _, _, _, _, _, rfl, l, z⟩, k⟩
theorem kw2_mk {K : Frag} {x qual : Str} {st : Stmt} {f : Addr} {fd : FuncData} {k1 k2 : Str} (F : Fun K x qual st f fd)
    (h : ∀ (kV doc pm : Value) (an : Option Addr) (cdv ct a b : Value), bindArgs (PySem.W.fnOf x qual (defArgs st) (defBody st) (defScope st) .none kV doc pm an cdv ct) ⟨[], [(k1, a), (k2, b)]⟩ = pure [(k1, a), (k2, b)] ∧
      bindArgs (PySem.W.fnOf x qual (defArgs st) (defBody st) (defScope st) .none kV doc pm an cdv ct) ⟨[], [(k2, b), (k1, a)]⟩ = pure [(k1, a), (k2, b)]) : Kw2 fd k1 k2 := by
  obtain ⟨oc, od, kV, doc, pm, an, cdv, ct, osl, rfl, _, _⟩ := F.ex
  exact fun s a b => ⟨.of_eq (h ..).1, .of_eq (h ..).2⟩
theorem kw1_mk {K : Frag} {x qual : Str} {st : Stmt} {f : Addr} {fd : FuncData} {k1 : Str} (F : Fun K x qual st f fd) (h : ∀ (kV doc pm : Value) (an : Option Addr) (cdv ct a : Value), bindArgs (PySem.W.fnOf x qual (defArgs st) (defBody st) (defScope st) .none kV doc pm an cdv ct) ⟨[], [(k1, a)]⟩ = pure [(k1, a)]) : Kw1 fd k1 := by
  obtain ⟨oc, od, kV, doc, pm, an, cdv, ct, osl, rfl, _, _⟩ := F.ex
  exact fun s a => .of_eq (h ..)
/-- the names that are nobody's own -/
def free : List Str := ["int", "max", "len", "list", "range", "tuple", "min", "sorted", "set", "all", "isinstance", "enumerate", "bool", "repr", "super", "sum"]
def freeB (K : Frag) : Bool := free.all fun x => decide (PySem.W.nsIn K mainGlobals x = some none)
theorem free_mk {K : Frag} {h : Heap} {mg : Str → Option Value} (X : K.In h) (G : h.Ns mainGlobals mg) (e : freeB K = true) : ∀ x ∈ free, mg x = none := fun x hx => PySem.W.mg_none_of X G (of_decide_eq_true (List.all_eq_true.mp e x hx))
/-- what the end asks of the law -/
def LawEnd (P : Program) (w : World) (K : Frag) (mg : Str → Option Value) (fa : Addr) (h : Heap) : Prop := ∃ (fd : FuncData) (c0 : Addr), FunC K "law" "law" lLaw fa fd c0 ∧ (∀ (s : Shared) (u : Value), BindsTo s fd ⟨[u], []⟩ [("_law_script", u)]) ∧ ∀ base : Heap, K.In base → base.Ns mainGlobals mg → Lw P w K mg base
theorem walk_out {l : PySem.W.OpenLaw} {q : Program} {loose : List Str} {XP : (Str → Option Value) → Heap → Prop} {YP : World → Heap → Prop} {d : DefRec} {K : Params → Frag} (hn : l.most = some 63) (hdf : d.params.defaults = []) (hY : ∀ (w : World) (h : Heap), YP w h → (K w.params).In h)
    (F : ∀ (w : World) (mg : Str → Option Value) (fa : Addr) (h : Heap), (K w.params).In h → h.Ns mainGlobals mg → mg d.name = some (.ref fa) → LawEnd l.prog w (K w.params) mg fa h) :
    PySem.W.WalkO q loose XP YP l.row.toRowW d [] (fun f vs => PySem.call f vs) := by
  refine Att.attach_callB hn hdf fun w s₀ s₁ mg mb fa o pm cd doc a vs ns G Y ho hd hcd hmg hobj hints hlen _ hg => ?_
  have KX := hY w _ Y
  obtain ⟨fd, c0, FL, hb, rest⟩ := F w mg fa _ KX G.T.g hmg
  refine law_outT (k := 10) (cs := []) FL scLaw KX G.T.g G.T.b G.T.builtins G.T.nolimit hg G.T.bmain (fun p hp => nomatch hp) hobj hints (Nat.le_trans hlen (by rw [sizeLine_eq]; decide)) ⟨rfl, by decide, by decide⟩ hb fun base H s KB GB _ _ hS hr => ?_
  exact law_body (rest base KB GB) hS hr
set_option maxHeartbeats 16000000 in
theorem all_mk {P : Program} {w : World} {K : Frag} {h : Heap} {mg : Str → Option Value} {fa f_mask_of f_lot_of f_full_mask f_near_masks f_part_from f_part_masks f_is_whole f_is_below f_is_pair f_is_tie f_is_web f_check_web f_is_lot_of f_check_lot f_plain_of f_plain_web f_places_but f_web_of f_without f_part_lots f_parts_of f_is_joined f_pairs_in f_parts_beside f_is_threefold_web f_is_threefold f__law_deck f__law_draw f__law_pick f__law_order f__law_web f__law_parts f__law_pairs f__law_is_threefold f__law_ties f__law_any f_law c_law : Addr} {d_mask_of d_lot_of d_full_mask d_near_masks d_part_from d_part_masks d_is_whole d_is_below d_is_pair d_is_tie d_is_web d_check_web d_is_lot_of d_check_lot d_plain_of d_plain_web d_places_but d_web_of d_without d_part_lots d_parts_of d_is_joined d_pairs_in d_parts_beside d_is_threefold_web d_is_threefold d__law_deck d__law_draw d__law_pick d__law_order d__law_web d__law_parts d__law_pairs d__law_is_threefold d__law_ties d__law_any d_law : FuncData} {tM : Tok} (X : K.In h) (G : h.Ns mainGlobals mg) (hfa : mg "law" = some (.ref fa))
    (aM : PySem.W.nsIn K mainGlobals "MOST_PLACES" = some (some (.int 12 tM))) (fr : freeB K = true)
    (g_mask_of : Df K mg "mask_of" pMaskOf f_mask_of d_mask_of)
    (g_lot_of : Df K mg "lot_of" pLotOf f_lot_of d_lot_of)
    (g_full_mask : Df K mg "full_mask" pFull f_full_mask d_full_mask)
    (g_near_masks : Df K mg "near_masks" pNear f_near_masks d_near_masks)
    (g_part_from : Df K mg "part_from" pPart f_part_from d_part_from)
    (g_part_masks : Df K mg "part_masks" pParts f_part_masks d_part_masks)
    (g_is_whole : Df K mg "is_whole" pWhole f_is_whole d_is_whole)
    (g_is_below : Df K mg "is_below" pBelow f_is_below d_is_below)
    (g_is_pair : Df K mg "is_pair" pPair2 f_is_pair d_is_pair)
    (g_is_tie : Df K mg "is_tie" pTie f_is_tie d_is_tie)
    (g_is_web : Df K mg "is_web" pWeb f_is_web d_is_web)
    (g_check_web : Df K mg "check_web" pCheckWeb f_check_web d_check_web)
    (g_is_lot_of : Df K mg "is_lot_of" pIsLotOf f_is_lot_of d_is_lot_of)
    (g_check_lot : Df K mg "check_lot" pCheckLot f_check_lot d_check_lot)
    (g_plain_of : Df K mg "plain_of" pPlainOf f_plain_of d_plain_of)
    (g_plain_web : Df K mg "plain_web" pPlainWeb f_plain_web d_plain_web)
    (g_places_but : Df K mg "places_but" pPlacesBut f_places_but d_places_but)
    (g_web_of : Df K mg "web_of" pWebOf f_web_of d_web_of)
    (g_without : Df K mg "without" pWithout f_without d_without)
    (g_part_lots : Df K mg "part_lots" pPartLots f_part_lots d_part_lots)
    (g_parts_of : Df K mg "parts_of" pPartsOf f_parts_of d_parts_of)
    (g_is_joined : Df K mg "is_joined" pIsJoined f_is_joined d_is_joined)
    (g_pairs_in : Df K mg "pairs_in" pPairsIn f_pairs_in d_pairs_in)
    (g_parts_beside : Df K mg "parts_beside" pBeside f_parts_beside d_parts_beside)
    (g_is_threefold_web : Df K mg "is_threefold_web" pThreeWeb f_is_threefold_web d_is_threefold_web)
    (g_is_threefold : Df K mg "is_threefold" pThree f_is_threefold d_is_threefold)
    (g__law_deck : Df K mg "_law_deck" uDeck f__law_deck d__law_deck)
    (g__law_draw : Df K mg "_law_draw" sDraw f__law_draw d__law_draw)
    (g__law_pick : Df K mg "_law_pick" sPick f__law_pick d__law_pick)
    (g__law_order : Df K mg "_law_order" uOrder f__law_order d__law_order)
    (g__law_web : Df K mg "_law_web" uWeb f__law_web d__law_web)
    (g__law_parts : Df K mg "_law_parts" uParts f__law_parts d__law_parts)
    (g__law_pairs : Df K mg "_law_pairs" uPairs f__law_pairs d__law_pairs)
    (g__law_is_threefold : Df K mg "_law_is_threefold" uThree f__law_is_threefold d__law_is_threefold)
    (g__law_ties : Df K mg "_law_ties" uTies f__law_ties d__law_ties)
    (g__law_any : Df K mg "_law_any" uAny f__law_any d__law_any)
    (g_law : DfC K mg "law" lLaw f_law c_law d_law) : LawEnd P w K mg fa h := by
  have eL := hfa.symm.trans g_law.1
  cases eL
  have n := free_mk X G fr
  have B : Bk mg := { int := n _ (by decide), max := n _ (by decide), len := n _ (by decide), list := n _ (by decide), range := n _ (by decide), tuple := n _ (by decide), min := n _ (by decide), sorted := n _ (by decide), set := n _ (by decide), all := n _ (by decide), isi := n _ (by decide), enu := n _ (by decide), bool := n _ (by decide), repr := n _ (by decide), sup := n _ (by decide), most := ⟨_, PySem.W.mg_of X G aM⟩ }
  have SUM : mg "sum" = none := n _ (by decide)
  have b_mask_of := g_mask_of.2.2.binds (ps := ["lot"]) fun _ _ _ _ _ _ us hl => match us, hl with | [_], _ => rfl
  have b_lot_of := g_lot_of.2.2.binds (ps := ["mask"]) fun _ _ _ _ _ _ us hl => match us, hl with | [_], _ => rfl
  have b_full_mask := g_full_mask.2.2.binds (ps := ["web"]) fun _ _ _ _ _ _ us hl => match us, hl with | [_], _ => rfl
  have b_near_masks := g_near_masks.2.2.binds (ps := ["web"]) fun _ _ _ _ _ _ us hl => match us, hl with | [_], _ => rfl
  have b_part_from := g_part_from.2.2.binds (ps := ["near", "mask", "start"]) fun _ _ _ _ _ _ us hl => match us, hl with | [_, _, _], _ => rfl
  have b_part_masks := g_part_masks.2.2.binds (ps := ["near", "mask"]) fun _ _ _ _ _ _ us hl => match us, hl with | [_, _], _ => rfl
  have b_is_whole := g_is_whole.2.2.binds (ps := ["thing"]) fun _ _ _ _ _ _ us hl => match us, hl with | [_], _ => rfl
  have b_is_below := g_is_below.2.2.binds (ps := ["thing", "bound"]) fun _ _ _ _ _ _ us hl => match us, hl with | [_, _], _ => rfl
  have b_is_pair := g_is_pair.2.2.binds (ps := ["thing"]) fun _ _ _ _ _ _ us hl => match us, hl with | [_], _ => rfl
  have b_is_tie := g_is_tie.2.2.binds (ps := ["thing", "places"]) fun _ _ _ _ _ _ us hl => match us, hl with | [_, _], _ => rfl
  have b_is_web := g_is_web.2.2.binds (ps := ["thing"]) fun _ _ _ _ _ _ us hl => match us, hl with | [_], _ => rfl
  have b_check_web := g_check_web.2.2.binds (ps := ["thing"]) fun _ _ _ _ _ _ us hl => match us, hl with | [_], _ => rfl
  have b_is_lot_of := g_is_lot_of.2.2.binds (ps := ["web", "thing"]) fun _ _ _ _ _ _ us hl => match us, hl with | [_, _], _ => rfl
  have b_check_lot := g_check_lot.2.2.binds (ps := ["web", "thing"]) fun _ _ _ _ _ _ us hl => match us, hl with | [_, _], _ => rfl
  have b_plain_of := g_plain_of.2.2.binds (ps := ["web"]) fun _ _ _ _ _ _ us hl => match us, hl with | [_], _ => rfl
  have b_plain_web := g_plain_web.2.2.binds (ps := ["web"]) fun _ _ _ _ _ _ us hl => match us, hl with | [_], _ => rfl
  have b_places_but := g_places_but.2.2.binds (ps := ["web", "lot"]) fun _ _ _ _ _ _ us hl => match us, hl with | [_, _], _ => rfl
  have b_web_of := g_web_of.2.2.binds (ps := ["web", "lot"]) fun _ _ _ _ _ _ us hl => match us, hl with | [_, _], _ => rfl
  have b_without := g_without.2.2.binds (ps := ["web", "lot"]) fun _ _ _ _ _ _ us hl => match us, hl with | [_, _], _ => rfl
  have b_part_lots := g_part_lots.2.2.binds (ps := ["web"]) fun _ _ _ _ _ _ us hl => match us, hl with | [_], _ => rfl
  have b_parts_of := g_parts_of.2.2.binds (ps := ["web"]) fun _ _ _ _ _ _ us hl => match us, hl with | [_], _ => rfl
  have b_is_joined := g_is_joined.2.2.binds (ps := ["web"]) fun _ _ _ _ _ _ us hl => match us, hl with | [_], _ => rfl
  have b_pairs_in := g_pairs_in.2.2.binds (ps := ["lot"]) fun _ _ _ _ _ _ us hl => match us, hl with | [_], _ => rfl
  have b_parts_beside := g_parts_beside.2.2.binds (ps := ["web", "lot"]) fun _ _ _ _ _ _ us hl => match us, hl with | [_, _], _ => rfl
  have b_is_threefold_web := g_is_threefold_web.2.2.binds (ps := ["web"]) fun _ _ _ _ _ _ us hl => match us, hl with | [_], _ => rfl
  have b_is_threefold := g_is_threefold.2.2.binds (ps := ["web"]) fun _ _ _ _ _ _ us hl => match us, hl with | [_], _ => rfl
  have b__law_deck := g__law_deck.2.2.binds (ps := ["_law_script"]) fun _ _ _ _ _ _ us hl => match us, hl with | [_], _ => rfl
  have b__law_draw := g__law_draw.2.2.binds (ps := ["_law_deck_here", "_law_below"]) fun _ _ _ _ _ _ us hl => match us, hl with | [_, _], _ => rfl
  have b__law_pick := g__law_pick.2.2.binds (ps := ["_law_deck_here", "_law_some"]) fun _ _ _ _ _ _ us hl => match us, hl with | [_, _], _ => rfl
  have b__law_order := g__law_order.2.2.binds (ps := ["_law_deck_here", "_law_n"]) fun _ _ _ _ _ _ us hl => match us, hl with | [_, _], _ => rfl
  have b__law_web := g__law_web.2.2.binds (ps := ["_law_n", "_law_ties_here"]) fun _ _ _ _ _ _ us hl => match us, hl with | [_, _], _ => rfl
  have b__law_parts := g__law_parts.2.2.binds (ps := ["_law_web_here", "_law_gone"]) fun _ _ _ _ _ _ us hl => match us, hl with | [_, _], _ => rfl
  have b__law_pairs := g__law_pairs.2.2.binds (ps := ["_law_some"]) fun _ _ _ _ _ _ us hl => match us, hl with | [_], _ => rfl
  have b__law_is_threefold := g__law_is_threefold.2.2.binds (ps := ["_law_web_here"]) fun _ _ _ _ _ _ us hl => match us, hl with | [_], _ => rfl
  have b__law_ties := g__law_ties.2.2.binds (ps := ["_law_deck_here", "_law_n"]) fun _ _ _ _ _ _ us hl => match us, hl with | [_, _], _ => rfl
  have b__law_any := g__law_any.2.2.binds (ps := ["_law_deck_here"]) fun _ _ _ _ _ _ us hl => match us, hl with | [_], _ => rfl
  have b_law := g_law.2.2.fun.binds (ps := ["_law_script"]) fun _ _ _ _ _ _ us hl => match us, hl with | [_], _ => rfl
  have k_is_threefold : Kw1 d_is_threefold "web" := kw1_mk g_is_threefold.2.2 fun _ _ _ _ _ _ _ => rfl
  refine ⟨d_law, c_law, g_law.2.2, fun s u => ?_, fun base KB GB => ?_⟩
  · obtain ⟨oc, od, kV, doc, pm, an, ct, osl, rfl, _, _⟩ := g_law.2.2.ex
    exact .of_eq rfl
  have G_mask_of : Dn P w K mg base "mask_of" 1 ["lot"] spMaskOf f_mask_of d_mask_of := ⟨g_mask_of.1, g_mask_of.2.1, b_mask_of, ok_maskOf g_mask_of.2.2 SUM⟩
  have G_lot_of : Dn P w K mg base "lot_of" 1 ["mask"] spLotOf f_lot_of d_lot_of := ⟨g_lot_of.1, g_lot_of.2.1, b_lot_of, ok_lotOf g_lot_of.2.2 B.toBj⟩
  have G_full_mask : Dn P w K mg base "full_mask" 1 ["web"] spFull f_full_mask d_full_mask := ⟨g_full_mask.1, g_full_mask.2.1, b_full_mask, ok_full g_full_mask.2.2⟩
  have G_near_masks : Dn P w K mg base "near_masks" 1 ["web"] spNear f_near_masks d_near_masks := ⟨g_near_masks.1, g_near_masks.2.1, b_near_masks, ok_near g_near_masks.2.2⟩
  have G_part_from : Dn P w K mg base "part_from" 2 ["near", "mask", "start"] spPart f_part_from d_part_from := ⟨g_part_from.1, g_part_from.2.1, b_part_from, ok_part g_part_from.2.2 G_lot_of⟩
  have G_part_masks : Dn P w K mg base "part_masks" 3 ["near", "mask"] spParts f_part_masks d_part_masks := ⟨g_part_masks.1, g_part_masks.2.1, b_part_masks, ok_parts g_part_masks.2.2 G_part_from⟩
  have G_is_whole : Dn P w K mg base "is_whole" 1 ["thing"] spWhole f_is_whole d_is_whole := ⟨g_is_whole.1, g_is_whole.2.1, b_is_whole, ok_whole g_is_whole.2.2 B.toBj⟩
  have G_is_below : Dn P w K mg base "is_below" 2 ["thing", "bound"] spBelow f_is_below d_is_below := ⟨g_is_below.1, g_is_below.2.1, b_is_below, ok_below g_is_below.2.2 G_is_whole⟩
  have G_is_pair : Dn P w K mg base "is_pair" 1 ["thing"] spIsPair f_is_pair d_is_pair := ⟨g_is_pair.1, g_is_pair.2.1, b_is_pair, ok_isPair g_is_pair.2.2 B.toBj⟩
  have G_is_tie : Dn P w K mg base "is_tie" 3 ["thing", "places"] spIsTie f_is_tie d_is_tie := ⟨g_is_tie.1, g_is_tie.2.1, b_is_tie, ok_isTie g_is_tie.2.2 G_is_pair G_is_below⟩
  have G_is_web : Dn P w K mg base "is_web" 4 ["thing"] spIsWeb f_is_web d_is_web := ⟨g_is_web.1, g_is_web.2.1, b_is_web, ok_isWeb g_is_web.2.2 B G_is_pair G_is_whole G_is_tie⟩
  have G_check_web : Dn P w K mg base "check_web" 5 ["thing"] spCheckWeb f_check_web d_check_web := ⟨g_check_web.1, g_check_web.2.1, b_check_web, ok_checkWeb g_check_web.2.2 G_is_web⟩
  have G_is_lot_of : Dn P w K mg base "is_lot_of" 3 ["web", "thing"] spIsLotOf f_is_lot_of d_is_lot_of := ⟨g_is_lot_of.1, g_is_lot_of.2.1, b_is_lot_of, ok_isLotOf g_is_lot_of.2.2 B G_is_below⟩
  have G_check_lot : Dn P w K mg base "check_lot" 4 ["web", "thing"] spCheckLot0 f_check_lot d_check_lot := ⟨g_check_lot.1, g_check_lot.2.1, b_check_lot, ok_checkLot0 g_check_lot.2.2 G_is_lot_of⟩
  have G_plain_of : Dn P w K mg base "plain_of" 1 ["web"] spPlainOf f_plain_of d_plain_of := ⟨g_plain_of.1, g_plain_of.2.1, b_plain_of, ok_plainOf g_plain_of.2.2 B⟩
  have G_plain_web : Dn P w K mg base "plain_web" 6 ["web"] spPlainOf f_plain_web d_plain_web := ⟨g_plain_web.1, g_plain_web.2.1, b_plain_web, ok_plainWeb g_plain_web.2.2 G_check_web G_plain_of⟩
  have G_places_but : Dn P w K mg base "places_but" 1 ["web", "lot"] spPlacesBut f_places_but d_places_but := ⟨g_places_but.1, g_places_but.2.1, b_places_but, ok_placesBut g_places_but.2.2 B⟩
  have G_web_of : Dn P w K mg base "web_of" 1 ["web", "lot"] spWebOf f_web_of d_web_of := ⟨g_web_of.1, g_web_of.2.1, b_web_of, ok_webOf g_web_of.2.2 B⟩
  have G_without : Dn P w K mg base "without" 6 ["web", "lot"] spWithout0 f_without d_without := ⟨g_without.1, g_without.2.1, b_without, ok_without0 g_without.2.2 B G_check_web G_check_lot G_web_of G_places_but⟩
  have G_part_lots : Dn P w K mg base "part_lots" 4 ["web"] spPartLots f_part_lots d_part_lots := ⟨g_part_lots.1, g_part_lots.2.1, b_part_lots, ok_partLots g_part_lots.2.2 B.toBj G_lot_of G_part_masks G_near_masks G_full_mask⟩
  have G_parts_of : Dn P w K mg base "parts_of" 6 ["web"] spPartsOf f_parts_of d_parts_of := ⟨g_parts_of.1, g_parts_of.2.1, b_parts_of, ok_partsOf g_parts_of.2.2 G_check_web G_part_lots⟩
  have G_is_joined : Dn P w K mg base "is_joined" 6 ["web"] spIsJoined f_is_joined d_is_joined := ⟨g_is_joined.1, g_is_joined.2.1, b_is_joined, ok_isJoined g_is_joined.2.2 B.toBj G_check_web G_part_lots⟩
  have G_pairs_in : Dn P w K mg base "pairs_in" 1 ["lot"] spPairsIn f_pairs_in d_pairs_in := ⟨g_pairs_in.1, g_pairs_in.2.1, b_pairs_in, ok_pairsIn g_pairs_in.2.2⟩
  have G_parts_beside : Dn P w K mg base "parts_beside" 4 ["web", "lot"] spBeside f_parts_beside d_parts_beside := ⟨g_parts_beside.1, g_parts_beside.2.1, b_parts_beside, ok_beside g_parts_beside.2.2 G_lot_of G_part_masks G_near_masks G_full_mask G_mask_of⟩
  have G_is_threefold_web : Dn P w K mg base "is_threefold_web" 5 ["web"] spThree f_is_threefold_web d_is_threefold_web := ⟨g_is_threefold_web.1, g_is_threefold_web.2.1, b_is_threefold_web, ok_threeWeb g_is_threefold_web.2.2 B.toBj B.toBj.all G_places_but G_pairs_in G_parts_beside⟩
  have G_is_threefold : Dn P w K mg base "is_threefold" 6 ["web"] spThree f_is_threefold d_is_threefold := ⟨g_is_threefold.1, g_is_threefold.2.1, b_is_threefold, ok_three g_is_threefold.2.2 G_check_web G_is_threefold_web⟩
  have G__law_deck : Dn P w K mg base "_law_deck" 1 ["_law_script"] (spDeck K) f__law_deck d__law_deck := ⟨g__law_deck.1, g__law_deck.2.1, b__law_deck, ok_uDeck g__law_deck.2.2 B.toBj.toBi⟩
  have G__law_draw : Dn P w K mg base "_law_draw" 1 ["_law_deck_here", "_law_below"] spDraw f__law_draw d__law_draw := ⟨g__law_draw.1, g__law_draw.2.1, b__law_draw, ok_draw g__law_draw.2.2 B.toBj.toBi⟩
  have G__law_pick : Dn P w K mg base "_law_pick" 2 ["_law_deck_here", "_law_some"] spPick f__law_pick d__law_pick := ⟨g__law_pick.1, g__law_pick.2.1, b__law_pick, ok_pick g__law_pick.2.2 B.toBj.toBi G__law_draw⟩
  have G__law_order : Dn P w K mg base "_law_order" 2 ["_law_deck_here", "_law_n"] spUOrder f__law_order d__law_order := ⟨g__law_order.1, g__law_order.2.1, b__law_order, ok_uOrder g__law_order.2.2 B.toBj G__law_draw⟩
  have G__law_web : Dn P w K mg base "_law_web" 1 ["_law_n", "_law_ties_here"] spUWeb f__law_web d__law_web := ⟨g__law_web.1, g__law_web.2.1, b__law_web, ok_uWeb g__law_web.2.2 B.toBj⟩
  have G__law_parts : Dn P w K mg base "_law_parts" 1 ["_law_web_here", "_law_gone"] spUParts f__law_parts d__law_parts := ⟨g__law_parts.1, g__law_parts.2.1, b__law_parts, ok_uParts g__law_parts.2.2 B⟩
  have G__law_pairs : Dn P w K mg base "_law_pairs" 1 ["_law_some"] spUPairs f__law_pairs d__law_pairs := ⟨g__law_pairs.1, g__law_pairs.2.1, b__law_pairs, ok_uPairs g__law_pairs.2.2 B.toBj⟩
  have G__law_is_threefold : Dn P w K mg base "_law_is_threefold" 2 ["_law_web_here"] spThree f__law_is_threefold d__law_is_threefold := ⟨g__law_is_threefold.1, g__law_is_threefold.2.1, b__law_is_threefold, ok_uThree g__law_is_threefold.2.2 B.toBj G__law_pairs G__law_parts⟩
  have G__law_ties : Dn P w K mg base "_law_ties" 3 ["_law_deck_here", "_law_n"] spUTies f__law_ties d__law_ties := ⟨g__law_ties.1, g__law_ties.2.1, b__law_ties, ok_uTies g__law_ties.2.2 B.toBj G__law_draw G__law_pick G__law_pairs G__law_order⟩
  have G__law_any : Dn P w K mg base "_law_any" 4 ["_law_deck_here"] spUAny f__law_any d__law_any := ⟨g__law_any.1, g__law_any.2.1, b__law_any, ok_uAny g__law_any.2.2 B.toBj G__law_draw G__law_pick G__law_ties G__law_order G__law_web⟩
  exact { bk := B, deck := ⟨_, _, G__law_deck⟩, draw := ⟨_, _, G__law_draw⟩, order := ⟨_, _, G__law_order⟩, any := ⟨_, _, G__law_any⟩, web := ⟨_, _, G__law_web⟩, parts := ⟨_, _, G__law_parts⟩, due := ⟨_, _, G__law_is_threefold⟩, three := ⟨_, _, G_is_threefold, k_is_threefold⟩, plain := ⟨_, _, G_plain_web⟩, without := ⟨_, _, G_without⟩, partsOf := ⟨_, _, G_parts_of⟩, joined := ⟨_, _, G_is_joined⟩ }
end K0

set_option Elab.async false
set_option maxRecDepth 100000
open PySem PySem.W PyProof.Rows
set_option maxRecDepth 100000 in
set_option maxHeartbeats 0 in
theorem PySem.Challenge.cw_oncecrossed_k33_threefold_webs_of_any_ki_holds : PySem.Challenge.rw_oncecrossed_k33_threefold_webs_of_any_ki.Holds := by
  w_on; o_law; k_head; (case hw => w_witness2)
  k_fill
  refine K0.walk_out (l := PySem.Challenge.rw_oncecrossed_k33_threefold_webs_of_any_ki) rfl rfl (fun w h Y => PySem.W.kIn_of Y) ?F
  case F =>
    intro w mg fa h KX G hmg
    refine' K0.all_mk KX G hmg ?yaM ?yfr ?yg0 ?yg1 ?yg2 ?yg3 ?yg4 ?yg5 ?yg6 ?yg7 ?yg8 ?yg9 ?yg10 ?yg11 ?yg12 ?yg13 ?yg14 ?yg15 ?yg16 ?yg17 ?yg18 ?yg19 ?yg20 ?yg21 ?yg22 ?yg23 ?yg24 ?yg25 ?yg26 ?yg27 ?yg28 ?yg29 ?yg30 ?yg31 ?yg32 ?yg33 ?yg34 ?yg35 ?yh0
    (case yaM => k_is); (case yfr => kernel_rfl)
    (case yg0 => (refine' K0.df_mk KX G ?yga0 ?ygl0 ?ygc0 ?ygk0; (case yga0 => k_is); (case ygl0 => k_is); (case ygc0 => k_is); (case ygk0 => k_is)))
    (case yg1 => (refine' K0.df_mk KX G ?yga1 ?ygl1 ?ygc1 ?ygk1; (case yga1 => k_is); (case ygl1 => k_is); (case ygc1 => k_is); (case ygk1 => k_is)))
    (case yg2 => (refine' K0.df_mk KX G ?yga2 ?ygl2 ?ygc2 ?ygk2; (case yga2 => k_is); (case ygl2 => k_is); (case ygc2 => k_is); (case ygk2 => k_is)))
    (case yg3 => (refine' K0.df_mk KX G ?yga3 ?ygl3 ?ygc3 ?ygk3; (case yga3 => k_is); (case ygl3 => k_is); (case ygc3 => k_is); (case ygk3 => k_is)))
    (case yg4 => (refine' K0.df_mk KX G ?yga4 ?ygl4 ?ygc4 ?ygk4; (case yga4 => k_is); (case ygl4 => k_is); (case ygc4 => k_is); (case ygk4 => k_is)))
    (case yg5 => (refine' K0.df_mk KX G ?yga5 ?ygl5 ?ygc5 ?ygk5; (case yga5 => k_is); (case ygl5 => k_is); (case ygc5 => k_is); (case ygk5 => k_is)))
    (case yg6 => (refine' K0.df_mk KX G ?yga6 ?ygl6 ?ygc6 ?ygk6; (case yga6 => k_is); (case ygl6 => k_is); (case ygc6 => k_is); (case ygk6 => k_is)))
    (case yg7 => (refine' K0.df_mk KX G ?yga7 ?ygl7 ?ygc7 ?ygk7; (case yga7 => k_is); (case ygl7 => k_is); (case ygc7 => k_is); (case ygk7 => k_is)))
    (case yg8 => (refine' K0.df_mk KX G ?yga8 ?ygl8 ?ygc8 ?ygk8; (case yga8 => k_is); (case ygl8 => k_is); (case ygc8 => k_is); (case ygk8 => k_is)))
    (case yg9 => (refine' K0.df_mk KX G ?yga9 ?ygl9 ?ygc9 ?ygk9; (case yga9 => k_is); (case ygl9 => k_is); (case ygc9 => k_is); (case ygk9 => k_is)))
    (case yg10 => (refine' K0.df_mk KX G ?yga10 ?ygl10 ?ygc10 ?ygk10; (case yga10 => k_is); (case ygl10 => k_is); (case ygc10 => k_is); (case ygk10 => k_is)))
    (case yg11 => (refine' K0.df_mk KX G ?yga11 ?ygl11 ?ygc11 ?ygk11; (case yga11 => k_is); (case ygl11 => k_is); (case ygc11 => k_is); (case ygk11 => k_is)))
    (case yg12 => (refine' K0.df_mk KX G ?yga12 ?ygl12 ?ygc12 ?ygk12; (case yga12 => k_is); (case ygl12 => k_is); (case ygc12 => k_is); (case ygk12 => k_is)))
    (case yg13 => (refine' K0.df_mk KX G ?yga13 ?ygl13 ?ygc13 ?ygk13; (case yga13 => k_is); (case ygl13 => k_is); (case ygc13 => k_is); (case ygk13 => k_is)))
    (case yg14 => (refine' K0.df_mk KX G ?yga14 ?ygl14 ?ygc14 ?ygk14; (case yga14 => k_is); (case ygl14 => k_is); (case ygc14 => k_is); (case ygk14 => k_is)))
    (case yg15 => (refine' K0.df_mk KX G ?yga15 ?ygl15 ?ygc15 ?ygk15; (case yga15 => k_is); (case ygl15 => k_is); (case ygc15 => k_is); (case ygk15 => k_is)))
    (case yg16 => (refine' K0.df_mk KX G ?yga16 ?ygl16 ?ygc16 ?ygk16; (case yga16 => k_is); (case ygl16 => k_is); (case ygc16 => k_is); (case ygk16 => k_is)))
    (case yg17 => (refine' K0.df_mk KX G ?yga17 ?ygl17 ?ygc17 ?ygk17; (case yga17 => k_is); (case ygl17 => k_is); (case ygc17 => k_is); (case ygk17 => k_is)))
    (case yg18 => (refine' K0.df_mk KX G ?yga18 ?ygl18 ?ygc18 ?ygk18; (case yga18 => k_is); (case ygl18 => k_is); (case ygc18 => k_is); (case ygk18 => k_is)))
    (case yg19 => (refine' K0.df_mk KX G ?yga19 ?ygl19 ?ygc19 ?ygk19; (case yga19 => k_is); (case ygl19 => k_is); (case ygc19 => k_is); (case ygk19 => k_is)))
    (case yg20 => (refine' K0.df_mk KX G ?yga20 ?ygl20 ?ygc20 ?ygk20; (case yga20 => k_is); (case ygl20 => k_is); (case ygc20 => k_is); (case ygk20 => k_is)))
    (case yg21 => (refine' K0.df_mk KX G ?yga21 ?ygl21 ?ygc21 ?ygk21; (case yga21 => k_is); (case ygl21 => k_is); (case ygc21 => k_is); (case ygk21 => k_is)))
    (case yg22 => (refine' K0.df_mk KX G ?yga22 ?ygl22 ?ygc22 ?ygk22; (case yga22 => k_is); (case ygl22 => k_is); (case ygc22 => k_is); (case ygk22 => k_is)))
    (case yg23 => (refine' K0.df_mk KX G ?yga23 ?ygl23 ?ygc23 ?ygk23; (case yga23 => k_is); (case ygl23 => k_is); (case ygc23 => k_is); (case ygk23 => k_is)))
    (case yg24 => (refine' K0.df_mk KX G ?yga24 ?ygl24 ?ygc24 ?ygk24; (case yga24 => k_is); (case ygl24 => k_is); (case ygc24 => k_is); (case ygk24 => k_is)))
    (case yg25 => (refine' K0.df_mk KX G ?yga25 ?ygl25 ?ygc25 ?ygk25; (case yga25 => k_is); (case ygl25 => k_is); (case ygc25 => k_is); (case ygk25 => k_is)))
    (case yg26 => (refine' K0.df_mk KX G ?yga26 ?ygl26 ?ygc26 ?ygk26; (case yga26 => k_is); (case ygl26 => k_is); (case ygc26 => k_is); (case ygk26 => k_is)))
    (case yg27 => (refine' K0.df_mk KX G ?yga27 ?ygl27 ?ygc27 ?ygk27; (case yga27 => k_is); (case ygl27 => k_is); (case ygc27 => k_is); (case ygk27 => k_is)))
    (case yg28 => (refine' K0.df_mk KX G ?yga28 ?ygl28 ?ygc28 ?ygk28; (case yga28 => k_is); (case ygl28 => k_is); (case ygc28 => k_is); (case ygk28 => k_is)))
    (case yg29 => (refine' K0.df_mk KX G ?yga29 ?ygl29 ?ygc29 ?ygk29; (case yga29 => k_is); (case ygl29 => k_is); (case ygc29 => k_is); (case ygk29 => k_is)))
    (case yg30 => (refine' K0.df_mk KX G ?yga30 ?ygl30 ?ygc30 ?ygk30; (case yga30 => k_is); (case ygl30 => k_is); (case ygc30 => k_is); (case ygk30 => k_is)))
    (case yg31 => (refine' K0.df_mk KX G ?yga31 ?ygl31 ?ygc31 ?ygk31; (case yga31 => k_is); (case ygl31 => k_is); (case ygc31 => k_is); (case ygk31 => k_is)))
    (case yg32 => (refine' K0.df_mk KX G ?yga32 ?ygl32 ?ygc32 ?ygk32; (case yga32 => k_is); (case ygl32 => k_is); (case ygc32 => k_is); (case ygk32 => k_is)))
    (case yg33 => (refine' K0.df_mk KX G ?yga33 ?ygl33 ?ygc33 ?ygk33; (case yga33 => k_is); (case ygl33 => k_is); (case ygc33 => k_is); (case ygk33 => k_is)))
    (case yg34 => (refine' K0.df_mk KX G ?yga34 ?ygl34 ?ygc34 ?ygk34; (case yga34 => k_is); (case ygl34 => k_is); (case ygc34 => k_is); (case ygk34 => k_is)))
    (case yg35 => (refine' K0.df_mk KX G ?yga35 ?ygl35 ?ygc35 ?ygk35; (case yga35 => k_is); (case ygl35 => k_is); (case ygc35 => k_is); (case ygk35 => k_is)))
    (case yh0 => (refine' K0.dfc_mk KX G ?yha0 ?yhl0 ?yhc0 ?yhk0; (case yha0 => k_is); (case yhl0 => k_is); (case yhc0 => k_is); (case yhk0 => k_is)))
