import PyProof.Rows.All
import Wide.All
import OpenK.AllK
import Wide.FinOn
import HandS.ForMost
import HandS.SetFor
import HandS.Strs
import HandS.TupSets
import HandS.IsInst
import HandS.Small
import PyProof.TupleOfSeq
import HandS.Walk
import HandS.TupAny
import KE.KIndexOf
import KE.KRevSl
import KE.GoesEnum
import KE.GoesMore
import HandS.Conv
import PyProof.ReprRoads
import PyProof.ReprBulk
import HandS.Wide
import HandS.Flow
import PySem.Challenge.RW_oncecrossed_k04_lots_and_cuts
import HandS.Style
import HandS.Iter
import PyProof.EqAt
import PyProof.EqKinds
import PyProof.TupleCall
import KE.KExcSuper
import HandS.ForExc
import HandS.ExcSuper
import KE.KExcIs
import HandS.TryMany
import HandS.ExcField
import HandS.ExcValue
import HandS.Defaults
import HandS.DictComp
import HandS.Text
import HandS.Lambda
import HandS.ExcIs
import HandS.WideBits
import HandS.EndTab
import KE.KNest
set_option Elab.async false
set_option linter.all false
set_option maxRecDepth 100000
set_option maxHeartbeats 4000000
/-! Rules for what stands in a tuple: set(t) of ints, set(t) and sorted(t) of pairs. -/
namespace KR
open PySem PySem.Spec L2
open PyProof.Rows hiding St
section
variable {prog : Program} {w : World} {A : Around} {E : Value → Shared → Prop} {s : Shared}
/-- the items of a tuple, gathered: the heap only grows -/
theorem gather_tup {G : List Value → Shared → Prop} {t : Addr} {ob : Obj} {us : Array Value} {ep : Nat} (at_ : s.heap.get? t = some ob) (cl : ob.cls = .type "tuple") (da : ob.data = .seq us ep) (fits : us.size ≤ sizeLine)
    (g : ∀ hN, (∀ b u, s.heap.get? b = some u → hN.get? b = some u) → s.heap.objs.size ≤ hN.objs.size → G us.toList { s with heap := hN }) : wpAny (model prog w) A (collect (.ref t)) G E s := by
  have new0 : (s.heap.push { cls := .type "list", data := .seq ([] : List Value).toArray }).get? s.heap.objs.size = some { cls := .type "list", data := .seq #[] 0 } := Heap.get?_push_size _ rfl
  have new1 := Heap.get?_update_self (Obj.mapSeq (· ++ us)) new0 rfl
  have done_ : wpAny (model prog w) A ((load s.heap.objs.size) >>= fun oL => (match oL.data with
      | Data.seq xs _ => pure xs.toList
      | _ => unsupported "internal:collect" : Sem (List Value))) G E { s with heap := (s.heap.push { cls := .type "list", data := .seq ([] : List Value).toArray }).update s.heap.objs.size (Obj.mapSeq (· ++ us)) } := by
    refine wpAny_bind (wpAny_load new1 (wpAny_pure ?_))
    show G ((#[] : Array Value) ++ us).toList _
    rw [show ((#[] : Array Value) ++ us).toList = us.toList by simp]
    refine g _ (fun b u e => (Heap.get?_update_other _ _ (Nat.ne_of_gt (Heap.lt_size e))).trans (Heap.get?_push_of_some _ e)) ?_
    rw [Heap.size_update, Heap.size_push]
    exact Nat.le_succ _
  unfold collect
  refine wpAny_bind (wpAny_runValue (codeAny_builtin F.entry_proto_collect ?_))
  rw [Around.under_plainId F.plain_proto_collect _]
  show wpAny _ A.in1 (newList [] >>= fun l => again (.builtin "list.__iadd__" ⟨[l, .ref t], []⟩)) _ _ s
  refine wpAny_bind (wpAny_newObj_type (wpAny_pure ⟨plainId_quiet F.plain_list_iadd _, codeAny_builtin F.entry_list_iadd ?_⟩))
  rw [Around.under_plainId F.plain_list_iadd _]
  refine wpAny_mono (wpAny_extend_seq (hsz := fits) (A := A) (R := fun r z => r = .ok (.ret (.ref s.heap.objs.size)) ∧ z = { s with heap := (s.heap.push { cls := .type "list", data := .seq ([] : List Value).toArray }).update s.heap.objs.size (Obj.mapSeq (· ++ us)) })
    (s := { s with heap := s.heap.push { cls := .type "list", data := .seq ([] : List Value).toArray } }) _ t _ 0 (.inr rfl) new0 (Heap.get?_push_of_some _ at_) cl da ⟨rfl, rfl⟩) (fun fin z hz => ?_) (fun e z hz => absurd hz.1 (by simp))
  cases fin with
  | done f =>
    obtain ⟨e, rfl⟩ := hz
    cases e
    exact done_
  | again c' => exact ⟨hz.1, codeAny_mono hz.2 fun r z hr => by obtain ⟨rfl, rfl⟩ := hr; exact done_⟩
end
section
variable {X : Cx}
/-- set(t), t a tuple of ints -/
def rSetTI (K : PySem.W.Frag) (w : World) : List V → Hp → VK → Prop := fun xs H Q => ∃ (t : Addr) (ns : List Int), xs = [V.ref t] ∧ SqT K H t (ns.map V.int) ∧ ns.length ≤ 1000 ∧
  ∀ (a : Addr) (c : Nat), H a = none → c ≤ ns.length → Q (.ref a) (upd H a (SetO w a (fun j => decide (j ∈ ns)) c))
theorem cr_setTI (hc : X.calm = true) : CallR X (.type "set") (rSetTI X.K X.w) := by
  intro pins s σ H xs us Q I r h
  obtain ⟨t, ns, rfl, ht, hn, q⟩ := h
  rw [Vals.ref1 r]
  obtain ⟨its, rv, tp, hz⟩ := I.tuple ht
  have hf : H s.heap.objs.size = none := I.hok.fresh (Nat.le_refl _)
  refine call_set_tupI (P := X.prog) (w := X.w) ns (I.ok.hd hc) tp ?_ (Nat.lt_of_le_of_lt (Nat.succ_le_succ hn) (by decide)) fun h' tk c R hcn k => ?_
  · simpa using Vals.ints rv
  · exact ⟨.ref s.heap.objs.size, upd H s.heap.objs.size (SetO X.w s.heap.objs.size (fun j => decide (j ∈ ns)) c), I.laid (t' := tk) k (Nat.le_refl _) (setO_new R), rfl, q _ c hf hcn⟩
/-- sorted(t), t a tuple of tuples of d ints in [0, B) -/
def rSortTT (K : PySem.W.Frag) (d : Nat) (B : Int) : List V → Hp → VK → Prop := fun vs H Q => ∃ (a : Addr) (xs : List V), vs = [V.ref a] ∧ SqT K H a xs ∧ xs.length < 64 ∧ (∀ x ∈ xs, ∃ ns, TupI K H x ns ∧ ns.length = d ∧ TS.Bd B ns) ∧
  ∀ (ys : List V) (p : Addr), ys.Perm xs → ys.Pairwise (fun x y => ∀ n m, TupI K H x n → TupI K H y m → TS.code B n ≤ TS.code B m) → H p = none → Q (.ref p) (upd H p (.lst ys))
theorem cr_sortTT {d : Nat} {B : Int} (hd : 1 ≤ d) : CallR X (.builtin "sorted") (rSortTT X.K d B) := by
  intro pins s σ H vs us Q I r h
  obtain ⟨a, xs, rfl, hs, few, hx, q⟩ := h
  obtain ⟨its, rv, tp, hz⟩ := I.tuple hs
  rw [Vals.ref1 r]
  have bk := bkV_refs rv fun x m => by
    obtain ⟨_, ⟨t, e, _⟩, _⟩ := hx x m
    exact ⟨t, e⟩
  have len : its.length < 64 := by rw [← rv.length]; exact few
  obtain ⟨o, ho, hcl, n, hda⟩ := id tp
  refine Calls.call_function_entry kind_sorted plain_sorted entry_sorted (args_sorted1 _) ?_
  unfold Builtin.«sorted»
  refine wpAny_bind (m := checkCount "sorted" 1 1 _) (wpAny_pure ?_)
  refine wpAny_bind (gather_tup ho hcl hda (by show its.toArray.size ≤ sizeLine; rw [List.size_toArray, sizeLine_eq]; omega) fun h1 k1 ge => ?_)
  refine wpAny_bind (wpAny_newList ?_ (by rw [sizeLine_eq]; show its.length ≤ _; omega))
  have atL : (h1.push (seqObj "list" its.toArray 0)).get? h1.objs.size = some (seqObj "list" its.toArray 0) := Heap.get?_push_size _ rfl
  have keep : ∀ b u, s.heap.get? b = some u → (h1.push (seqObj "list" its.toArray 0)).get? b = some u := fun b u e => Heap.get?_push_of_some _ (k1 b u e)
  have raw : ∀ {u : Value}, u ∈ its → ∃ t ns, u = .ref t ∧ TupI X.K H (V.ref t) ns ∧ TS.TupInts (h1.push (seqObj "list" its.toArray 0)) u ns ∧ ns.length = d ∧ TS.Bd B ns := fun {u} hu => by
    obtain ⟨t, rfl⟩ := bk.2 u hu
    have hm : V.ref t ∈ xs := by
      rw [bk.1]
      exact List.mem_map.mpr ⟨_, hu, rfl⟩
    obtain ⟨ns, ⟨t', e, ht⟩, hn, hb⟩ := hx _ hm
    cases e
    exact ⟨t, ns, rfl, ⟨t, rfl, ht⟩, (tupI_raw I ht).keeps fun b o e _ => keep b o e, hn, hb⟩
  have ok : TS.TupsOk (h1.push (seqObj "list" its.toArray 0)) d B its := fun v hv => by
    obtain ⟨t, ns, _, _, h2, h3, h4⟩ := raw hv
    exact ⟨ns, h2, h3, h4⟩
  have atL' : (h1.push (seqObj "list" (its.toArray.toList.toArray) 0)).get? h1.objs.size = some (seqObj "list" its.toArray 0) := by simpa using atL
  have red : its.toArray.toList = its := by simp
  rw [red]
  refine wpAny_bind (wpAny_holding (TS.call_sort_tups (s := { s with heap := h1.push (seqObj "list" its.toArray 0) }) atL len hd ok fun out p1 p2 => ?_))
  obtain ⟨c, hc⟩ := sortedHeap_at (vs := its) (out := out) atL
  have refs : ∀ u ∈ out.toList, ∃ t, u = Value.ref t := fun u hu => bk.2 u (p1.mem_iff.mp hu)
  have pm : (out.toList.map bkV).Perm xs := by rw [bk.1]; exact p1.map bkV
  have szs : (out.toList.map bkV).length ≤ sizeLine := by rw [pm.length_eq]; exact hz
  have old : ∀ b u, s.heap.get? b = some u → (sortedHeap (h1.push (seqObj "list" its.toArray 0)) h1.objs.size its out).get? b = some u := fun b u e => by
    have lt := Heap.lt_size (k1 b u e)
    rw [sortedHeap_old (Nat.ne_of_lt lt) (by rw [size_push']; exact Nat.lt_succ_of_lt lt)]
    exact keep b u e
  refine wpAny_pure ⟨_, rfl, .ref h1.objs.size, upd H h1.objs.size (.lst (out.toList.map bkV)), I.laid (t' := s.toks) old ge ⟨szs, out.toList, c, bkV_vals refs, hc⟩, rfl, q _ _ pm ?_ (I.hok.fresh ge)⟩
  rw [List.pairwise_map]
  refine List.Pairwise.imp_of_mem (fun {u v} hu hv huv n m hn hm => ?_) p2
  obtain ⟨t, ns, e1, t1, r1, _⟩ := raw (p1.mem_iff.mp hu)
  obtain ⟨t', ns', e2, t2, r2, _⟩ := raw (p1.mem_iff.mp hv)
  obtain ⟨a1, z1, y1⟩ := hn
  obtain ⟨a2, z2, y2⟩ := hm
  have i1 := ((tupI_raw I y1).keeps fun b o e _ => keep b o e).ints
  have i2 := ((tupI_raw I y2).keeps fun b o e _ => keep b o e).ints
  rw [← bkV_ref z1] at i1
  rw [← bkV_ref z2] at i2
  rw [← i1, ← i2]
  exact huv
end
/-! ### set(t) of a tuple of tuples of ints -/
abbrev set0 (w : World) : Obj := { cls := .type "set", dict := none, data := .set #[] 0 (.fresh 0 0 (!w.params.followText "set-order")) }
section
variable {P : Program} {w : World} {A : Around} {E : Value → Shared → Prop} {s : Shared}
set_option maxRecDepth 100000 in
set_option maxHeartbeats 3200000 in
theorem make_setTT {t : Addr} {us : Array Value} (ks : List (Addr × List Int)) {G : Value → Shared → Prop} (calm : A.handled = none) (tp : s.heap.IsTuple t us) (are : us.toList = ks.map fun p => Value.ref p.1)
    (ok : ∀ p ∈ ks, IsT P w s.heap p.2 p.1) (few : ks.length < 64) (room : A.units + 3 < cLine)
    (g : ∀ (hN : Heap) (tk : Nat) L es ep tb, SetTR P w hN s.heap.objs.size L es ep tb → Got ks ks.length L → (∀ b o, s.heap.get? b = some o → hN.get? b = some o) → G (.ref s.heap.objs.size) { s with heap := hN, toks := tk }) :
    wpAny (model P w) A (call (.type "set") [.ref t]) G E s := by
  have size : us.size = ks.length := by have q := congrArg List.length are; rwa [Array.length_toList, List.length_map] at q
  obtain ⟨c, tl, h0⟩ := F.called_set.mro
  have h1 := F.called_set.made
  have h2 := F.called_set.sub
  refine wpAny_call (codeAny_of_tree ?_)
  show wpAny _ _ (callAny (.type "set") ⟨[.ref t], []⟩) _ _ s
  refine wpAny_pure ⟨Code.quiet_builtin _ (by decide +kernel), codeAny_builtin F.entry_type_call ?_⟩
  rw [Around.under_plain (weight_type_call_type "set" [.ref t] []) rfl]
  have h3 := F.called_set.notType
  have h4 := F.called_set.canCreate
  have h5 := F.typeCall_set_1 (.ref t)
  repeat (any_goals (first | assumption | wp_step))
  generalize hn : s.heap.objs.size = N at *
  refine codeAny_mono (code_set_led1 (.ref t) (E := E) (Q₁ := fun u z => u = .ref N ∧ z = { s with heap := s.heap.push (set0 w) }) ⟨by rw [hn], rfl⟩) fun r z hz => ?_
  cases r with
  | error e => exact hz
  | ok fl =>
    cases fl with
    | next => exact hz.elim
    | brk => exact hz.elim
    | cont => exact hz.elim
    | ret u =>
      obtain ⟨rfl, rfl⟩ := hz
      have new : (s.heap.push (set0 w)).get? N = some (set0 w) := by rw [← hn]; exact Heap.get?_push_size _ rfl
      have ty : Shared.TypeIs { s with heap := s.heap.push (set0 w) } (.ref N) "set" := ⟨_, new, rfl⟩
      have h6 := F.called_set.init.lookup
      have h7 := F.called_set.init.bind (.ref N)
      repeat (any_goals (first | assumption | wp_step))
      refine codeAny_mono (codeAny_call_builtin (R := wants (fun r z => r = .none ∧ ∃ hN tk L es ep tb, z = { s with heap := hN, toks := tk } ∧ SetTR P w hN N L es ep tb ∧ Got ks ks.length L ∧ ∀ b o, s.heap.get? b = some o → hN.get? b = some o) E)
        F.called_set.init.plain F.entry_set_init (check_set_init_1 ty ?_)) fun r z hz => ?_
      · obtain ⟨ob, at_, cl, ep, da⟩ := id tp
        obtain ⟨ocl, odi, oda, osl⟩ := ob
        simp only at cl da
        subst cl; subst da
        have at1 : (s.heap.push (set0 w)).get? t = some { cls := .type "tuple", dict := odi, data := .seq us ep, slots := osl } := Heap.get?_push_of_some _ at_
        have n1 := F.sub_tuple_set
        have n2 := F.sub_tuple_frozenset
        have n3 : (Value.type "tuple" == Value.type "dict") = false := by decide
        have tp1 : (s.heap.push (set0 w)).IsTuple t us := ⟨_, at1, rfl, ep, rfl⟩
        unfold Builtin.«set.__init__» noKeywords Builtin.Frozenset.updateFrom
        generalize hPI : pyIter = PI
        wp_walk
        subst hPI
        refine wpAny_pyIter_tuple tp1 (wpAny_bind (wpAny_runValue ?_))
        have lt : t < N := by rw [← hn]; exact Heap.lt_size at_
        have sz : (s.heap.push (set0 w)).objs.size = N + 1 := by rw [Heap.size_push, hn]
        have ne : t ≠ (s.heap.push (set0 w)).objs.size := by rw [sz]; exact Nat.ne_of_lt (Nat.lt_succ_of_lt lt)
        have fresh : ∀ b, N ≤ b → s.heap.get? b = none := fun b hb => by
          cases q : s.heap.get? b with
          | none => rfl
          | some o => exact absurd (Nat.lt_of_lt_of_le (Heap.lt_size q) (by rw [hn]; exact hb)) (Nat.lt_irrefl _)
        have items : ∀ (i : Nat) (v : Value), us[i]? = some v → ∃ p, ks[i]? = some p ∧ v = .ref p.1 := fun i v hv => by
          rw [← Array.getElem?_toList, are, List.getElem?_map] at hv
          cases q : ks[i]? with
          | none => rw [q] at hv; cases hv
          | some p => rw [q] at hv; exact ⟨p, rfl, (Option.some.inj hv).symm⟩
        refine set_update_tups ((Walks.tuple (by simp [calm]) _ t ne us).toS) N (by rw [sz]; simp only [List.mem_cons, List.not_mem_nil, or_false, not_or]; exact ⟨Nat.ne_of_lt (Nat.lt_succ_self _), Nat.ne_of_gt lt⟩) ks size few items s.heap ok (fresh _ (Nat.le_refl _))
          (fun b hb => fresh b (by rw [List.mem_singleton.mp hb, sz]; exact Nat.le_succ _)) room (us.size - 0) 0 _ (by omega) (Nat.zero_le _) ⟨⟨_, Heap.get?_push_size _ rfl, rfl, rfl⟩, tp1.push _⟩ (fun b o e => Heap.get?_push_of_some _ (Heap.get?_push_of_some _ e))
          ⟨[], #[], 0, _, setTR_fresh (Heap.get?_push_of_some _ new), Got.zero ks⟩ fun z L es ep tb mv R got kp => ?_
        obtain ⟨hN, gN, dN, tN, oN⟩ := z
        obtain rfl : gN = s.gens := mv.gens
        obtain rfl : dN = s.drawn := mv.drawn
        obtain rfl : oN = s.os := mv.os
        show wpAny _ _ _ _ _ _
        refine wpAny_pure ?_
        show wpAny _ _ (ret Value.none) _ _ _
        rw [size] at got
        exact wpAny_pure ⟨rfl, hN, tN, L, es, ep, tb, rfl, R, got, kp⟩
      · cases r with
        | error e => exact hz
        | ok fl =>
          cases fl with
          | next => exact hz.elim
          | brk => exact hz.elim
          | cont => exact hz.elim
          | ret r =>
            obtain ⟨rfl, hN, tk, L, es, ep, tb, rfl, R, got, kp⟩ := hz
            repeat (any_goals (first | assumption | wp_step))
            exact g _ _ _ _ _ _ R got kp
end
section
variable {X : Cx}
/-- set(t), t a tuple of tuples of ints -/
def rSetTT (K : PySem.W.Frag) (P : Program) (w : World) : List V → Hp → VK → Prop := fun xs H Q => ∃ (t : Addr) (ks : List (Addr × List Int)), xs = [V.ref t] ∧ SqT K H t (ks.map fun p => V.ref p.1) ∧ (∀ p ∈ ks, SqT K H p.1 (p.2.map V.int)) ∧ ks.length < 64 ∧
  ∀ a L, H a = none → (∀ p ∈ L, p ∈ ks) → (∀ p ∈ ks, p.2 ∈ L.map (·.2)) → Q (.ref a) (upd H a (SetTO P w a L))
theorem cr_setTT (hc : X.calm = true) (hu : X.A.units + 64 < cLine) : CallR X (.type "set") (rSetTT X.K X.prog X.w) := by
  intro pins s σ H xs us Q I r h
  obtain ⟨t, ks, rfl, ht, hk, few, q⟩ := h
  rw [Vals.ref1 r]
  obtain ⟨its, rv, tp, hz⟩ := I.tuple ht
  refine make_setTT (P := X.prog) (w := X.w) ks (I.ok.hd hc) tp (by simpa using refs_of_vals rv) (fun p hp => I.isT (hk p hp)) few (by omega) fun hN tk L es ep tb R got kp => ?_
  exact ⟨.ref s.heap.objs.size, upd H s.heap.objs.size (SetTO X.prog X.w s.heap.objs.size L), I.laid (t' := tk) kp (Nat.le_refl _) (setTO_new R.t0), rfl,
    q _ L (I.hok.fresh (Nat.le_refl _)) (fun p hp => List.mem_of_mem_take (got.sub p hp)) fun p hp => got.all p (by rw [List.take_length]; exact hp)⟩
end
end KR

set_option Elab.async false
set_option linter.all false
set_option maxRecDepth 100000
set_option maxHeartbeats 4000000
/-! Rules for tuples: index, a reversed copy, enumerate. -/
namespace KR
open PySem PySem.Spec L2
open PyProof.Rows hiding St
section
variable {X : Cx}
/-- t.index(k), k in the tuple of ints -/
def rTIx (K : PySem.W.Frag) : V → List V → Hp → VK → Prop := fun x xs H Q => ∃ (t : Addr) (ns : List Int) (k : Int), x = .ref t ∧ xs = [.int k] ∧ SqT K H t (ns.map V.int) ∧ k ∈ ns ∧ Q (.int (ns.idxOf k : Nat)) H
theorem mt_tindex : MtR X "tuple.index" (rTIx X.K) := by
  intro pins s σ H x xs v us Q I rx rxs h
  obtain ⟨t, ns, k, rfl, rfl, ht, hk, q⟩ := h
  cases rx
  obtain ⟨u, rfl, tk, rfl⟩ := rxs.one
  obtain ⟨its, rv, tp, _⟩ := I.tuple ht
  exact PySem.SeqAt.tuple_index_ints tp (Vals.ints rv) hk ⟨.int (ns.idxOf k : Nat), H, I.tok _, ⟨_, rfl⟩, q⟩

/-- t[::-1] -/
def tRevT (K : PySem.W.Frag) (te : TE) : TE := fun σ H Q => te σ H fun x H1 => ∃ a xs, x = .ref a ∧ SqT K H1 a xs ∧ ∀ p, H1 p = none → Q (.ref p) (upd H1 p (.tup xs.reverse))
end
section
variable {prog : Program} {w : World} {A : Around} {E : Value → Shared → Prop} {s : Shared}
theorem fm_congr {α β : Type} {f g : α → Option β} : ∀ l : List α, (∀ x ∈ l, f x = g x) → l.filterMap f = l.filterMap g
  | [], _ => rfl
  | a :: l, h => by
    rw [List.filterMap_cons, List.filterMap_cons, h a (List.mem_cons_self ..), fm_congr l fun x z => h x (List.mem_cons_of_mem _ z)]
theorem back_places (n : Nat) : Builtin.Slice.sliceAdjust none none (-1) (n : Int) = ((n : Int) - 1, -1) ∧ Builtin.Slice.slicePlaces ((n : Int) - 1) (-1) (-1) = n := by
  refine ⟨by unfold Builtin.Slice.sliceAdjust; rfl, ?_⟩
  unfold Builtin.Slice.slicePlaces
  rw [if_neg (by decide)]
  by_cases h : (n : Int) - 1 > -1
  · rw [if_pos h, show (-(-1 : Int)) = 1 by decide, Int.ediv_one]
    omega
  · rw [if_neg h]
    omega
theorem back_pick (xs : Array Value) : ((List.range xs.size).filterMap fun (k : Nat) => xs[(((xs.size : Int) - 1) + (k : Int) * (-1)).toNat]?).toArray = xs.toList.reverse.toArray := by
  have h := PySem.W.krv_pick xs
  unfold slicePick at h
  rw [PySem.W.krv_bounds] at h
  have h' : ((sliceRange ((xs.size : Int) - 1) (-1) (-1)).filterMap (xs[·]?)).toArray = xs.toList.reverse.toArray := h
  rw [PySem.W.krv_sliceRange, List.filterMap_map] at h'
  rw [← h']
  congr 1
  refine fm_congr _ fun k hk => ?_
  have := List.mem_range.mp hk
  show xs[_]? = xs[xs.size - 1 - k]?
  congr 1
  omega
theorem back_tup {t sl : Addr} {us : Array Value} {vs : Value} {G : Value → Shared → Prop} (tp : IsTup s.heap t us) (hs : s.heap.IsSliceOf sl .none .none vs) (ps : IsPart vs (some (-1))) (fits : us.size ≤ sizeLine)
    (g : G (.ref s.heap.objs.size) { s with heap := s.heap.push { cls := .type "tuple", data := .seq us.toList.reverse.toArray } }) : wpAny (model prog w) A (getItem (.ref t) (.ref sl)) G E s := by
  have ok : sizeOk (.seq us.toList.reverse.toArray) := by
    show us.toList.reverse.toArray.size ≤ sizeLine
    rw [List.size_toArray, List.length_reverse, Array.length_toList]
    exact fits
  obtain ⟨os, e1, e2, e3⟩ := id hs
  have ty : s.TypeIs (.ref sl) "slice" := ⟨os, e1, e2⟩
  unfold getItem
  try with_reducible refine wpAny_holding ?_
  first | refine wpAny_bind (wpAny_pure ?_) | skip
  refine wpAny_bind (wpAny_sequenceKey tp.typeIs (by decide) (wpAny_bind (wpAny_callSpecial?_slot (name := Str.ofString "__getitem__") tp.typeIs PyProof.Rows.slot_tuple_getitem
    (wpAny_call_entry PyProof.Rows.slot_tuple_getitem tp.typeIs entry_tuple_getitem ?_ (args_tuple_getitem _ _)))))
  show wpAny _ _ (Builtin.Tuple.tupleItemsOf (.ref t) >>= _) _ _ s
  refine wpAny_bind (tupleItemsOf_ tp (wpAny_bind (wpAny_typeOf ty ?_)))
  rw [if_pos (by decide)]
  have app : ∀ {R : Int × Int × Nat → Shared → Prop} {B : Around} {F : Value → Shared → Prop}, R ((us.size : Int) - 1, -1, us.size) s → wpAny (model prog w) B (Builtin.Slice.sliceApplied (.ref sl) (pure (us.size : Int))) R F s := fun r => by
    unfold Builtin.Slice.sliceApplied Builtin.Slice.sliceFields
    refine wpAny_bind (wpAny_bind (wpAny_field e1 e3 (x := .none) rfl (wpAny_bind (wpAny_field e1 e3 (x := .none) rfl (wpAny_bind (wpAny_field e1 e3 (x := vs) rfl (wpAny_pure ?_)))))))
    refine wpAny_bind (HT.slicePart_ ps ?_)
    show wpAny _ _ (if ((-1 : Int) == 0) = true then _ else _) _ _ s
    rw [if_neg (by decide)]
    refine wpAny_bind (HT.slicePart_ .none (wpAny_bind (HT.slicePart_ .none (wpAny_bind (wpAny_pure ?_)))))
    show wpAny _ _ (match Builtin.Slice.sliceAdjust none none (-1) (us.size : Int) with | (lo, hi) => pure (lo, (-1 : Int), Builtin.Slice.slicePlaces lo hi (-1))) _ _ s
    rw [(back_places us.size).1]
    show wpAny _ _ (pure ((us.size : Int) - 1, (-1 : Int), Builtin.Slice.slicePlaces ((us.size : Int) - 1) (-1) (-1))) _ _ s
    rw [(back_places us.size).2]
    exact wpAny_pure r
  refine wpAny_bind (app ?_)
  have no : ¬ ((((us.size : Int) - 1) == 0 && (-1 : Int) == 1 && us.size == us.size) = true) := by
    rw [show ((-1 : Int) == 1) = false by decide, Bool.and_false, Bool.false_and]
    exact Bool.false_ne_true
  show wpAny _ _ (if (((us.size : Int) - 1) == 0 && (-1 : Int) == 1 && us.size == us.size) = true then _ else _) _ _ s
  rw [if_neg no, back_pick]
  first
    | exact wpAny_bind (m := Builtin.Tuple.tupleExact _) (wpAny_newObj_type (wpAny_pure ⟨_, rfl, wpAny_pure g⟩) ok)
    | exact wpAny_bind (m := Builtin.Tuple.tupleExact _) (wpAny_newObj_type (wpAny_bind (wpAny_pure (wpAny_pure ⟨_, rfl, wpAny_pure g⟩))) ok)
    | exact wpAny_bind (wpAny_bind (m := Builtin.Tuple.tupleExact _) (wpAny_newObj_type (wpAny_pure (wpAny_pure ⟨_, rfl, wpAny_pure g⟩)) ok))
    | exact wpAny_bind (wpAny_bind (m := Builtin.Tuple.tupleExact _) (wpAny_newObj_type (wpAny_pure ⟨_, rfl, wpAny_pure g⟩) ok))
end
section
variable {X : Cx}
theorem pe_revT {e : Expr} {te : TE} {k : Nat} {p1 p2 p3 pos : Pos} (he : PE X e te) : PE X (.Subscript e (.Slice none none (some (.UnaryOp .USub (.Constant (.int 1) k p1) p2)) p3) pos) (tRevT X.K te) := by
  refine ⟨fun pins s σ H Q I h => Subscript_ (thn (he.run pins s σ H _ I h) fun v s1 ⟨x, H1, I1, r1, a, xs, ex, hx, q⟩ => ?_)⟩
  subst ex
  cases r1
  have step : PO X (some (.UnaryOp .USub (.Constant (.int 1) k p1) p2)) (tPart (tUn (rU fun i => .int (-i)) (tC (.int 1)))) := po_some (pe_un un_neg pe_int)
  refine wpAny_Slice (thn (po_none.run pins s1 σ H1 (fun o J => o = none ∧ J = H1) I1 ⟨rfl, rfl⟩) fun vl s2 ⟨l, H2, I2, pl, el, e2⟩ => ?_)
  subst el e2
  refine thn (po_none.run pins s2 σ H2 (fun o J => o = none ∧ J = H2) I2 ⟨rfl, rfl⟩) fun vu s3 ⟨u, H3, I3, pu, eu, e3⟩ => ?_
  subst eu e3
  refine thn (step.run pins s3 σ H3 (fun o J => o = some (-1) ∧ J = H3) I3 ⟨1, rfl, -1, rfl, rfl, rfl⟩) fun vs s4 ⟨o, H4, I4, ps, eo, e4⟩ => ?_
  subst eo e4
  have I5 : Inv X pins σ H4 { s4 with heap := s4.heap.push { cls := .type "slice", data := .fields #[vl, vu, vs] } } := I4.kept (t' := s4.toks) fun b ob z => Heap.get?_push_of_some _ z
  obtain ⟨its, r, tp, hz⟩ := I5.tuple hx
  cases pl
  cases pu
  show wpAny (model X.prog X.w) X.A (subscriptTail e (.Slice none none (some (.UnaryOp .USub (.Constant (.int 1) k p1) p2)) p3) (.ref a) (.ref s4.heap.objs.size)) (EP X pins σ Q) X.xe { s4 with heap := s4.heap.push { cls := .type "slice", data := .fields #[.none, .none, vs] } }
  refine tail_any (ops := [.ref a, .ref s4.heap.objs.size]) tp.typeIs (PyProof.Rows.slot_tuple_getitem.lookup) ?_ (by with_unfolding_all rfl)
  refine back_tup tp (Heap.IsSliceOf.new _ .none .none vs) ps (by rw [List.size_toArray, ← r.length]; exact hz) ?_
  refine ⟨.ref _, _, I5.laid (t' := s4.toks) (o := .tup xs.reverse) (fun b ob z => Heap.get?_push_of_some _ z) (Nat.le_refl _) ?_, rfl, q _ (I5.hok.fresh (Nat.le_refl _))⟩
  exact ⟨by rw [List.length_reverse]; exact hz, _, r.reverse, ⟨_, Heap.get?_push_size _ rfl, rfl, 0, by simp⟩⟩
end
/-! ### enumerate(t), t a tuple -/
abbrev tIter (t : Addr) : Obj := { cls := .type "tuple_iterator", data := .fields #[.ref t, .int 0 0] }
abbrev tEnum (it : Addr) : Obj := { cls := .type "enumerate", data := .fields #[.none, .bool false, .ref it, rawInt 0, .none, .none] }
theorem meets_enumT (t : Addr) (us : Array Value) (n : Nat) (dd : Option Addr) (sl : Array (Option Value)) :
    Meets (Builtin.«enumerate.__new__» ⟨[.type "enumerate", .ref t], []⟩) (fun _ R s => s.heap.get? t = some { cls := .type "tuple", dict := dd, data := .seq us n, slots := sl } ∧
      R (.ok (.ret (.ref (s.heap.push (tIter t)).objs.size))) { s with heap := (s.heap.push (tIter t)).push (tEnum s.heap.objs.size) }) :=
  .of_wp fun prog w A R z hz => by
    obtain ⟨h0, g0, d0, k0, o0⟩ := z
    obtain ⟨at_, fin⟩ := hz
    have sub_ := sub_enumerate
    have tp : Heap.IsTuple (Shared.heap ⟨h0, g0, d0, k0, o0⟩) t us := ⟨_, at_, rfl, n, rfl⟩
    wp_walk using AutoSeq1.wpAny_loadPart' at_
    refine wpAny_stack_any fun stk => wpAny_pure ?_
    split
    · rename_i c _ _ _ _ _
      cases (c == Value.type "enumerate") <;>
      · wp_walk using AutoSeq1.wpAny_loadPart' at_, wpAny_pyIter_tuple tp
        exact ⟨_, rfl, fin⟩
    · wp_walk using AutoSeq1.wpAny_loadPart' at_, wpAny_pyIter_tuple tp
      exact ⟨_, rfl, fin⟩
section
variable {prog : Program} {w : World} {A : Around} {E : Value → Shared → Prop} {s : Shared}
theorem make_enumT {t : Addr} {us : Array Value} {G : Value → Shared → Prop} (tp : s.heap.IsTuple t us)
    (g : ∀ hN, IsEnum hN (s.heap.objs.size + 1) s.heap.objs.size 0 .none → hN.IsTupleIter s.heap.objs.size t 0 → (∀ b o, s.heap.get? b = some o → hN.get? b = some o) → G (.ref (s.heap.objs.size + 1)) { s with heap := hN }) :
    wpAny (model prog w) A (call (.type "enumerate") [.ref t]) G E s := by
  obtain ⟨⟨c, dd, dt, sl⟩, at_, cl, n, da⟩ := tp
  obtain rfl : c = .type "tuple" := cl
  obtain rfl : dt = .seq us n := da
  refine callType_new F.called_enumerate (by decide) (F.typeCall_enumerate_1 _) (F.newCall_enumerate_1 _) (fun obj => F.args_object_init_2 obj _) F.entry_enumerate_new (meets_enumT t us n dd sl) ⟨at_, ?_⟩
  have sz : (s.heap.push (tIter t)).objs.size = s.heap.objs.size + 1 := Heap.size_push ..
  show _ ∧ _
  rw [sz]
  have en : IsEnum ((s.heap.push (tIter t)).push (tEnum s.heap.objs.size)) (s.heap.objs.size + 1) s.heap.objs.size 0 .none := by
    have q := Heap.get?_push_size (s.heap.push (tIter t)) (o := tEnum s.heap.objs.size) rfl
    rw [sz] at q
    exact q
  exact ⟨⟨_, en, rfl⟩, g _ en ⟨_, Heap.get?_push_of_some _ (Heap.get?_push_size _ rfl), rfl, rfl⟩ fun b o x => Heap.get?_push_of_some _ (Heap.get?_push_of_some _ x)⟩
end
/-- the tuple at a, each item in a new pair -/
def Itet (K : PySem.W.Frag) (a : Addr) : It :=
  ⟨fun i H => ∃ (xs : List V) (x : V), SqT K H a xs ∧ xs[i]? = some x, fun i H v H' => ∃ T x, v = .ref T ∧ H T = none ∧ H' = upd H T (.tup [.int (i : Nat), x]) ∧ ∀ xs, SqT K H a xs → xs[i]? = some x, fun i H => ∃ xs : List V, SqT K H a xs ∧ xs.length = i⟩
theorem turn_enumT {P : Program} {w : World} {K : PySem.W.Frag} {elts : List Expr} {kk : Nat} {tpos : Pos} (a e it : Addr) :
    Turn P w K (.Tuple elts kk tpos) (Itet K a) [e, it] e (fun i h => (∃ old, IsEnum h e it ((i : Nat) : Int) old) ∧ h.IsTupleIter it a i ∧ e ≠ it ∧ e ≠ a ∧ a ≠ it) where
  mem := by simp
  obj := fun i h st b hb => by
    obtain ⟨⟨old, he⟩, ⟨o, ho, _, hd⟩, _⟩ := st
    rcases (by simpa using hb : b = e ∨ b = it) with z | z
    · rw [z]; exact ⟨_, he, fun v q => nomatch q⟩
    · rw [z]; exact ⟨o, ho, fun v q => by rw [hd] at q; cases q⟩
  keep := fun i h h' st k => let ⟨⟨old, he⟩, hi, r⟩ := st; ⟨⟨old, k e (by simp) _ he⟩, hi.at fun o q => k it (by simp) o q, r⟩
  item := by
    intro X hP hw hK hc i pins s σ H E I hf st hg
    subst hP hw hK
    obtain ⟨⟨old, he⟩, hit, ne1, ne2, ne3⟩ := st
    obtain ⟨xs, x, hq, hx⟩ := hg
    obtain ⟨its, rv, tp, _⟩ := I.tuple hq
    obtain ⟨u, hu, ru⟩ := rv.get hx
    have le : e < s.heap.objs.size := Heap.lt_size he
    have li : it < s.heap.objs.size := by obtain ⟨_, q, _⟩ := hit; exact Heap.lt_size q
    have hi : i < its.toArray.size := by rw [List.size_toArray]; exact (List.getElem?_eq_some_iff.mp hu).1
    have calm : X.A.in1.handled = none := by have := I.ok.hd hc; simpa using this
    refine wpAny_pyNext_enum_itemD (Draws.tuple calm it a ne3 its.toArray) he ⟨hit, tp⟩ hi ne1 (by simp only [List.mem_cons, List.not_mem_nil, or_false, not_or]; exact ⟨ne1, ne2⟩) fun y h' tk hy ho st' hT _ hk => ?_
    obtain rfl : y = u := by
      have q : its[i]? = some y := by rw [← List.getElem?_toArray]; exact hy
      exact Option.some.inj (q.symm.trans hu)
    refine ⟨_, rfl, wpAny_letOwnedTupleGo_enum (s := { s with heap := h', toks := tk + 1 }) ho fun h'' he' sb => ?_⟩
    have hT2 : h''.get? s.heap.objs.size = some { cls := .type "tuple", data := .seq #[.int i tk, y] } := (sb.2 _ (Nat.ne_of_gt le)).trans hT
    have I1 : Inv X pins σ (upd H s.heap.objs.size (.tup [.int (i : Nat), x])) { s with heap := h'', toks := tk + 1 } :=
      I.turnedNew (ch := [e, it]) (fun b ob hb q => (sb.2 b (fun z => hb (by simp [z]))).trans (hk b ob (fun z => hb (by simp [z])) (fun z => hb (by simp [z])) q)) hf (Nat.le_refl _)
        ⟨by show 2 ≤ sizeLine; decide, [.int i tk, y], .cons ⟨_, rfl⟩ (.cons ru .nil), ⟨_, hT2, rfl, _, rfl⟩⟩
    refine ⟨.ref s.heap.objs.size, _, I1, rfl, ⟨_, x, rfl, I.hok.fresh (Nat.le_refl _), rfl, fun ys hy => by rw [I.tuple_inj hy hq]; exact hx⟩, ⟨⟨y, ?_⟩, st'.1.at fun o q => (sb.2 it (Ne.symm ne1)).trans q, ne1, ne2, ne3⟩, fun b hb => ?_⟩
    · rw [show ((i + 1 : Nat) : Int) = (i : Int) + 1 by omega]
      exact he'
    · have lb : b < s.heap.objs.size := by
        rcases (by simpa using hb : b = e ∨ b = it) with z | z
        · rw [z]; exact le
        · rw [z]; exact li
      rw [upd_ne (Nat.ne_of_lt lb)]
      exact (hf b hb).1
  done := by
    intro X hP hw hK hc i pins s σ H E I hf st hg
    subst hP hw hK
    obtain ⟨⟨old, he⟩, hit, ne1, ne2, ne3⟩ := st
    obtain ⟨xs, hq, hx⟩ := hg
    obtain ⟨its, rv, tp, _⟩ := I.tuple hq
    obtain ⟨f0, f1, f2, f3, f4, f5⟩ := hf it (by simp)
    have calm : X.A.in1.handled = none := by have := I.ok.hd hc; simpa using this
    have hn : its.toArray.size = i := by rw [List.size_toArray, ← rv.length, hx]
    exact wpAny_pyNext_enum_endD (Draws.tuple calm it a ne3 its.toArray) he ⟨by rw [hn]; exact hit, tp⟩ fun h' eb => ⟨rfl, I.turned (t' := s.toks) (fun b o hb q => eb b o hb q) f0 f1 f3 f4 f5⟩
  self := fun A i s Q E st h => let ⟨⟨_, he⟩, _⟩ := st; wpAny_pyIter_enum he h
def iEnumT (K : PySem.W.Frag) (ta : TA) : TI := fun σ H R => ta σ H fun vs H1 => ∃ a xs, vs = [.ref a] ∧ SqT K H1 a xs ∧ R (Itet K a) H1
theorem pi_enumT {X : Cx} {e : Expr} {ta : TA} {p pos tpos : Pos} {elts : List Expr} {kk : Nat} (hg : Gl X "enumerate") (hm : X.mg "enumerate" = none) (ha : PA X [e] ta) (hs : starEach [e] X.env = [(false, eval e X.env)] := by rfl) :
    PI X (.Tuple elts kk tpos) (.Call (.Name "enumerate" p) [e] [] pos) (iEnumT X.K ta) := by
  refine ⟨fun pins s σ H R I h => Call_ (ld_blt I hg hm boot_enumerate (PyProof.Rows.callWith_type1 (thn (ha.run pos pins s σ H _ I h) fun us s1 ⟨vs, H1, I1, r1, a, xs, ex, hq, q⟩ => ?_) hs rfl))⟩
  subst ex
  obtain ⟨its, rv, tp, _⟩ := I1.tuple hq
  have la : a < s1.heap.objs.size := by obtain ⟨_, z, _⟩ := tp; exact Heap.lt_size z
  rw [Vals.ref1 r1]
  refine make_enumT tp fun hN he hit kp => wpAny_pyIter_enum he ?_
  refine ⟨s1.heap.objs.size + 1, [s1.heap.objs.size + 1, s1.heap.objs.size], _, _, H1, rfl, I1.kept (t' := s1.toks) kp, turn_enumT a (s1.heap.objs.size + 1) s1.heap.objs.size, ⟨⟨.none, he⟩, hit, Nat.succ_ne_self _, Nat.ne_of_gt (Nat.lt_succ_of_lt la), Nat.ne_of_lt la⟩, fun b hb => ?_, q⟩
  have le : s1.heap.objs.size ≤ b := by
    rcases (by simpa using hb : b = s1.heap.objs.size + 1 ∨ b = s1.heap.objs.size) with z | z
    · rw [z]; exact Nat.le_succ _
    · rw [z]; exact Nat.le_refl _
  exact I1.fpOk le (I1.hok.fresh le)
theorem walk_enumT {K : PySem.W.Frag} {a : Addr} {xs : List V} : Walk (Itet K a) xs.length (fun H => SqT K H a xs) (YPair (fun i => some (.int (i : Nat))) (fun i => xs[i]?)) := by
  refine ⟨fun i _ hi q => ⟨xs, xs[i], q, by simp [hi]⟩, fun _ q => ⟨xs, q, rfl⟩, fun i H v H' _ q y => ?_⟩
  obtain ⟨T, x, h1, h2, h3, h4⟩ := y
  exact ⟨T, .int (i : Nat), x, h1, h2, h3, rfl, h4 xs q⟩
end KR

set_option Elab.async false
set_option linter.all false
set_option maxRecDepth 100000
set_option maxHeartbeats 4000000
/-! Tuples that are known to the last field: locked as they were made. -/
namespace KR
open PySem PySem.Spec L2
open PyProof.Rows hiding St
abbrev tobj (us : List Value) : Obj := { cls := .type "tuple", data := .seq us.toArray }
/-- at a stands a tuple of xs, made by a display's rule or another one of this file -/
def TupX (H : Hp) (a : Addr) (xs : List V) : Prop := ∃ us, H a = some (.frz (tobj us) (.tup xs))
theorem TupX.rd {H : Hp} {a : Addr} {xs : List V} (t : TupX H a xs) : Rd H a (.tup xs) := let ⟨us, e⟩ := t; .inr ⟨_, e⟩
theorem TupX.sq {K : PySem.W.Frag} {H : Hp} {a : Addr} {xs : List V} (t : TupX H a xs) : SqT K H a xs := .inl t.rd
theorem TupX.inj {H : Hp} {a : Addr} {xs ys : List V} (t : TupX H a xs) (u : TupX H a ys) : xs = ys := by
  obtain ⟨us, e⟩ := t
  obtain ⟨vs, e'⟩ := u
  rw [e] at e'
  cases e'
  rfl
theorem TupX.of {H : Hp} {a : Addr} {us : List Value} {xs : List V} : TupX (upd H a (.frz (tobj us) (.tup xs))) a xs := ⟨us, upd_same⟩
theorem TupX.same {H H' : Hp} {a : Addr} {xs : List V} (t : TupX H a xs) (s : Same H H') : TupX H' a xs := let ⟨us, e⟩ := t; ⟨us, s _ _ e⟩
section
variable {X : Cx} {pins : List (Addr × Obj)} {σ : L2.St} {H : Hp} {s : Shared}
theorem frz_ok {P : Program} {w : World} {H : Hp} {h : Heap} {a : Addr} {us : List Value} {xs : List V} (e : h.get? a = some (tobj us)) (r : Vals xs us) (z : xs.length ≤ sizeLine) : ObjOk P w H h a (.frz (tobj us) (.tup xs)) :=
  ⟨e, z, us, r, ⟨_, e, rfl, _, rfl⟩⟩
/-- tuple(l) -/
def rTupF (K : PySem.W.Frag) : List V → Hp → VK → Prop := fun xs H Q => ∃ p ys, xs = [.ref p] ∧ SqL K H p ys ∧ ∀ l us, H l = none → Q (.ref l) (upd H l (.frz (tobj us) (.tup ys)))
theorem call_tupF : CallR X (.type "tuple") (rTupF X.K) := by
  intro pins s σ H xs us Q I r h
  obtain ⟨p, ys, rfl, hq, q⟩ := h
  rw [Vals.ref1 r]
  obtain ⟨its, rv, pl, hz⟩ := I.list hq
  have len := rv.length
  refine call_tuple_list pl.isList (fun h' kp => ?_) (by simp only [List.size_toArray] <;> omega)
  have I1 : Inv X pins σ H { s with heap := h' } := I.kept (t' := s.toks) kp
  exact ⟨.ref h'.objs.size, _, I1.laid (t' := s.toks) (fun b o e => Heap.get?_push_of_some _ e) (Nat.le_refl _) (frz_ok (us := its) (Heap.get?_push_size _ rfl) rv hz), rfl, q _ its (I1.hok.fresh (Nat.le_refl _))⟩
/-- t[i:j] -/
def rSlF (K : PySem.W.Frag) : V → Option Int → Option Int → Hp → VK → Prop := fun x lo hi H Q => ∃ a xs, x = .ref a ∧ SqT K H a xs ∧
  (HT.sIx xs.length 0 lo = 0 ∧ HT.sIx xs.length xs.length hi = xs.length → Q (.ref a) H) ∧
  (¬ (HT.sIx xs.length 0 lo = 0 ∧ HT.sIx xs.length xs.length hi = xs.length) → ∀ p us, H p = none → Q (.ref p) (upd H p (.frz (tobj us) (.tup (cutV xs lo hi)))))
theorem sl_tupF : SlR X (rSlF X.K) := by
  intro pins s σ H x v vl vu lo hi sl Q I rx hs pl pu h
  obtain ⟨a, xs, rfl, hx, q1, q2⟩ := h
  cases rx
  obtain ⟨its, r, ht, hz⟩ := I.tuple hx
  have len : its.toArray.size = xs.length := by rw [List.size_toArray]; exact r.length.symm
  refine ⟨"tuple", _, PyProof.Rows.slot_tuple_getitem.lookup, ht.typeIs, ?_⟩
  by_cases hw : HT.sIx xs.length 0 lo = 0 ∧ HT.sIx xs.length xs.length hi = xs.length
  · exact getItem_tuple_whole ht hs pl pu (by rw [len]; exact hw) ⟨.ref a, H, I, rfl, q1 hw⟩
  · refine HT.getItem_tuple_cut ht hs pl pu (by rw [len]; exact hw) ?_ (by rw [len]; exact hz)
    rw [len]
    refine ⟨.ref s.heap.objs.size, _, I.laid (t' := s.toks) (fun b ob e => Heap.get?_push_of_some _ e) (Nat.le_refl _) (frz_ok (us := (its.drop (HT.sIx xs.length 0 lo)).take (HT.sIx xs.length xs.length hi - HT.sIx xs.length 0 lo)) (Heap.get?_push_size _ rfl) ?_ (Nat.le_trans (cutV_length xs lo hi) hz)), rfl,
      q2 hw _ _ (I.hok.fresh (Nat.le_refl _))⟩
    exact (r.drop (HT.sIx xs.length 0 lo)).take (HT.sIx xs.length xs.length hi - HT.sIx xs.length 0 lo)
/-- t + u -/
def rCatF (K : PySem.W.Frag) : R2 := fun x y H Q => ∃ a b xs ys, x = .ref a ∧ y = .ref b ∧ SqT K H a xs ∧ SqT K H b ys ∧ xs.length + ys.length ≤ sizeLine ∧
  (xs = [] → Q (.ref b) H) ∧ (xs ≠ [] → ys = [] → Q (.ref a) H) ∧ (xs ≠ [] → ys ≠ [] → ∀ p us, H p = none → Q (.ref p) (upd H p (.frz (tobj us) (.tup (xs ++ ys)))))
theorem op_catF : OpR X (binaryOp .Add) (rCatF X.K) := by
  intro pins s σ H x y v u Q I rx ry h
  obtain ⟨a, b, xs, ys, rfl, rfl, ha, hb, hz, q0, q1, q2⟩ := h
  cases rx
  cases ry
  obtain ⟨its, r1, p1, _⟩ := I.tuple ha
  obtain ⟨its2, r2, p2, _⟩ := I.tuple hb
  by_cases hx : xs = []
  · subst hx
    cases r1
    exact cat_tup0 p1 p2 ⟨.ref b, H, I, rfl, q0 rfl⟩
  · refine HT.cat_tup p1 p2 (fun z => hx (r1.nil_iff.mp z)) (fun z => ⟨.ref a, H, I, rfl, q1 hx (r2.nil_iff.mp z)⟩) (fun z => ?_) (by rw [← r1.length, ← r2.length]; exact hz)
    exact ⟨.ref s.heap.objs.size, _, I.laid (t' := s.toks) (fun b ob e => Heap.get?_push_of_some _ e) (Nat.le_refl _) (frz_ok (us := its ++ its2) (Heap.get?_push_size _ rfl) (r1.append r2) (by rw [List.length_append]; exact hz)), rfl,
      q2 hx (fun w => z (r2.nil_iff.mpr w)) _ _ (I.hok.fresh (Nat.le_refl _))⟩
/-- t[::-1] -/
def tRevF (K : PySem.W.Frag) (te : TE) : TE := fun σ H Q => te σ H fun x H1 => ∃ a xs, x = .ref a ∧ SqT K H1 a xs ∧ ∀ p us, H1 p = none → Q (.ref p) (upd H1 p (.frz (tobj us) (.tup xs.reverse)))
theorem pe_revF {e : Expr} {te : TE} {k : Nat} {p1 p2 p3 pos : Pos} (he : PE X e te) : PE X (.Subscript e (.Slice none none (some (.UnaryOp .USub (.Constant (.int 1) k p1) p2)) p3) pos) (tRevF X.K te) := by
  refine ⟨fun pins s σ H Q I h => Subscript_ (thn (he.run pins s σ H _ I h) fun v s1 ⟨x, H1, I1, r1, a, xs, ex, hx, q⟩ => ?_)⟩
  subst ex
  cases r1
  have step : PO X (some (.UnaryOp .USub (.Constant (.int 1) k p1) p2)) (tPart (tUn (rU fun i => .int (-i)) (tC (.int 1)))) := po_some (pe_un un_neg pe_int)
  refine wpAny_Slice (thn (po_none.run pins s1 σ H1 (fun o J => o = none ∧ J = H1) I1 ⟨rfl, rfl⟩) fun vl s2 ⟨l, H2, I2, pl, el, e2⟩ => ?_)
  subst el e2
  refine thn (po_none.run pins s2 σ H2 (fun o J => o = none ∧ J = H2) I2 ⟨rfl, rfl⟩) fun vu s3 ⟨u, H3, I3, pu, eu, e3⟩ => ?_
  subst eu e3
  refine thn (step.run pins s3 σ H3 (fun o J => o = some (-1) ∧ J = H3) I3 ⟨1, rfl, -1, rfl, rfl, rfl⟩) fun vs s4 ⟨o, H4, I4, ps, eo, e4⟩ => ?_
  subst eo e4
  have I5 : Inv X pins σ H4 { s4 with heap := s4.heap.push { cls := .type "slice", data := .fields #[vl, vu, vs] } } := I4.kept (t' := s4.toks) fun b ob z => Heap.get?_push_of_some _ z
  obtain ⟨its, r, tp, hz⟩ := I5.tuple hx
  cases pl
  cases pu
  show wpAny (model X.prog X.w) X.A (subscriptTail e (.Slice none none (some (.UnaryOp .USub (.Constant (.int 1) k p1) p2)) p3) (.ref a) (.ref s4.heap.objs.size)) (EP X pins σ Q) X.xe { s4 with heap := s4.heap.push { cls := .type "slice", data := .fields #[.none, .none, vs] } }
  refine tail_any (ops := [.ref a, .ref s4.heap.objs.size]) tp.typeIs (PyProof.Rows.slot_tuple_getitem.lookup) ?_ (by with_unfolding_all rfl)
  refine back_tup tp (Heap.IsSliceOf.new _ .none .none vs) ps (by rw [List.size_toArray, ← r.length]; exact hz) ?_
  exact ⟨.ref _, _, I5.laid (t' := s4.toks) (fun b ob z => Heap.get?_push_of_some _ z) (Nat.le_refl _) (frz_ok (us := its.reverse) (Heap.get?_push_size _ rfl) r.reverse (by rw [List.length_reverse]; exact hz)), rfl, q _ _ (I5.hok.fresh (Nat.le_refl _))⟩
/-- t.index(k), t locked -/
def tTIx (to : TE) (t : TA) : TE := fun σ H Q => to σ H fun x H1 => (∃ a xs, x = .ref a ∧ TupX H1 a xs) ∧ t σ H1 fun xs H2 => ∃ (a : Addr) (ns : List Int) (k : Int), x = .ref a ∧ xs = [.int k] ∧ TupX H2 a (ns.map V.int) ∧ k ∈ ns ∧ Q (.int (ns.idxOf k : Nat)) H2
variable {o e : Expr} {es : List Expr} {to : TE} {t : TA} {apos cpos : Pos}
theorem pe_tindex (ho : PE X o to) (ha : PA X (e :: es) t)
    (hbase : attributeBase o "index" X.env (eval o X.env) = eval o X.env := by rfl)
    (hfew : ((backTo cpos (starEach (e :: es) X.env)).all (fun x => !x.1) && (backToKw cpos (keywordEach [] X.env)).all (fun x => x.1.isSome)
      && decide ((e :: es).length + ([] : List Keyword).length + (if ([] : List Keyword).isEmpty then 0 else 1) < 30)) = true := by rfl)
    (hline : (apos.endLine == cpos.line) = true := by rfl) (hs : starEach (e :: es) X.env = (false, eval e X.env) :: starEach es X.env := by rfl) (hplain : (backTo cpos (starEach es X.env)).any (·.1) = false := by rfl) :
    PE X (.Call (.Attribute o "index" apos) (e :: es) [] cpos) (tTIx to t) := by
  refine ⟨fun pins s σ H Q I h => wpAny_Call_method_late hbase hfew hline rfl (thn (ho.run pins s σ H _ I h) fun v s1 ⟨x, H1, I1, r1, ⟨a, xs, ex, us, ha1⟩, q1⟩ => ?_)⟩
  subst ex
  cases r1
  obtain ⟨at1, _, _⟩ := I1.hok _ _ ha1
  refine ⟨"tuple", "tuple.index", PySem.F.plainAttrs_tuple, PySem.F.slot_tuple_index, PySem.F.type_tuple_index, ⟨_, at1, rfl⟩, fun b eb => ?_, ?_⟩
  · cases eb
    exact ⟨_, at1, rfl⟩
  · have hA := ha.run cpos pins s1 σ H1 _ I1 q1
    rw [hs] at hA ⊢
    refine Calls.callWith_builtin (by show (false || (backTo cpos (starEach es X.env)).any (·.1)) = false; rw [hplain] <;> rfl) (Calls.evalArgs_plain ?_)
    refine thn hA fun ws s2 ⟨vs, H2, I2, r2, a', ns, k, ea, ev, tx, hk, q2⟩ => ?_
    cases ea
    exact mt_tindex pins s2 σ H2 (.ref a) vs (.ref a) ws Q I2 rfl r2 ⟨a, ns, k, rfl, ev, tx.sq, hk, q2⟩
end
end KR

set_option Elab.async false
set_option linter.all false
set_option maxRecDepth 100000
set_option maxHeartbeats 4000000
/-! Data of any depth over the tracked heap, dicts among them; their texts by repr. -/
namespace K0
open PySem PySem.Spec PyProof.Rows L2
open KR (TupX)

def kD : Key → PyData
  | .inl i => .int i
  | .inr x => .str x
/-- a tuple stands at a: tracked, or known whole -/
def TT (H : Hp) (a : Addr) (xs : List V) : Prop := H a = some (.tup xs) ∨ TupX H a xs
theorem TT.rd {H : Hp} {a : Addr} {xs : List V} (t : TT H a xs) : Rd H a (.tup xs) := t.elim .inl TupX.rd
theorem TT.sq {K : PySem.W.Frag} {H : Hp} {a : Addr} {xs : List V} (t : TT H a xs) : SqT K H a xs := .inl t.rd
theorem TT.at {H : Hp} {a : Addr} {xs : List V} (t : TT H a xs) : ∃ o, H a = some o := t.elim (fun e => ⟨_, e⟩) fun ⟨_, e⟩ => ⟨_, e⟩
theorem TT.keep {H H' : Hp} {a : Addr} {xs : List V} (t : TT H a xs) (s : ∀ o, H a = some o → H' a = some o) : TT H' a xs := t.elim (fun e => .inl (s _ e)) fun ⟨us, e⟩ => .inr ⟨us, s _ e⟩
/-- v is the datum d in H, all its objects such as T says -/
inductive DV (H : Hp) (T : Addr → Prop) : V → PyData → Prop
  | non : DV H T .non .none
  | bl (b : Bool) : DV H T (.bl b) (.bool b)
  | int (i : Int) : DV H T (.int i) (.int i)
  | str (x : Str) : DV H T (.str x) (.str x)
  | lst {a : Addr} {xs : List V} {ds : List PyData} (t : T a) (e : H a = some (.lst xs)) (l : xs.length = ds.length) (h : ∀ (i : Nat) (v : V) (d : PyData), xs[i]? = some v → ds[i]? = some d → DV H T v d) : DV H T (.ref a) (.list ds)
  | tup {a : Addr} {xs : List V} {ds : List PyData} (t : T a) (e : TT H a xs) (l : xs.length = ds.length) (h : ∀ (i : Nat) (v : V) (d : PyData), xs[i]? = some v → ds[i]? = some d → DV H T v d) : DV H T (.ref a) (.tuple ds)
  | dct {a : Addr} {kvs : List (Key × V)} {ds : List PyData} (t : T a) (e : H a = some (.dK kvs)) (l : kvs.length = ds.length) (h : ∀ (i : Nat) (v : V) (d : PyData), (kvs.map (·.2))[i]? = some v → ds[i]? = some d → DV H T v d) :
      DV H T (.ref a) (.dict ((kvs.map fun p => kD p.1).zip ds))
theorem DV.mono {H H' : Hp} {T T' : Addr → Prop} {v : V} {d : PyData} (h : DV H T v d) (s : ∀ a o, T a → H a = some o → T' a ∧ H' a = some o) : DV H' T' v d := by
  induction h with
  | non => exact .non
  | bl b => exact .bl b
  | int i => exact .int i
  | str x => exact .str x
  | lst t e l _ ih => exact .lst (s _ _ t e).1 (s _ _ t e).2 l ih
  | tup t e l _ ih => let ⟨_, h⟩ := e.at; exact .tup (s _ _ t h).1 (e.keep fun o q => (s _ _ t q).2) l ih
  | dct t e l _ ih => exact .dct (s _ _ t e).1 (s _ _ t e).2 l ih
/-- anywhere -/
abbrev Any : Addr → Prop := fun _ => True
theorem DV.any {H : Hp} {T : Addr → Prop} {v : V} {d : PyData} (h : DV H T v d) : DV H Any v d := h.mono fun _ _ _ e => ⟨trivial, e⟩
theorem DV.same {H H' : Hp} {T : Addr → Prop} {v : V} {d : PyData} (h : DV H T v d) (s : Same H H') : DV H' T v d := h.mono fun a o t e => ⟨t, s a o e⟩

/-- items of one kind, point by point -/
theorem readsAll_of {h : Heap} {T : Addr → Prop} : ∀ {xs : List V} {us : List Value} {ds : List PyData}, Vals xs us → xs.length = ds.length →
    (∀ (i : Nat) (v : V) (d : PyData) (u : Value), xs[i]? = some v → ds[i]? = some d → RelV v u → ∃ as, Reads h u d as ∧ ∀ a ∈ as, T a) → ∃ as, ReadsAll h us ds as ∧ ∀ a ∈ as, T a
  | _, _, [], .nil, _, _ => ⟨[], .nil, fun _ z => nomatch z⟩
  | _, _, _ :: _, .nil, l, _ => nomatch l
  | _, _, [], .cons _ _, l, _ => nomatch l
  | _, _, d :: ds, .cons r t, l, f => by
    obtain ⟨as, h1, t1⟩ := f 0 _ _ _ rfl rfl r
    obtain ⟨bs, h2, t2⟩ := readsAll_of (ds := ds) t (Nat.succ.inj l) fun i v e u e1 e2 r' => f (i + 1) v e u (by simpa using e1) (by simpa using e2) r'
    exact ⟨as ++ bs, .cons h1 h2, fun a z => (List.mem_append.mp z).elim (t1 a) (t2 a)⟩

theorem keys_reads {P : Program} {w : World} {h : Heap} {T : Addr → Prop} : ∀ {es : List DictEntry} {vs : List (Key × Value)}, Pairs (mixKind P w) es vs → ∃ as, ReadsAll h (es.map (·.key)) (vs.map fun p => kD p.1) as ∧ ∀ a ∈ as, T a
  | _, _, .nil => ⟨[], .nil, fun _ z => nomatch z⟩
  | _, _, .cons (e := e) (kv := kv) k _ t => by
    obtain ⟨bs, h2, t2⟩ := keys_reads (h := h) (T := T) t
    rcases keyIs_shape (show keyIs kv.1 e.key = true from k) with ⟨i, tk, e1, e2⟩ | ⟨x, tk, e1, e2⟩
    · refine ⟨[] ++ bs, ?_, fun a z => t2 a (by simpa using z)⟩
      show ReadsAll h (e.key :: _) (kD kv.1 :: _) _
      rw [e1, e2]
      exact .cons (.int i tk) h2
    · refine ⟨[] ++ bs, ?_, fun a z => t2 a (by simpa using z)⟩
      show ReadsAll h (e.key :: _) (kD kv.1 :: _) _
      rw [e1, e2]
      exact .cons (.str x tk) h2
theorem vals_of_pairs {P : Program} {w : World} : ∀ {es : List DictEntry} {vs : List (Key × Value)}, Pairs (mixKind P w) es vs → es.map (·.val) = vs.map (·.2)
  | _, _, .nil => rfl
  | _, _, .cons _ e t => by rw [List.map_cons, List.map_cons, e, vals_of_pairs t]
theorem kv_keys : ∀ {kvs : List (Key × V)} {vs : List (Key × Value)}, KV kvs vs → (vs.map fun p => kD p.1) = kvs.map fun p => kD p.1
  | _, _, .nil => rfl
  | _, _, .cons r t => by rw [List.map_cons, List.map_cons, r.1, kv_keys t]
theorem kv_vals : ∀ {kvs : List (Key × V)} {vs : List (Key × Value)}, KV kvs vs → Vals (kvs.map (·.2)) (vs.map (·.2))
  | _, _, .nil => .nil
  | _, _, .cons r t => .cons r.2 (kv_vals t)

theorem DV.reads {P : Program} {w : World} {H : Hp} {h : Heap} (ok : HOk P w H h) {T : Addr → Prop} {v : V} {d : PyData} (D : DV H T v d) : ∀ {u : Value}, RelV v u → ∃ as, Reads h u d as ∧ ∀ a ∈ as, ∃ o, H a = some o := by
  induction D with
  | non => intro u r; cases r; exact ⟨_, .none, fun _ z => nomatch z⟩
  | bl b => intro u r; cases r; exact ⟨_, .bool b, fun _ z => nomatch z⟩
  | int i => intro u r; obtain ⟨t, rfl⟩ := r; exact ⟨_, .int i t, fun _ z => nomatch z⟩
  | str x => intro u r; obtain ⟨t, rfl⟩ := r; exact ⟨_, .str x t, fun _ z => nomatch z⟩
  | lst _ e l _ ih =>
    intro u r
    cases r
    obtain ⟨_, its, n, rv, he⟩ := ok _ _ e
    obtain ⟨as, h1, t1⟩ := readsAll_of rv l fun i v d u e1 e2 r' => ih i v d e1 e2 r'
    refine ⟨_, .list he rfl rfl (by simpa using h1), fun a z => ?_⟩
    rcases List.mem_cons.mp z with rfl | z
    · exact ⟨_, e⟩
    · exact t1 a z
  | tup _ e l _ ih =>
    intro u r
    cases r
    obtain ⟨_, its, rv, o, h1, h2, n, h3⟩ := e.rd.ok ok
    obtain ⟨as, g1, t1⟩ := readsAll_of rv l fun i v d u e1 e2 r' => ih i v d e1 e2 r'
    exact ⟨as, .tuple h1 h2 h3 (by simpa using g1), t1⟩
  | @dct a kvs ds _ e l _ ih =>
    intro u r
    cases r
    obtain ⟨_, _, vs, rv, o, es, ep, h1, h2, h3, _, h5, _⟩ := ok _ _ e
    obtain ⟨as, k1, t1⟩ := keys_reads (h := h) (T := fun a => ∃ o, H a = some o) h5
    obtain ⟨bs, v1, t2⟩ := readsAll_of (h := h) (T := fun a => ∃ o, H a = some o) (ds := ds) (kv_vals rv) (by rw [List.length_map]; exact l) fun i v d u e1 e2 r' => ih i v d e1 e2 r'
    rw [kv_keys rv] at k1
    rw [← vals_of_pairs h5] at v1
    have z1 : (((kvs.map fun p => kD p.1).zip ds).map (·.1)) = kvs.map fun p => kD p.1 := List.map_fst_zip (by rw [List.length_map]; omega)
    have z2 : (((kvs.map fun p => kD p.1).zip ds).map (·.2)) = ds := List.map_snd_zip (by rw [List.length_map]; omega)
    refine ⟨_, .dict h1 h2.1 h3 (by rw [z1]; exact k1) (by rw [z2]; exact v1), fun c z => ?_⟩
    rcases List.mem_append.mp z with z | z
    · rcases List.mem_cons.mp z with rfl | z
      · exact ⟨_, e⟩
      · exact t1 c z
    · exact t2 c z

/-- what repr can tell -/
structure Fit (d : PyData) : Prop where
  sh : d.showable = true
  dp : d.depth ≤ 60
  sz : d.shown.length ≤ sizeLine

/-! ### repr: the texts of tracked data, item by item. The looks at a dict want to know that it isn't the modules' own: a tracked dict says so itself -/
section
variable {P : Program} {w : World} {H : Hp} {h : Heap}
/-- the text of one datum may be asked -/
abbrev Tells (P : Program) (w : World) (h : Heap) (u : Value) (d : PyData) : Prop := ∃ bs, ReadAtMost h d.depth bs ∧ ReprK P w bs h d.depth u d.shown
theorem tells_all : ∀ {xs : List V} {us : List Value} {ds : List PyData}, Vals xs us → xs.length = ds.length → PyData.showableAll ds = true → (∀ t ∈ PyData.shownAll ds, t.length ≤ sizeLine) →
    (∀ (i : Nat) (v : V) (d : PyData) (u : Value), xs[i]? = some v → ds[i]? = some d → RelV v u → d.showable = true → d.shown.length ≤ sizeLine → Tells P w h u d) →
    ∃ bs, ReadAtMost h (PyData.depthAll ds) bs ∧ ReprAllK P w bs h (PyData.depthAll ds) us (PyData.shownAll ds)
  | _, _, [], .nil, _, _, _, _ => ⟨[], (fun _ z => nomatch z), by simp only [PyData.shownAll]; exact .nil⟩
  | _, _, _ :: _, .nil, l, _, _, _ => nomatch l
  | _, _, [], .cons _ _, l, _, _, _ => nomatch l
  | _, _, d :: ds, .cons r t, l, hs, hz, f => by
    simp only [PyData.showableAll, Bool.and_eq_true] at hs
    simp only [PyData.shownAll, List.mem_cons] at hz
    obtain ⟨b1, q1, k1⟩ := f 0 _ _ _ rfl rfl r hs.1 (hz _ (.inl rfl))
    obtain ⟨b2, q2, k2⟩ := tells_all (ds := ds) t (Nat.succ.inj l) hs.2 (fun t z => hz t (.inr z)) fun i v e u e1 e2 => f (i + 1) v e u (by simpa using e1) (by simpa using e2)
    have m1 : d.depth ≤ PyData.depthAll (d :: ds) := by simp only [PyData.depthAll]; omega
    have m2 : PyData.depthAll ds ≤ PyData.depthAll (d :: ds) := by simp only [PyData.depthAll]; omega
    refine ⟨b1 ++ b2, (q1.mono m1).append (q2.mono m2), ?_⟩
    simp only [PyData.shownAll]
    exact .cons ((k1.more fun b z => List.mem_append_left _ z).level_le m1) (k2.more_le (fun b z => List.mem_append_right _ z) m2)
/-- the keys of a dict are ints and texts -/
theorem tells_keys {P : Program} {w : World} {h : Heap} : ∀ {es : List DictEntry} {vs : List (Key × Value)}, Pairs (mixKind P w) es vs → PyData.showableAll (vs.map fun p => kD p.1) = true → (∀ t ∈ PyData.shownAll (vs.map fun p => kD p.1), t.length ≤ sizeLine) →
    ReprAllK P w [] h 0 (es.map (·.key)) (PyData.shownAll (vs.map fun p => kD p.1))
  | _, _, .nil, _, _ => by simp only [List.map_nil, PyData.shownAll]; exact .nil
  | _, _, .cons (e := e) (kv := kv) k _ t, hs, hz => by
    simp only [List.map_cons, PyData.showableAll, Bool.and_eq_true] at hs
    simp only [List.map_cons, PyData.shownAll, List.mem_cons] at hz
    have ih := tells_keys (P := P) (w := w) (h := h) t hs.2 fun t z => hz t (.inr z)
    simp only [List.map_cons, PyData.shownAll]
    refine .cons ?_ ih
    rcases keyIs_shape (show keyIs kv.1 e.key = true from k) with ⟨i, tk, e1, e2⟩ | ⟨x, tk, e1, e2⟩
    · have a := hs.1
      rw [e1] at a ⊢
      rw [e2]
      simp only [kD, PyData.shown]
      exact .of_is (ReprIs.int tk (by simpa [kD, PyData.showable] using a)) _ _ _
    · have a := hz _ (.inl rfl)
      rw [e1] at a ⊢
      rw [e2]
      simp only [kD, PyData.shown] at a ⊢
      exact .of_is (ReprIs.str x tk a) _ _ _
theorem DV.tells (ok : HOk P w H h) {T : Addr → Prop} {v : V} {d : PyData} (D : DV H T v d) : ∀ {u : Value}, RelV v u → d.showable = true → d.shown.length ≤ sizeLine → Tells P w h u d := by
  induction D with
  | non => intro u r _ _; cases r; exact ⟨[], (fun _ z => nomatch z), by simp only [PyData.shown]; exact .of_is ReprIs.none _ _ _⟩
  | bl b => intro u r _ _; cases r; exact ⟨[], (fun _ z => nomatch z), by simp only [PyData.shown]; exact .of_is (ReprIs.bool b) _ _ _⟩
  | int i => intro u r hs _; obtain ⟨t, rfl⟩ := r; exact ⟨[], (fun _ z => nomatch z), by simp only [PyData.shown]; exact .of_is (ReprIs.int t (by simpa [PyData.showable] using hs)) _ _ _⟩
  | str x => intro u r _ hz; obtain ⟨t, rfl⟩ := r; exact ⟨[], (fun _ z => nomatch z), by simp only [PyData.shown] at hz ⊢; exact .of_is (ReprIs.str x t hz) _ _ _⟩
  | @lst a xs ds t0 e l g ih =>
    intro u r hs hz
    obtain ⟨as, R, _⟩ := (DV.lst t0 e l g).reads ok r
    cases r
    obtain ⟨_, its, n, rv, he⟩ := ok _ _ e
    simp only [PyData.shown] at hz
    obtain ⟨bs, hb, hk⟩ := tells_all rv l (by simpa [PyData.showable] using hs) (fun t z => Nat.le_trans (listText_mem_le z) hz) fun i v d u e1 e2 r' => ih i v d e1 e2 r'
    have na : a ∉ bs := not_mem_of_deeper R (by simp only [PyData.depth]; omega) hb
    refine ⟨a :: bs, ReadAtMost.cons R (by simp only [PyData.depth]; omega) hb, ?_⟩
    simp only [PyData.depth, PyData.shown]
    cases its with
    | nil =>
      have e0 := hk.length_eq
      cases ds with
      | nil => simp only [PyData.shownAll, listText_nil]; exact ReprK.listEmpty he rfl rfl
      | cons d ds => simp [PyData.shownAll] at e0
    | cons x rest => exact ReprK.list he rfl rfl na (by simpa using hk.length_eq) fun i y z => hk.item i y (by simpa using z)
  | @tup a xs ds t0 e l g ih =>
    intro u r hs hz
    obtain ⟨as, R, _⟩ := (DV.tup t0 e l g).reads ok r
    cases r
    obtain ⟨_, its, rv, o, h1, h2, n, h3⟩ := e.rd.ok ok
    simp only [PyData.shown] at hz
    obtain ⟨bs, hb, hk⟩ := tells_all rv l (by simpa [PyData.showable] using hs) (fun t z => Nat.le_trans (tupleText_mem_le z) hz) fun i v d u e1 e2 r' => ih i v d e1 e2 r'
    have na : a ∉ bs := not_mem_of_deeper R (by simp only [PyData.depth]; omega) hb
    refine ⟨a :: bs, ReadAtMost.cons R (by simp only [PyData.depth]; omega) hb, ?_⟩
    simp only [PyData.depth, PyData.shown]
    exact ReprK.tuple h1 h2 h3 na (by simpa using hk)
  | @dct a kvs ds t0 e l g ih =>
    intro u r hs hz
    obtain ⟨as, R, _⟩ := (DV.dct t0 e l g).reads ok r
    cases r
    obtain ⟨_, lo, vs, rv, o, es, ep, h1, h2, h3, _, h5, _⟩ := ok _ _ e
    simp only [PyData.shown] at hz
    obtain ⟨s1, s2⟩ := PyData.showableKv_split _ (by simpa [PyData.showable] using hs)
    have z1 : (((kvs.map fun p => kD p.1).zip ds).map (·.1)) = kvs.map fun p => kD p.1 := List.map_fst_zip (by rw [List.length_map]; omega)
    have z2 : (((kvs.map fun p => kD p.1).zip ds).map (·.2)) = ds := List.map_snd_zip (by rw [List.length_map]; omega)
    have k1 := tells_keys (P := P) (w := w) (h := h) h5 (by rw [kv_keys rv, ← z1]; exact s1) (fun t z => by
      rw [kv_keys rv, ← z1] at z
      obtain ⟨p, hp, hl⟩ := PyData.shownKv_key_le _ t z
      exact Nat.le_trans hl (Nat.le_trans (dictText_mem_le hp) hz))
    obtain ⟨b2, hb2, k2⟩ := tells_all (P := P) (w := w) (h := h) (ds := ds) (kv_vals rv) (by rw [List.length_map]; exact l) (by rw [← z2]; exact s2) (fun t z => by
      rw [← z2] at z
      obtain ⟨p, hp, hl⟩ := PyData.shownKv_val_le _ t z
      exact Nat.le_trans hl (Nat.le_trans (dictText_mem_le hp) hz)) fun i v d u e1 e2 r' => ih i v d e1 e2 r'
    rw [← vals_of_pairs h5] at k2
    rw [kv_keys rv, ← z1] at k1
    have d2 : PyData.depthAll ds ≤ PyData.depthKv ((kvs.map fun p => kD p.1).zip ds) := by
      have q := PyData.depthAll_vals_le ((kvs.map fun p => kD p.1).zip ds)
      rw [z2] at q
      exact q
    have hb := hb2.mono d2
    have na : a ∉ b2 := not_mem_of_deeper R (by simp only [PyData.depth]; omega) hb
    refine ⟨a :: b2, ReadAtMost.cons R (by simp only [PyData.depth]; omega) hb, ?_⟩
    simp only [PyData.depth, PyData.shown, PyData.shownKv_eq]
    rw [z2]
    exact ReprK.dict h1 h2.1 h3 lo na (ReprEntriesK.of_two es.toList _ _ (k1.more_le (fun b z => absurd z List.not_mem_nil) (Nat.zero_le _)) (k2.more_le (fun b z => z) d2))
end

/-- repr(x), x a list, a tuple or a dict -/
def rRepr : List V → Hp → VK → Prop := fun xs H Q => ∃ a d, xs = [.ref a] ∧ DV H Any (.ref a) d ∧ Fit d ∧ (∀ kvs, d ≠ .dict kvs) ∧ Q (.str d.shown) H
theorem call_repr {X : Cx} (hg : X.A.guards = some []) (hu : X.A.units + 64 < cLine) : CallR X (.builtin "repr") rRepr := by
  intro pins s σ H xs us Q I r h
  obtain ⟨a, d, rfl, D, F, nd, q⟩ := h
  obtain ⟨u, rfl, ru⟩ := vals1 r
  cases ru
  have fin : ∀ (h' : Heap) (u : Tok) (tk : Nat), (∀ b o, s.heap.get? b = some o → h'.get? b = some o) → EP X pins σ Q (.str d.shown u) { s with heap := h', toks := tk } := fun h' u tk k => ⟨.str d.shown, H, I.kept (t' := tk) k, ⟨u, rfl⟩, q⟩
  have hF := F.sz
  have hS := F.sh
  have hD := F.dp
  cases D with
  | @lst _ xs ds t0 e l g =>
    obtain ⟨as, R, _⟩ := (DV.lst t0 e l g).reads I.hok rfl
    obtain ⟨_, its, n, rv, he⟩ := I.hok _ _ e
    simp only [PyData.shown] at hF fin
    obtain ⟨bs, hb, hk⟩ := tells_all (P := X.prog) (w := X.w) (h := s.heap) rv l (by simpa [PyData.showable] using hS) (fun t z => Nat.le_trans (listText_mem_le z) hF) fun i v d u e1 e2 r' => (g i v d e1 e2).tells I.hok r'
    have na : a ∉ bs := not_mem_of_deeper R (by simp only [PyData.depth]; omega) hb
    simp only [PyData.depth] at hD
    refine call_repr_slot (by omega) ⟨_, he, rfl⟩ PySem.F.slot_list_repr.toG ?_
    cases its with
    | nil =>
      have e0 := hk.length_eq
      cases ds with
      | nil =>
        simp only [PyData.shownAll, listText_nil] at fin
        exact call_list_repr_empty ⟨_, he, rfl⟩ he rfl ⟨_, _, rfl, fin s.heap _ _ fun _ _ z => z⟩
      | cons d ds => simp [PyData.shownAll] at e0
    | cons x rest => exact call_list_reprK he rfl rfl na (by simpa using hk.length_eq) (fun i y z => hk.item i y (by simpa using z)) hg (fun b _ => Clear.nil b) (by show X.A.units + 1 + _ < cLine; omega) (fun _ _ z => z) (fun h' u tk k => ⟨_, _, rfl, fin h' u tk k⟩) hF
  | @tup _ xs ds t0 e l g =>
    obtain ⟨as, R, _⟩ := (DV.tup t0 e l g).reads I.hok rfl
    obtain ⟨_, its, rv, o, h1, h2, n, h3⟩ := e.rd.ok I.hok
    simp only [PyData.shown] at hF fin
    obtain ⟨bs, hb, hk⟩ := tells_all (P := X.prog) (w := X.w) (h := s.heap) rv l (by simpa [PyData.showable] using hS) (fun t z => Nat.le_trans (tupleText_mem_le z) hF) fun i v d u e1 e2 r' => (g i v d e1 e2).tells I.hok r'
    have na : a ∉ bs := not_mem_of_deeper R (by simp only [PyData.depth]; omega) hb
    simp only [PyData.depth] at hD
    refine call_repr_slot (by omega) ⟨_, h1, h2⟩ PySem.F.slot_tuple_repr ?_
    exact call_tuple_reprK h1 h2 h3 na (by simpa using hk) hg (fun b _ => Clear.nil b) (by show X.A.units + 1 + _ < cLine; omega) (fun _ _ z => z) (fun h' u tk k => ⟨_, _, rfl, fin h' u tk k⟩) hF
  | @dct _ kvs ds t0 e l g => exact absurd rfl (nd _)

/-! ### the sizes -/
/-- how much the data of one depth may hold -/
def bb : Nat → Nat
  | 0 => 20
  | k + 1 => 4 * bb k
theorem bb_le (k : Nat) : 20 ≤ bb k := by
  induction k with
  | zero => exact Nat.le_refl _
  | succ k ih => show 20 ≤ 4 * bb k; omega
/- no tuple, in tuples, is long -/
mutual
def slimD : PyData → Bool
  | .tuple ds => decide (ds.length ≤ 60) && slimAll ds
  | _ => true
def slimAll : List PyData → Bool
  | [] => true
  | d :: ds => slimD d && slimAll ds
end
theorem slim_mem {d : PyData} : ∀ {ds : List PyData}, slimAll ds = true → d ∈ ds → slimD d = true
  | [], _, h => nomatch h
  | e :: ds, s, h => by
    simp only [slimAll, Bool.and_eq_true] at s
    rcases List.mem_cons.mp h with rfl | h
    · exact s.1
    · exact slim_mem s.2 h
structure Tame (k : Nat) (d : PyData) : Prop where
  sh : d.showable = true
  lv : d.leavesShort 200 = true
  dp : d.depth ≤ 2 * k + 2
  bk : d.bulk ≤ bb k
  sl : slimD d = true
theorem Tame.up {k : Nat} {d : PyData} (t : Tame k d) : Tame (k + 1) d := ⟨t.sh, t.lv, by have := t.dp; omega, by have := t.bk; have := bb_le k; show _ ≤ 4 * bb k; omega, t.sl⟩

theorem all_of {k : Nat} : ∀ {ds : List PyData}, (∀ d ∈ ds, Tame k d) → PyData.showableAll ds = true ∧ PyData.leavesShortAll 200 ds = true ∧ PyData.depthAll ds ≤ 2 * k + 2 ∧ PyData.bulkAll ds ≤ ds.length * (bb k + 1)
  | [], _ => ⟨by simp only [PyData.showableAll], by simp only [PyData.leavesShortAll], by simp only [PyData.depthAll]; omega, by simp only [PyData.bulkAll]; omega⟩
  | d :: ds, h => by
    obtain ⟨h1, h2, h3, h4⟩ := all_of (ds := ds) fun e z => h e (List.mem_cons_of_mem _ z)
    have t := h d (List.mem_cons_self ..)
    refine ⟨by simp only [PyData.showableAll, t.sh, h1, Bool.and_self], by simp only [PyData.leavesShortAll, t.lv, h2, Bool.and_self], ?_, ?_⟩
    · have := t.dp
      simp only [PyData.depthAll]
      omega
    · have := t.bk
      simp only [PyData.bulkAll, List.length_cons, Nat.add_mul, Nat.one_mul]
      omega
theorem slim_of {k : Nat} : ∀ {ds : List PyData}, (∀ d ∈ ds, Tame k d) → slimAll ds = true
  | [], _ => by simp only [slimAll]
  | d :: ds, h => by simp only [slimAll, (h d (List.mem_cons_self ..)).sl, slim_of fun e z => h e (List.mem_cons_of_mem _ z), Bool.and_self]
theorem slim_ints : ∀ ns : List Int, slimAll (ns.map PyData.int) = true
  | [] => by simp only [List.map_nil, slimAll]
  | i :: ns => by simp only [List.map_cons, slimAll, slimD, slim_ints ns, Bool.and_self]
theorem fit_of {d : PyData} (h1 : d.showable = true) (h2 : d.leavesShort 200 = true) (h3 : d.depth ≤ 60) (h4 : d.bulk ≤ 60000) : Fit d := ⟨h1, h3, by
  have := PyData.shown_le_bulk 200 (by decide) d h2
  rw [sizeLine_eq]
  omega⟩
theorem tame_list {k : Nat} {ds : List PyData} (h : ∀ d ∈ ds, Tame k d) (l : ds.length ≤ 3) : Tame (k + 1) (.list ds) := by
  obtain ⟨h1, h2, h3, h4⟩ := all_of h
  have := bb_le k
  have q : ds.length * (bb k + 1) ≤ 3 * (bb k + 1) := Nat.mul_le_mul_right _ l
  exact ⟨by simp only [PyData.showable, h1], by simp only [PyData.leavesShort, h2], by simp only [PyData.depth]; omega, by simp only [PyData.bulk]; show _ ≤ 4 * bb k; omega, by simp only [slimD]⟩
theorem tame_tuple {k : Nat} {ds : List PyData} (h : ∀ d ∈ ds, Tame k d) (l : ds.length ≤ 3) : Tame (k + 1) (.tuple ds) := by
  obtain ⟨h1, h2, h3, h4⟩ := all_of h
  have := bb_le k
  have q : ds.length * (bb k + 1) ≤ 3 * (bb k + 1) := Nat.mul_le_mul_right _ l
  exact ⟨by simp only [PyData.showable, h1], by simp only [PyData.leavesShort, h2], by simp only [PyData.depth]; omega, by simp only [PyData.bulk]; show _ ≤ 4 * bb k; omega, by simp only [slimD, slim_of h, Bool.and_true]; exact decide_eq_true (by omega)⟩
/-- a number of items, as a datum -/
theorem small_int {n : Nat} (h : n ≤ 3) : PyData.showable (.int n) = true ∧ PyData.leavesShort 200 (.int n) = true := by
  have : n = 0 ∨ n = 1 ∨ n = 2 ∨ n = 3 := by omega
  rcases this with rfl | rfl | rfl | rfl <;> decide +kernel
theorem tame_dict {k : Nat} {ds : List PyData} (h : ∀ d ∈ ds, Tame k d) (l : ds.length ≤ 3) : Tame (k + 1) (.dict [(.str "key", .list ds), (.int 1, .int ds.length)]) := by
  obtain ⟨h1, h2, h3, h4⟩ := all_of h
  have := bb_le k
  have q : ds.length * (bb k + 1) ≤ 3 * (bb k + 1) := Nat.mul_le_mul_right _ l
  have e1 : PyData.showable (.int 1) = true := by decide +kernel
  have e2 : PyData.leavesShort 200 (.int 1) = true := by decide +kernel
  have e3 : PyData.leavesShort 200 (.str "key") = true := by decide +kernel
  have e4 : PyData.bulk (.str "key") = 3 := by decide +kernel
  obtain ⟨e5, e6⟩ := small_int l
  refine ⟨?_, ?_, ?_, ?_, by simp only [slimD]⟩
  · simp only [PyData.showable, PyData.showableKv, h1, Bool.and_true, Bool.true_and] at e1 e5 ⊢
    rw [e1, e5] <;> rfl
  · simp only [PyData.leavesShort, PyData.leavesShortKv, h2, Bool.and_true, Bool.true_and] at e2 e3 e6 ⊢
    rw [e2, e3, e6] <;> rfl
  · simp only [PyData.depth, PyData.depthKv]
    omega
  · simp only [PyData.bulk] at e4
    simp only [PyData.bulk, PyData.bulkKv]
    show _ ≤ 4 * bb k
    omega
theorem tame0 {d : PyData} (h : d = .list [] ∨ d = .tuple [] ∨ d = .dict [(.str "key", .list []), (.int 1, .int 0)]) (k : Nat) : Tame k d := by
  have t : Tame 0 d := by
    rcases h with rfl | rfl | rfl
    · exact ⟨by decide +kernel, by decide +kernel, by decide +kernel, by decide +kernel, by decide +kernel⟩
    · exact ⟨by decide +kernel, by decide +kernel, by decide +kernel, by decide +kernel, by decide +kernel⟩
    · exact ⟨by decide +kernel, by decide +kernel, by decide +kernel, by decide +kernel, by decide +kernel⟩
  induction k with
  | zero => exact t
  | succ k ih => exact ih.up
/-- as many times the same, in a list -/
theorem fit_many {k n : Nat} {d : PyData} (t : Tame k d) (h : n * (bb k + 1) ≤ 60000) (hk : k ≤ 20) : Fit (.list (List.replicate n d)) := by
  obtain ⟨h1, h2, h3, h4⟩ := all_of (k := k) (ds := List.replicate n d) fun e z => by rw [(List.mem_replicate.mp z).2]; exact t
  rw [List.length_replicate] at h4
  exact fit_of (by simp only [PyData.showable, h1]) (by simp only [PyData.leavesShort, h2]) (by simp only [PyData.depth]; omega) (by simp only [PyData.bulk]; omega)
end K0

set_option Elab.async false
set_option linter.all false
set_option maxRecDepth 100000
set_option maxHeartbeats 4000000
/-! The deck of the draws. -/
namespace K0
open PySem PySem.Spec PyProof.Rows L2

def top (i : Nat) : Stmt := PySem.Challenge.pw_oncecrossed_k04_lots_and_cuts.main.body.getD i (.Pass ⟨0, 0, 0, 0⟩)
abbrev sDeck : Stmt := top 29
abbrev sDraw : Stmt := top 30
abbrev sPick : Stmt := top 31
abbrev sAny : Stmt := top 43

/-- the deck's dict -/
def dkv (c : Addr) (m n : Int) : List (Key × V) := [(.inr "cells", .ref c), (.inr "mixed", .int m), (.inr "draws", .int n)]
theorem nCM : ¬ (Sum.inr ("cells" : Str) : Key) = Sum.inr ("mixed" : Str) := by decide +kernel
theorem nCD : ¬ (Sum.inr ("cells" : Str) : Key) = Sum.inr ("draws" : Str) := by decide +kernel
theorem nMD : ¬ (Sum.inr ("mixed" : Str) : Key) = Sum.inr ("draws" : Str) := by decide +kernel
theorem v_cells {c : Addr} {m n : Int} : valV (dkv c m n) (Sum.inr "cells") = some (.ref c) := valV_pos rfl
theorem v_mixed {c : Addr} {m n : Int} : valV (dkv c m n) (Sum.inr "mixed") = some (.int m) := (valV_neg nCM).trans (valV_pos rfl)
theorem v_draws {c : Addr} {m n : Int} : valV (dkv c m n) (Sum.inr "draws") = some (.int n) := (valV_neg nCD).trans ((valV_neg nMD).trans (valV_pos rfl))
theorem p_draws {c : Addr} {m n k : Int} : putK (dkv c m n) (Sum.inr "draws") (.int k) = dkv c m k := by
  have e : ((dkv c m n).any fun kv => decide (kv.1 = Sum.inr ("draws" : Str))) = true := by rw [valV_any, v_draws] <;> rfl
  unfold putK
  rw [if_pos e]
  show [_, _, _] = [_, _, _]
  simp only [if_neg nCD, if_neg nMD, if_true]

/-- a deck stands at p, its cells at c -/
structure Deck (H : Hp) (p c : Addr) : Prop where
  ex : ∃ (xs : List Int) (m n : Int), H p = some (.dK (dkv c m n)) ∧ H c = some (.lst (xs.map V.int)) ∧ xs.length ≤ 63
/-- all but the deck is kept -/
def Kp (p c : Addr) (H H' : Hp) : Prop := ∀ b o, b ≠ p → b ≠ c → H b = some o → H' b = some o
theorem Kp.trans {p c : Addr} {H H1 H2 : Hp} (a : Kp p c H H1) (b : Kp p c H1 H2) : Kp p c H H2 := fun d o h1 h2 h => b d o h1 h2 (a d o h1 h2 h)
theorem kp_put {p c b : Addr} {H : Hp} {o : HO} (hb : b = p ∨ b = c) : Kp p c H (upd H b o) := fun a u h1 h2 h => by
  rw [upd_ne (fun z => hb.elim (fun y => h1 (z.trans y)) fun y => h2 (z.trans y))]
  exact h
theorem kp_new {p c l : Addr} {H : Hp} {o : HO} (hl : H l = none) : Kp p c H (upd H l o) := fun a u _ _ h => by
  rw [upd_ne (ne_of_none h hl)]
  exact h
theorem Deck.new {p c l : Addr} {H : Hp} {o : HO} (D : Deck H p c) (hl : H l = none) : Deck (upd H l o) p c := by
  obtain ⟨xs, m, n, h1, h2, h3⟩ := D.ex
  exact ⟨xs, m, n, by rw [upd_ne (ne_of_none h1 hl)]; exact h1, by rw [upd_ne (ne_of_none h2 hl)]; exact h2, h3⟩
theorem Deck.put {p c b : Addr} {H : Hp} {o : HO} (D : Deck H p c) (h1 : b ≠ p) (h2 : b ≠ c) : Deck (upd H b o) p c := by
  obtain ⟨xs, m, n, e1, e2, e3⟩ := D.ex
  exact ⟨xs, m, n, by rw [upd_ne h1.symm]; exact e1, by rw [upd_ne h2.symm]; exact e2, e3⟩

/-- draw: a number below n, from the deck -/
def spDraw : Sp := fun vs H Q _ => ∃ (p c : Addr) (n : Int), vs = [.ref p, .int n] ∧ Deck H p c ∧ 1 ≤ n ∧ n < 1000000 ∧ ∀ (r : Int) (H' : Hp), 0 ≤ r → r < n → Deck H' p c → Kp p c H H' → Q (.int r) H'

structure Bi (mg : Str → Option Value) : Prop where
  int : mg "int" = none
  max : mg "max" = none
  len : mg "len" = none
  list : mg "list" = none
  range : mg "range" = none
  tuple : mg "tuple" = none

theorem ints_last {xs : List Int} (h : xs ≠ []) : ∃ z, (xs.map V.int)[(xs.map V.int).length - 1]? = some (V.int z) ∧ (xs.map V.int).dropLast = xs.dropLast.map V.int := by
  refine ⟨xs.getLast h, ?_, ?_⟩
  · rw [List.length_map, List.getElem?_map]
    have := List.getLast?_eq_getElem? (l := xs)
    rw [← this, List.getLast?_eq_some_getLast h] <;> rfl
  · rw [List.map_dropLast]
theorem ints_dp {K : PySem.W.Frag} {H : Hp} : ∀ xs : List Int, DpAll K H (xs.map V.int) (xs.map PyData.int)
  | [] => .nil
  | x :: xs => .cons (.int x) (ints_dp xs)
theorem ints_shaped (xs : List Int) : SeqAt.shaped (.list (xs.map PyData.int)) = true := by
  have h : ∀ ys : List Int, PyData.canLayAll0 (ys.map PyData.int) = true ∧ PyData.depthAll (ys.map PyData.int) = 0 := fun ys => by
    induction ys with
    | nil => exact ⟨by simp [PyData.canLayAll0], by simp [PyData.depthAll]⟩
    | cons y ys ih => exact ⟨by simp [PyData.canLayAll0, PyData.canLay0, ih.1], by simp [PyData.depthAll, PyData.depth, ih.2]⟩
  show (PyData.canLay0 _ && decide (PyData.depth _ ≤ 64)) = true
  rw [Bool.and_eq_true]
  exact ⟨by simp only [PyData.canLay0]; exact (h xs).1, decide_eq_true (by simp only [PyData.depth, (h xs).2]; omega)⟩
/-- what was tracked is tracked -/
theorem Kp.dom {p c : Addr} {H H' : Hp} (k : Kp p c H H') (D : Deck H' p c) {b : Addr} (h : H' b = none) : H b = none := by
  obtain ⟨xs, m, n, e1, e2, _⟩ := D.ex
  cases e : H b with
  | none => rfl
  | some o => rw [k b o (ne_of_none e1 h).symm (ne_of_none e2 h).symm e] at h; cases h
theorem Deck.inp {H : Hp} {p c : Addr} (D : Deck H p c) {b : Addr} (h : H b = none) : b ≠ p ∧ b ≠ c := by
  obtain ⟨xs, m, n, e1, e2, _⟩ := D.ex
  exact ⟨(ne_of_none e1 h).symm, (ne_of_none e2 h).symm⟩
theorem fmod_in {a b : Int} (h : 0 < b) : 0 ≤ a.fmod b ∧ a.fmod b < b := ⟨Int.fmod_nonneg_of_pos a h, Int.fmod_lt_of_pos a h⟩

section
variable {P : Program} {w : World} {K : PySem.W.Frag} {mg : Str → Option Value} {base : Heap}
theorem scDraw : FnScope ["_law_deck_here", "_law_many", "_law_number", "_law_cell"] ["_law_deck_here", "_law_many"] (defScope sDraw) := ⟨rfl, rfl, rfl, by decide +kernel, rfl, by decide +kernel, by decide +kernel⟩
theorem ok_draw {f : Addr} {fd : FuncData} (F : Fun K "_law_draw" "_law_draw" sDraw f fd) (T : Bi mg) : FnOk P w K mg base CX0 1 f fd ["_law_deck_here", "_law_many"] spDraw := by
  refine F.ok scDraw (fun vs H Q E h => ?_) (fun cdv A outer s H vs Q E hr h => ?_)
  · obtain ⟨p, c, n, rfl, _⟩ := h
    rfl
  · obtain ⟨p, c, n, rfl, D, n1, n2, k⟩ := h
    have hu := hu_of hr
    have hu6 : A.units + 3 + 64 < cLine := by have := hr.un; have e : (A.deeper (envOfC "_law_draw" (defScope sDraw) s.heap.objs.size f cdv)).units = A.units + 3 := rfl; omega
    obtain ⟨xs, m, j, h1, h2, h3⟩ := D.ex
    have npc : p ≠ c := ne_of h1 h2 (by intro z; cases z)
    refine ⟨_, pss_cons (ps_dput hu (pv 0) pe_str (pe_op op_add (pe_dget hu (pv 0) pe_str (fun _ _ => rfl)) pe_int) rfl)
      <| pss_cons (ps_set (i := 2) scDraw.nd rfl (.inl rfl) (pe_op op_add (pe_dget hu (pv 0) pe_str (fun _ _ => rfl)) (pe_op op_mul pe_int (pe_dget hu (pv 0) pe_str (fun _ _ => rfl)))))
      <| pss_cons (ps_if (pt_cmpR (op_neD hu6) (pe_dget hu (pv 0) pe_str (fun _ _ => rfl)) (pe_lst pa_nil) (nomark _))
          (pss_cons (ps_set (i := 3) scDraw.nd rfl (.inl rfl) (pe_bm0 PySem.F.plainAttrs_list PySem.F.slot_list_pop PySem.F.type_list_pop mt_pop (pe_dget hu (pv 0) pe_str (fun _ _ => rfl))))
          <| pss_cons (ps_if (pt_cmpR op_ge (pv 3) (pe_op op_pow pe_int pe_int) (nomark _))
              (pss_cons (ps_expr (pe_bm PySem.F.plainAttrs_list PySem.F.slot_list_append PySem.F.type_list_append mt_append (pe_dget hu (pv 0) pe_str (fun _ _ => rfl))
                (pa_cons (pe_op op_fdivN (pv 3) (pe_callB (call_max2 rfl) (by rfl) T.max (by decide +kernel) (pa_cons pe_int (pa_cons (pv 1) pa_nil)))) pa_nil)))
              <| pss_one (ps_ret (pe_op op_modN (pe_callTy call_int1 (by rfl) T.int (by decide +kernel) (pa_cons (pv 3) pa_nil)) (pv 1)))) pss_nil)
          <| pss_one (ps_set (i := 2) scDraw.nd rfl (.inl rfl) (pe_op op_add (pv 2) (pe_op op_modN (pe_callTy call_int1 (by rfl) T.int (by decide +kernel) (pa_cons (pv 3) pa_nil)) pe_int)))) pss_nil)
      <| pss_cons (ps_set (i := 2) scDraw.nd rfl (.inl rfl) (pe_op op_modN (pe_callTy call_int1 (by rfl) T.int (by decide +kernel) (pa_cons (pe_op op_add (pe_op op_mul (pv 2) pe_int) pe_int) pa_nil)) pe_int))
      <| pss_cons (ps_set (i := 2) scDraw.nd rfl (.inl rfl) (pe_op op_modN (pe_callTy call_int1 (by rfl) T.int (by decide +kernel) (pa_cons (pe_op op_add (pe_op op_add (pe_op op_mul (pv 2) (pv 2)) (pe_op op_mul pe_int (pe_dget hu (pv 0) pe_str (fun _ _ => rfl)))) pe_int) pa_nil)) pe_int))
      <| pss_cons (ps_set (i := 2) scDraw.nd rfl (.inl rfl) (pe_op op_modN (pe_callTy call_int1 (by rfl) T.int (by decide +kernel) (pa_cons (pe_op op_mul (pv 2) pe_int) pa_nil)) pe_int))
      <| pss_one (ps_ret (pe_op op_modN (pe_callTy call_int1 (by rfl) T.int (by decide +kernel) (pa_cons (pe_op op_fdivN (pv 2) pe_int) pa_nil)) (pv 1))), ?_⟩
    have g1 : DGet H p (.str "draws") (some (.int j)) := v_draws ▸ DGet.k (k := Sum.inr "draws") h1
    have q1 : DPut H p (.str "draws") (.int (j + 1)) (upd H p (.dK (dkv c m (j + 1)))) := by
      have z := DPut.k (k := Sum.inr "draws") (v := .int (j + 1)) h1 (show (3 : Nat) < sizeLine by rw [sizeLine_eq]; decide)
      rw [p_draws] at z
      exact z
    refine ⟨_, rfl, p, _, rfl, g1, _, _, rfl, rfl, _, rfl, p, _, rfl, q1, ?_⟩
    generalize hH1 : upd H p (.dK (dkv c m (j + 1))) = H1
    have e1 : H1 p = some (.dK (dkv c m (j + 1))) := by rw [← hH1]; exact upd_same
    have e2 : H1 c = some (.lst (xs.map V.int)) := by rw [← hH1, upd_ne npc.symm]; exact h2
    have K1 : Kp p c H H1 := by rw [← hH1]; exact kp_put (.inl rfl)
    have D1 : Deck H1 p c := ⟨xs, m, j + 1, e1, e2, h3⟩
    have gm : DGet H1 p (.str "mixed") (some (.int m)) := v_mixed ▸ DGet.k (k := Sum.inr "mixed") e1
    have gd : ∀ {H' : Hp}, H' p = some (.dK (dkv c m (j + 1))) → DGet H' p (.str "draws") (some (.int (j + 1))) := fun e => v_draws ▸ DGet.k (k := Sum.inr "draws") e
    have gc : ∀ {H' : Hp}, H' p = some (.dK (dkv c m (j + 1))) → DGet H' p (.str "cells") (some (.ref c)) := fun e => v_cells ▸ DGet.k (k := Sum.inr "cells") e
    refine ⟨_, rfl, p, _, rfl, gm, _, rfl, p, _, rfl, gd e1, _, _, rfl, rfl, .inl ⟨by decide, by decide⟩, _, _, rfl, rfl, ?_⟩
    refine ⟨_, rfl, p, _, rfl, gc e1, (by show 0 ≤ sizeLine; exact Nat.zero_le _), fun l hl => ?_⟩
    have e1l : (upd H1 l (.lst [])) p = some (.dK (dkv c m (j + 1))) := by rw [upd_ne (ne_of_none e1 hl)]; exact e1
    have e2l : (upd H1 l (.lst [])) c = some (.lst (xs.map V.int)) := by rw [upd_ne (ne_of_none e2 hl)]; exact e2
    have K2 : Kp p c H (upd H1 l (.lst [])) := K1.trans (kp_new hl)
    refine ⟨.list (xs.map PyData.int), .list [], Dp.lst (SqL.of e2l) (ints_dp xs), Dp.lst (SqL.of upd_same) .nil, ints_shaped xs, by decide, _, rfl, ?_⟩
    by_cases hx : xs = []
    · subst hx
      refine iteF ?_
      refine ⟨_, rfl, _, _, rfl, rfl, .inr ⟨by decide, by decide⟩, _, _, rfl, rfl, .inl ⟨_, rfl, _, _, rfl, rfl, (by show ¬ ((_ : Int) = 0); decide), ?_⟩⟩
      refine ⟨_, rfl, _, rfl, _, _, rfl, rfl, .inl ⟨Int.lt_of_lt_of_le (by decide) (fmod_in (by decide)).1, Int.lt_trans (fmod_in (by decide)).2 (by decide)⟩, _, rfl, p, _, rfl, gd e1l, _, _, rfl, rfl, .inl ⟨by decide, by decide⟩, _, _, rfl, rfl, _, _, rfl, rfl, .inl ⟨_, rfl, _, _, rfl, rfl, (by show ¬ ((_ : Int) = 0); decide), ?_⟩⟩
      refine ⟨_, rfl, _, _, rfl, rfl, .inr ⟨by decide, by decide⟩, .inl ⟨_, rfl, _, _, rfl, rfl, (by show ¬ ((_ : Int) = 0); decide), ?_⟩⟩
      exact ⟨_, rfl, _, _, rfl, rfl, ⟨by decide, by decide⟩, .inl ⟨_, rfl, _, rfl, _, _, rfl, rfl, by omega, k _ _ (fmod_in (by omega)).1 (fmod_in (by omega)).2 (D1.new hl) K2⟩⟩
    · have ev : PyData.eqv (.list (xs.map PyData.int)) (.list []) = false := by
        cases xs with
        | nil => exact absurd rfl hx
        | cons a r => simp [PyData.eqv, PyData.eqvAll]
      rw [ev]
      refine iteT ?_
      obtain ⟨z, z1, z2⟩ := ints_last hx
      refine ⟨_, rfl, p, _, rfl, gc e1l, .inl ⟨rfl, _, SqL.of e2l⟩, c, _, _, rfl, rfl, e2l, z1, ?_⟩
      rw [z2]
      generalize hH3 : upd (upd H1 l (.lst [])) c (.lst (xs.dropLast.map V.int)) = H3
      have e13 : H3 p = some (.dK (dkv c m (j + 1))) := by rw [← hH3, upd_ne npc]; exact e1l
      have e23 : H3 c = some (.lst (xs.dropLast.map V.int)) := by rw [← hH3]; exact upd_same
      have K3 : Kp p c H H3 := by rw [← hH3]; exact K2.trans (kp_put (.inr rfl))
      have l3 : xs.dropLast.length ≤ 62 := by rw [List.length_dropLast]; omega
      have D3 : Deck H3 p c := ⟨xs.dropLast, m, j + 1, e13, e23, by omega⟩
      refine ⟨_, rfl, _, _, rfl, rfl, ⟨by decide, by decide, by decide⟩, _, _, rfl, rfl, _, rfl, ?_⟩
      refine ite2 (fun _ => ?_) (fun _ => ?_)
      · refine ⟨_, rfl, p, _, rfl, gc e13, .inl ⟨rfl, _, SqL.of e23⟩, _, rfl, _, rfl, _, _, rfl, _, _, rfl, rfl, ⟨?_, ?_⟩, c, _, _, rfl, rfl, e23, ?_, ?_⟩
        · split <;> omega
        · split <;> omega
        · rw [List.length_map, sizeLine_eq]; omega
        · have D4 : Deck (upd H3 c (.lst (xs.dropLast.map V.int ++ [V.int (z.fdiv (if n > 2 then n else 2))]))) p c :=
            ⟨xs.dropLast ++ [z.fdiv (if n > 2 then n else 2)], m, j + 1, by rw [upd_ne npc]; exact e13, by rw [upd_same, List.map_append] <;> rfl, by rw [List.length_append]; show _ + 1 ≤ 63; omega⟩
          exact ⟨_, rfl, .inl ⟨_, rfl, _, rfl, _, _, rfl, rfl, by omega, k _ _ (fmod_in (by omega)).1 (fmod_in (by omega)).2 D4 (K3.trans (kp_put (.inr rfl)))⟩⟩
      · refine ⟨_, rfl, _, rfl, .inl ⟨_, rfl, _, _, rfl, rfl, (by show ¬ ((_ : Int) = 0); decide), _, _, rfl, rfl, ?_⟩⟩
        refine ⟨_, rfl, _, _, rfl, rfl, .inr ⟨by decide, by decide⟩, _, _, rfl, rfl, .inl ⟨_, rfl, _, _, rfl, rfl, (by show ¬ ((_ : Int) = 0); decide), ?_⟩⟩
        refine ⟨_, rfl, _, rfl, _, _, rfl, rfl, .inl ⟨Int.lt_of_lt_of_le (by decide) (fmod_in (by decide)).1, Int.lt_trans (fmod_in (by decide)).2 (by decide)⟩, _, rfl, p, _, rfl, gd e13, _, _, rfl, rfl, .inl ⟨by decide, by decide⟩, _, _, rfl, rfl, _, _, rfl, rfl, .inl ⟨_, rfl, _, _, rfl, rfl, (by show ¬ ((_ : Int) = 0); decide), ?_⟩⟩
        refine ⟨_, rfl, _, _, rfl, rfl, .inr ⟨by decide, by decide⟩, .inl ⟨_, rfl, _, _, rfl, rfl, (by show ¬ ((_ : Int) = 0); decide), ?_⟩⟩
        exact ⟨_, rfl, _, _, rfl, rfl, ⟨by decide, by decide⟩, .inl ⟨_, rfl, _, rfl, _, _, rfl, rfl, by omega, k _ _ (fmod_in (by omega)).1 (fmod_in (by omega)).2 D3 K3⟩⟩

/-- a def of the text that others call -/
structure Dn (P : Program) (w : World) (K : PySem.W.Frag) (mg : Str → Option Value) (base : Heap) (name : Str) (k : Nat) (ps : List Str) (sp : Sp) (f : Addr) (fd : FuncData) : Prop where
  g : mg name = some (.ref f)
  kp : PySem.W.keepIn K (.ref f) = true
  b : Binds K fd ps []
  ok : FnOk P w K mg base CX0 k f fd ps sp

/-- pick: an item of a list that stands beside the deck -/
def spPick : Sp := fun vs H Q _ => ∃ (p c l : Addr) (xs : List V), vs = [.ref p, .ref l] ∧ Deck H p c ∧ H l = some (.lst xs) ∧ l ≠ p ∧ l ≠ c ∧ 1 ≤ xs.length ∧ xs.length < 1000 ∧
  ∀ (i : Nat) (v : V) (H' : Hp), xs[i]? = some v → Deck H' p c → Kp p c H H' → Q v H'
theorem scPick : FnScope ["_law_deck_here", "_law_some"] ["_law_deck_here", "_law_some"] (defScope sPick) := ⟨rfl, rfl, rfl, by decide +kernel, rfl, by decide +kernel, by decide +kernel⟩
theorem ok_pick {f fD : Addr} {fd fdD : FuncData} (F : Fun K "_law_pick" "_law_pick" sPick f fd) (T : Bi mg) (G : Dn P w K mg base "_law_draw" 1 ["_law_deck_here", "_law_many"] spDraw fD fdD) :
    FnOk P w K mg base CX0 2 f fd ["_law_deck_here", "_law_some"] spPick := by
  refine F.ok scPick (fun vs H Q E h => ?_) (fun cdv A outer s H vs Q E hr h => ?_)
  · obtain ⟨p, c, l, xs, rfl, _⟩ := h
    rfl
  · obtain ⟨p, c, l, xs, rfl, D, hl, lp, lc, n1, n2, k⟩ := h
    refine ⟨_, pss_one (ps_ret (pe_ix ix_list (pv 1) (pe_call G.ok hr rfl G.g G.kp G.b .nil pass0
      (pa_cons (pv 0) (pa_cons (pe_callB call_len_seq (by rfl) T.len PySem.boot_len (pa_cons (pv 1) pa_nil)) pa_nil))) (fun _ _ => rfl))), ?_⟩
    refine ⟨_, rfl, _, rfl, _, rfl, l, _, rfl, .inl (SqL.of hl), p, c, _, rfl, D, by omega, by omega, fun r H' r0 r1 D' K' => ?_⟩
    have hl' := K' l _ lp lc hl
    obtain ⟨i, rfl⟩ : ∃ i : Nat, r = i := ⟨r.toNat, by omega⟩
    have hi : i < xs.length := by omega
    exact ⟨l, _, _, _, rfl, rfl, SqL.of hl', atI_nat (List.getElem?_eq_getElem hi), k i _ H' (List.getElem?_eq_getElem hi) D' K'⟩
end
end K0

set_option Elab.async false
set_option linter.all false
set_option maxRecDepth 100000
set_option maxHeartbeats 4000000
/-! The deck made; any value. -/
namespace K0
open PySem PySem.Spec PyProof.Rows L2

theorem cut63 (ns : List Int) : cutV (ns.map V.int) none (some 63) = (ns.take 63).map V.int := by
  unfold cutV
  rw [HT.sIx_none, show (some (63 : Int)) = some ((63 : Nat) : Int) from rfl, HT.sIx_nat, List.drop_zero, Nat.sub_zero, List.length_map, List.map_take]
  by_cases h : 63 ≤ ns.length
  · rw [Nat.min_eq_left h]
  · rw [Nat.min_eq_right (by omega), List.take_of_length_le (by rw [List.length_map]; exact Nat.le_refl _), List.take_of_length_le (by rw [List.length_map]; omega)]
theorem deck_kvs {c : Addr} {m : Int} : mergeK [] [(Sum.inr ("cells" : Str), V.ref c), (Sum.inr ("mixed" : Str), V.int m), (Sum.inr ("draws" : Str), V.int 0)] = dkv c m 0 := by
  have e1 : putK ([] : List (Key × V)) (Sum.inr ("cells" : Str)) (V.ref c) = [(Sum.inr ("cells" : Str), V.ref c)] := putK_new _ rfl
  have e2 : putK [(Sum.inr ("cells" : Str), V.ref c)] (Sum.inr ("mixed" : Str) : Key) (V.int m) = [(Sum.inr ("cells" : Str), V.ref c)] ++ [(Sum.inr ("mixed" : Str), V.int m)] := putK_new _ ((valV_neg nCM).trans rfl)
  have e3 : putK ([(Sum.inr ("cells" : Str), V.ref c)] ++ [(Sum.inr ("mixed" : Str), V.int m)]) (Sum.inr ("draws" : Str) : Key) (V.int 0) = ([(Sum.inr ("cells" : Str), V.ref c)] ++ [(Sum.inr ("mixed" : Str), V.int m)]) ++ [(Sum.inr ("draws" : Str), V.int 0)] :=
    putK_new _ ((valV_neg nCD).trans ((valV_neg nMD).trans rfl))
  unfold mergeK
  simp only [List.foldl_cons, List.foldl_nil]
  rw [e1, e2, e3]
  rfl
theorem int_of {ns : List Int} {i : Nat} {y : V} (h : (ns.map V.int)[i]? = some y) : ∃ z, y = V.int z := by
  rw [List.getElem?_map] at h
  cases e : ns[i]? with
  | none => rw [e] at h; cases h
  | some z => rw [e] at h; exact ⟨z, (Option.some.inj h).symm⟩

/-- the deck of a script -/
def spDeck (K : PySem.W.Frag) : Sp := fun vs H Q _ => ∃ (a : Addr) (ns : List Int), vs = [.ref a] ∧ SqL K H a (ns.map V.int) ∧ ∀ (p c : Addr) (H' : Hp), Deck H' p c → Same H H' → H p = none → H c = none → Q (.ref p) H'
section
variable {P : Program} {w : World} {K : PySem.W.Frag} {mg : Str → Option Value} {base : Heap}
theorem scDeck : FnScope ["_law_script", "_law_mixed", "_law_cell"] ["_law_script"] (defScope sDeck) := ⟨rfl, rfl, rfl, by decide +kernel, rfl, by decide +kernel, by decide +kernel⟩
theorem same_new {H : Hp} {l : Addr} {o : HO} (h : H l = none) : Same H (upd H l o) := fun b u e => by rw [upd_ne (ne_of_none e h)]; exact e
theorem ok_deck {f : Addr} {fd : FuncData} (F : Fun K "_law_deck" "_law_deck" sDeck f fd) (T : Bi mg) : FnOk P w K mg base CX0 1 f fd ["_law_script"] (spDeck K) := by
  refine F.ok scDeck (fun vs H Q E h => ?_) (fun cdv A outer s H vs Q E hr h => ?_)
  · obtain ⟨a, ns, rfl, _⟩ := h
    rfl
  · obtain ⟨a, ns, rfl, hS, k⟩ := h
    refine ⟨_, pss_cons (ps_set (i := 1) scDeck.nd rfl (.inl rfl) pe_int)
      <| pss_cons (ps_for PassesOwn.never rfl (pi_list (pe_slice sl_list (pv 0) po_none (po_some pe_int))) (pg_name (i := 2) scDeck.nd rfl (.inl rfl))
          (pss_one (ps_set (i := 1) scDeck.nd rfl (.inl rfl) (pe_op op_modN (pe_callTy call_int1 (by rfl) T.int (by decide +kernel) (pa_cons (pe_op op_add (pe_op op_add (pe_op op_mul (pv 1) pe_int)
            (pe_op op_modN (pe_callTy call_int1 (by rfl) T.int (by decide +kernel) (pa_cons (pv 2) pa_nil)) pe_int)) pe_int) pa_nil)) pe_int))))
      <| pss_one (ps_ret (pe_disp (pps_cons pe_str (pe_revL (pe_callTy call_list_of (by rfl) T.list (by decide +kernel) (pa_cons (pe_slice sl_list (pv 0) po_none (po_some pe_int)) pa_nil)))
          (pps_cons pe_str (pv 1) (pps_cons pe_str pe_int pps_nil))) rfl rfl (fun z => nomatch z) (by decide))), ?_⟩
    refine ⟨_, rfl, _, rfl, a, _, rfl, hS, fun p0 hp0 => ?_⟩
    rw [cut63]
    have s0 : Same H (upd H p0 (.lst ((ns.take 63).map V.int))) := same_new hp0
    refine ⟨p0, rfl, ⟨_, SqL.of upd_same⟩, for_list (K := K) (a := p0) (xs := (ns.take 63).map V.int) (fun i σ H2 => ∃ (m : Int) (v : Option V), σ = [some (.ref a), some (.int m), v] ∧ H2 = upd H p0 (.lst ((ns.take 63).map V.int)))
      ⟨_, none, rfl, rfl⟩ (fun i σ H2 _ ⟨_, _, _, e⟩ => by rw [e]; exact SqL.of upd_same) ?_ ?_⟩
    · rintro i y σ H2 hi ⟨m, v, rfl, rfl⟩
      obtain ⟨z, rfl⟩ := int_of hi
      exact ⟨_, rfl, _, _, rfl, rfl, .inr ⟨by decide, by decide⟩, _, rfl, .inl ⟨_, rfl, _, _, rfl, rfl, (by show ¬ ((_ : Int) = 0); decide), _, _, rfl, rfl, _, _, rfl, rfl, .inl ⟨_, rfl, _, _, rfl, rfl, (by show ¬ ((_ : Int) = 0); decide), _, _, rfl, rfl⟩⟩⟩
    · rintro σ H2 ⟨m, v, rfl, rfl⟩
      intro p hp
      have s1 : Same H (upd (upd H p0 (.lst ((ns.take 63).map V.int))) p (.dK [])) := s0.trans (same_new hp)
      refine ⟨_, rfl, _, rfl, a, _, rfl, s1.seq hS, fun p1 hp1 => ?_⟩
      rw [cut63]
      refine ⟨p1, _, rfl, .inl (SqL.of upd_same), fun l hl => ⟨l, _, rfl, SqL.of upd_same, fun c hc => ?_⟩⟩
      have s2 := ((s1.trans (same_new (o := .lst ((ns.take 63).map V.int)) hp1)).trans (same_new (o := .lst ((ns.take 63).map V.int)) hl)).trans (same_new (o := .lst ((ns.take 63).map V.int).reverse) hc)
      have np1 : p ≠ p1 := ne_of_none upd_same hp1
      have npl : p ≠ l := ne_of_none (o := .dK []) (by rw [upd_ne np1]; exact upd_same) hl
      have npc : p ≠ c := ne_of_none (o := .dK []) (by rw [upd_ne npl, upd_ne np1]; exact upd_same) hc
      refine ⟨_, rfl, ?_, [(Sum.inr ("cells" : Str), V.ref c), (Sum.inr ("mixed" : Str), V.int m), (Sum.inr ("draws" : Str), V.int 0)], rfl, (by show 3 ≤ 15; decide), ?_⟩
      · rw [upd_ne npc, upd_ne npl, upd_ne np1]
        exact upd_same
      · rw [deck_kvs]
        have hpH : H p = none := s0.free hp
        have hcH : H c = none := by
          have z := hc
          rw [upd_ne (ne_of_none upd_same hc).symm] at z
          exact ((s1.trans (same_new (o := .lst ((ns.take 63).map V.int)) hp1))).free z
        refine k p c _ ⟨(ns.take 63).reverse, m, 0, upd_same, ?_, ?_⟩ (fun b o e => ?_) hpH hcH
        · rw [upd_ne npc.symm, upd_same, List.map_reverse]
        · rw [List.length_reverse, List.length_take]; omega
        · rw [upd_ne (ne_of_none e hpH)]
          exact s2 b o e

theorem int_mem {ns : List Int} {i : Nat} {v : V} (h : (ns.map V.int)[i]? = some v) : ∃ z, z ∈ ns ∧ v = V.int z := by
  obtain ⟨z, h1, h2⟩ := List.mem_map.mp (List.mem_of_getElem? h)
  exact ⟨z, h1, h2.symm⟩
theorem str_mem {ns : List Str} {i : Nat} {v : V} (h : (ns.map V.str)[i]? = some v) : ∃ z, z ∈ ns ∧ v = V.str z := by
  obtain ⟨z, h1, h2⟩ := List.mem_map.mp (List.mem_of_getElem? h)
  exact ⟨z, h1, h2.symm⟩
theorem tame_plain {d : PyData} (h : (∃ b, d = .bool b) ∨ d = .none) (k : Nat) : Tame k d := by
  rcases h with ⟨b, rfl⟩ | rfl <;> exact ⟨by simp only [PyData.showable], by simp only [PyData.leavesShort], by simp only [PyData.depth]; omega, by simp only [PyData.bulk]; omega, by simp only [slimD]⟩
theorem items_snoc {R : V → PyData → Prop} {xs : List V} {ds : List PyData} {v : V} {d : PyData} (l : xs.length = ds.length) (h : ∀ (j : Nat) (a : V) (b : PyData), xs[j]? = some a → ds[j]? = some b → R a b) (r : R v d) :
    ∀ (j : Nat) (a : V) (b : PyData), (xs ++ [v])[j]? = some a → (ds ++ [d])[j]? = some b → R a b := fun j a b q1 q2 => by
  by_cases hj : j < xs.length
  · rw [List.getElem?_append_left hj] at q1
    rw [List.getElem?_append_left (by omega)] at q2
    exact h j a b q1 q2
  · rw [List.getElem?_append_right (by omega)] at q1
    rw [List.getElem?_append_right (by omega)] at q2
    have z : j - xs.length = 0 := by
      cases e : j - xs.length with
      | zero => rfl
      | succ n => rw [e] at q1; simp at q1
    rw [z] at q1
    rw [show j - ds.length = 0 by omega] at q2
    cases q1
    cases q2
    exact r
theorem dict_kvs {l : Addr} {n : Int} : mergeK [] [(Sum.inr ("key" : Str), V.ref l), (Sum.inl 1, V.int n)] = [(Sum.inr ("key" : Str), V.ref l), (Sum.inl 1, V.int n)] := by
  have e1 : putK ([] : List (Key × V)) (Sum.inr ("key" : Str)) (V.ref l) = [(Sum.inr ("key" : Str), V.ref l)] := putK_new _ rfl
  have e2 : putK [(Sum.inr ("key" : Str), V.ref l)] (Sum.inl 1 : Key) (V.int n) = [(Sum.inr ("key" : Str), V.ref l)] ++ [(Sum.inl 1, V.int n)] := putK_new _ ((valV_neg (p := (Sum.inr ("key" : Str), V.ref l)) (r := []) (fun z : (Sum.inr ("key" : Str) : Key) = Sum.inl 1 => by cases z)).trans rfl)
  unfold mergeK
  simp only [List.foldl_cons, List.foldl_nil]
  rw [e1, e2]
  rfl
/-- no tuple that is not known whole, none that is long -/
def NT (H : Hp) (v : V) : Prop := ∀ a xs, v = .ref a → H a ≠ some (.tup xs) ∧ (KR.TupX H a xs → xs.length ≤ 60)
theorem nt_int {H : Hp} {i : Int} : NT H (.int i) := fun _ _ z => nomatch z
theorem nt_str {H : Hp} {x : Str} : NT H (.str x) := fun _ _ z => nomatch z
theorem nt_bl {H : Hp} {b : Bool} : NT H (.bl b) := fun _ _ z => nomatch z
theorem nt_non {H : Hp} : NT H .non := fun _ _ z => nomatch z
theorem nt_at {H : Hp} {a : Addr} {o : HO} (e : H a = some o) (h : ∀ xs, o ≠ .tup xs) (h2 : ∀ ob xs, o ≠ .frz ob (.tup xs)) : NT H (.ref a) := fun b xs z => by
  cases z
  rw [e]
  refine ⟨fun q => h xs (Option.some.inj q), fun ⟨us, q⟩ => ?_⟩
  rw [e] at q
  exact absurd (Option.some.inj q) (h2 _ xs)
theorem nt_lst {H : Hp} {a : Addr} {ys : List V} (e : H a = some (.lst ys)) : NT H (.ref a) := nt_at e (fun _ z => nomatch z) fun _ _ z => nomatch z
theorem nt_dk {H : Hp} {a : Addr} {ys : List (Key × V)} (e : H a = some (.dK ys)) : NT H (.ref a) := nt_at e (fun _ z => nomatch z) fun _ _ z => nomatch z
theorem nt_frz {H : Hp} {a : Addr} {us : List Value} {ys : List V} (e : H a = some (.frz (KR.tobj us) (.tup ys))) (l : ys.length ≤ 60) : NT H (.ref a) := fun b xs z => by
  cases z
  refine ⟨fun q => ?_, fun t => ?_⟩
  · rw [e] at q
    cases q
  · rw [t.inj ⟨us, e⟩]
    exact l
/-- any value, at a depth below d -/
def spAny (d : Nat) : Sp := fun vs H Q _ => ∃ (p c : Addr) (k : Nat), vs = [.ref p, .int k] ∧ k < d ∧ Deck H p c ∧
  ∀ (v : V) (e : PyData) (H' : Hp), Tame k e → DV H' (fun a => H a = none) v e → NT H' v → Deck H' p c → Kp p c H H' → Q v H'
abbrev nAny : List Str := ["_law_deck_here", "_law_deep", "_law_way", "_law_some", "_law_turn"]
theorem scAny : FnScope nAny ["_law_deck_here", "_law_deep"] (defScope sAny) := ⟨rfl, rfl, rfl, by decide +kernel, rfl, by decide +kernel, by decide +kernel⟩

/-- the menus -/
def menuI : List Int := [0, 1, -1, 2, 7, 12, 13, 40, 10 ^ 49 * 10 ^ 50, -(10 ^ 20)]
def menuS : List Str := ["", "a", "(0, 1)", "places 2\n0 1", "~", "lot", "True", "0"]
theorem int_tame : ∀ i ∈ menuI, PyData.showable (.int i) = true ∧ PyData.leavesShort 200 (.int i) = true := by decide +kernel
theorem str_tame : ∀ x ∈ menuS, PyData.leavesShort 200 (.str x) = true ∧ x.cps.size ≤ 12 := by decide +kernel
theorem tame_int {i : Int} (h : i ∈ menuI) (k : Nat) : Tame k (.int i) := ⟨(int_tame i h).1, (int_tame i h).2, by simp only [PyData.depth]; omega, by simp only [PyData.bulk]; omega, by simp only [slimD]⟩
theorem tame_str {x : Str} (h : x ∈ menuS) (k : Nat) : Tame k (.str x) := ⟨by simp only [PyData.showable], (str_tame x h).1, by simp only [PyData.depth]; omega, by
  have := (str_tame x h).2
  have := bb_le k
  simp only [PyData.bulk]; omega, by simp only [slimD]⟩

theorem ok_any {f fD fP : Addr} {fd fdD fdP : FuncData} (F : Fun K "_law_any" "_law_any" sAny f fd) (mf : mg "_law_any" = some (.ref f)) (bf : Binds K fd ["_law_deck_here", "_law_deep"] []) (T : Bi mg)
    (GD : Dn P w K mg base "_law_draw" 1 ["_law_deck_here", "_law_many"] spDraw fD fdD) (GP : Dn P w K mg base "_law_pick" 2 ["_law_deck_here", "_law_some"] spPick fP fdP) :
    ∀ d : Nat, FnOk P w K mg base CX0 (d + 2) f fd ["_law_deck_here", "_law_deep"] (spAny d) := by
  intro d
  induction d with
  | zero => exact ⟨fun vs H Q E ⟨p, c, k, _, hk, _⟩ => absurd hk (Nat.not_lt_zero _), fun A outer s H args us vs Q E _ _ _ _ ⟨p, c, k, _, hk, _⟩ => absurd hk (Nat.not_lt_zero _)⟩
  | succ d ih =>
    refine F.ok scAny (fun vs H Q E h => ?_) (fun cdv A outer s H vs Q E hr h => ?_)
    · obtain ⟨p, c, k, rfl, _⟩ := h
      rfl
    · obtain ⟨p, c, dk, rfl, hdk, D, k⟩ := h
      have hr1 : Room 1 (A.deeper (envOfC "_law_any" (defScope sAny) s.heap.objs.size f cdv)) := hr.mono (by omega)
      have hr2 : Room 2 (A.deeper (envOfC "_law_any" (defScope sAny) s.heap.objs.size f cdv)) := hr.mono (by omega)
      refine ⟨_, pss_cons (ps_set (i := 2) scAny.nd rfl (.inl rfl) (pe_call GD.ok hr1 rfl GD.g GD.kp GD.b .nil pass0 (pa_cons (pv 0) (pa_cons pe_int pa_nil))))
        <| pss_cons (ps_if (pt_cmpR op_lt (pv 2) pe_int (nomark _)) (pss_one (ps_ret (pe_call GP.ok hr2 rfl GP.g GP.kp GP.b .nil pass0 (pa_cons (pv 0) (pa_cons (pe_lst
            (pa_cons pe_int (pa_cons pe_int (pa_cons (pe_un un_neg pe_int) (pa_cons pe_int (pa_cons pe_int (pa_cons pe_int (pa_cons pe_int (pa_cons pe_int (pa_cons (pe_op op_mulW (pe_op op_pow pe_int pe_int) (pe_op op_pow pe_int pe_int))
            (pa_cons (pe_un un_neg (pe_op op_pow pe_int pe_int)) pa_nil))))))))))) pa_nil))))) pss_nil)
        <| pss_cons (ps_if (pt_cmpR op_lt (pv 2) pe_int (nomark _)) (pss_one (ps_ret (pe_call GP.ok hr2 rfl GP.g GP.kp GP.b .nil pass0 (pa_cons (pv 0) (pa_cons (pe_lst
            (pa_cons pe_str (pa_cons pe_str (pa_cons pe_str (pa_cons pe_str (pa_cons pe_str (pa_cons pe_str (pa_cons pe_str (pa_cons pe_str pa_nil))))))))) pa_nil))))) pss_nil)
        <| pss_cons (ps_if (pt_cmpR op_eq (pv 2) pe_int (nomark _)) (pss_one (ps_ret (pe_call GP.ok hr2 rfl GP.g GP.kp GP.b .nil pass0 (pa_cons (pv 0) (pa_cons (pe_lst (pa_cons pe_bl (pa_cons pe_bl (pa_cons pe_non pa_nil)))) pa_nil))))) pss_nil)
        <| pss_cons (ps_set (i := 3) scAny.nd rfl (.inl rfl) (pe_ifExp (pt_cmpR op_gt (pv 1) pe_int (nomark _))
            (pe_lc (own := [("_law_turn", 4)]) (g := gName 4) (tt := tYes) rfl scAny.nd (pi_range1 rfl T.range (pa_cons (pe_call GD.ok hr1 rfl GD.g GD.kp GD.b .nil pass0 (pa_cons (pv 0) (pa_cons pe_int pa_nil))) pa_nil))
              (blkOk_by (N := nAny) (sc := defScope sAny) (by decide +kernel)) (fun _ _ _ _ _ => pg_name (i := 4) scAny.nd rfl (Or.inl rfl)) (fun _ _ _ _ _ => pts_nil)
              (fun _ _ _ _ _ => pe_call ih hr rfl mf F.kp bf .nil pass0 (pa_cons (pv 0) (pa_cons (pe_op op_sub (pv 1) pe_int) pa_nil))))
            (pe_lst pa_nil)))
        <| pss_cons (ps_if (pt_cmpR op_eq (pv 2) pe_int (nomark _)) (pss_one (ps_ret (pv 3))) pss_nil)
        <| pss_one (ps_ret (pe_ifExp (pt_cmpR op_eq (pv 2) pe_int (nomark _)) (pe_disp (pps_cons pe_str (pv 3) (pps_cons pe_int (pe_callB call_len_seq (by rfl) T.len PySem.boot_len (pa_cons (pv 3) pa_nil)) pps_nil)) rfl rfl (fun z => nomatch z) (by decide))
            (pe_callTy KR.call_tupF (by rfl) T.tuple (by decide +kernel) (pa_cons (pv 3) pa_nil)))), ?_⟩
      have cp : ∀ {a : Int} {n : Nat}, n ≤ 1000 → a.natAbs < 2 ^ 64 → CPow a (n : Int) := fun h1 h2 => ⟨Int.natCast_nonneg _, by omega, h2⟩
      refine ⟨_, rfl, p, c, _, rfl, D, by decide, by decide, fun way H1 w0 w1 D1 K1 => ?_⟩
      refine ⟨_, rfl, _, _, rfl, rfl, _, rfl, ite2 (fun _ => ?_) (fun _ => ?_)⟩
      · refine ⟨_, rfl, _, rfl, _, _, rfl, rfl, cp (n := 49) (by decide) (by decide), _, _, rfl, rfl, cp (n := 50) (by decide) (by decide), _, _, rfl, rfl, ?_, _, _, rfl, rfl, cp (n := 20) (by decide) (by decide), _, rfl, ?_, fun l hl => ?_⟩
        · show CMulW (10 ^ 49) (10 ^ 50)
          unfold CMulW
          decide +kernel
        · show 10 ≤ sizeLine; rw [sizeLine_eq]; decide
        · obtain ⟨lp, lc⟩ := D1.inp hl
          refine ⟨p, c, l, _, rfl, D1.new hl, upd_same, lp, lc, (by show 1 ≤ 10; decide), (by show 10 < 1000; decide), fun i v H' e D' K' => ?_⟩
          obtain ⟨z, hz, rfl⟩ := int_mem (ns := menuI) e
          exact k _ _ H' (tame_int hz _) (.int z) nt_int D' (K1.trans ((kp_new hl).trans K'))
      refine ⟨_, rfl, _, _, rfl, rfl, _, rfl, ite2 (fun _ => ?_) (fun _ => ?_)⟩
      · refine ⟨_, rfl, ?_, fun l hl => ?_⟩
        · show 8 ≤ sizeLine; rw [sizeLine_eq]; decide
        · obtain ⟨lp, lc⟩ := D1.inp hl
          refine ⟨p, c, l, _, rfl, D1.new hl, upd_same, lp, lc, (by show 1 ≤ 8; decide), (by show 8 < 1000; decide), fun i v H' e D' K' => ?_⟩
          obtain ⟨z, hz, rfl⟩ := str_mem (ns := menuS) e
          exact k _ _ H' (tame_str hz _) (.str z) nt_str D' (K1.trans ((kp_new hl).trans K'))
      refine ⟨_, rfl, rfl, _, rfl, ite2 (fun _ => ?_) (fun _ => ?_)⟩
      · refine ⟨_, rfl, ?_, fun l hl => ?_⟩
        · show 3 ≤ sizeLine; rw [sizeLine_eq]; decide
        · obtain ⟨lp, lc⟩ := D1.inp hl
          refine ⟨p, c, l, _, rfl, D1.new hl, upd_same, lp, lc, (by show 1 ≤ 3; decide), (by show 3 < 1000; decide), fun i v H' e D' K' => ?_⟩
          have hv : v = .bl true ∨ v = .bl false ∨ v = .non := by
            have q := List.mem_of_getElem? e
            simpa using q
          rcases hv with rfl | rfl | rfl
          · exact k _ (.bool true) H' (tame_plain (.inl ⟨_, rfl⟩) _) (.bl true) nt_bl D' (K1.trans ((kp_new hl).trans K'))
          · exact k _ (.bool false) H' (tame_plain (.inl ⟨_, rfl⟩) _) (.bl false) nt_bl D' (K1.trans ((kp_new hl).trans K'))
          · exact k _ .none H' (tame_plain (.inr rfl) _) (.non) nt_non D' (K1.trans ((kp_new hl).trans K'))
      refine ⟨_, rfl, _, _, rfl, rfl, _, rfl, ite2 (fun hgt => ?_) (fun hgt => ?_)⟩
      · have hk1 : 1 ≤ dk := by have := of_decide_eq_true hgt; omega
        refine ⟨_, rfl, p, c, _, rfl, D1, by decide, by decide, fun r H2 r0 r1 D2 K2 => ⟨_, rfl, by omega, by omega, fun l hl => ?_⟩⟩
        have K02 : Kp p c H H2 := K1.trans K2
        obtain ⟨lp, lc⟩ := D2.inp hl
        have hlH : H l = none := K02.dom D2 hl
        refine lc_range (n := r.toNat) (fun i H3 => ∃ (xs : List V) (ds : List PyData), H3 l = some (.lst xs) ∧ xs.length = i ∧ ds.length = i ∧ (∀ d ∈ ds, Tame (dk - 1) d) ∧ Deck H3 p c ∧ Kp p c H H3 ∧
            ∀ (j : Nat) (v : V) (d : PyData), xs[j]? = some v → ds[j]? = some d → DV H3 (fun a => H a = none ∧ a ≠ l) v d)
          ⟨[], [], upd_same, rfl, rfl, (fun _ z => nomatch z), D2.new hl, K02.trans (kp_new hl), fun j v d z => by simp at z⟩ ?_ ?_
        · rintro i H3 hi ⟨xs, ds, e1, e2, e3, e4, D3, K3, e5⟩
          refine ⟨rfl, ?_⟩
          unfold tYes
          refine iteT ?_
          refine ⟨_, rfl, _, rfl, _, _, rfl, rfl, p, c, dk - 1, ?_, by omega, D3, fun v e H4 t dv _ D4 K4 => ?_⟩
          · show [V.ref p, V.int ((dk : Int) - 1)] = [V.ref p, V.int ((dk - 1 : Nat) : Int)]
            rw [show ((dk : Int) - 1) = ((dk - 1 : Nat) : Int) by omega]
          · have e1' := K4 l _ lp lc e1
            refine ⟨xs, e1', by rw [e2, sizeLine_eq]; omega, xs ++ [v], ds ++ [e], upd_same, by rw [List.length_append, e2]; rfl, by rw [List.length_append, e3]; rfl, fun d' z => ?_, D4.put lp lc, fun b o h1 h2 q => ?_, items_snoc (e2.trans e3.symm) (fun j a b q1 q2 => ?_) ?_⟩
            · rcases List.mem_append.mp z with z | z
              · exact e4 _ z
              · rw [List.mem_singleton.mp z]; exact t
            · rw [upd_ne (ne_of_none q hlH)]
              exact K4 b o h1 h2 (K3 b o h1 h2 q)
            · refine (e5 j a b q1 q2).mono fun x o t' z => ⟨t', ?_⟩
              obtain ⟨x1, x2⟩ := D.inp t'.1
              rw [upd_ne t'.2]
              exact K4 x o x1 x2 z
            · refine dv.mono fun x o t' z => ?_
              have nx : x ≠ l := (ne_of_none e1 t').symm
              exact ⟨⟨K3.dom D3 t', nx⟩, by rw [upd_ne nx]; exact z⟩
        · rintro H3 ⟨xs, ds, e1, e2, e3, e4, D3, K3, e5⟩
          have tm : ∀ d, (d = .list ds ∨ d = .tuple ds ∨ d = .dict [(.str "key", .list ds), (.int 1, .int ds.length)]) → Tame dk d := fun d z => by
            obtain ⟨j, rfl⟩ : ∃ j, dk = j + 1 := ⟨dk - 1, by omega⟩
            have e4' : ∀ d ∈ ds, Tame j d := e4
            rcases z with rfl | rfl | rfl
            · exact tame_list e4' (by omega)
            · exact tame_tuple e4' (by omega)
            · exact tame_dict e4' (by omega)
          refine ⟨_, rfl, rfl, _, rfl, ite2 (fun _ => ?_) (fun _ => ?_)⟩
          · exact ⟨_, rfl, k (.ref l) (.list ds) H3 (tm _ (.inl rfl)) (.lst hlH e1 (e2.trans e3.symm) fun j v d q1 q2 => (e5 j v d q1 q2).mono fun a o t q => ⟨t.1, q⟩) (nt_lst e1) D3 K3⟩
          refine ⟨_, rfl, rfl, _, rfl, ite2 (fun _ => ?_) (fun _ => ?_)⟩
          · intro q hq
            have nlq : l ≠ q := ne_of_none e1 hq
            have e1q : (upd H3 q (.dK [])) l = some (.lst xs) := by rw [upd_ne nlq]; exact e1
            refine ⟨_, rfl, _, rfl, l, _, rfl, .inl (SqL.of e1q), upd_same, [(Sum.inr ("key" : Str), V.ref l), (Sum.inl 1, V.int xs.length)], rfl, (by show 2 ≤ 15; decide), ?_⟩
            rw [upd_upd, dict_kvs]
            have hqH : H q = none := K3.dom D3 hq
            obtain ⟨qp, qc⟩ := D3.inp hq
            refine k (.ref q) (.dict [(.str "key", .list ds), (.int 1, .int ds.length)]) _ (tm _ (.inr (.inr rfl))) ?_ (nt_dk upd_same) (D3.new hq) (K3.trans (kp_new hq))
            refine DV.dct (kvs := [(Sum.inr ("key" : Str), V.ref l), (Sum.inl 1, V.int xs.length)]) (ds := [.list ds, .int ds.length]) hqH upd_same rfl fun j v d q1 q2 => ?_
            match j, q1, q2 with
            | 0, q1, q2 =>
              cases q1
              cases q2
              exact .lst hlH (by rw [upd_ne nlq]; exact e1) (e2.trans e3.symm) fun j v d q1 q2 => (e5 j v d q1 q2).mono fun a o t z => ⟨t.1, by rw [upd_ne (ne_of_none z hq)]; exact z⟩
            | 1, q1, q2 =>
              cases q1
              cases q2
              rw [e2, e3]
              exact .int _
            | j + 2, q1, q2 => simp at q1
          · refine ⟨_, rfl, l, _, rfl, SqL.of e1, fun t us ht => ?_⟩
            exact k (.ref t) (.tuple ds) _ (tm _ (.inr (.inl rfl))) (.tup (K3.dom D3 ht) (.inr ⟨us, upd_same⟩) (e2.trans e3.symm) fun j v d q1 q2 => (e5 j v d q1 q2).mono fun a o t' z => ⟨t'.1, by rw [upd_ne (ne_of_none z ht)]; exact z⟩) (nt_frz upd_same (by omega)) (D3.new ht) (K3.trans (kp_new ht))
      · refine ⟨Nat.zero_le _, fun l hl => ?_⟩
        have hlH : H l = none := K1.dom D1 hl
        obtain ⟨xs, hxs⟩ : ∃ xs : List V, xs = [] := ⟨_, rfl⟩
        obtain ⟨ds, hds⟩ : ∃ ds : List PyData, ds = [] := ⟨_, rfl⟩
        generalize hH3 : upd H1 l (.lst []) = H3
        have e1 : H3 l = some (.lst xs) := by rw [← hH3, hxs]; exact upd_same
        have D3 : Deck H3 p c := by rw [← hH3]; exact D1.new hl
        have K3 : Kp p c H H3 := by rw [← hH3]; exact K1.trans (kp_new hl)
        have e2 : xs.length = 0 := by rw [hxs]; rfl
        have e3 : ds.length = 0 := by rw [hds]; rfl
        have e5 : ∀ (j : Nat) (v : V) (d : PyData), xs[j]? = some v → ds[j]? = some d → DV H3 (fun a => H a = none ∧ a ≠ l) v d := fun j v d z => by rw [hxs] at z; simp at z
        have tm : ∀ d, (d = .list ds ∨ d = .tuple ds ∨ d = .dict [(.str "key", .list ds), (.int 1, .int ds.length)]) → Tame dk d := fun d z => by
          rw [hds] at z
          exact tame0 (by simpa using z) dk
        refine ⟨_, rfl, rfl, _, rfl, ite2 (fun _ => ?_) (fun _ => ?_)⟩
        · exact ⟨_, rfl, k (.ref l) (.list ds) H3 (tm _ (.inl rfl)) (.lst hlH e1 (e2.trans e3.symm) fun j v d q1 q2 => (e5 j v d q1 q2).mono fun a o t q => ⟨t.1, q⟩) (nt_lst e1) D3 K3⟩
        refine ⟨_, rfl, rfl, _, rfl, ite2 (fun _ => ?_) (fun _ => ?_)⟩
        · intro q hq
          have nlq : l ≠ q := ne_of_none e1 hq
          have e1q : (upd H3 q (.dK [])) l = some (.lst xs) := by rw [upd_ne nlq]; exact e1
          refine ⟨_, rfl, _, rfl, l, _, rfl, .inl (SqL.of e1q), upd_same, [(Sum.inr ("key" : Str), V.ref l), (Sum.inl 1, V.int xs.length)], rfl, (by show 2 ≤ 15; decide), ?_⟩
          rw [upd_upd, dict_kvs]
          have hqH : H q = none := K3.dom D3 hq
          obtain ⟨qp, qc⟩ := D3.inp hq
          refine k (.ref q) (.dict [(.str "key", .list ds), (.int 1, .int ds.length)]) _ (tm _ (.inr (.inr rfl))) ?_ (nt_dk upd_same) (D3.new hq) (K3.trans (kp_new hq))
          refine DV.dct (kvs := [(Sum.inr ("key" : Str), V.ref l), (Sum.inl 1, V.int xs.length)]) (ds := [.list ds, .int ds.length]) hqH upd_same rfl fun j v d q1 q2 => ?_
          match j, q1, q2 with
          | 0, q1, q2 =>
            cases q1
            cases q2
            exact .lst hlH (by rw [upd_ne nlq]; exact e1) (e2.trans e3.symm) fun j v d q1 q2 => (e5 j v d q1 q2).mono fun a o t z => ⟨t.1, by rw [upd_ne (ne_of_none z hq)]; exact z⟩
          | 1, q1, q2 =>
            cases q1
            cases q2
            rw [e2, e3]
            exact .int _
          | j + 2, q1, q2 => simp at q1
        · refine ⟨_, rfl, l, _, rfl, SqL.of e1, fun t us ht => ?_⟩
          exact k (.ref t) (.tuple ds) _ (tm _ (.inr (.inl rfl))) (.tup (K3.dom D3 ht) (.inr ⟨us, upd_same⟩) (e2.trans e3.symm) fun j v d q1 q2 => (e5 j v d q1 q2).mono fun a o t' z => ⟨t'.1, by rw [upd_ne (ne_of_none z ht)]; exact z⟩) (nt_frz upd_same (by omega)) (D3.new ht) (K3.trans (kp_new ht))
end
end K0

set_option Elab.async false
set_option linter.all false
set_option maxRecDepth 100000
set_option maxHeartbeats 4000000
/-! Rows of pairs; an order, a pair, all pairs. -/
namespace K0
open PySem PySem.Spec PyProof.Rows L2
/-! ### rows of pairs -/
inductive Prs (H : Hp) : List V → List (Int × Int) → Prop
  | nil : Prs H [] []
  | cons {a : Addr} {q : Int × Int} {vs : List V} {L : List (Int × Int)} (h : H a = some (.tup [.int q.1, .int q.2])) (t : Prs H vs L) : Prs H (.ref a :: vs) (q :: L)
theorem Prs.len {H : Hp} {vs : List V} {L : List (Int × Int)} (p : Prs H vs L) : vs.length = L.length := by
  induction p with
  | nil => rfl
  | cons h t ih => rw [List.length_cons, List.length_cons, ih]
theorem Prs.mono {H H' : Hp} {vs : List V} {L : List (Int × Int)} (p : Prs H vs L) (s : ∀ a x, H a = some (.tup x) → H' a = some (.tup x)) : Prs H' vs L := by
  induction p with
  | nil => exact .nil
  | cons h t ih => exact .cons (s _ _ h) ih
theorem Prs.app {H : Hp} {vs ws : List V} {L M : List (Int × Int)} (p : Prs H vs L) (q : Prs H ws M) : Prs H (vs ++ ws) (L ++ M) := by
  induction p with
  | nil => exact q
  | cons h t ih => exact .cons h ih
theorem Prs.get {H : Hp} {vs : List V} {L : List (Int × Int)} (p : Prs H vs L) : ∀ {i : Nat} {v : V}, vs[i]? = some v → ∃ a q, v = .ref a ∧ L[i]? = some q ∧ H a = some (.tup [.int q.1, .int q.2]) := by
  induction p with
  | nil => intro i v h; simp at h
  | @cons a q vs L h t ih =>
    intro i v e
    cases i with
    | zero => cases e; exact ⟨a, q, rfl, rfl, h⟩
    | succ i => exact ih (by simpa using e)
theorem Prs.erase {H : Hp} {vs : List V} {L : List (Int × Int)} (p : Prs H vs L) : ∀ i : Nat, Prs H (vs.eraseIdx i) (L.eraseIdx i) := by
  induction p with
  | nil => intro i; simpa using Prs.nil
  | @cons a q vs L h t ih =>
    intro i
    cases i with
    | zero => simpa using t
    | succ i => simpa using Prs.cons h (ih i)
theorem Prs.perm {H : Hp} {vs ws : List V} (pm : ws.Perm vs) : ∀ {L : List (Int × Int)}, Prs H vs L → ∃ M, M.Perm L ∧ Prs H ws M := by
  induction pm with
  | nil => intro L p; exact ⟨L, .refl _, p⟩
  | cons v _ ih =>
    intro L p
    cases p with
    | cons h t =>
      obtain ⟨M, pm, pr⟩ := ih t
      exact ⟨_, pm.cons _, .cons h pr⟩
  | swap v w l =>
    intro L p
    cases p with
    | cons h t =>
      cases t with
      | cons h' t' => exact ⟨_, .swap _ _ _, .cons h' (.cons h t')⟩
  | trans _ _ ih1 ih2 =>
    intro L p
    obtain ⟨M, pm, pr⟩ := ih2 p
    obtain ⟨M', pm', pr'⟩ := ih1 pr
    exact ⟨M', pm'.trans pm, pr'⟩
theorem Kp.tup {p c : Addr} {H H' : Hp} (k : Kp p c H H') (D : Deck H p c) : ∀ a x, H a = some (.tup x) → H' a = some (.tup x) := fun a x e => by
  obtain ⟨xs, m, n, h1, h2, _⟩ := D.ex
  exact k a _ (ne_of e h1 (by intro z; cases z)) (ne_of e h2 (by intro z; cases z)) e
theorem same_tup {H H' : Hp} (s : Same H H') : ∀ a x, H a = some (.tup x) → H' a = some (.tup x) := fun a x e => s _ _ e
/-- a list of its own is written -/
theorem Kp.own {p c l : Addr} {H H1 : Hp} {o : HO} (k : Kp p c H H1) (h : H l = none) : Kp p c H (upd H1 l o) := fun b u h1 h2 e => by
  rw [upd_ne (ne_of_none e h)]
  exact k b u h1 h2 e
theorem upd_tup {l : Addr} {H : Hp} {o : HO} {ys : List V} (e : H l = some (.lst ys)) : ∀ a x, H a = some (.tup x) → (upd H l o) a = some (.tup x) := fun a x h => by
  rw [upd_ne (ne_of h e (by intro z; cases z))]
  exact h
theorem new_tup {l : Addr} {H : Hp} {o : HO} (e : H l = none) : ∀ a x, H a = some (.tup x) → (upd H l o) a = some (.tup x) := fun a x h => by
  rw [upd_ne (ne_of_none h e)]
  exact h
/-- a row of pairs in a list at l -/
def LP (H : Hp) (l : Addr) (L : List (Int × Int)) : Prop := ∃ vs, H l = some (.lst vs) ∧ Prs H vs L
theorem LP.mono {H H' : Hp} {l : Addr} {L : List (Int × Int)} (p : LP H l L) (e : ∀ ys, H l = some (.lst ys) → H' l = some (.lst ys)) (s : ∀ a x, H a = some (.tup x) → H' a = some (.tup x)) : LP H' l L := by
  obtain ⟨vs, h, q⟩ := p
  exact ⟨vs, e _ h, q.mono s⟩
theorem LP.kp {p c l : Addr} {H H' : Hp} {L : List (Int × Int)} (q : LP H l L) (D : Deck H p c) (k : Kp p c H H') (lp : l ≠ p) (lc : l ≠ c) : LP H' l L := q.mono (fun ys e => k _ _ lp lc e) (k.tup D)
/-- pairs in order, below n -/
def Bel (n : Int) (L : List (Int × Int)) : Prop := ∀ q ∈ L, 0 ≤ q.1 ∧ q.1 < q.2 ∧ q.2 < n
theorem Bel.nil {n : Int} : Bel n [] := fun _ z => nomatch z
theorem Bel.app {n : Int} {L M : List (Int × Int)} (a : Bel n L) (b : Bel n M) : Bel n (L ++ M) := fun q z => (List.mem_append.mp z).elim (a q) (b q)
theorem Bel.sub {n : Int} {L M : List (Int × Int)} (a : Bel n L) (s : ∀ q ∈ M, q ∈ L) : Bel n M := fun q z => a q (s q z)
theorem Bel.snoc {n : Int} {L : List (Int × Int)} {q : Int × Int} (a : Bel n L) (h : 0 ≤ q.1 ∧ q.1 < q.2 ∧ q.2 < n) : Bel n (L ++ [q]) := a.app fun r z => by rw [List.mem_singleton.mp z]; exact h

/-- names that are nobody's own -/
structure Bj (mg : Str → Option Value) : Prop extends Bi mg where
  min : mg "min" = none
  sorted : mg "sorted" = none
  set : mg "set" = none
  all : mg "all" = none
  isi : mg "isinstance" = none
  enu : mg "enumerate" = none
  bool : mg "bool" = none
  repr : mg "repr" = none
abbrev sOrder : Stmt := top 32
abbrev sPair : Stmt := top 33
abbrev sPairs : Stmt := top 34
abbrev sTies : Stmt := top 35
abbrev sWeb : Stmt := top 36
/-- an order of 0 .. n - 1 -/
def IsOrd (n : Nat) (os : List Int) : Prop := os.Perm ((List.range n).map fun i => ((i : Nat) : Int))
theorem IsOrd.len {n : Nat} {os : List Int} (h : IsOrd n os) : os.length = n := by rw [h.length_eq, List.length_map, List.length_range]
theorem IsOrd.mem {n : Nat} {os : List Int} (h : IsOrd n os) {i : Int} (hi : i ∈ os) : 0 ≤ i ∧ i < n := by
  obtain ⟨k, hk, rfl⟩ := List.mem_map.mp (h.mem_iff.mp hi)
  have := List.mem_range.mp hk
  omega
theorem IsOrd.nd {n : Nat} {os : List Int} (h : IsOrd n os) : os.Nodup := h.nodup_iff.mpr (List.pairwise_map.mpr (List.nodup_range.imp fun {a b} z e => z (by omega)))
theorem IsOrd.at {n : Nat} {os : List Int} (h : IsOrd n os) {i : Nat} (hi : i < n) : ∃ x, os[i]? = some x ∧ 0 ≤ x ∧ x < n := by
  have l := h.len
  exact ⟨os[i], List.getElem?_eq_getElem (by omega), h.mem (List.getElem_mem ..)⟩
theorem IsOrd.ne {n : Nat} {os : List Int} (h : IsOrd n os) {i j : Nat} {x y : Int} (hi : os[i]? = some x) (hj : os[j]? = some y) (ne : i ≠ j) : x ≠ y := by
  have nd := List.pairwise_iff_getElem.mp h.nd
  obtain ⟨i1, rfl⟩ := List.getElem?_eq_some_iff.mp hi
  obtain ⟨j1, rfl⟩ := List.getElem?_eq_some_iff.mp hj
  rcases Nat.lt_or_gt_of_ne ne with z | z
  · exact nd i j i1 j1 z
  · exact (nd j i j1 i1 z).symm
theorem rg_ints (n : Nat) : rgV 0 (n : Int) = ((List.range n).map fun i => ((i : Nat) : Int)).map V.int := by
  unfold rgV
  rw [List.map_map, show ((n : Int) - 0).toNat = n by omega]
  refine List.map_congr_left fun i _ => ?_
  show V.int (0 + (i : Nat)) = V.int (i : Nat)
  rw [Int.zero_add]
theorem iota_ord (n : Nat) : IsOrd n ((List.range n).map fun i => ((i : Nat) : Int)) := List.Perm.refl _

def spOrder : Sp := fun vs H Q _ => ∃ (p c : Addr) (n : Nat), vs = [.ref p, .int n] ∧ n ≤ 12 ∧ Deck H p c ∧ ∀ (l : Addr) (os : List Int) (H' : Hp), H l = none → H' l = some (.lst (os.map V.int)) → IsOrd n os → Deck H' p c → Kp p c H H' → Q (.ref l) H'
section
variable {P : Program} {w : World} {K : PySem.W.Frag} {mg : Str → Option Value} {base : Heap}
abbrev nOrder : List Str := ["_law_deck_here", "_law_n", "_law_left", "_law_found", "_law_turn"]
theorem scOrder : FnScope nOrder ["_law_deck_here", "_law_n"] (defScope sOrder) := ⟨rfl, rfl, rfl, by decide +kernel, rfl, by decide +kernel, by decide +kernel⟩
theorem perm_move : ∀ {l : List Int} {i : Nat} {x : Int}, l[i]? = some x → l.Perm (x :: l.eraseIdx i)
  | [], _, _, h => by simp at h
  | a :: l, 0, x, h => by cases h; exact .refl _
  | a :: l, i + 1, x, h => ((perm_move (l := l) (i := i) (by simpa using h)).cons a).trans (.swap _ _ _)
theorem erase_map (l : List Int) : ∀ i, (l.map V.int).eraseIdx i = (l.eraseIdx i).map V.int := by
  induction l with
  | nil => intro i; rfl
  | cons a l ih =>
    intro i
    cases i with
    | zero => rfl
    | succ i => simp only [List.map_cons, List.eraseIdx_cons_succ, ih i]
theorem ok_order {f fD : Addr} {fd fdD : FuncData} (F : Fun K "_law_order" "_law_order" sOrder f fd) (T : Bj mg) (GD : Dn P w K mg base "_law_draw" 1 ["_law_deck_here", "_law_many"] spDraw fD fdD) :
    FnOk P w K mg base CX0 2 f fd ["_law_deck_here", "_law_n"] spOrder := by
  refine F.ok scOrder (fun vs H Q E h => ?_) (fun cdv A outer s H vs Q E hr h => ?_)
  · obtain ⟨p, c, n, rfl, _⟩ := h
    rfl
  · obtain ⟨p, c, n, rfl, hn, D, k⟩ := h
    refine ⟨_, pss_cons (ps_par (i := 2) (j := 3) rfl scOrder.nd rfl rfl (by decide) rfl rfl (pa_cons (pe_listRg rfl (by rfl) T.list (prg_1 (by rfl) T.range (pv 1))) (pa_cons (pe_lst pa_nil) pa_nil)) (by rfl))
      <| pss_cons (ps_for PassesOwn.never rfl (pi_range1 (by rfl) T.range (pa_cons (pv 1) pa_nil)) (pg_name (i := 4) scOrder.nd rfl (.inl rfl))
        (pss_one (ps_expr (pe_bm PySem.F.plainAttrs_list PySem.F.slot_list_append PySem.F.type_list_append mt_append (pv 3) (pa_cons
          (pe_bm PySem.F.plainAttrs_list PySem.F.slot_list_pop PySem.F.type_list_pop mt_popAt (pv 2) (pa_cons (pe_call GD.ok hr rfl GD.g GD.kp GD.b .nil pass0 (pa_cons (pv 0) (pa_cons (pe_callB call_len_seq (by rfl) T.len PySem.boot_len (pa_cons (pv 2) pa_nil)) pa_nil))) pa_nil)) pa_nil)))))
      <| pss_one (ps_ret (pv 3)), ?_⟩
    refine ⟨_, rfl, _, rfl, .of_le (by omega) (by omega) (by omega) (by omega), fun q hq => ?_⟩
    rw [rg_ints]
    obtain ⟨qp, qc⟩ := D.inp hq
    refine ⟨Nat.zero_le _, fun l hl => ⟨_, _, rfl, ?_⟩⟩
    have D1 := D.new (o := .lst (((List.range n).map fun i => ((i : Nat) : Int)).map V.int)) hq
    obtain ⟨lp, lc⟩ := D1.inp hl
    have lq : l ≠ q := (ne_of_none upd_same hl).symm
    have hlH : H l = none := by rw [upd_ne lq] at hl; exact hl
    refine ⟨_, rfl, _, rfl, by omega, by omega, ?_⟩
    refine for_range (lo := 0) (n := (n : Int).toNat) (fun i σ M => ∃ (ls os : List Int) (o4 : Option V), σ = [some (.ref p), some (.int n), some (.ref q), some (.ref l), o4] ∧ M q = some (.lst (ls.map V.int)) ∧ M l = some (.lst (os.map V.int)) ∧ IsOrd n (os ++ ls) ∧ os.length = i ∧ Deck M p c ∧ Kp p c H M)
      ⟨_, [], none, rfl, by rw [upd_ne lq.symm]; exact upd_same, upd_same, iota_ord n, rfl, D1.new hl, ((kp_new hq).own hlH)⟩ ?_ ?_
    · rintro i σ M hi ⟨ls, os, o4, rfl, e1, e2, e3, e4, D2, K2⟩
      have len := e3.len
      rw [List.length_append, e4] at len
      refine ⟨_, rfl, .inl ⟨rfl, _, SqL.of e2⟩, _, rfl, .inl ⟨rfl, _, SqL.of e1⟩, _, rfl, _, rfl, q, _, rfl, .inl (SqL.of e1), p, c, _, rfl, D2, ?_, ?_, fun r M1 r0 r1 D3 K3 => ?_⟩
      · show (1 : Int) ≤ ((ls.map V.int).length : Nat); rw [List.length_map]; omega
      · show (((ls.map V.int).length : Nat) : Int) < 1000000; rw [List.length_map]; omega
      · have r1' : r < ls.length := by rw [List.length_map] at r1; exact r1
        obtain ⟨j, rfl⟩ : ∃ j : Nat, r = j := ⟨r.toNat, by omega⟩
        have hj : j < ls.length := by omega
        have e1' := K3 q _ qp qc e1
        have e2' := K3 l _ lp lc e2
        have si : seqIndex? (j : Int) (ls.map V.int).length = some j := (ixN_seq (n := (ls.map V.int).length) (by unfold ixN; rw [List.length_map, if_pos (by omega), if_pos (by omega)]; rfl)).1
        refine ⟨q, _, _, j, .int ls[j], rfl, rfl, e1', by omega, by omega, si, by simp [hj], ?_⟩
        refine ⟨l, _, _, rfl, rfl, by rw [upd_ne lq]; exact e2', by rw [List.length_map, sizeLine_eq]; omega, ls.eraseIdx j, os ++ [ls[j]], _, rfl, ?_, by rw [upd_same, List.map_append] <;> rfl, ?_, by rw [List.length_append, e4] <;> rfl, (D3.put qp qc).put lp lc, ?_⟩
        · rw [upd_ne lq.symm, upd_same, erase_map]
        · refine List.Perm.trans ?_ e3
          rw [List.append_assoc]
          exact List.Perm.append_left os (perm_move (List.getElem?_eq_getElem hj)).symm
        · exact ((K2.trans K3).own (D.new (o := .lst []) hq |> fun _ => hq)).own hlH
    · rintro σ M ⟨ls, os, o4, rfl, e1, e2, e3, e4, D2, K2⟩
      have len := e3.len
      rw [List.length_append, e4] at len
      have : ls = [] := List.length_eq_zero_iff.mp (by omega)
      subst this
      exact ⟨_, rfl, k l os M hlH e2 (by simpa using e3) D2 K2⟩
end
end K0

set_option Elab.async false
set_option linter.all false
set_option maxRecDepth 100000
set_option maxHeartbeats 4000000
/-! A pair in order; all pairs. -/
namespace K0
open PySem PySem.Spec PyProof.Rows L2
/-- the two in order -/
def mm (x y : Int) : Int × Int := (if y < x then y else x, if y > x then y else x)
theorem mm_bel {n x y : Int} (hx : 0 ≤ x ∧ x < n) (hy : 0 ≤ y ∧ y < n) (ne : x ≠ y) : 0 ≤ (mm x y).1 ∧ (mm x y).1 < (mm x y).2 ∧ (mm x y).2 < n := by
  unfold mm
  dsimp only
  split <;> split <;> omega
def spPair : Sp := fun vs H Q _ => ∃ (x y : Int), vs = [.int x, .int y] ∧ ∀ a, H a = none → Q (.ref a) (upd H a (.tup [.int (mm x y).1, .int (mm x y).2]))
def spPairs : Sp := fun vs H Q _ => ∃ n : Nat, vs = [.int n] ∧ n ≤ 12 ∧ ∀ (l : Addr) (L : List (Int × Int)) (H' : Hp), H l = none → LP H' l L → Bel n L → L.length ≤ 144 → Same H H' → Q (.ref l) H'
section
variable {P : Program} {w : World} {K : PySem.W.Frag} {mg : Str → Option Value} {base : Heap}
theorem scPair : FnScope ["_law_one", "_law_other"] ["_law_one", "_law_other"] (defScope sPair) := ⟨rfl, rfl, rfl, by decide +kernel, rfl, by decide +kernel, by decide +kernel⟩
theorem ok_pair {f : Addr} {fd : FuncData} (F : Fun K "_law_pair" "_law_pair" sPair f fd) (T : Bj mg) : FnOk P w K mg base CX0 1 f fd ["_law_one", "_law_other"] spPair := by
  refine F.ok scPair (fun vs H Q E h => ?_) (fun cdv A outer s H vs Q E hr h => ?_)
  · obtain ⟨x, y, rfl, _⟩ := h
    rfl
  · obtain ⟨x, y, rfl, k⟩ := h
    refine ⟨_, pss_one (ps_ret (pe_tup (pa_cons (pe_callB (call_min2 rfl) (by rfl) T.min (by decide +kernel) (pa_cons (pv 0) (pa_cons (pv 1) pa_nil))) (pa_cons (pe_callB (call_max2 rfl) (by rfl) T.max (by decide +kernel) (pa_cons (pv 0) (pa_cons (pv 1) pa_nil))) pa_nil)))), ?_⟩
    exact ⟨_, rfl, _, rfl, _, _, rfl, _, rfl, _, rfl, _, _, rfl, by show 2 ≤ sizeLine; decide, fun a ha => k a ha⟩
abbrev nPairs : List Str := ["_law_n", "_law_found", "_law_one", "_law_other"]
theorem scPairs : FnScope nPairs ["_law_n"] (defScope sPairs) := ⟨rfl, rfl, rfl, by decide +kernel, rfl, by decide +kernel, by decide +kernel⟩
theorem ok_pairs {f : Addr} {fd : FuncData} (F : Fun K "_law_pairs" "_law_pairs" sPairs f fd) (T : Bj mg) : FnOk P w K mg base CX0 1 f fd ["_law_n"] spPairs := by
  refine F.ok scPairs (fun vs H Q E h => ?_) (fun cdv A outer s H vs Q E hr h => ?_)
  · obtain ⟨n, rfl, _⟩ := h
    rfl
  · obtain ⟨n, rfl, hn, k⟩ := h
    refine ⟨_, pss_cons (ps_set (i := 1) scPairs.nd rfl (.inl rfl) (pe_lst pa_nil))
      <| pss_cons (ps_for PassesOwn.never rfl (pi_range1 (by rfl) T.range (pa_cons (pv 0) pa_nil)) (pg_name (i := 2) scPairs.nd rfl (.inr rfl))
        (pss_one (ps_set (i := 1) scPairs.nd rfl (.inl rfl) (pe_op op_cat (pv 1) (pe_lc (own := [("_law_other", 3)]) (g := gName 3) (tt := tYes) rfl scPairs.nd (pi_range2 (by rfl) T.range (pa_cons (pe_op op_add (pv 2) pe_int) (pa_cons (pv 0) pa_nil)))
          (blkOk_by (N := nPairs) (sc := defScope sPairs) (by decide +kernel)) (fun _ _ _ _ _ => pg_name (i := 3) scPairs.nd rfl (Or.inl rfl)) (fun _ _ _ _ _ => pts_nil)
          (fun _ _ _ _ _ => pe_tup (pa_cons (pv 2) (pa_cons (pv 3) pa_nil))))))))
      <| pss_one (ps_ret (pv 1)), ?_⟩
    refine ⟨Nat.zero_le _, fun l hl => ⟨_, rfl, _, rfl, by omega, by omega, ?_⟩⟩
    refine for_range (lo := 0) (n := (n : Int).toNat) (fun i σ M => ∃ (l' : Addr) (L : List (Int × Int)) (o2 : Option V), σ = [some (.int n), some (.ref l'), o2, none] ∧ H l' = none ∧ LP M l' L ∧ Bel n L ∧ L.length ≤ 12 * i ∧ Same H M)
      ⟨l, [], none, rfl, hl, ⟨[], upd_same, .nil⟩, .nil, Nat.zero_le _, same_new hl⟩ ?_ ?_
    · rintro i σ M hi ⟨l', L, o2, rfl, hl', ⟨vs, e1, e2⟩, e3, e4, sM⟩
      have len := e2.len
      refine ⟨_, rfl, _, rfl, _, _, rfl, rfl, _, rfl, _, _, rfl, ⟨by omega, by omega, by omega, by omega⟩, fun Da hD => ?_⟩
      have hDH : H Da = none := by
        cases e : H Da with
        | none => rfl
        | some o => rw [sM _ _ e] at hD; cases hD
      have nDl : l' ≠ Da := ne_of_none e1 hD
      refine lc_range (lo := (0 + (i : Int)) + 1) (n := ((n : Int) - ((0 + (i : Int)) + 1)).toNat) (fun j M2 => ∃ (ws : List V) (L2 : List (Int × Int)), M2 Da = some (.lst ws) ∧ Prs M2 ws L2 ∧ Bel n L2 ∧ L2.length = j ∧ M2 l' = some (.lst vs) ∧ Prs M2 vs L ∧ Same H M2)
        ⟨[], [], upd_same, .nil, .nil, rfl, by rw [upd_ne nDl]; exact e1, e2.mono (new_tup hD), sM.trans (same_new hD)⟩ ?_ ?_
      · rintro j M2 hj ⟨ws, L2, f1, f2, f3, f4, f5, f6, f7⟩
        refine ⟨rfl, ?_⟩
        unfold tYes
        refine iteT ?_
        refine ⟨_, rfl, _, rfl, by show 2 ≤ sizeLine; decide, fun t ht => ⟨ws, ?_, ?_, ws ++ [.ref t], L2 ++ [(0 + (i : Int), 0 + (i : Int) + 1 + (j : Int))], upd_same, ?_, f3.snoc ⟨?_, ?_, ?_⟩, by rw [List.length_append, f4] <;> rfl, ?_, ?_, ?_⟩⟩
        · rw [upd_ne (ne_of_none f1 ht)]; exact f1
        · rw [f2.len, f4, sizeLine_eq]; omega
        · have g1 : Prs (upd M2 t (.tup [.int (0 + (i : Int)), .int (0 + (i : Int) + 1 + (j : Int))])) ws L2 := f2.mono (new_tup ht)
          have e1' : (upd M2 t (.tup [V.int (0 + (i : Int)), V.int (0 + (i : Int) + 1 + (j : Int))])) Da = some (.lst ws) := by rw [upd_ne (ne_of_none f1 ht)]; exact f1
          exact (g1.app (.cons (q := (0 + (i : Int), 0 + (i : Int) + 1 + (j : Int))) upd_same .nil)).mono (upd_tup e1')
        · show (0 : Int) ≤ 0 + (i : Int); omega
        · show 0 + (i : Int) < 0 + (i : Int) + 1 + (j : Int); omega
        · show 0 + (i : Int) + 1 + (j : Int) < n; omega
        · rw [upd_ne nDl, upd_ne (ne_of_none f5 ht)]; exact f5
        · have e1' : (upd M2 t (.tup [V.int (0 + (i : Int)), V.int (0 + (i : Int) + 1 + (j : Int))])) Da = some (.lst ws) := by rw [upd_ne (ne_of_none f1 ht)]; exact f1
          exact (f6.mono (new_tup ht)).mono (upd_tup e1')
        · exact fun b o e => by rw [upd_ne (ne_of_none e hDH), upd_ne (ne_of_none (f7 _ _ e) ht)]; exact f7 _ _ e
      · rintro M2 ⟨ws, L2, f1, f2, f3, f4, f5, f6, f7⟩
        have l2 := f2.len
        refine ⟨l', Da, _, _, rfl, rfl, f5, f1, by rw [len, l2, sizeLine_eq]; omega, fun q hq => ?_⟩
        have hqH : H q = none := by
          cases e : H q with
          | none => rfl
          | some o => rw [f7 _ _ e] at hq; cases hq
        exact ⟨q, L ++ L2, _, rfl, hqH, ⟨_, upd_same, (f6.app f2).mono (new_tup hq)⟩, e3.app f3, by rw [List.length_append]; omega, f7.trans (same_new hq)⟩
    · rintro σ M ⟨l', L, o2, rfl, hl', e1, e3, e4, sM⟩
      exact ⟨_, rfl, k l' L M hl' e1 e3 (by omega) sM⟩
end
end K0

set_option Elab.async false
set_option linter.all false
set_option maxRecDepth 100000
set_option maxHeartbeats 8000000
/-! The drawn ties. -/
namespace K0
open PySem PySem.Spec L2
open PyProof.Rows hiding St
/-- what a comprehension over pairs has made: some of them -/
structure FI (p c : Addr) (H : Hp) (l : Addr) (vs : List V) (L : List (Int × Int)) (Da : Addr) (i : Nat) (M : Hp) : Prop where
  ex : ∃ (ws : List V) (L2 : List (Int × Int)), M Da = some (.lst ws) ∧ Prs M ws L2 ∧ (∀ q ∈ L2, q ∈ L) ∧ L2.length ≤ i
  src : M l = some (.lst vs)
  prs : Prs M vs L
  dk : Deck M p c
  kp : Kp p c H M
section
variable {p c l Da : Addr} {H M M' : Hp} {vs : List V} {L : List (Int × Int)} {i : Nat}
theorem FI.step (h : FI p c H l vs L Da i M) (n1 : l ≠ p) (n2 : l ≠ c) (n3 : Da ≠ p) (n4 : Da ≠ c) (D : Deck M' p c) (k : Kp p c M M') : FI p c H l vs L Da i M' := by
  obtain ⟨ws, L2, e1, e2, e3, e4⟩ := h.ex
  exact ⟨⟨ws, L2, k _ _ n3 n4 e1, e2.mono (k.tup h.dk), e3, e4⟩, k _ _ n1 n2 h.src, h.prs.mono (k.tup h.dk), D, h.kp.trans k⟩
theorem FI.skip (h : FI p c H l vs L Da i M) : FI p c H l vs L Da (i + 1) M := by
  obtain ⟨ws, L2, e1, e2, e3, e4⟩ := h.ex
  exact ⟨⟨ws, L2, e1, e2, e3, by omega⟩, h.src, h.prs, h.dk, h.kp⟩
theorem FI.put (h : FI p c H l vs L Da i M) (hD : H Da = none) (n0 : l ≠ Da) (n3 : Da ≠ p) (n4 : Da ≠ c) (hi : i ≤ 1000) {v : V} {j : Nat} (hv : vs[j]? = some v) :
    ∃ acc, M Da = some (.lst acc) ∧ acc.length < sizeLine ∧ FI p c H l vs L Da (i + 1) (upd M Da (.lst (acc ++ [v]))) := by
  obtain ⟨ws, L2, e1, e2, e3, e4⟩ := h.ex
  obtain ⟨a, q, rfl, hq, ha⟩ := h.prs.get hv
  refine ⟨ws, e1, by rw [e2.len, sizeLine_eq]; omega, ⟨ws ++ [.ref a], L2 ++ [q], upd_same, (e2.app (.cons ha .nil)).mono (upd_tup e1), fun r z => ?_, by rw [List.length_append]; show L2.length + 1 ≤ _; omega⟩, by rw [upd_ne n0]; exact h.src, h.prs.mono (upd_tup e1), h.dk.put n3 n4, h.kp.own hD⟩
  rcases List.mem_append.mp z with z | z
  · exact e3 r z
  · rw [List.mem_singleton.mp z]; exact List.mem_of_getElem? hq
end
/-- what a comprehension of new pairs has made, an order beside it -/
structure GI (p c : Addr) (H : Hp) (l : Addr) (os : List Int) (n : Int) (Da : Addr) (i : Nat) (M : Hp) : Prop where
  ex : ∃ (ws : List V) (L2 : List (Int × Int)), M Da = some (.lst ws) ∧ Prs M ws L2 ∧ Bel n L2 ∧ L2.length ≤ i
  src : M l = some (.lst (os.map V.int))
  dk : Deck M p c
  kp : Kp p c H M
section
variable {p c l Da : Addr} {H M M' : Hp} {os : List Int} {n : Int} {i : Nat}
theorem GI.step (h : GI p c H l os n Da i M) (n1 : l ≠ p) (n2 : l ≠ c) (n3 : Da ≠ p) (n4 : Da ≠ c) (D : Deck M' p c) (k : Kp p c M M') : GI p c H l os n Da i M' := by
  obtain ⟨ws, L2, e1, e2, e3, e4⟩ := h.ex
  exact ⟨⟨ws, L2, k _ _ n3 n4 e1, e2.mono (k.tup h.dk), e3, e4⟩, k _ _ n1 n2 h.src, D, h.kp.trans k⟩
theorem GI.put (h : GI p c H l os n Da i M) (hD : H Da = none) (n0 : l ≠ Da) (n3 : Da ≠ p) (n4 : Da ≠ c) (hi : i ≤ 1000) {a : Addr} {q : Int × Int} (ha : M a = none) (hq : 0 ≤ q.1 ∧ q.1 < q.2 ∧ q.2 < n) :
    ∃ acc, (upd M a (.tup [.int q.1, .int q.2])) Da = some (.lst acc) ∧ acc.length < sizeLine ∧ GI p c H l os n Da (i + 1) (upd (upd M a (.tup [.int q.1, .int q.2])) Da (.lst (acc ++ [.ref a]))) := by
  obtain ⟨ws, L2, e1, e2, e3, e4⟩ := h.ex
  have e1' : (upd M a (.tup [.int q.1, .int q.2])) Da = some (.lst ws) := by rw [upd_ne (ne_of_none e1 ha)]; exact e1
  refine ⟨ws, e1', by rw [e2.len, sizeLine_eq]; omega, ⟨ws ++ [.ref a], L2 ++ [q], upd_same, ((e2.mono (new_tup ha)).app (.cons upd_same .nil)).mono (upd_tup e1'), e3.snoc hq, by rw [List.length_append]; show L2.length + 1 ≤ _; omega⟩, ?_, (h.dk.new ha).put n3 n4, (h.kp.trans (kp_new ha)).own hD⟩
  rw [upd_ne n0, upd_ne (ne_of_none h.src ha)]
  exact h.src
end
def spTies : Sp := fun vs H Q _ => ∃ (p c : Addr) (n : Nat), vs = [.ref p, .int n] ∧ 1 ≤ n ∧ n ≤ 12 ∧ Deck H p c ∧ ∀ (l : Addr) (L : List (Int × Int)) (H' : Hp), H l = none → LP H' l L → Bel n L → L.length ≤ 160 → Deck H' p c → Kp p c H H' → Q (.ref l) H'
abbrev nTies : List Str := ["_law_deck_here", "_law_n", "_law_way", "_law_thick", "_law_order_here", "_law_some", "_law_near", "_law_turn", "_law_one", "_law_step", "_law_pair_here", "_law_at"]
/-- between the statements -/
def TJ (p c : Addr) (n : Nat) (H : Hp) (σ : St) (M : Hp) : Prop := ∃ (wy th : Int) (lo : Addr) (os : List Int) (ls : Addr) (L : List (Int × Int)) (o6 : Option V),
  σ = [some (.ref p), some (.int n), some (.int wy), some (.int th), some (.ref lo), some (.ref ls), o6, none, none, none, none, none] ∧ H ls = none ∧ LP M ls L ∧ Bel n L ∧ L.length ≤ 144 ∧
  IsOrd n os ∧ H lo = none ∧ M lo = some (.lst (os.map V.int)) ∧ Deck M p c ∧ Kp p c H M
/-- from one state of affairs to another -/
def tInv (J J' : St → Hp → Prop) : TS := fun D σ H => J σ H ∧ ∀ σ' H', J' σ' H' → D.nx σ' H'
theorem ps_inv {X : Cx} {st : Stmt} {t : TS} {J J' : St → Hp → Prop} (h : PS X st t) (w : ∀ D σ H, J σ H → (∀ σ' H', J' σ' H' → D.nx σ' H') → t D σ H) : PS X st (tInv J J') :=
  ⟨fun pins s σ H D I q => h.run pins s σ H D I (w D σ H q.1 q.2)⟩
theorem pe_imp {X : Cx} {e : Expr} {t t' : TE} (h : PE X e t) (w : ∀ σ H Q, t' σ H Q → t σ H Q) : PE X e t' := ⟨fun pins s σ H Q I q => h.run pins s σ H Q I (w σ H Q q)⟩
theorem Deck.same {p c : Addr} {H H' : Hp} (D : Deck H p c) (s : Same H H') : Deck H' p c := by
  obtain ⟨xs, m, n, h1, h2, h3⟩ := D.ex
  exact ⟨xs, m, n, s _ _ h1, s _ _ h2, h3⟩
theorem kp_same {p c : Addr} {H H' : Hp} (s : Same H H') : Kp p c H H' := fun b o _ _ e => s _ _ e
theorem range2_12 {n : Nat} (h1 : 1 ≤ n) (h2 : n ≤ 12) : RgC 0 ((n : Int) - 1) 2 (n / 2) := by
  have : n = 1 ∨ n = 2 ∨ n = 3 ∨ n = 4 ∨ n = 5 ∨ n = 6 ∨ n = 7 ∨ n = 8 ∨ n = 9 ∨ n = 10 ∨ n = 11 ∨ n = 12 := by omega
  rcases this with rfl | rfl | rfl | rfl | rfl | rfl | rfl | rfl | rfl | rfl | rfl | rfl <;> exact ⟨by decide, by decide, by decide, by decide⟩
theorem atI_neg1 {n : Nat} {os : List Int} (h : IsOrd n os) (hn : 1 ≤ n) : ∃ x, os[n - 1]? = some x ∧ atI (os.map V.int) (0 + ((0 : Nat) : Int) - 1) = some (.int x) := by
  obtain ⟨x, hx, _⟩ := h.at (i := n - 1) (by omega)
  refine ⟨x, hx, ?_⟩
  have l := h.len
  have e : ixN (os.map V.int).length (0 + ((0 : Nat) : Int) - 1) = some (n - 1) := by
    unfold ixN
    rw [List.length_map, l, if_neg (by omega), if_pos (by omega)]
    congr 1
    omega
  unfold atI
  rw [e]
  show (os.map V.int)[n - 1]? = _
  rw [List.getElem?_map, hx] <;> rfl
theorem os_at {n : Nat} {os : List Int} (h : IsOrd n os) {i : Nat} (hi : i < n) : ∃ x, os[i]? = some x ∧ (os.map V.int)[i]? = some (.int x) ∧ 0 ≤ x ∧ x < n := by
  obtain ⟨x, hx, h1, h2⟩ := h.at hi
  exact ⟨x, hx, by rw [List.getElem?_map, hx] <;> rfl, h1, h2⟩
section
variable {P : Program} {w : World} {K : PySem.W.Frag} {mg : Str → Option Value} {base : Heap}
theorem scTies : FnScope nTies ["_law_deck_here", "_law_n"] (defScope sTies) := ⟨rfl, rfl, rfl, by decide +kernel, rfl, by decide +kernel, by decide +kernel⟩
theorem ok_ties {f fD fO fP fA : Addr} {fd fdD fdO fdP fdA : FuncData} (F : Fun K "_law_drawn_ties" "_law_drawn_ties" sTies f fd) (T : Bj mg) (GD : Dn P w K mg base "_law_draw" 1 ["_law_deck_here", "_law_many"] spDraw fD fdD)
    (GO : Dn P w K mg base "_law_order" 2 ["_law_deck_here", "_law_n"] spOrder fO fdO) (GP : Dn P w K mg base "_law_pair" 1 ["_law_one", "_law_other"] spPair fP fdP) (GA : Dn P w K mg base "_law_pairs" 1 ["_law_n"] spPairs fA fdA) :
    FnOk P w K mg base CX0 3 f fd ["_law_deck_here", "_law_n"] spTies := by
  refine F.ok scTies (fun vs H Q E h => ?_) (fun cdv A outer s H vs Q E hr h => ?_)
  · obtain ⟨p, c, n, rfl, _⟩ := h
    rfl
  · obtain ⟨p, c, n, rfl, hn1, hn2, D, k⟩ := h
    have hr1 : Room 1 (A.deeper (envOfC "_law_drawn_ties" (defScope sTies) s.heap.objs.size f cdv)) := hr.mono (by decide)
    refine ⟨_, pss_cons (ps_asg (pe_tup (pa_cons (pe_call GD.ok hr1 rfl GD.g GD.kp GD.b .nil pass0 (pa_cons (pv 0) (pa_cons pe_int pa_nil)))
          (pa_cons (pe_op op_add pe_int (pe_call GD.ok hr1 rfl GD.g GD.kp GD.b .nil pass0 (pa_cons (pv 0) (pa_cons pe_int pa_nil)))) (pa_cons (pe_call GO.ok hr rfl GO.g GO.kp GO.b .nil pass0 (pa_cons (pv 0) (pa_cons (pv 1) pa_nil))) (pa_cons (pe_lst pa_nil) pa_nil)))))
          (pg_tup rfl (pgs_cons (pg_name (i := 2) scTies.nd rfl (.inl rfl)) (pgs_cons (pg_name (i := 3) scTies.nd rfl (.inr rfl)) (pgs_cons (pg_name (i := 4) scTies.nd rfl (.inr rfl)) (pgs_cons (pg_name (i := 5) scTies.nd rfl (.inl rfl)) pgs_nil))))))
      <| pss_cons (ps_inv (J := TJ p c n H) (J' := TJ p c n H) (ps_if (pt_cmpR op_lt (pv 2) pe_int (nomark _)) (pss_one (ps_setLc (i := 5) (own := [("_law_pair_here", 10)]) (g := gName 10) rfl scTies.nd rfl rfl (sw_true rfl rfl rfl (by decide +kernel))
          (pi_list (pe_call GA.ok hr1 rfl GA.g GA.kp GA.b .nil pass0 (pa_cons (pv 1) pa_nil))) (blkOk_by (N := nTies) (sc := defScope sTies) (by decide +kernel)) (fun _ _ _ _ _ => pg_name (i := 10) scTies.nd rfl (Or.inl rfl))
          (fun _ _ _ _ _ => pts_one (pt_cmpR op_lt (pe_call GD.ok hr1 rfl GD.g GD.kp GD.b .nil pass0 (pa_cons (pv 0) (pa_cons pe_int pa_nil))) (pv 3) (nomark _))) (fun _ _ _ _ _ => pv 10))) pss_nil) ?i1)
      <| pss_cons (ps_inv (J := TJ p c n H) (J' := TJ p c n H) (ps_if (pt_cmpR op_eq (pv 2) pe_int (nomark _))
          (pss_cons (ps_set (i := 6) scTies.nd rfl (.inr rfl) (pe_slice sl_list (pv 4) po_none (po_some (pe_op op_add pe_int (pe_call GD.ok hr1 rfl GD.g GD.kp GD.b .nil pass0 (pa_cons (pv 0) (pa_cons (pv 1) pa_nil)))))))
          <| pss_cons (ps_setLc (i := 5) (own := [("_law_pair_here", 10)]) (g := gName 10) rfl scTies.nd rfl rfl (sw_true rfl rfl rfl (by decide +kernel))
            (pi_list (pe_call GA.ok hr1 rfl GA.g GA.kp GA.b .nil pass0 (pa_cons (pv 1) pa_nil))) (blkOk_by (N := nTies) (sc := defScope sTies) (by decide +kernel)) (fun _ _ _ _ _ => pg_name (i := 10) scTies.nd rfl (Or.inl rfl))
            (fun _ _ _ _ _ => pts_one (pt_cmpR op_ne (pe_cmpR (show OpR _ (compareOp .In) (rIn K false) from op_in_seq) (pe_ix (show IxR _ (rIxT K) from ix_tup) (pv 10) pe_int (fun _ _ => rfl)) (pv 6) (by rfl)) (pe_cmpR (show OpR _ (compareOp .In) (rIn K false) from op_in_seq) (pe_ix (show IxR _ (rIxT K) from ix_tup) (pv 10) pe_int (fun _ _ => rfl)) (pv 6) (by rfl)) (nomark _))) (fun _ _ _ _ _ => pv 10))
          <| pss_one (ps_setLc (i := 5) (own := [("_law_pair_here", 10)]) (g := gName 10) rfl scTies.nd rfl rfl (sw_true rfl rfl rfl (by decide +kernel))
            (pi_list (pv 5)) (blkOk_by (N := nTies) (sc := defScope sTies) (by decide +kernel)) (fun _ _ _ _ _ => pg_name (i := 10) scTies.nd rfl (Or.inl rfl))
            (fun _ _ _ _ _ => pts_one (pt_cmpR op_le (pe_call GD.ok hr1 rfl GD.g GD.kp GD.b .nil pass0 (pa_cons (pv 0) (pa_cons pe_int pa_nil))) (pv 3) (nomark _))) (fun _ _ _ _ _ => pv 10))) pss_nil) ?i2)
      <| pss_cons (ps_inv (J := TJ p c n H) (J' := TJ p c n H) (ps_if (PW.pt (pw_and (pt_cmpR op_eq (pv 2) pe_int (nomark _)) (pw_and1 (pt_cmpR op_gt (pv 1) pe_int (nomark _)))))
          (pss_one (ps_setLc (i := 5) (own := [("_law_at", 11)]) (g := gName 11) (tt := tYes) rfl scTies.nd rfl rfl (sw_true rfl rfl rfl (by decide +kernel))
            (pi_range1 (by rfl) T.range (pa_cons (pv 1) pa_nil)) (blkOk_by (N := nTies) (sc := defScope sTies) (by decide +kernel)) (fun _ _ _ _ _ => pg_name (i := 11) scTies.nd rfl (Or.inl rfl)) (fun _ _ _ _ _ => pts_nil)
            (fun _ _ _ _ _ => pe_call GP.ok hr1 rfl GP.g GP.kp GP.b .nil pass0 (pa_cons (pe_ix (show IxR _ (rIxL K) from ix_list) (pv 4) (pe_op op_sub (pv 11) pe_int) (fun _ _ => rfl)) (pa_cons (pe_ix (show IxR _ (rIxL K) from ix_list) (pv 4) (pv 11) (fun _ _ => rfl)) pa_nil))))) pss_nil) ?i3)
      <| pss_cons (ps_inv (J := TJ p c n H) (J' := TJ p c n H) (ps_if (pt_cmpR op_eq (pv 2) pe_int (nomark _))
          (pss_one (ps_setLc (i := 5) (own := [("_law_at", 11)]) (g := gName 11) (tt := tYes) rfl scTies.nd rfl rfl (sw_true rfl rfl rfl (by decide +kernel))
            (pi_range2 (by rfl) T.range (pa_cons pe_int (pa_cons (pv 1) pa_nil))) (blkOk_by (N := nTies) (sc := defScope sTies) (by decide +kernel)) (fun _ _ _ _ _ => pg_name (i := 11) scTies.nd rfl (Or.inl rfl)) (fun _ _ _ _ _ => pts_nil)
            (fun _ _ _ _ _ => pe_call GP.ok hr1 rfl GP.g GP.kp GP.b .nil pass0 (pa_cons (pe_ix (show IxR _ (rIxL K) from ix_list) (pv 4) (pv 11) (fun _ _ => rfl)) (pa_cons (pe_ix (show IxR _ (rIxL K) from ix_list) (pv 4) (pe_call GD.ok hr1 rfl GD.g GD.kp GD.b .nil pass0 (pa_cons (pv 0) (pa_cons (pv 11) pa_nil))) (fun _ _ => rfl)) pa_nil))))) pss_nil) ?i4)
      <| pss_cons (ps_inv (J := TJ p c n H) (J' := TJ p c n H) (ps_if (pt_cmpR op_eq (pv 2) pe_int (nomark _))
          (pss_one (ps_setLc (i := 5) (own := [("_law_at", 11)]) (g := gName 11) (tt := tYes) rfl scTies.nd rfl rfl (sw_true rfl rfl rfl (by decide +kernel))
            (pi_range3 (by rfl) T.range (pa_cons pe_int (pa_cons (pe_op op_sub (pv 1) pe_int) (pa_cons pe_int pa_nil)))) (blkOk_by (N := nTies) (sc := defScope sTies) (by decide +kernel)) (fun _ _ _ _ _ => pg_name (i := 11) scTies.nd rfl (Or.inl rfl)) (fun _ _ _ _ _ => pts_nil)
            (fun _ _ _ _ _ => pe_call GP.ok hr1 rfl GP.g GP.kp GP.b .nil pass0 (pa_cons (pe_ix (show IxR _ (rIxL K) from ix_list) (pv 4) (pv 11) (fun _ _ => rfl)) (pa_cons (pe_ix (show IxR _ (rIxL K) from ix_list) (pv 4) (pe_op op_add (pv 11) pe_int) (fun _ _ => rfl)) pa_nil))))) pss_nil) ?i5)
      <| pss_cons (ps_for PassesOwn.never rfl (pi_range1 (by rfl) T.range (pa_cons (pe_imp (t' := fun σ M Q => TJ p c n H σ M ∧ ∀ (m : Nat) (M1 : Hp), m ≤ 5 → (m = 0 ∨ 2 ≤ n) → Deck M1 p c → Kp p c M M1 → Q (.int m) M1)
            (pe_ifExp (PW.pt (pw_and (pt_cmpR op_gt (pv 1) pe_int (nomark _)) (pw_and1 (pt_cmpR op_gt (pv 2) pe_int (nomark _)))))
            (pe_call GD.ok hr1 rfl GD.g GD.kp GD.b .nil pass0 (pa_cons (pv 0) (pa_cons pe_int pa_nil))) pe_int) ?i6) pa_nil)) (pg_name (i := 7) scTies.nd rfl (.inl rfl))
          (pss_cons (ps_par (i := 8) (j := 9) rfl scTies.nd rfl rfl (by decide) rfl rfl (pa_cons (pe_call GD.ok hr1 rfl GD.g GD.kp GD.b .nil pass0 (pa_cons (pv 0) (pa_cons (pv 1) pa_nil)))
              (pa_cons (pe_op op_add pe_int (pe_call GD.ok hr1 rfl GD.g GD.kp GD.b .nil pass0 (pa_cons (pv 0) (pa_cons (pe_op op_sub (pv 1) pe_int) pa_nil)))) pa_nil)) (by rfl))
            <| pss_one (ps_expr (pe_bm PySem.F.plainAttrs_list PySem.F.slot_list_append PySem.F.type_list_append mt_append (pv 5) (pa_cons (pe_call GP.ok hr1 rfl GP.g GP.kp GP.b .nil pass0
                (pa_cons (pv 8) (pa_cons (pe_op op_modN (pe_callTy call_int1 (by rfl) T.int (by decide +kernel) (pa_cons (pe_op op_add (pv 8) (pv 9)) pa_nil)) (pv 1)) pa_nil))) pa_nil)))))
      <| pss_one (ps_ret (pv 5)), ?i0⟩
    case i1 =>
      rintro D0 σ M ⟨wy, th, lo, os, ls, L, o6, rfl, hls, hL, hB, hlen, hos, hlo, src, D1, K1⟩ nx
      obtain ⟨np, nc⟩ := D.inp hlo
      refine ⟨_, rfl, _, _, rfl, rfl, _, rfl, ite2 (fun h1 => ?_) (fun h1 => nx _ _ ⟨wy, th, lo, os, ls, L, o6, rfl, hls, hL, hB, hlen, hos, hlo, src, D1, K1⟩)⟩
      refine ⟨_, rfl, n, rfl, hn2, fun l L1 M1 ln ⟨vs, e1, e2⟩ hB1 hlen1 s1 => ⟨l, rfl, ⟨_, SqL.of e1⟩, fun Da hD => ?_⟩⟩
      have hDa : H Da = none := K1.dom D1 (s1.free hD)
      obtain ⟨dp, dc⟩ := D.inp hDa
      obtain ⟨lp, lc⟩ := D1.inp ln
      have nlD : l ≠ Da := ne_of_none e1 hD
      have D2 := D1.same s1
      have no : lo ≠ Da := ne_of_none (s1 _ _ src) hD
      refine lc_list (xs := vs) (fun i M2 => FI p c H l vs L1 Da i M2 ∧ M2 lo = some (.lst (os.map V.int))) ⟨⟨⟨[], [], upd_same, .nil, (fun _ z => nomatch z), Nat.le_refl _⟩, by rw [upd_ne nlD]; exact e1, e2.mono (new_tup hD), D2.new hD, (K1.trans (kp_same s1)).trans (kp_new hD)⟩, by rw [upd_ne (ne_of_none (s1 _ _ src) hD)]; exact s1 _ _ src⟩ (fun i M2 _ fi => SqL.of fi.1.src) ?_ ?_
      · rintro i x M2 hx ⟨fi, so⟩
        have hi : i < vs.length := (List.getElem?_eq_some_iff.mp hx).1
        have := e2.len
        refine ⟨rfl, _, rfl, p, c, _, rfl, fi.dk, by decide, by decide, fun r M3 r0 r1 D3 K3 => ⟨_, rfl, _, _, rfl, rfl, _, rfl, ite2 (fun h2 => ?_) (fun h2 => ?_)⟩⟩
        · obtain ⟨acc, f1, f2, f3⟩ := (fi.step lp lc dp dc D3 K3).put hDa nlD dp dc (by omega) hx
          refine ⟨_, rfl, acc, f1, f2, f3, ?_⟩
          rw [upd_ne no]
          exact K3 _ _ np nc so
        · exact ⟨(fi.step lp lc dp dc D3 K3).skip, K3 _ _ np nc so⟩
      · rintro M2 ⟨fi, so⟩
        obtain ⟨ws, L2, f1, f2, f3, f4⟩ := fi.ex
        have := e2.len
        exact nx _ _ ⟨wy, th, lo, os, Da, L2, o6, rfl, hDa, ⟨ws, f1, f2⟩, hB1.sub f3, by omega, hos, hlo, so, fi.dk, fi.kp⟩
    case i2 =>
      rintro D0 σ M ⟨wy, th, lo, os, ls, L, o6, rfl, hls, hL, hB, hlen, hos, hlo, src, D1, K1⟩ nx
      obtain ⟨np, nc⟩ := D.inp hlo
      refine ⟨_, rfl, rfl, _, rfl, ite2 (fun h1 => ?_) (fun h1 => nx _ _ ⟨wy, th, lo, os, ls, L, o6, rfl, hls, hL, hB, hlen, hos, hlo, src, D1, K1⟩)⟩
      -- near = order[:1 + draw(n)]
      refine ⟨_, rfl, _, rfl, _, rfl, p, c, _, rfl, D1, by omega, by omega, fun r N r0 r1 DN KN => ⟨_, _, rfl, rfl, _, rfl, lo, _, rfl, SqL.of (KN _ _ np nc src), fun nr hnr => ?_⟩⟩
      have DN1 := DN.new (o := .lst (cutV (os.map V.int) none (some (1 + r)))) hnr
      have KN1 := (K1.trans KN).trans (kp_new (o := .lst (cutV (os.map V.int) none (some (1 + r)))) hnr)
      have hnrH : H nr = none := K1.dom D1 (KN.dom DN hnr)
      have nn : lo ≠ nr := ne_of_none (KN _ _ np nc src) hnr
      obtain ⟨rp, rc⟩ := D.inp hnrH
      have so1 : (upd N nr (.lst (cutV (os.map V.int) none (some (1 + r))))) lo = some (.lst (os.map V.int)) := by rw [upd_ne nn]; exact KN _ _ np nc src
      have flat : (cutV (os.map V.int) none (some (1 + r))).all flatV = true := by
        refine List.all_eq_true.mpr fun v hv => ?_
        obtain ⟨i, _, rfl⟩ := List.mem_map.mp (List.mem_of_mem_drop (List.mem_of_mem_take hv))
        rfl
      -- the pairs with one end in it
      refine ⟨_, rfl, n, rfl, hn2, fun l L1 M1 ln ⟨vs, e1, e2⟩ hB1 hlen1 s1 => ⟨l, rfl, ⟨_, SqL.of e1⟩, fun Da hD => ?_⟩⟩
      have hDa : H Da = none := KN1.dom DN1 (s1.free hD)
      have hlH : H l = none := KN1.dom DN1 ln
      obtain ⟨dp, dc⟩ := D.inp hDa
      obtain ⟨lp, lc⟩ := D.inp hlH
      have nlD : l ≠ Da := ne_of_none e1 hD
      have D2 := DN1.same s1
      have no : lo ≠ Da := ne_of_none (s1 _ _ so1) hD
      have nrD : nr ≠ Da := ne_of_none (s1 _ _ upd_same) hD
      refine lc_list (xs := vs) (fun i M2 => FI p c H l vs L1 Da i M2 ∧ M2 lo = some (.lst (os.map V.int)) ∧ M2 nr = some (.lst (cutV (os.map V.int) none (some (1 + r)))))
        ⟨⟨⟨[], [], upd_same, .nil, (fun _ z => nomatch z), Nat.le_refl _⟩, by rw [upd_ne nlD]; exact e1, e2.mono (new_tup hD), D2.new hD, (KN1.trans (kp_same s1)).trans (kp_new hD)⟩, by rw [upd_ne no]; exact s1 _ _ so1, by rw [upd_ne nrD]; exact s1 _ _ upd_same⟩ (fun i M2 _ fi => SqL.of fi.1.src) ?_ ?_
      · rintro i x M2 hx ⟨fi, so, sn⟩
        have hi : i < vs.length := (List.getElem?_eq_some_iff.mp hx).1
        have := e2.len
        obtain ⟨a, q, rfl, hq, ha⟩ := fi.prs.get hx
        refine ⟨rfl, _, rfl, a, _, _, _, rfl, rfl, SqT.of ha, atI_nat (j := 0) rfl, _, rfl, nr, _, rfl, .inl (SqL.of sn), rfl, flat, _, rfl, a, _, _, _, rfl, rfl, SqT.of ha, atI_nat (j := 1) rfl, _, rfl, nr, _, rfl, .inl (SqL.of sn), rfl, flat, rfl, _, rfl, ite2 (fun h2 => ?_) (fun h2 => ?_)⟩
        · obtain ⟨acc, f1, f2, f3⟩ := fi.put hDa nlD dp dc (by omega) hx
          exact ⟨_, rfl, acc, f1, f2, f3, by rw [upd_ne no]; exact so, by rw [upd_ne nrD]; exact sn⟩
        · exact ⟨fi.skip, so, sn⟩
      rintro M2 ⟨fi, so, sn⟩
      -- .. some of them
      obtain ⟨ws, L2, f1, f2, f3, f4⟩ := fi.ex
      have lL2 : L2.length ≤ 144 := by have := e2.len; omega
      refine ⟨_, rfl, Da, rfl, ⟨_, SqL.of f1⟩, fun Db hb => ?_⟩
      have hDb : H Db = none := fi.kp.dom fi.dk hb
      obtain ⟨bp, bc⟩ := D.inp hDb
      have nab : Da ≠ Db := ne_of_none f1 hb
      have nob : lo ≠ Db := ne_of_none so hb
      refine lc_list (xs := ws) (fun i M3 => FI p c H Da ws L2 Db i M3 ∧ M3 lo = some (.lst (os.map V.int)))
        ⟨⟨⟨[], [], upd_same, .nil, (fun _ z => nomatch z), Nat.le_refl _⟩, by rw [upd_ne nab]; exact f1, f2.mono (new_tup hb), fi.dk.new hb, fi.kp.trans (kp_new hb)⟩, by rw [upd_ne nob]; exact so⟩ (fun i M3 _ fj => SqL.of fj.1.src) ?_ ?_
      · rintro i x M3 hx ⟨fj, so⟩
        have hi : i < ws.length := (List.getElem?_eq_some_iff.mp hx).1
        have := f2.len
        refine ⟨rfl, _, rfl, p, c, _, rfl, fj.dk, by decide, by decide, fun r M4 r0 r1 D3 K3 => ⟨_, rfl, _, _, rfl, rfl, _, rfl, ite2 (fun h2 => ?_) (fun h2 => ?_)⟩⟩
        · obtain ⟨acc, g1, g2, g3⟩ := (fj.step dp dc bp bc D3 K3).put hDb nab bp bc (by omega) hx
          exact ⟨_, rfl, acc, g1, g2, g3, by rw [upd_ne nob]; exact K3 _ _ np nc so⟩
        · exact ⟨(fj.step dp dc bp bc D3 K3).skip, K3 _ _ np nc so⟩
      · rintro M3 ⟨fj, so⟩
        obtain ⟨ws', L3, g1, g2, g3, g4⟩ := fj.ex
        have := f2.len
        exact nx _ _ ⟨wy, th, lo, os, Db, L3, _, rfl, hDb, ⟨ws', g1, g2⟩, (hB1.sub f3).sub g3, by omega, hos, hlo, so, fj.dk, fj.kp⟩
    case i3 =>
      rintro D0 σ M ⟨wy, th, lo, os, ls, L, o6, rfl, hls, hL, hB, hlen, hos, hlo, src, D1, K1⟩ nx
      obtain ⟨np, nc⟩ := D.inp hlo
      have stay := nx _ _ ⟨wy, th, lo, os, ls, L, o6, rfl, hls, hL, hB, hlen, hos, hlo, src, D1, K1⟩
      refine ⟨_, rfl, rfl, _, rfl, ite2 (fun h1 => ⟨_, rfl, _, _, rfl, rfl, _, rfl, ite2 (fun h2 => ?_) (fun h2 => stay)⟩) (fun h1 => stay)⟩
      have n3 : 2 < n := by have := of_decide_eq_true h2; omega
      refine ⟨_, rfl, _, rfl, by omega, by omega, fun Da hD => ?_⟩
      have hDa : H Da = none := K1.dom D1 hD
      obtain ⟨dp, dc⟩ := D.inp hDa
      have nlD : lo ≠ Da := ne_of_none src hD
      refine lc_range (lo := 0) (n := (n : Int).toNat) (fun i M2 => GI p c H lo os n Da i M2) ⟨⟨[], [], upd_same, .nil, .nil, Nat.le_refl _⟩, by rw [upd_ne nlD]; exact src, D1.new hD, K1.trans (kp_new hD)⟩ ?_ ?_
      · rintro i M2 hi g
        obtain ⟨y, y1, y2, y3, y4⟩ := os_at hos (i := i) (by omega)
        obtain ⟨x, j, x1, x2, x3, x4, xj⟩ : ∃ (x : Int) (j : Nat), os[j]? = some x ∧ atI (os.map V.int) (0 + (i : Int) - 1) = some (.int x) ∧ 0 ≤ x ∧ x < n ∧ j ≠ i := by
          cases i with
          | zero =>
            obtain ⟨x, h1, h2⟩ := atI_neg1 hos hn1
            have := hos.mem (List.mem_of_getElem? h1)
            exact ⟨x, n - 1, h1, h2, this.1, this.2, by omega⟩
          | succ i =>
            obtain ⟨x, h1, h2, h3, h4⟩ := os_at hos (i := i) (by omega)
            refine ⟨x, i, h1, ?_, h3, h4, by omega⟩
            rw [show (0 + ((i + 1 : Nat) : Int) - 1) = (i : Int) by omega]
            exact atI_nat h2
        have e0 : atI (os.map V.int) (0 + (i : Int)) = some (.int y) := by rw [Int.zero_add]; exact atI_nat y2
        refine ⟨rfl, ?_⟩
        unfold tYes
        refine iteT ?_
        refine ⟨_, rfl, _, rfl, _, _, rfl, rfl, lo, _, _, _, rfl, rfl, SqL.of g.src, x2, _, rfl, _, rfl, lo, _, _, _, rfl, rfl, SqL.of g.src, e0, x, y, rfl, fun a ha => ?_⟩
        exact g.put hDa nlD dp dc (by omega) ha (mm_bel ⟨x3, x4⟩ ⟨y3, y4⟩ (hos.ne x1 y1 xj))
      · rintro M2 g
        obtain ⟨ws, L2, f1, f2, f3, f4⟩ := g.ex
        exact nx _ _ ⟨wy, th, lo, os, Da, L2, o6, rfl, hDa, ⟨ws, f1, f2⟩, f3, by omega, hos, hlo, g.src, g.dk, g.kp⟩
    case i4 =>
      rintro D0 σ M ⟨wy, th, lo, os, ls, L, o6, rfl, hls, hL, hB, hlen, hos, hlo, src, D1, K1⟩ nx
      obtain ⟨np, nc⟩ := D.inp hlo
      refine ⟨_, rfl, rfl, _, rfl, ite2 (fun h1 => ?_) (fun h1 => nx _ _ ⟨wy, th, lo, os, ls, L, o6, rfl, hls, hL, hB, hlen, hos, hlo, src, D1, K1⟩)⟩
      refine ⟨_, rfl, _, _, rfl, ⟨by omega, by omega, by omega, by omega⟩, fun Da hD => ?_⟩
      have hDa : H Da = none := K1.dom D1 hD
      obtain ⟨dp, dc⟩ := D.inp hDa
      have nlD : lo ≠ Da := ne_of_none src hD
      refine lc_range (lo := 1) (n := ((n : Int) - 1).toNat) (fun i M2 => GI p c H lo os n Da i M2) ⟨⟨[], [], upd_same, .nil, .nil, Nat.le_refl _⟩, by rw [upd_ne nlD]; exact src, D1.new hD, K1.trans (kp_new hD)⟩ ?_ ?_
      · rintro i M2 hi g
        obtain ⟨y, y1, y2, y3, y4⟩ := os_at hos (i := i + 1) (by omega)
        have e0 : atI (os.map V.int) (1 + (i : Int)) = some (.int y) := by rw [show (1 + (i : Int)) = ((i + 1 : Nat) : Int) by omega]; exact atI_nat y2
        refine ⟨rfl, ?_⟩
        unfold tYes
        refine iteT ?_
        refine ⟨_, rfl, _, rfl, lo, _, _, _, rfl, rfl, SqL.of g.src, e0, _, rfl, _, rfl, _, rfl, p, c, _, rfl, g.dk, by omega, by omega, fun r M3 r0 r1 D3 K3 => ?_⟩
        obtain ⟨j, rfl⟩ : ∃ j : Nat, r = j := ⟨r.toNat, by omega⟩
        obtain ⟨x, x1, x2, x3, x4⟩ := os_at hos (i := j) (by omega)
        have g3 := g.step np nc dp dc D3 K3
        refine ⟨lo, _, _, _, rfl, rfl, SqL.of g3.src, atI_nat x2, y, x, rfl, fun a ha => ?_⟩
        exact g3.put hDa nlD dp dc (by omega) ha (mm_bel ⟨y3, y4⟩ ⟨x3, x4⟩ (hos.ne y1 x1 (by omega)))
      · rintro M2 g
        obtain ⟨ws, L2, f1, f2, f3, f4⟩ := g.ex
        exact nx _ _ ⟨wy, th, lo, os, Da, L2, o6, rfl, hDa, ⟨ws, f1, f2⟩, f3, by omega, hos, hlo, g.src, g.dk, g.kp⟩
    case i5 =>
      rintro D0 σ M ⟨wy, th, lo, os, ls, L, o6, rfl, hls, hL, hB, hlen, hos, hlo, src, D1, K1⟩ nx
      obtain ⟨np, nc⟩ := D.inp hlo
      refine ⟨_, rfl, rfl, _, rfl, ite2 (fun h1 => ?_) (fun h1 => nx _ _ ⟨wy, th, lo, os, ls, L, o6, rfl, hls, hL, hB, hlen, hos, hlo, src, D1, K1⟩)⟩
      refine ⟨_, rfl, _, _, rfl, rfl, _, _, _, n / 2, rfl, range2_12 hn1 hn2, fun Da hD => ?_⟩
      have hDa : H Da = none := K1.dom D1 hD
      obtain ⟨dp, dc⟩ := D.inp hDa
      have nlD : lo ≠ Da := ne_of_none src hD
      refine lc_it walk_rangeC (fun i M2 => GI p c H lo os n Da i M2) ⟨⟨[], [], upd_same, .nil, .nil, Nat.le_refl _⟩, by rw [upd_ne nlD]; exact src, D1.new hD, K1.trans (kp_new hD)⟩ (fun _ _ _ _ => trivial) ?_ ?_
      · rintro i v M2 M2' hi g ⟨rfl, rfl⟩
        obtain ⟨y, y1, y2, y3, y4⟩ := os_at hos (i := i * 2) (by omega)
        obtain ⟨x, x1, x2, x3, x4⟩ := os_at hos (i := i * 2 + 1) (by omega)
        have e0 : atI (os.map V.int) (0 + (i : Int) * 2) = some (.int y) := by rw [show (0 + (i : Int) * 2) = ((i * 2 : Nat) : Int) by omega]; exact atI_nat y2
        have e1 : atI (os.map V.int) (0 + (i : Int) * 2 + 1) = some (.int x) := by rw [show (0 + (i : Int) * 2 + 1) = ((i * 2 + 1 : Nat) : Int) by omega]; exact atI_nat x2
        refine ⟨rfl, ?_⟩
        unfold tYes
        refine iteT ?_
        refine ⟨_, rfl, _, rfl, lo, _, _, _, rfl, rfl, SqL.of g.src, e0, _, rfl, _, rfl, _, _, rfl, rfl, lo, _, _, _, rfl, rfl, SqL.of g.src, e1, y, x, rfl, fun a ha => ?_⟩
        exact g.put hDa nlD dp dc (by omega) ha (mm_bel ⟨y3, y4⟩ ⟨x3, x4⟩ (hos.ne y1 x1 (by omega)))
      · rintro M2 g
        obtain ⟨ws, L2, f1, f2, f3, f4⟩ := g.ex
        exact nx _ _ ⟨wy, th, lo, os, Da, L2, o6, rfl, hDa, ⟨ws, f1, f2⟩, f3, by omega, hos, hlo, g.src, g.dk, g.kp⟩
    case i6 =>
      rintro σ M Q1 ⟨⟨wy, th, lo, os, ls, L, o6, rfl, _, _, _, _, _, _, _, D1, K1⟩, q⟩
      refine ⟨_, rfl, _, _, rfl, rfl, _, rfl, ite2 (fun h1 => ?_) (fun h1 => ?_)⟩
      · refine ⟨_, rfl, _, _, rfl, rfl, _, rfl, ite2 (fun h2 => ?_) (fun h2 => ?_)⟩
        · refine ⟨_, rfl, p, c, _, rfl, D1, by decide, by decide, fun r M1 r0 r1 D2 K2 => ?_⟩
          obtain ⟨j, rfl⟩ : ∃ j : Nat, r = j := ⟨r.toNat, by omega⟩
          have := of_decide_eq_true h1
          exact q j M1 (by omega) (.inr (by omega)) D2 K2
        · exact q 0 M (by decide) (.inl rfl) D1 fun _ _ _ _ e => e
      · exact q 0 M (by decide) (.inl rfl) D1 fun _ _ _ _ e => e
    case i0 =>
      refine ⟨_, rfl, p, c, _, rfl, D, by decide, by decide, fun wy H1 w0 w1 D1 K1 => ⟨_, rfl, p, c, _, rfl, D1, by decide, by decide, fun th H2 t0 t1 D2 K2 => ⟨_, _, rfl, rfl, _, rfl, _, rfl, p, c, n, rfl, hn2, D2, fun lo os H3 lon loe hos D3 K3 => ⟨Nat.zero_le _, fun ls hls => ⟨by show 4 ≤ sizeLine; decide, fun t ht => ?_⟩⟩⟩⟩⟩
      have D4 := (D3.new (o := .lst []) hls).new (o := .tup [.int wy, .int (1 + th), .ref lo, .ref ls]) ht
      have K4 : Kp p c H (upd (upd H3 ls (.lst [])) t (.tup [.int wy, .int (1 + th), .ref lo, .ref ls])) := ((((K1.trans K2).trans K3).trans (kp_new hls)).trans (kp_new ht))
      have K12 := K1.trans K2
      have hlsH : H ls = none := (K12.trans K3).dom D3 hls
      have hloH : H lo = none := K12.dom D2 lon
      have e1 : (upd (upd H3 ls (.lst [])) t (.tup [.int wy, .int (1 + th), .ref lo, .ref ls])) ls = some (.lst []) := by rw [upd_ne (ne_of_none upd_same ht)]; exact upd_same
      have e2 : (upd (upd H3 ls (.lst [])) t (.tup [.int wy, .int (1 + th), .ref lo, .ref ls])) lo = some (.lst (os.map V.int)) := by
        have q : (upd H3 ls (.lst [])) lo = some (.lst (os.map V.int)) := by rw [upd_ne (ne_of_none loe hls)]; exact loe
        rw [upd_ne (ne_of_none q ht)]
        exact q
      refine ⟨t, _, rfl, SqT.of upd_same, rfl, _, _, rfl, _, _, rfl, _, _, rfl, _, _, rfl, rfl, ?_⟩
      refine ⟨⟨wy, 1 + th, lo, os, ls, [], none, rfl, hlsH, ⟨[], e1, .nil⟩, .nil, Nat.zero_le _, hos, hloH, e2, D4, K4⟩, fun σ1 M1 j1 => ⟨j1, fun σ2 M2 j2 => ⟨j2, fun σ3 M3 j3 => ⟨j3, fun σ4 M4 j4 => ⟨j4, fun σ5 M5 j5 => ⟨j5, fun m M6 hm hm2 D6 K6 => ?_⟩⟩⟩⟩⟩⟩
      obtain ⟨wy', th', lo', os', ls', L, o6, rfl, hls', hL, hB, hlen, _, _, _, D5, K5⟩ := j5
      obtain ⟨lp, lc⟩ := D.inp hls'
      refine ⟨_, rfl, by omega, by omega, ?_⟩
      refine for_range (lo := 0) (n := (m : Int).toNat) (fun i σ M => ∃ (L : List (Int × Int)) (o7 o8 o9 : Option V), σ = [some (.ref p), some (.int n), some (.int wy'), some (.int th'), some (.ref lo'), some (.ref ls'), o6, o7, o8, o9, none, none] ∧ LP M ls' L ∧ Bel n L ∧ L.length ≤ 144 + i ∧ Deck M p c ∧ Kp p c H M)
        ⟨L, none, none, none, rfl, hL.kp D5 K6 lp lc, hB, hlen, D6, K5.trans K6⟩ ?_ ?_
      · rintro i σ M hi ⟨L, o7, o8, o9, rfl, hL, hB, hlen, D7, K7⟩
        have hn : 2 ≤ n := by omega
        refine ⟨_, rfl, _, rfl, p, c, _, rfl, D7, by omega, by omega, fun x N1 x0 x1 E1 G1 => ⟨_, rfl, _, rfl, _, _, rfl, rfl, p, c, _, rfl, E1, by omega, by omega, fun y N2 y0 y1 E2 G2 => ⟨_, _, rfl, rfl, _, _, rfl, ?_⟩⟩⟩
        have hL2 := (hL.kp D7 G1 lp lc).kp E1 G2 lp lc
        obtain ⟨vs, f1, f2⟩ := hL2
        have fm := fmod_in (a := x + (1 + y)) (b := (n : Int)) (by omega)
        have ne : x ≠ (x + (1 + y)).fmod n := by
          rw [Int.fmod_eq_emod_of_nonneg _ (by omega)]
          by_cases z : x + (1 + y) < n
          · rw [Int.emod_eq_of_lt (by omega) z]; omega
          · have : (x + (1 + y)) % (n : Int) = x + (1 + y) - n := by
              rw [← Int.sub_emod_right, Int.emod_eq_of_lt (by omega) (by omega)]
            rw [this]; omega
        refine ⟨_, rfl, .inl ⟨rfl, _, SqL.of f1⟩, _, rfl, _, rfl, _, rfl, _, _, rfl, rfl, .inl ⟨_, rfl, _, rfl, _, _, rfl, rfl, by omega, ?_⟩⟩
        refine ⟨_, _, rfl, fun a ha => ?_⟩
        have f1' : (upd N2 a (.tup [.int (mm x ((x + (1 + y)).fmod n)).1, .int (mm x ((x + (1 + y)).fmod n)).2])) ls' = some (.lst vs) := by rw [upd_ne (ne_of_none f1 ha)]; exact f1
        refine ⟨ls', _, _, rfl, rfl, f1', by rw [f2.len, sizeLine_eq]; omega, L ++ [mm x ((x + (1 + y)).fmod n)], _, _, _, rfl, ⟨_, upd_same, ((f2.mono (new_tup ha)).app (.cons upd_same .nil)).mono (upd_tup f1')⟩, hB.snoc (mm_bel ⟨x0, x1⟩ fm ne), by rw [List.length_append]; show L.length + 1 ≤ _; omega, (E2.new ha).put lp lc, ?_⟩
        exact ((((K7.trans G1).trans G2).trans (kp_new ha)).own hls')
      · rintro σ M ⟨L, o7, o8, o9, rfl, hL, hB, hlen, D7, K7⟩
        exact ⟨_, rfl, k ls' L M hls' hL hB (by omega) D7 K7⟩
end
end K0

set_option Elab.async false
set_option linter.all false
set_option maxRecDepth 100000
set_option maxHeartbeats 8000000
/-! A drawn web. -/
namespace K0
open PySem PySem.Spec L2
open PyProof.Rows hiding St
/-- a pair as data -/
def pd (q : Int × Int) : PyData := .tuple [.int q.1, .int q.2]
theorem Prs.dp {K : PySem.W.Frag} {H : Hp} {vs : List V} {L : List (Int × Int)} (p : Prs H vs L) : DpAll K H vs (L.map pd) := by
  induction p with
  | nil => exact .nil
  | cons h t ih => exact .cons (Dp.tup (SqT.of h) (.cons (.int _) (.cons (.int _) .nil))) ih
theorem pd_shaped (L : List (Int × Int)) : SeqAt.shaped (.list (L.map pd)) = true := by
  have h : ∀ M : List (Int × Int), PyData.canLayAll0 (M.map pd) = true ∧ PyData.depthAll (M.map pd) ≤ 1 := fun M => by
    induction M with
    | nil => exact ⟨by simp [PyData.canLayAll0], by simp [PyData.depthAll]⟩
    | cons y ys ih => exact ⟨by simp [pd, PyData.canLayAll0, PyData.canLay0, ih.1], by
        have := ih.2
        simp only [List.map_cons, pd, PyData.depthAll, PyData.depth] at this ⊢
        omega⟩
  show (PyData.canLay0 _ && decide (PyData.depth _ ≤ 64)) = true
  rw [Bool.and_eq_true]
  exact ⟨by simp only [PyData.canLay0]; exact (h L).1, decide_eq_true (by simp only [PyData.depth]; have := (h L).2; omega)⟩
theorem pd_eqv0 (L : List (Int × Int)) : PyData.eqv (.list (L.map pd)) (.list []) = decide (L = []) := by
  cases L with
  | nil => rfl
  | cons q L => simp [PyData.eqv, PyData.eqvAll]
/-- the order of pairs -/
def cd (q : Int × Int) : Int := q.1 * 64 + q.2
def Srt (L : List (Int × Int)) : Prop := L.Pairwise fun a b => cd a ≤ cd b
theorem Prs.mem {H : Hp} {vs : List V} {L : List (Int × Int)} (p : Prs H vs L) : ∀ {q : Int × Int}, q ∈ L → ∃ a, V.ref a ∈ vs ∧ H a = some (.tup [.int q.1, .int q.2]) := by
  induction p with
  | nil => intro q z; cases z
  | @cons a r vs L h t ih =>
    intro q z
    rcases List.mem_cons.mp z with rfl | z
    · exact ⟨a, List.mem_cons_self .., h⟩
    · obtain ⟨b, h1, h2⟩ := ih z
      exact ⟨b, List.mem_cons_of_mem _ h1, h2⟩
theorem Prs.memV {H : Hp} {vs : List V} {L : List (Int × Int)} (p : Prs H vs L) : ∀ {v : V}, v ∈ vs → ∃ a q, v = .ref a ∧ q ∈ L ∧ H a = some (.tup [.int q.1, .int q.2]) := by
  induction p with
  | nil => intro q z; cases z
  | @cons a r vs L h t ih =>
    intro v z
    rcases List.mem_cons.mp z with rfl | z
    · exact ⟨a, r, rfl, List.mem_cons_self .., h⟩
    · obtain ⟨b, q, h1, h2, h3⟩ := ih z
      exact ⟨b, q, h1, List.mem_cons_of_mem _ h2, h3⟩
theorem tupI_pr {K : PySem.W.Frag} {H : Hp} {a : Addr} {q : Int × Int} (h : H a = some (.tup [.int q.1, .int q.2])) : TupI K H (.ref a) [q.1, q.2] := ⟨a, rfl, SqT.of h⟩
theorem Prs.srt {K : PySem.W.Frag} {H : Hp} {ys : List V} {M : List (Int × Int)} (p : Prs H ys M) : ys.Pairwise (fun x y => ∀ n m, TupI K H x n → TupI K H y m → TS.code 64 n ≤ TS.code 64 m) → Srt M := by
  induction p with
  | nil => intro _; exact .nil
  | @cons a r vs L h t ih =>
    intro z
    obtain ⟨z1, z2⟩ := List.pairwise_cons.mp z
    refine List.pairwise_cons.mpr ⟨fun q hq => ?_, ih z2⟩
    obtain ⟨b, hb, eb⟩ := t.mem hq
    have := z1 _ hb _ _ (tupI_pr h) (tupI_pr eb)
    rw [code_pair, code_pair] at this
    exact this
theorem Prs.tups {K : PySem.W.Frag} {H : Hp} {vs : List V} {L : List (Int × Int)} {n : Int} (p : Prs H vs L) (hB : Bel n L) (hn : n ≤ 64) : ∀ x ∈ vs, ∃ ns, TupI K H x ns ∧ ns.length = 2 ∧ TS.Bd 64 ns := fun x hx => by
  obtain ⟨a, q, rfl, hq, h⟩ := p.memV hx
  have := hB q hq
  refine ⟨_, tupI_pr h, rfl, fun m hm => ?_⟩
  rcases List.mem_cons.mp hm with rfl | hm
  · omega
  · rw [List.mem_singleton.mp hm]; omega
/-- a web stands at w -/
structure Web (H : Hp) (w : Addr) (n : Nat) (L : List (Int × Int)) : Prop where
  ex : ∃ (t : Addr) (vs : List V), H w = some (.tup [.int n, .ref t]) ∧ H t = some (.tup vs) ∧ Prs H vs L
theorem Web.mono {H H' : Hp} {w : Addr} {n : Nat} {L : List (Int × Int)} (W : Web H w n L) (s : ∀ a x, H a = some (.tup x) → H' a = some (.tup x)) : Web H' w n L := by
  obtain ⟨t, vs, h1, h2, h3⟩ := W.ex
  exact ⟨t, vs, s _ _ h1, s _ _ h2, h3.mono s⟩
theorem Web.same {H H' : Hp} {w : Addr} {n : Nat} {L : List (Int × Int)} (W : Web H w n L) (s : Same H H') : Web H' w n L := W.mono (same_tup s)
/-- what a comprehension of new pairs has made -/
structure GJ (p c : Addr) (H : Hp) (n : Int) (Da : Addr) (i : Nat) (M : Hp) : Prop where
  ex : ∃ (ws : List V) (L2 : List (Int × Int)), M Da = some (.lst ws) ∧ Prs M ws L2 ∧ Bel n L2 ∧ L2.length ≤ i
  dk : Deck M p c
  kp : Kp p c H M
theorem GJ.put {p c Da : Addr} {H M : Hp} {n : Int} {i : Nat} (h : GJ p c H n Da i M) (hD : H Da = none) (n3 : Da ≠ p) (n4 : Da ≠ c) (hi : i ≤ 1000) {a : Addr} {q : Int × Int} (ha : M a = none) (hq : 0 ≤ q.1 ∧ q.1 < q.2 ∧ q.2 < n) :
    ∃ acc, (upd M a (.tup [.int q.1, .int q.2])) Da = some (.lst acc) ∧ acc.length < sizeLine ∧ GJ p c H n Da (i + 1) (upd (upd M a (.tup [.int q.1, .int q.2])) Da (.lst (acc ++ [.ref a]))) := by
  obtain ⟨ws, L2, e1, e2, e3, e4⟩ := h.ex
  have e1' : (upd M a (.tup [.int q.1, .int q.2])) Da = some (.lst ws) := by rw [upd_ne (ne_of_none e1 ha)]; exact e1
  exact ⟨ws, e1', by rw [e2.len, sizeLine_eq]; omega, ⟨ws ++ [.ref a], L2 ++ [q], upd_same, ((e2.mono (new_tup ha)).app (.cons upd_same .nil)).mono (upd_tup e1'), e3.snoc hq, by rw [List.length_append]; show L2.length + 1 ≤ _; omega⟩, (h.dk.new ha).put n3 n4, (h.kp.trans (kp_new ha)).own hD⟩
/-- a row of pairs stays while a new tuple and another list are written -/
theorem LP.past {M : Hp} {l a Da : Addr} {L : List (Int × Int)} {o : HO} {ws : List V} {acc : List V} (h : LP M l L) (ha : M a = none) (eD : (upd M a o) Da = some (.lst acc)) (ne : l ≠ Da) : LP (upd (upd M a o) Da (.lst ws)) l L :=
  (h.mono (fun ys e => by rw [upd_ne (ne_of_none e ha)]; exact e) (new_tup ha)).mono (fun ys e => by rw [upd_ne ne]; exact e) (upd_tup eD)
theorem LP.new {M : Hp} {l a : Addr} {L : List (Int × Int)} {o : HO} (h : LP M l L) (ha : M a = none) : LP (upd M a o) l L := h.mono (fun ys e => by rw [upd_ne (ne_of_none e ha)]; exact e) (new_tup ha)
def spWeb : Sp := fun vs H Q _ => ∃ (p c : Addr) (n m : Nat), vs = [.ref p, .int n, .int m] ∧ 1 ≤ n ∧ n ≤ 12 ∧ m ≤ 40 ∧ Deck H p c ∧ ∀ (w : Addr) (L : List (Int × Int)) (H' : Hp), H w = none → Web H' w n L → Bel n L → Srt L → L.length ≤ m → Deck H' p c → Kp p c H H' → Q (.ref w) H'
abbrev nWeb : List Str := ["_law_deck_here", "_law_n", "_law_most", "_law_near", "_law_some", "_law_order_here", "_law_turn", "_law_one", "_law_other"]
/-- between the statements -/
def WJ (p c : Addr) (n m : Nat) (H : Hp) (near b lb : Nat) (σ : St) (M : Hp) : Prop := ∃ (ls lo : Addr) (L : List (Int × Int)) (os : List Int) (o6 : Option V),
  σ = [some (.ref p), some (.int n), some (.int m), some (.int near), some (.ref ls), some (.ref lo), o6, none, none] ∧ 1 ≤ near ∧ near ≤ n ∧ H ls = none ∧ H lo = none ∧ LP M ls L ∧ L.length ≤ lb ∧
  IsOrd n os ∧ M lo = some (.lst (os.map V.int)) ∧ Deck M p c ∧ Kp p c H M ∧ Bel b L
section
variable {P : Program} {w : World} {K : PySem.W.Frag} {mg : Str → Option Value} {base : Heap}
theorem scWeb : FnScope nWeb ["_law_deck_here", "_law_n", "_law_most"] (defScope sWeb) := ⟨rfl, rfl, rfl, by decide +kernel, rfl, by decide +kernel, by decide +kernel⟩
theorem ok_web {f fD fO fP fT fK : Addr} {fd fdD fdO fdP fdT fdK : FuncData} (F : Fun K "_law_web" "_law_web" sWeb f fd) (T : Bj mg) (GD : Dn P w K mg base "_law_draw" 1 ["_law_deck_here", "_law_many"] spDraw fD fdD)
    (GO : Dn P w K mg base "_law_order" 2 ["_law_deck_here", "_law_n"] spOrder fO fdO) (GP : Dn P w K mg base "_law_pair" 1 ["_law_one", "_law_other"] spPair fP fdP) (GT : Dn P w K mg base "_law_drawn_ties" 3 ["_law_deck_here", "_law_n"] spTies fT fdT)
    (GK : Dn P w K mg base "_law_pick" 2 ["_law_deck_here", "_law_some"] spPick fK fdK) :
    FnOk P w K mg base CX0 4 f fd ["_law_deck_here", "_law_n", "_law_most"] spWeb := by
  refine F.ok scWeb (fun vs H Q E h => ?_) (fun cdv A outer s H vs Q E hr h => ?_)
  · obtain ⟨p, c, n, m, rfl, _⟩ := h
    rfl
  · obtain ⟨p, c, n, m, rfl, hn1, hn2, hm, D, k⟩ := h
    have hr1 : Room 1 (A.deeper (envOfC "_law_web" (defScope sWeb) s.heap.objs.size f cdv)) := hr.mono (by decide)
    have hr2 : Room 2 (A.deeper (envOfC "_law_web" (defScope sWeb) s.heap.objs.size f cdv)) := hr.mono (by decide)
    have hu6 : A.units + 3 + 64 < cLine := by have := hr.un; have e : (A.deeper (envOfC "_law_web" (defScope sWeb) s.heap.objs.size f cdv)).units = A.units + 3 := rfl; omega
    refine ⟨_, pss_cons (ps_set (i := 3) scWeb.nd rfl (.inr rfl) (pe_imp (t' := fun σ M Q => σ = start nWeb [.ref p, .int n, .int m] ∧ M = H ∧ ∀ (k : Nat) (M1 : Hp), 1 ≤ k → k ≤ n → Deck M1 p c → Kp p c H M1 → Q (.int k) M1)
          (pe_ifExp (pt_cmpR op_eq (pe_call GD.ok hr1 rfl GD.g GD.kp GD.b .nil pass0 (pa_cons (pv 0) (pa_cons pe_int pa_nil))) pe_int (nomark _))
            (pe_op op_add pe_int (pe_call GD.ok hr1 rfl GD.g GD.kp GD.b .nil pass0 (pa_cons (pv 0) (pa_cons (pv 1) pa_nil)))) (pv 1)) ?j1))
      <| pss_cons (ps_asg (pe_tup (pa_cons (pe_call GT.ok hr rfl GT.g GT.kp GT.b .nil pass0 (pa_cons (pv 0) (pa_cons (pv 3) pa_nil))) (pa_cons (pe_listRg rfl (by rfl) T.list (prg_1 (by rfl) T.range (pv 1))) pa_nil)))
          (pg_tup rfl (pgs_cons (pg_name (i := 4) scWeb.nd rfl (.inl rfl)) (pgs_cons (pg_name (i := 5) scWeb.nd rfl (.inr rfl)) pgs_nil))))
      <| pss_cons (ps_inv (J := fun σ M => ∃ near, WJ p c n m H near near 160 σ M) (J' := fun σ M => ∃ near, WJ p c n m H near n 320 σ M) (ps_if (pt_cmpR op_lt (pv 3) (pv 1) (nomark _))
          (pss_cons (ps_set (i := 4) scWeb.nd rfl (.inl rfl) (pe_op op_cat (pv 4) (pe_lc (own := [("_law_one", 7), ("_law_other", 8)]) (g := gTup K 2 (gCons (gName 7) (gCons (gName 8) gNil))) (tt := tYes) rfl scWeb.nd
              (pi_list (pe_call GT.ok hr rfl GT.g GT.kp GT.b .nil pass0 (pa_cons (pv 0) (pa_cons (pe_op op_sub (pv 1) (pv 3)) pa_nil)))) (blkOk_by (N := nWeb) (sc := defScope sWeb) (by decide +kernel))
              (fun _ _ _ _ _ => pg_tup rfl (pgs_cons (pg_name (i := 7) scWeb.nd rfl (.inl rfl) (.inr rfl)) (pgs_cons (pg_name (i := 8) scWeb.nd rfl (.inl rfl) (.inr rfl)) pgs_nil))) (fun _ _ _ _ _ => pts_nil)
              (fun _ _ _ _ _ => pe_tup (pa_cons (pe_op op_add (pv 7) (pv 3)) (pa_cons (pe_op op_add (pv 8) (pv 3)) pa_nil))))))
          <| pss_one (ps_set (i := 5) scWeb.nd rfl (.inr rfl) (pe_call GO.ok hr2 rfl GO.g GO.kp GO.b .nil pass0 (pa_cons (pv 0) (pa_cons (pv 1) pa_nil))))) pss_nil) ?j2)
      <| pss_cons (ps_inv (J := fun σ M => ∃ near, WJ p c n m H near n 320 σ M) (J' := fun σ M => ∃ near, WJ p c n m H near n 320 σ M) (ps_setLc (i := 4) (own := [("_law_one", 7), ("_law_other", 8)]) (g := gTup K 2 (gCons (gName 7) (gCons (gName 8) gNil))) (tt := tYes) rfl scWeb.nd rfl rfl (sw_true rfl rfl rfl (by decide +kernel))
              (pi_list (pv 4)) (blkOk_by (N := nWeb) (sc := defScope sWeb) (by decide +kernel))
              (fun _ _ _ _ _ => pg_tup rfl (pgs_cons (pg_name (i := 7) scWeb.nd rfl (.inl rfl) (.inr rfl)) (pgs_cons (pg_name (i := 8) scWeb.nd rfl (.inl rfl) (.inr rfl)) pgs_nil))) (fun _ _ _ _ _ => pts_nil)
              (fun _ _ _ _ _ => pe_call GP.ok hr1 rfl GP.g GP.kp GP.b .nil pass0 (pa_cons (pe_ix (show IxR _ (rIxL K) from ix_list) (pv 5) (pv 7) (fun _ _ => rfl)) (pa_cons (pe_ix (show IxR _ (rIxL K) from ix_list) (pv 5) (pv 8) (fun _ _ => rfl)) pa_nil)))) ?j3)
      <| pss_cons (ps_for PassesOwn.never rfl (pi_range1 (by rfl) T.range (pa_cons (pe_imp (t' := fun σ M Q => (∃ near, WJ p c n m H near n 320 σ M) ∧ ∀ (ls : Addr) (j : Nat) (M1 : Hp), σ[4]? = some (some (.ref ls)) → j ≤ 3 → (∀ L, LP M ls L → LP M1 ls L ∧ (j = 0 ∨ L ≠ [])) → Deck M1 p c → Kp p c H M1 → Q (.int j) M1)
            (pe_ifExp (pt_cmpR (op_neD hu6) (pv 4) (pe_lst pa_nil) (nomark _)) (pe_call GD.ok hr1 rfl GD.g GD.kp GD.b .nil pass0 (pa_cons (pv 0) (pa_cons pe_int pa_nil))) pe_int) ?j4) pa_nil)) (pg_name (i := 6) scWeb.nd rfl (.inl rfl))
          (pss_one (ps_expr (pe_bm PySem.F.plainAttrs_list PySem.F.slot_list_append PySem.F.type_list_append mt_append (pv 4) (pa_cons (pe_call GK.ok hr2 rfl GK.g GK.kp GK.b .nil pass0 (pa_cons (pv 0) (pa_cons (pv 4) pa_nil))) pa_nil)))))
      <| pss_cons (ps_for PassesOwn.never rfl (pi_range1 (by rfl) T.range (pa_cons (pe_op op_sub (pe_callB call_len_seq (by rfl) T.len PySem.boot_len (pa_cons (pv 4) pa_nil)) (pv 2)) pa_nil)) (pg_name (i := 6) scWeb.nd rfl (.inl rfl))
          (pss_one (ps_expr (pe_bm PySem.F.plainAttrs_list PySem.F.slot_list_pop PySem.F.type_list_pop mt_popAt (pv 4) (pa_cons (pe_call GD.ok hr1 rfl GD.g GD.kp GD.b .nil pass0 (pa_cons (pv 0) (pa_cons (pe_callB call_len_seq (by rfl) T.len PySem.boot_len (pa_cons (pv 4) pa_nil)) pa_nil))) pa_nil)))))
      <| pss_one (ps_ret (pe_tup (pa_cons (pv 1) (pa_cons (pe_callTy call_tuple_of (by rfl) T.tuple (by decide +kernel) (pa_cons (pe_callB (cr_sortT (d := 2) (B := 64) (by decide)) (by rfl) T.sorted (by decide +kernel) (pa_cons (pv 4) pa_nil)) pa_nil)) pa_nil)))), ?j0⟩
    case j1 =>
      rintro σ M Q1 ⟨rfl, rfl, q⟩
      refine ⟨_, rfl, p, c, _, rfl, D, by decide, by decide, fun r M1 r0 r1 D1 K1 => ⟨rfl, _, rfl, ite2 (fun h1 => ?_) (fun h1 => ⟨_, rfl, q n M1 hn1 (Nat.le_refl _) D1 K1⟩)⟩⟩
      refine ⟨_, rfl, _, rfl, p, c, _, rfl, D1, by omega, by omega, fun x M2 x0 x1 D2 K2 => ⟨_, _, rfl, rfl, ?_⟩⟩
      obtain ⟨j, rfl⟩ : ∃ j : Nat, x = j := ⟨x.toNat, by omega⟩
      have e := q (1 + j) M2 (by omega) (by omega) D2 (K1.trans K2)
      rwa [show ((1 + j : Nat) : Int) = 1 + (j : Int) by omega] at e
    case j4 =>
      rintro σ M Q1 ⟨⟨near, ls, lo, L, os, o6, rfl, n1, n2, hls, hlo, ⟨vs, e1, e2⟩, hlen, hos, src, D1, K1, hB⟩, q⟩
      obtain ⟨lp, lc⟩ := D.inp hls
      refine ⟨_, rfl, Nat.zero_le _, fun l hl => ?_⟩
      have e1' : (upd M l (.lst [])) ls = some (.lst vs) := by rw [upd_ne (ne_of_none e1 hl)]; exact e1
      refine ⟨.list (L.map pd), .list [], .lst (SqL.of e1') (e2.mono (new_tup hl)).dp, .lst (SqL.of upd_same) .nil, pd_shaped L, by decide, _, rfl, ?_⟩
      rw [pd_eqv0]
      have D2 := D1.new (o := .lst []) hl
      have keep : ∀ L, LP M ls L → LP (upd M l (.lst [])) ls L := fun L h => h.mono (fun ys e => by rw [upd_ne (ne_of_none e hl)]; exact e) (new_tup hl)
      have LPi : ∀ {L' : List (Int × Int)}, LP M ls L' → L ≠ [] → L' ≠ [] := fun ⟨ws, f1, f2⟩ hL hz => by
        rw [e1] at f1
        cases f1
        have a := e2.len
        have b := f2.len
        rw [hz] at b
        exact hL (List.length_eq_zero_iff.mp (by rw [← a, b]; rfl))
      by_cases hL : L = []
      · rw [decide_eq_true hL]
        exact q ls 0 _ rfl (by decide) (fun L' h => ⟨keep L' h, .inl rfl⟩) D2 (K1.trans (kp_new hl))
      · rw [decide_eq_false hL]
        refine ⟨_, rfl, p, c, _, rfl, D2, by decide, by decide, fun r M1 r0 r1 D3 K3 => ?_⟩
        obtain ⟨j, rfl⟩ : ∃ j : Nat, r = j := ⟨r.toNat, by omega⟩
        exact q ls j M1 rfl (by omega) (fun L' h => ⟨(keep L' h).kp D2 K3 lp lc, .inr (LPi h hL)⟩) D3 ((K1.trans (kp_new hl)).trans K3)
    case j2 =>
      rintro D0 σ M ⟨near, ls, lo, L, os, o6, rfl, n1, n2, hls, hlo, hL, hlen, hos, src, D1, K1, hB⟩ nx
      obtain ⟨sp, sc⟩ := D.inp hls
      refine ⟨_, rfl, _, rfl, _, _, rfl, rfl, _, rfl, ite2 (fun h1 => ?_) (fun h1 => nx _ _ ⟨near, ls, lo, L, os, o6, rfl, n1, n2, hls, hlo, hL, by omega, hos, src, D1, K1, ?_⟩)⟩
      · have h1' := of_decide_eq_true h1
        refine ⟨_, rfl, _, rfl, _, rfl, _, rfl, _, _, rfl, rfl, p, c, n - near, by show [V.ref p, V.int ((n : Int) - (near : Int))] = _; rw [show ((n : Int) - (near : Int)) = ((n - near : Nat) : Int) by omega], by omega, by omega, D1, fun l L1 M1 ln hL1 hB1 hlen1 D2 K2 => ?_⟩
        have hlH : H l = none := K1.dom D1 ln
        obtain ⟨lp, lc⟩ := D.inp hlH
        obtain ⟨vs, e1, e2⟩ := id hL1
        refine ⟨l, rfl, ⟨_, SqL.of e1⟩, fun Da hD => ?_⟩
        have K12 := K1.trans K2
        have hDa : H Da = none := K12.dom D2 hD
        obtain ⟨dp, dc⟩ := D.inp hDa
        have nlD : l ≠ Da := ne_of_none e1 hD
        have hLs := hL.kp D1 K2 sp sc
        have nsD : ls ≠ Da := by obtain ⟨ws, f1, _⟩ := hLs; exact ne_of_none f1 hD
        refine lc_list (xs := vs) (fun i M2 => GJ p c H n Da i M2 ∧ M2 l = some (.lst vs) ∧ Prs M2 vs L1 ∧ LP M2 ls L) ⟨⟨⟨[], [], upd_same, .nil, .nil, Nat.le_refl _⟩, D2.new hD, K12.trans (kp_new hD)⟩, by rw [upd_ne nlD]; exact e1, e2.mono (new_tup hD), hLs.new hD⟩ (fun i M2 _ g => SqL.of g.2.1) ?_ ?_
        · rintro i x M2 hx ⟨g, g1, g2, g3⟩
          have hi : i < vs.length := (List.getElem?_eq_some_iff.mp hx).1
          have := e2.len
          obtain ⟨a, q, rfl, hq, ha⟩ := g2.get hx
          have hb := hB1 q (List.mem_of_getElem? hq)
          refine ⟨a, _, rfl, SqT.of ha, rfl, _, _, rfl, _, _, rfl, rfl, rfl, ?_⟩
          unfold tYes
          refine iteT ?_
          refine ⟨_, rfl, _, rfl, _, _, rfl, rfl, _, rfl, _, rfl, _, _, rfl, rfl, by show 2 ≤ sizeLine; decide, fun t ht => ?_⟩
          obtain ⟨acc, f1, f2, f3⟩ := g.put (q := (q.1 + near, q.2 + near)) hDa dp dc (by omega) ht ⟨by show 0 ≤ q.1 + (near : Int); omega, by show q.1 + (near : Int) < q.2 + near; omega, by show q.2 + (near : Int) < n; omega⟩
          exact ⟨acc, f1, f2, f3, by rw [upd_ne nlD, upd_ne (ne_of_none g1 ht)]; exact g1, (g2.mono (new_tup ht)).mono (upd_tup f1), g3.past ht f1 nsD⟩
        · rintro M2 ⟨g, g1, g2, ws0, f1, f2⟩
          obtain ⟨ws, L2, d1, d2, d3, d4⟩ := g.ex
          have l0 := f2.len
          have l2 := d2.len
          have le := e2.len
          refine ⟨ls, Da, _, _, rfl, rfl, f1, d1, by rw [sizeLine_eq]; omega, fun b hb => ?_⟩
          have hbH : H b = none := g.kp.dom g.dk hb
          obtain ⟨bp, bc⟩ := D.inp hbH
          refine ⟨_, rfl, _, rfl, p, c, n, rfl, hn2, g.dk.new hb, fun lo' os' M3 ln' e3 hos' D3 K3 => ?_⟩
          have hlo' : H lo' = none := (g.kp.trans (kp_new hb)).dom (g.dk.new hb) ln'
          have hLb : LP (upd M2 b (.lst (ws0 ++ ws))) b (L ++ L2) := ⟨_, upd_same, (f2.app d2).mono (new_tup hb)⟩
          refine nx _ _ ⟨near, b, lo', L ++ L2, os', o6, rfl, n1, n2, hbH, hlo', hLb.kp (g.dk.new hb) K3 bp bc, by rw [List.length_append]; omega, hos', e3, D3, (g.kp.trans (kp_new hb)).trans K3, Bel.app (fun q z => ?_) d3⟩
          have := hB q z
          omega
      · have : near = n := by
          have h1' : ¬ ((near : Int) < n) := fun z => h1 (decide_eq_true z)
          omega
        rw [← this]
        exact hB
    case j3 =>
      rintro D0 σ M ⟨near, ls, lo, L, os, o6, rfl, n1, n2, hls, hlo, ⟨vs, e1, e2⟩, hlen, hos, src, D1, K1, hB⟩ nx
      obtain ⟨sp, sc⟩ := D.inp hls
      refine ⟨_, rfl, ls, rfl, ⟨_, SqL.of e1⟩, fun Da hD => ?_⟩
      have hDa : H Da = none := K1.dom D1 hD
      obtain ⟨dp, dc⟩ := D.inp hDa
      have nsD : ls ≠ Da := ne_of_none e1 hD
      have noD : lo ≠ Da := ne_of_none src hD
      refine lc_list (xs := vs) (fun i M2 => GJ p c H n Da i M2 ∧ M2 ls = some (.lst vs) ∧ Prs M2 vs L ∧ M2 lo = some (.lst (os.map V.int))) ⟨⟨⟨[], [], upd_same, .nil, .nil, Nat.le_refl _⟩, D1.new hD, K1.trans (kp_new hD)⟩, by rw [upd_ne nsD]; exact e1, e2.mono (new_tup hD), by rw [upd_ne noD]; exact src⟩ (fun i M2 _ g => SqL.of g.2.1) ?_ ?_
      · rintro i x M2 hx ⟨g, g1, g2, g3⟩
        have hi : i < vs.length := (List.getElem?_eq_some_iff.mp hx).1
        have := e2.len
        obtain ⟨a, q, rfl, hq, ha⟩ := g2.get hx
        have hb := hB q (List.mem_of_getElem? hq)
        obtain ⟨q1, q2⟩ := q
        have hb : 0 ≤ q1 ∧ q1 < q2 ∧ q2 < n := hb
        obtain ⟨i1, rfl⟩ : ∃ j : Nat, q1 = j := ⟨q1.toNat, by omega⟩
        obtain ⟨i2, rfl⟩ : ∃ j : Nat, q2 = j := ⟨q2.toNat, by omega⟩
        obtain ⟨x, x1, x2, x3, x4⟩ := os_at hos (i := i1) (by omega)
        obtain ⟨y, y1, y2, y3, y4⟩ := os_at hos (i := i2) (by omega)
        refine ⟨a, _, rfl, SqT.of ha, rfl, _, _, rfl, _, _, rfl, rfl, rfl, ?_⟩
        unfold tYes
        refine iteT ?_
        refine ⟨_, rfl, _, rfl, lo, _, _, _, rfl, rfl, SqL.of g3, atI_nat x2, _, rfl, _, rfl, lo, _, _, _, rfl, rfl, SqL.of g3, atI_nat y2, x, y, rfl, fun t ht => ?_⟩
        obtain ⟨acc, f1, f2, f3⟩ := g.put (q := mm x y) hDa dp dc (by omega) ht (mm_bel ⟨x3, x4⟩ ⟨y3, y4⟩ (hos.ne x1 y1 (by omega)))
        exact ⟨acc, f1, f2, f3, by rw [upd_ne nsD, upd_ne (ne_of_none g1 ht)]; exact g1, (g2.mono (new_tup ht)).mono (upd_tup f1), by rw [upd_ne noD, upd_ne (ne_of_none g3 ht)]; exact g3⟩
      · rintro M2 ⟨g, g1, g2, g3⟩
        obtain ⟨ws, L2, d1, d2, d3, d4⟩ := g.ex
        have le := e2.len
        exact nx _ _ ⟨near, Da, lo, L2, os, o6, rfl, n1, n2, hDa, hlo, ⟨ws, d1, d2⟩, by omega, hos, g3, g.dk, g.kp, d3⟩
    case j0 =>
      refine ⟨rfl, rfl, fun near M1 n1 n2 D1 K1 => ?_⟩
      refine ⟨_, rfl, _, rfl, p, c, near, rfl, n1, by omega, D1, fun ls L M2 ln hL hB hlen D2 K2 => ⟨_, rfl, _, rfl, .of_le (by omega) (by omega) (by omega) (by omega), fun lo hlo => ⟨by show 2 ≤ sizeLine; decide, fun t ht => ?_⟩⟩⟩
      rw [rg_ints] at ht ⊢
      have K12 := K1.trans K2
      have hlsH : H ls = none := K1.dom D1 ln
      have hloH : H lo = none := K12.dom D2 hlo
      obtain ⟨sp, sc⟩ := D.inp hlsH
      have D3 := (D2.new (o := .lst (((List.range n).map fun i => ((i : Nat) : Int)).map V.int)) hlo).new (o := .tup [.ref ls, .ref lo]) ht
      have K3 := (K12.trans (kp_new (o := .lst (((List.range n).map fun i => ((i : Nat) : Int)).map V.int)) hlo)).trans (kp_new (o := .tup [.ref ls, .ref lo]) ht)
      have eo : (upd (upd M2 lo (.lst (((List.range n).map fun i => ((i : Nat) : Int)).map V.int))) t (.tup [.ref ls, .ref lo])) lo = some (.lst (((List.range n).map fun i => ((i : Nat) : Int)).map V.int)) := by rw [upd_ne (ne_of_none upd_same ht)]; exact upd_same
      refine ⟨t, _, rfl, SqT.of upd_same, rfl, _, _, rfl, _, _, rfl, rfl, ?_⟩
      refine ⟨⟨near, ls, lo, L, _, none, rfl, n1, n2, hlsH, hloH, (hL.new hlo).new ht, by omega, iota_ord n, eo, D3, K3, hB⟩, fun σ1 M3 j3 => ⟨j3, fun σ2 M4 j4 => ⟨j4, fun ls' j M5 e4 hj hkeep D5 K5 => ?_⟩⟩⟩
      obtain ⟨near', ls2, lo', L, os, o6, rfl, _, _, hls, _, hL, hlen, _, _, _, _, hB⟩ := j4
      obtain rfl : ls2 = ls' := by cases e4; rfl
      obtain ⟨hL5, h5⟩ := hkeep L hL
      obtain ⟨lp, lc⟩ := D.inp hls
      refine ⟨_, rfl, by omega, by omega, ?_⟩
      refine for_range (lo := 0) (n := (j : Int).toNat) (fun i σ M => ∃ (L : List (Int × Int)) (o6 : Option V), σ = [some (.ref p), some (.int n), some (.int m), some (.int near'), some (.ref ls2), some (.ref lo'), o6, none, none] ∧ LP M ls2 L ∧ (j = 0 ∨ L ≠ []) ∧ Bel n L ∧ L.length ≤ 320 + i ∧ Deck M p c ∧ Kp p c H M)
        ⟨L, o6, rfl, hL5, h5, hB, hlen, D5, K5⟩ ?_ ?_
      · rintro i σ M hi ⟨L, o6, rfl, ⟨vs, f1, f2⟩, h0, hB, hlen, D6, K6⟩
        have len := f2.len
        have pos : L.length ≠ 0 := fun z => by
          rcases h0 with h0 | h0
          · omega
          · exact h0 (List.length_eq_zero_iff.mp z)
        refine ⟨_, rfl, .inl ⟨rfl, _, SqL.of f1⟩, _, rfl, _, rfl, p, c, ls2, vs, rfl, D6, f1, lp, lc, by omega, by omega, fun k v M6 hv D7 K7 => ?_⟩
        have f1' := K7 _ _ lp lc f1
        have f2' := f2.mono (K7.tup D6)
        obtain ⟨a, q, rfl, hq, ha⟩ := f2'.get hv
        exact ⟨ls2, _, _, rfl, rfl, f1', by rw [sizeLine_eq]; omega, L ++ [q], _, rfl, ⟨_, upd_same, (f2'.app (.cons ha .nil)).mono (upd_tup f1')⟩, .inr (by simp), hB.snoc (hB q (List.mem_of_getElem? hq)), by rw [List.length_append]; show L.length + 1 ≤ _; omega, D7.put lp lc, (K6.trans K7).own hls⟩
      · rintro σ M ⟨L, o6, rfl, ⟨vs, f1, f2⟩, h0, hB, hlen, D6, K6⟩
        have len := f2.len
        refine ⟨_, rfl, ls2, _, rfl, .inl (SqL.of f1), _, rfl, _, _, rfl, rfl, _, rfl, by omega, by omega, ?_⟩
        refine for_range (lo := 0) (n := (((vs.length : Nat) : Int) - (m : Int)).toNat) (fun i σ M' => ∃ (L' : List (Int × Int)) (o6 : Option V), σ = [some (.ref p), some (.int n), some (.int m), some (.int near'), some (.ref ls2), some (.ref lo'), o6, none, none] ∧ LP M' ls2 L' ∧ Bel n L' ∧ L'.length + i = L.length ∧ Deck M' p c ∧ Kp p c H M')
          ⟨L, o6, rfl, ⟨vs, f1, f2⟩, hB, rfl, D6, K6⟩ ?_ ?_
        · rintro i σ M' hi ⟨L', o6, rfl, ⟨ws, g1, g2⟩, hB', hl', D7, K7⟩
          have len' := g2.len
          refine ⟨_, rfl, .inl ⟨rfl, _, SqL.of g1⟩, _, rfl, _, rfl, ls2, _, rfl, .inl (SqL.of g1), p, c, _, rfl, D7, by omega, by omega, fun r M6 r0 r1 D8 K8 => ?_⟩
          obtain ⟨k, rfl⟩ : ∃ k : Nat, r = k := ⟨r.toNat, by omega⟩
          have g1' := K8 _ _ lp lc g1
          have hk : k < ws.length := by omega
          have si : seqIndex? (k : Int) ws.length = some k := (ixN_seq (n := ws.length) (by unfold ixN; rw [if_pos (by omega), if_pos (by omega)]; rfl)).1
          refine ⟨ls2, _, _, k, ws[k], rfl, rfl, g1', by omega, by omega, si, by simp [hk], L'.eraseIdx k, _, rfl, ⟨_, upd_same, ((g2.mono (K8.tup D7)).erase k).mono (upd_tup g1')⟩, hB'.sub fun q z => List.mem_of_mem_eraseIdx z, ?_, D8.put lp lc, (K7.trans K8).own hls⟩
          rw [List.length_eraseIdx, if_pos (by omega)]
          omega
        · rintro σ M' ⟨L', o6, rfl, ⟨ws, g1, g2⟩, hB', hl', D7, K7⟩
          have len' := g2.len
          have few : L'.length ≤ m := by omega
          refine ⟨_, rfl, _, rfl, ls2, ws, rfl, SqL.of g1, by omega, g2.tups hB' (by omega), fun ys b pm pw hb => ?_⟩
          obtain ⟨M2, pm2, pr⟩ := Prs.perm pm g2
          have sr := pr.srt pw
          refine ⟨b, ys, rfl, .inl ⟨SqL.of upd_same, fun t ht => ⟨by show 2 ≤ sizeLine; decide, fun wa hw => ?_⟩⟩⟩
          have hbt : b ≠ t := ne_of_none upd_same ht
          have htb : (upd M' b (.lst ys)) t = none := ht
          have pr' : Prs (upd (upd (upd M' b (.lst ys)) t (.tup ys)) wa (.tup [.int n, .ref t])) ys M2 := ((pr.mono (new_tup hb)).mono (new_tup ht)).mono (new_tup hw)
          have hwH : H wa = none := ((K7.trans (kp_new hb)).trans (kp_new ht)).dom ((D7.new hb).new ht) hw
          exact k wa M2 _ hwH ⟨t, ys, upd_same, by rw [upd_ne (ne_of_none upd_same hw)]; exact upd_same, pr'⟩ (hB'.sub fun q z => pm2.mem_iff.mp z) sr (by rw [pm2.length_eq]; exact few) (((D7.new hb).new ht).new hw) (((K7.trans (kp_new hb)).trans (kp_new ht)).trans (kp_new hw))
end
end K0

set_option Elab.async false
set_option linter.all false
set_option maxRecDepth 100000
set_option maxHeartbeats 4000000
/-! Own exceptions over WebError(Exception) whose making says super().__init__(text) and keeps one field, at the machine's level. -/
namespace PySem.EX
open PySem PySem.W PySem.Calls PyProof.Rows Builtin Builtin.ObjectAttr

/-- the mro behind the own classes -/
abbrev tailE : List Value := [.type "Exception", .type "BaseException", .type "object"]
/-- the text of such a class's making: its one parameter f, what it says, the places -/
def aA (f : Str) (p1 p2 : Pos) : Arguments :=
  { posonlyargs := [], args := [⟨"self", none, p1⟩, ⟨f, none, p2⟩], vararg := none, kwonlyargs := [], kw_defaults := [], kwarg := none, defaults := [] }
def aS (f : Str) : Scope :=
  { kind := .function, names := [("self", .local), (f, .local), ("__class__", .free), ("super", .globalImplicit)], isGenerator := false, isCoroutine := false, more := [] }
def sSay (txt : Str) (k : Nat) (q1 q2 q3 q4 q5 q6 : Pos) : Stmt :=
  .Expr (.Call (.Attribute (.Call (.Name "super" q1) [] [] q2) "__init__" q3) [.Constant (.str txt) k q4] [] q5) q6
def sKeep (f : Str) (q1 q2 q3 q4 : Pos) : Stmt := .Assign [.Attribute (.Name "self" q1) f q2] (.Name f q3) q4

/-- what the written part says of the class at C -/
structure ClsT (P : Program) (K : Frag) (C : Addr) : Prop where
  ex : excInitIn K C tailE "Exception.__new__" = true
  ov : excOver K C tailE = true
  sa : findIn K (.ref C) "__setattr__" = some (some (.builtin "object.__setattr__"))
  hd : hasDictIn K C = true
  su : ks_superIn K C C "__init__" = some (some (.builtin "Exception.__init__"))
  sE : subIn K (.ref C) (.type "Exception") = some true
  mr : mroIn K C (.ref C) = some true
  op : nsIn K cStatics "thirdparty.any" = some none
  kp : keepIn K (.ref C) = true
  file : (P.main.scope.names.lookup ("super" : Str)).isSome = false

/-- the def at fI is this class's making -/
structure IniT (P : Program) (K : Frag) (C fI : Addr) (args : Arguments) (body : List Stmt) (sc : Scope) : Prop where
  fi : findIn K (.ref C) "__init__" = some (some (.ref fI))
  ty : typeIn K (.ref fI) = some (.type "function")
  fn : ∃ (oc : Value) (od : Option Addr) (qual : Str) (dV kV doc pm : Value) (an : Option Addr) (cda : Addr) (ct : Value) (osl : Array (Option Value)) (cc : Addr),
    K.lookup fI = some ⟨oc, od, .func (ksFn "__init__" qual args body sc .none .none doc pm an (.ref cda) ct cc), osl⟩ ∧ codeIn K (.ref cda) qual = true ∧
    (∃ ccl cdd vs ccs file tf, K.lookup cda = some ⟨ccl, cdd, .fields vs, ccs⟩ ∧ vs[2]? = some (.str file tf) ∧ ((P.main.file : Str) == file) = true) ∧
    (∃ cl cld csl, K.lookup cc = some ⟨cl, cld, .cell (some (.ref C)), csl⟩)

section
variable {prog : Program} {w : World} {A : Around} {E : Value → Shared → Prop} {s : Shared} {K : Frag} {mg mb : Str → Option Value} {C fI : Addr}

/-- such a def's scope, its names ns -/
abbrev scp (ns : List (Str × NameKind)) : Scope := { kind := .function, names := ns, isGenerator := false, isCoroutine := false, more := [] }
theorem say {ns : List (Str × NameKind)} {L f cc cda : Addr} {m : Str → Option Value} {q : Str} {x t0 : Addr} {txt : Str} {n : Nat} {q1 q2 q3 q4 q5 q6 : Pos} {fd : FuncData} {of : Obj} {ar : Arg} {body : List Stmt} {Q : Flow → Shared → Prop}
    (T : ClsT prog K C) (X : K.In s.heap) (G : s.heap.Ns mainGlobals mg) (hs : mg "super" = none) (B : s.heap.Ns builtinsNs mb) (hb : mb "super" = some (.type "super"))
    (hl : s.heap.Ns L m) (hv : m ar.arg = some (.ref x)) (hx : s.heap.get? x = some (HandSPX.excO C t0)) (hnC : x ≠ C)
    (hf : s.heap.get? f = some of) (hfd : of.data = .func fd) (hp : (fd.params.posonlyargs ++ fd.params.args).head? = some ar)
    (hcode : ∃ ccl cdd vs ccs file tf, K.lookup cda = some ⟨ccl, cdd, .fields vs, ccs⟩ ∧ vs[2]? = some (.str file tf) ∧ ((prog.main.file : Str) == file) = true)
    (hcell : ∃ cl cld csl, K.lookup cc = some ⟨cl, cld, .cell (some (.ref C)), csl⟩)
    (hks : ns.lookup ("super" : Str) = some .globalImplicit) (hkc : ns.lookup ("__class__" : Str) = some .free) (hka : ns.lookup ar.arg = some .local)
    (hpos : (q3.endLine == q5.line) = true)
    (h : ∀ h' tk t1, (∀ b o, b ≠ x → s.heap.get? b = some o → h'.get? b = some o) → h'.get? x = some (HandSPX.excO C t1) → Q .next { s with heap := h', toks := tk }) :
    _root_.PySem.wpAt (model prog w) A (.func body (ksEnv q (scp ns) L f (.ref cda) cc)) (exec (sSay txt n q1 q2 q3 q4 q5 q6) (ksEnv q (scp ns) L f (.ref cda) cc)) Q E s := by
  obtain ⟨nm, N, qn, bs, bm, hdct, sn, sub, ab, col, dd, k0, k1, k2, k3, k5, hC, hT⟩ := excInit_of X T.ex
  obtain ⟨ccl, cdd, vs, ccs, file, tf, hc1, hc2, hc3⟩ := hcode
  obtain ⟨cl, cld, csl, hcc⟩ := hcell
  have I : InstAt s.heap x (HandSPX.excO C t0) C none := ⟨hx, rfl, rfl, trivial⟩
  obtain ⟨hp0, g, d, t, os⟩ := s
  unfold sSay
  refine ks_wpAt_Expr_any ?_
  refine ks_wpAt_MethodCall (pl := do return (← importBound (.Call (.Name "super" q1) [] [] q2) (ksEnv q (scp ns) L f (.ref cda) cc)).getD true) ?_ (by
    rw [arm_eval_Call]
    unfold methodCall methodCallPos calleeOf
    rw [show (methodCallForm ([Expr.Constant (Const.str txt) n q4].length + ([] : List Keyword).length) (backTo q5 (starEach [Expr.Constant (Const.str txt) n q4] (ksEnv q (scp ns) L f (.ref cda) cc))) (backToKw q5 (keywordEach [] (ksEnv q (scp ns) L f (.ref cda) cc)))) = true from rfl, hpos]
    simp only [Bool.not_true, Bool.false_or, if_true, pure_bind]
    rfl)
  refine ks_wpAt_super_base (env := ksEnv q (scp ns) L f (.ref cda) cc) hks hkc rfl rfl hf hfd hp rfl (X _ _ hc1) rfl hc2 hc3 T.file ?_
  refine ks_loadName_global rfl hks (loadGlobal_builtin (env := ksEnv q (scp ns) L f (.ref cda) cc) G hs B hb ⟨rfl, ?_⟩)
  refine wpAny_loadName_free rfl hkc rfl ⟨_, X _ _ hcc, rfl⟩ ?_
  refine wpAny_loadName_local rfl hka hl hv ?_
  refine ks_wpAny_isType_cls hC rfl ⟨rfl, ?_⟩
  refine ks_wpAny_call_super hC rfl hx rfl (fun c z => nomatch z) (looks_mroIn X T.mr) (fun h1 e1 k1 => ?_)
  have X1 : K.In h1 := X.keeps k1
  have I1 : InstAt h1 x (HandSPX.excO C t0) C none := ⟨k1 _ _ hx, rfl, rfl, trivial⟩
  have su := T.su
  unfold ks_superIn at su
  cases hc : clsIn K C with
  | none => rw [hc] at su; cases su
  | some cd =>
    rw [hc] at su
    refine PySem.ESX.getMethod_super e1 (looks_opaque X1 T.op) (l₀ := cd.mro) (fun A Q E s k z => wpAny_bind ((looks_clsIn X1 hc) A _ E s k (wpAny_pure z))) rfl X1 su hnC rfl (I1.type.andThen (looks_subIn X1 T.sE)) ?_
    refine PySem.ESX.callWith_bound (x := x) ?_
    show wpAny _ _ (spliced ((false, eval (.Constant (.str txt) n q4) (ksEnv q (scp ns) L f (.ref cda) cc)) :: [])) _ _ _
    refine spliced_cons (Constant_str (spliced_nil ⟨Heap.get?_push_size h1 rfl, ?_⟩))
    have kb : ∀ b o, hp0.get? b = some o → (h1.push (ESX.bw x)).get? b = some o := fun b o z => Heap.get?_push_of_some _ (k1 b o z)
    refine PySem.ESX.call_bw (C := C) (e := x) (kb _ _ hC) (kb _ _ hx) (Heap.get?_push_size h1 rfl) (by rw [sizeLine_eq]; exact (by decide : 1 ≤ 16777216)) fun h' t1 kk hx' => ?_
    exact h h' _ t1 (fun b o hb z => kk b o hb (kb b o z)) hx'

/-- self.f = v, the first field of an exception that has none -/
theorem keep {env : Env} {m : Str → Option Value} {f : Str} {x t0 : Addr} {v : Value} {q1 q2 q3 q4 : Pos} {Q : Flow → Shared → Prop}
    (T : ClsT prog K C) (X : K.In s.heap) (hno : findIn K (.ref C) f = some none) (hx : s.heap.get? x = some (HandSPX.excO C t0))
    (hl : s.heap.Ns env.locals m) (hf : m f = some v) (hs : m "self" = some (.ref x)) (hk : env.scope.kind = .function) (lf : env.kindOf f = some .local) (ls : env.kindOf "self" = some .local) (hd : (f == ("__debug__" : Str)) = false)
    (hsw : swapsWith (.Name f q3) (some (.Attribute (.Name "self" q1) f q2)) q4.line env = pure false)
    (h : ∀ h' tk dx, (∀ b o, b ≠ x → s.heap.get? b = some o → h'.get? b = some o) → s.heap.objs.size ≤ dx → dx ≠ x →
      h'.get? x = some { cls := .ref C, dict := some dx, data := .fields #[.ref t0, .none, .none, .none, .bool false, .none] } → h'.Ns1 dx (fun y => if y = f then some v else none) → Q .next { s with heap := h', toks := tk }) :
    wpAny (model prog w) A (exec (sKeep f q1 q2 q3 q4) env) Q E s := by
  unfold sKeep
  refine plainObj_wpAny_Assign_Attribute ?_ hsw
  refine wpAny_Name (wpAny_loadName_local hk lf hl hf ?_) hd
  refine wpAny_Name (wpAny_loadName_local hk ls hl hs ?_)
  refine set_plain X (ox := HandSPX.excO C t0) (od := none) ⟨hx, rfl, rfl, trivial⟩ T.sa ?_
  obtain ⟨cd, hc, hd'⟩ := any_some T.hd
  have ht : takerIn K C f = some none := by unfold takerIn; rw [hno] <;> rfl
  refine osa_openX (s := { s with toks := s.toks + 1 }) (od := none) F.store_Exception X ⟨hx, rfl, rfl, trivial⟩ T.ov ht fun b => ?_
  have hxs : x ≠ s.heap.objs.size := Nat.ne_of_lt (Heap.lt_size hx)
  refine wpAny_bind (wpAny_pure (wpAny_bind (instanceDict_exc (t := t0) (c2 := .none) hx (looks_clsIn X hc) hd' ?_)))
  show wpAny _ _ (storeInDict s.heap.objs.size (.str f s.toks) f v) _ _ _
  refine HandSPX.store_in_new ⟨_, #[], _, (Heap.get?_update_ne _ _ _ _ hxs.symm).trans (Heap.get?_push_size _ rfl), rfl, fun e he => absurd he (by simp), fun _ => rfl⟩ fun h' tk' hn' hs' => ?_
  have e1 : (s.heap.push (dictOf [] 0)).get? x = some (HandSPX.excO C t0) := Heap.get?_push_of_some _ hx
  refine h h' tk' s.heap.objs.size (fun b o hb ho => ?_) (Nat.le_refl _) hxs.symm ?_ hn'
  · exact (hs'.2 b (Nat.ne_of_lt (Heap.lt_size ho))).trans ((Heap.get?_update_ne _ _ _ _ hb).trans (Heap.get?_push_of_some _ ho))
  · exact (hs'.2 x hxs).trans (Heap.get?_update_self _ e1 rfl)
end
end PySem.EX

set_option Elab.async false
set_option linter.all false
set_option maxRecDepth 100000
set_option maxHeartbeats 4000000
/-! An own exception class called, by position and by name. -/
namespace PySem.EX
open PySem PySem.W PySem.Calls PyProof.Rows Builtin Builtin.ObjectAttr PySem.HandSPX
section
variable {prog : Program} {w : World} {M : Model} {A : Around} {E : Value → Shared → Prop} {R : Result → Shared → Prop} {h : Heap} {g : Array GenState} {d : Drawn} {t : Nat} {os : OsState}
variable {nm q : Str} {C N : Addr} {bs bm bmB : List Value} {hdct : Bool} {sn : List Str} {sub : List Value} {ab : Bool} {col : Option Bool} {dd : Option Addr} {k0 k1 k2 k3 k5 : Option Value} {B newId initId : String}

theorem chk_new (F : ExcBaseFacts B newId initId bmB) (hT : ∀ X : String, bm.contains (.type X) = bmB.contains (.type X)) {rest : List Value} {kw : List (Str × Value)} {Q : Unit → Shared → Prop}
    (hC : h.get? C = some (excClassObj nm q C N bs bm hdct sn sub ab col dd k0 k1 k2 k3 k5 newId)) (hq : Q () ⟨h, g, d, t, os⟩) : wpAny M A (checkBuiltinCall newId ⟨.ref C :: rest, kw⟩) Q E ⟨h, g, d, t, os⟩ := by
  have e1 : (Value.ref C :: bm).contains (.type B) = true := by rw [List.contains_cons, hT, F.hasB, Bool.or_true]
  have e2 := F.noStar
  simp only [checkBuiltinCall, F.newKind, F.newSplit, F.newRow]
  repeat (first
    | refine wpAny_loadPart_at hC ?_
    | (refine wpAny_isSubtype_exc hC ?_; rw [e1])
    | refine wpAny_staticBase_exc hC ?_
    | refine wpAny_madeBy_exc hC ?_
    | simp only [bne_self_eq_false, Bool.false_eq_true, if_false]
    | wp_step)
  all_goals exact hq

theorem mk_new (F : ExcBaseFacts B newId initId bmB) (hT : ∀ X : String, bm.contains (.type X) = bmB.contains (.type X)) {rest : List Value} {kw : List (Str × Value)} (hz : rest.length ≤ sizeLine)
    (hC : h.get? C = some (excClassObj nm q C N bs bm hdct sn sub ab col dd k0 k1 k2 k3 k5 newId))
    (hq : R (.ok (.ret (.ref (h.objs.size + 1)))) ⟨(h.push (kdv_tup rest)).push (excO C h.objs.size), g, d, t, os⟩) :
    codeAny (model prog w) A (.builtin newId ⟨.ref C :: rest, kw⟩) R ⟨h, g, d, t, os⟩ := by
  have e0 := F.ends
  have e1 : (Value.ref C :: bm).contains (.type B) = true := by rw [List.contains_cons, hT, F.hasB, Bool.or_true]
  have e2 : (Value.ref C :: bm).contains (.type "AttributeError") = false := by rw [List.contains_cons, hT, F.noAttr] <;> rfl
  have e3 : (Value.ref C :: bm).contains (.type "NameError") = false := by rw [List.contains_cons, hT, F.noName] <;> rfl
  refine codeAny_builtinAt F.entry (show _root_.PySem.wpAt _ _ _ (Builtin.«BaseException.__new__» _) _ _ _ from ?_)
  unfold Builtin.«BaseException.__new__»
  refine wpAt_bind (show _root_.PySem.wpAt _ _ _ (stack >>= _) _ _ _ from wpAt_bind (wpAt_stack fun _ _ => wpAt_of_wpAny ?_))
  wp_walk
  refine wpAt_of_wpAny ?_; rw [F.owner]
  repeat (first
    | with_reducible refine wpAny_madeHere_exc F.canon hC ?_
    | with_reducible refine wpAny_loadPart_at hC ?_
    | (with_reducible refine wpAny_isSubtype_exc hC ?_
       first | rw [e1] | rw [e2] | rw [e3])
    | wp_step)
  show R _ _; rw [Heap.size_push]; exact hq

theorem mk_type (F : ExcBaseFacts B newId initId bmB) (hT : ∀ X : String, bm.contains (.type X) = bmB.contains (.type X)) {rest : List Value} {kw : List (Str × Value)} {fI : Addr} {Q : Fin → Shared → Prop} (hz : rest.length ≤ sizeLine)
    (hC : h.get? C = some (excClassObj nm q C N bs bm hdct sn sub ab col dd k0 k1 k2 k3 k5 newId))
    (hi : W.Looks (model prog w) h (typeLookup (.ref C) "__init__") (some (.ref fI))) (hb : ∀ self, W.Looks (model prog w) h (bindSpecial (.ref fI) self) (.ref fI, [self]))
    (hq : codeAny (model prog w) A (.call (.ref fI) ⟨.ref (h.objs.size + 1) :: rest, kw⟩)
      (fun r s' => match r with | .ok (.ret v) => v = .none ∧ Q (.done (.ret (.ref (h.objs.size + 1)))) s' | .ok _ => False | .error e => E e s')
      ⟨(h.push (kdv_tup rest)).push (excO C h.objs.size), g, d, t, os⟩) :
    wpAny (model prog w) A (Builtin.«type.__call__» ⟨.ref C :: rest, kw⟩) Q E ⟨h, g, d, t, os⟩ := by
  repeat (first
    | with_reducible refine wpAny_loadPart_at hC ?_
    | with_reducible refine wpAny_madeBy_exc hC ?_
    | wp_step)
  refine codeAny_call_builtin_code (Code.quiet_builtin _ F.quiet) (chk_new F hT hC (mk_new F hT hz hC (show wpAny _ _ _ _ _ _ from ?_)))
  have kk : ∀ b o, h.get? b = some o → ((h.push (kdv_tup rest)).push (excO C h.objs.size)).get? b = some o := fun b o e => Heap.get?_push_of_some _ (Heap.get?_push_of_some _ e)
  have c1 := kk _ _ hC
  have c2 : ((h.push (kdv_tup rest)).push (excO C h.objs.size)).get? (h.objs.size + 1) = some (excO C h.objs.size) := by heap_get
  have c3 : (Value.ref C :: bm).contains (.ref C) = true := by simp
  unfold isInstance
  repeat (first
    | with_reducible refine wpAny_loadPart_at c2 ?_
    | (with_reducible refine wpAny_isSubtype_exc c1 ?_
       rw [c3])
    | wp_step)
  refine (show wpAny _ _ (typeLookup (.ref C) _) _ _ _ from (hi.keeps kk).at (wpAny_holding (wpAny_bind (((hb (.ref (h.objs.size + 1))).keeps kk).at ?_))))
  refine wpAny_bind (wpAny_call (codeAny_mono hq fun r s' z => ?_))
  cases r with
  | error e => exact z
  | ok fl =>
    cases fl with
    | ret v =>
      obtain ⟨rfl, z⟩ := z
      first | exact wpAny_pure (wpAny_pure z) | (wp_walk; exact z)
    | next => exact z.elim
    | brk => exact z.elim
    | cont => exact z.elim

theorem chk_type {rest : List Value} {kw : List (Str × Value)} {Q : Unit → Shared → Prop} (hC : h.get? C = some (excClassObj nm q C N bs bm hdct sn sub ab col dd k0 k1 k2 k3 k5 newId)) (hq : Q () ⟨h, g, d, t, os⟩) :
    wpAny M A (checkBuiltinCall "type.__call__" ⟨.ref C :: rest, kw⟩) Q E ⟨h, g, d, t, os⟩ := by
  have e1 := tc_sub
  have e2 : (⟨h, g, d, t, os⟩ : Shared).TypeIs (.ref C) "type" := ⟨_, hC, rfl⟩
  simp only [checkBuiltinCall, tc_kind, tc_split]
  repeat (any_goals (first
    | assumption
    | with_reducible refine wpAny_loadPart_at hC ?_
    | with_reducible refine wpAny_onRaise ?_
    | with_reducible refine wpAny_map ?_
    | wp_step))

theorem mk_call (F : ExcBaseFacts B newId initId bmB) (hT : ∀ X : String, bm.contains (.type X) = bmB.contains (.type X)) {rest : List Value} {kw : List (Str × Value)} {fI : Addr} (hz : rest.length ≤ sizeLine)
    (hC : h.get? C = some (excClassObj nm q C N bs bm hdct sn sub ab col dd k0 k1 k2 k3 k5 newId))
    (hi : W.Looks (model prog w) h (typeLookup (.ref C) "__init__") (some (.ref fI))) (hb : ∀ self, W.Looks (model prog w) h (bindSpecial (.ref fI) self) (.ref fI, [self]))
    (hq : codeAny (model prog w) (A.under (.builtin "type.__call__" ⟨.ref C :: rest, kw⟩)) (.call (.ref fI) ⟨.ref (h.objs.size + 1) :: rest, kw⟩) (W.InitBack (h.objs.size + 1) R)
      ⟨(h.push (kdv_tup rest)).push (excO C h.objs.size), g, d, t, os⟩) :
    codeAny (model prog w) A (.call (.ref C) ⟨rest, kw⟩) R ⟨h, g, d, t, os⟩ := by
  have e1 := tc_lookup
  have e2 := tc_bind (.ref C)
  have e3 : (⟨h, g, d, t, os⟩ : Shared).TypeIs (.ref C) "type" := ⟨_, hC, rfl⟩
  refine codeAny_of_tree (show wpAny _ _ (callAny (.ref C) _) _ _ _ from ?_)
  repeat (any_goals (first
    | assumption
    | with_reducible refine wpAny_loadPart_at hC ?_
    | wp_step))
  refine ⟨rfl, codeAny_call_builtin_at (Code.quiet_builtin _ (by decide +kernel)) entry_typeCall ?_⟩
  refine chk_type hC (mk_type F hT hz hC hi hb (codeAny_mono hq fun r s' z => ?_))
  cases r with
  | error e => exact z
  | ok fl => cases fl <;> exact z
end
end PySem.EX

set_option Elab.async false
set_option linter.all false
set_option maxRecDepth 100000
set_option maxHeartbeats 4000000
/-! An own exception made: what stands behind it. -/
namespace PySem.EX
open PySem PySem.W PySem.Calls PyProof.Rows Builtin Builtin.ObjectAttr PySem.HandSPX

/-- the names of a making with the parameter f, of one without -/
abbrev ns1 (f : Str) : List (Str × NameKind) := [("self", .local), (f, .local), ("__class__", .free), ("super", .globalImplicit)]
abbrev ns0 : List (Str × NameKind) := [("self", .local), ("__class__", .free), ("super", .globalImplicit)]
abbrev aA0 (p1 : Pos) : Arguments := { posonlyargs := [], args := [⟨"self", none, p1⟩], vararg := none, kwonlyargs := [], kw_defaults := [], kwarg := none, defaults := [] }
/-- the six names of parameters that the errors have -/
def fNames : List Str := ["thing", "number", "at", "pairing", "certificate", "place"]

/-- a made error with a field, one without -/
structure Made1 (h h' : Heap) (e C d : Addr) (f : Str) (v : Value) : Prop where
  keep : ∀ b o, h.get? b = some o → h'.get? b = some o
  new : h.objs.size ≤ e
  obj : ∃ t, h'.get? e = some { cls := .ref C, dict := some d, data := .fields #[.ref t, .none, .none, .none, .bool false, .none] }
  dbig : h.objs.size ≤ d
  dne : d ≠ e
  ns : h'.Ns1 d (fun y => if y = f then some v else none)
structure Made0 (h h' : Heap) (e C : Addr) : Prop where
  keep : ∀ b o, h.get? b = some o → h'.get? b = some o
  new : h.objs.size ≤ e
  obj : ∃ t, h'.get? e = some (excO C t)

/-- the making's def, as it stands behind the top -/
structure Fn1 (P : Program) (K : Frag) (C fI : Addr) (f : Str) : Prop where
  fi : findIn K (.ref C) "__init__" = some (some (.ref fI))
  ty : typeIn K (.ref fI) = some (.type "function")
  no : findIn K (.ref C) f = some none
  fn : ∃ (oc : Value) (od : Option Addr) (qual txt : Str) (doc pm : Value) (an : Option Addr) (cda : Addr) (ct : Value) (osl : Array (Option Value)) (cc : Addr) (p1 p2 q1 q2 q3 q4 q5 q6 r1 r2 r3 r4 : Pos),
    K.lookup fI = some ⟨oc, od, .func (ksFn "__init__" qual (aA f p1 p2) [sSay txt 0 q1 q2 q3 q4 q5 q6, sKeep f r1 r2 r3 r4] (scp (ns1 f)) .none .none doc pm an (.ref cda) ct cc), osl⟩ ∧ codeIn K (.ref cda) qual = true ∧ (q3.endLine == q5.line) = true ∧
    (∃ ccl cdd vs ccs file tf, K.lookup cda = some ⟨ccl, cdd, .fields vs, ccs⟩ ∧ vs[2]? = some (.str file tf) ∧ ((P.main.file : Str) == file) = true) ∧
    (∃ cl cld csl, K.lookup cc = some ⟨cl, cld, .cell (some (.ref C)), csl⟩)
structure Fn0 (P : Program) (K : Frag) (C fI : Addr) : Prop where
  fi : findIn K (.ref C) "__init__" = some (some (.ref fI))
  ty : typeIn K (.ref fI) = some (.type "function")
  fn : ∃ (oc : Value) (od : Option Addr) (qual txt : Str) (doc pm : Value) (an : Option Addr) (cda : Addr) (ct : Value) (osl : Array (Option Value)) (cc : Addr) (p1 q1 q2 q3 q4 q5 q6 : Pos),
    K.lookup fI = some ⟨oc, od, .func (ksFn "__init__" qual (aA0 p1) [sSay txt 0 q1 q2 q3 q4 q5 q6] (scp ns0) .none .none doc pm an (.ref cda) ct cc), osl⟩ ∧ codeIn K (.ref cda) qual = true ∧ (q3.endLine == q5.line) = true ∧
    (∃ ccl cdd vs ccs file tf, K.lookup cda = some ⟨ccl, cdd, .fields vs, ccs⟩ ∧ vs[2]? = some (.str file tf) ∧ ((P.main.file : Str) == file) = true) ∧
    (∃ cl cld csl, K.lookup cc = some ⟨cl, cld, .cell (some (.ref C)), csl⟩)

section
variable {prog : Program} {w : World} {A : Around} {R : Result → Shared → Prop} {s : Shared} {K : Frag} {mg mb : Str → Option Value} {C fI : Addr} {f : Str}

theorem init1 (T : ClsT prog K C) (F1 : Fn1 prog K C fI f) (hf : f ∈ fNames) {args : Args} {x t0 : Addr} {v : Value} (X : K.In s.heap) (hlim : s.heap.NoLimit) (G : s.heap.Ns mainGlobals mg) (hs : mg "super" = none) (B : s.heap.Ns builtinsNs mb) (hb : mb "super" = some (.type "super"))
    (ha : args = ⟨[.ref x, v], []⟩ ∨ args = ⟨[.ref x], [(f, v)]⟩) (hx : s.heap.get? x = some (excO C t0)) (hnx : K.lookup x = none) (hnC : x ≠ C) (hroom : A.depth < recursionLimit)
    (hq : ∀ h' tk dx t1, (∀ b o, b ≠ x → s.heap.get? b = some o → h'.get? b = some o) → s.heap.objs.size ≤ dx → dx ≠ x → h'.get? x = some { cls := .ref C, dict := some dx, data := .fields #[.ref t1, .none, .none, .none, .bool false, .none] } →
      h'.Ns1 dx (fun y => if y = f then some v else none) → R (.ok (.ret .none)) { s with heap := h', toks := tk }) :
    codeAny (model prog w) A (.call (.ref fI) args) R s := by
  obtain ⟨oc, od, qual, txt, doc, pm, an, cda, ct, osl, cc, p1, p2, q1, q2, q3, q4, q5, q6, r1, r2, r3, r4, ho, hcd, hpos, hcode, hcell⟩ := F1.fn
  have hfs : (("self" : Str) == f) = false ∧ (f == ("self" : Str)) = false ∧ (f == ("__debug__" : Str)) = false := by
    simp only [fNames, List.mem_cons, List.not_mem_nil, or_false] at hf
    rcases hf with rfl | rfl | rfl | rfl | rfl | rfl <;> decide +kernel
  have hbind : BindsTo s (ksFn "__init__" qual (aA f p1 p2) [sSay txt 0 q1 q2 q3 q4 q5 q6, sKeep f r1 r2 r3 r4] (scp (ns1 f)) .none .none doc pm an (.ref cda) ct cc) args [("self", .ref x), (f, v)] := by
    refine BindsTo.of_eq ?_
    simp only [fNames, List.mem_cons, List.not_mem_nil, or_false] at hf
    rcases ha with rfl | rfl <;> rcases hf with rfl | rfl | rfl | rfl | rfl | rfl <;> rfl
  have lf : (ns1 f).lookup f = some .local := by simp [ns1, List.lookup, hfs.2.1]
  have lk : (ns1 f).lookup ("super" : Str) = some .globalImplicit ∧ (ns1 f).lookup ("__class__" : Str) = some .free := by
    simp only [fNames, List.mem_cons, List.not_mem_nil, or_false] at hf
    rcases hf with rfl | rfl | rfl | rfl | rfl | rfl <;> exact ⟨rfl, rfl⟩
  refine ks_codeAny_call_defAt hroom (X _ _ ho) rfl hlim (codeRec_of X hcd) rfl hbind ?_ ?_ (fun h₁ hns hk₁ => ?_) rfl rfl rfl
  · intro y hy
    simp only [ns1, List.mem_cons, List.not_mem_nil, or_false] at hy
    rcases hy with rfl | rfl | rfl | rfl <;> exact fun z => nomatch z
  · intro y hy
    simp only [List.mem_cons, List.not_mem_nil, or_false] at hy
    rcases hy with rfl | rfl
    · rfl
    · exact lf
  have m1 : ([(("self" : Str), Value.ref x), (f, v)]).reverse.lookup ("self" : Str) = some (Value.ref x) := by simp [List.lookup, hfs.1]
  have m2 : ([(("self" : Str), Value.ref x), (f, v)]).reverse.lookup f = some v := by simp [List.lookup]
  show _root_.PySem.wpAt _ _ (.func _ (ksEnv qual (scp (ns1 f)) s.heap.objs.size fI (.ref cda) cc)) (execs _ (ksEnv qual (scp (ns1 f)) s.heap.objs.size fI (.ref cda) cc)) _ _ _
  refine ks_wpAt_execs_cons ?_
  have hL : s.heap.objs.size ≠ x := Nat.ne_of_gt (Heap.lt_size hx)
  refine say (s := { s with heap := h₁, toks := s.toks + 2 }) (ar := ⟨"self", none, p1⟩) T (X.keeps hk₁) (G.keeps hk₁) hs (B.keeps hk₁) hb hns m1 (hk₁ _ _ hx) hnC (hk₁ _ _ (X _ _ ho)) rfl rfl hcode hcell lk.1 lk.2 rfl hpos fun h₂ tk₂ t1 k2 hx2 => ?_
  have X2 : K.In h₂ := fun a o e => k2 a o (fun z => by rw [z, hnx] at e; cases e) (X.keeps hk₁ a o e)
  have hns2 : h₂.Ns s.heap.objs.size (fun y => ([(("self" : Str), Value.ref x), (f, v)]).reverse.lookup y) := by
    obtain ⟨o, es, ep, e, r⟩ := hns
    exact ⟨o, es, ep, k2 _ _ hL e, r⟩
  refine wpAt_of_wpAny (wpAny_execs_cons ?_)
  refine keep (s := { s with heap := h₂, toks := tk₂ }) (env := ksEnv qual (scp (ns1 f)) s.heap.objs.size fI (.ref cda) cc) T X2 F1.no hx2 hns2 m2 m1 rfl lf rfl hfs.2.2 ?_ fun h₃ tk₃ dx k3 dn dne hx3 hn3 => ?_
  · simp only [fNames, List.mem_cons, List.not_mem_nil, or_false] at hf
    rcases hf with rfl | rfl | rfl | rfl | rfl | rfl <;> rfl
  have z1 : s.heap.objs.size < h₂.objs.size := by
    obtain ⟨o, es, ep, e, r⟩ := hns2
    exact Heap.lt_size e
  exact wpAny_execs_nil (hq h₃ tk₃ dx t1 (fun b o hb e => k3 b o hb (k2 b o hb (hk₁ b o e))) (Nat.le_of_lt (Nat.lt_of_lt_of_le z1 dn)) dne hx3 hn3)

theorem init0 (T : ClsT prog K C) (F0 : Fn0 prog K C fI) {x t0 : Addr} (X : K.In s.heap) (hlim : s.heap.NoLimit) (G : s.heap.Ns mainGlobals mg) (hs : mg "super" = none) (B : s.heap.Ns builtinsNs mb) (hb : mb "super" = some (.type "super"))
    (hx : s.heap.get? x = some (excO C t0)) (hnC : x ≠ C) (hroom : A.depth < recursionLimit)
    (hq : ∀ h' tk t1, (∀ b o, b ≠ x → s.heap.get? b = some o → h'.get? b = some o) → h'.get? x = some (excO C t1) → R (.ok (.ret .none)) { s with heap := h', toks := tk }) :
    codeAny (model prog w) A (.call (.ref fI) ⟨[.ref x], []⟩) R s := by
  obtain ⟨oc, od, qual, txt, doc, pm, an, cda, ct, osl, cc, p1, q1, q2, q3, q4, q5, q6, ho, hcd, hpos, hcode, hcell⟩ := F0.fn
  refine ks_codeAny_call_defAt (binds := [("self", .ref x)]) hroom (X _ _ ho) rfl hlim (codeRec_of X hcd) rfl (BindsTo.of_eq rfl) (show ∀ y ∈ ns0, y.2 ≠ NameKind.cell by decide) ?_ (fun h₁ hns hk₁ => ?_) rfl rfl rfl
  · intro y hy
    simp only [List.mem_cons, List.not_mem_nil, or_false] at hy
    subst hy
    rfl
  show _root_.PySem.wpAt _ _ (.func _ (ksEnv qual (scp ns0) s.heap.objs.size fI (.ref cda) cc)) (execs _ (ksEnv qual (scp ns0) s.heap.objs.size fI (.ref cda) cc)) _ _ _
  refine ks_wpAt_execs_cons ?_
  refine say (s := { s with heap := h₁, toks := s.toks + 1 }) (ar := ⟨"self", none, p1⟩) T (X.keeps hk₁) (G.keeps hk₁) hs (B.keeps hk₁) hb hns (by rfl) (hk₁ _ _ hx) hnC (hk₁ _ _ (X _ _ ho)) rfl rfl hcode hcell rfl rfl rfl hpos fun h₂ tk₂ t1 k2 hx2 => ?_
  exact wpAt_of_wpAny (wpAny_execs_nil (hq h₂ tk₂ t1 (fun b o hb e => k2 b o hb (hk₁ b o e)) hx2))

theorem one_le (v : Value) : [v].length ≤ sizeLine := by rw [sizeLine_eq]; exact (by decide : 1 ≤ 16777216)

theorem made1 (T : ClsT prog K C) (F1 : Fn1 prog K C fI f) (hf : f ∈ fNames) {rest : List Value} {kw : List (Str × Value)} {v : Value} (X : K.In s.heap) (hlim : s.heap.NoLimit) (G : s.heap.Ns mainGlobals mg) (hs : mg "super" = none) (B : s.heap.Ns builtinsNs mb) (hb : mb "super" = some (.type "super"))
    (ha : (rest = [v] ∧ kw = []) ∨ (rest = [] ∧ kw = [(f, v)])) (hroom : A.depth + 1 < recursionLimit)
    (hq : ∀ h' tk e d, Made1 s.heap h' e C d f v → R (.ok (.ret (.ref e))) { s with heap := h', toks := tk }) : codeAny (model prog w) A (.call (.ref C) ⟨rest, kw⟩) R s := by
  obtain ⟨nm, N, qn, bs, bm, hdct, sn, sub, ab, col, dd, k0, k1, k2, k3, k5, hC, hT⟩ := excInit_of X T.ex
  obtain ⟨hp, g, dr, tk, os⟩ := s
  have kk : ∀ b o, hp.get? b = some o → ((hp.push (kdv_tup rest)).push (excO C hp.objs.size)).get? b = some o := fun b o e => Heap.get?_push_of_some _ (Heap.get?_push_of_some _ e)
  have hget : ((hp.push (kdv_tup rest)).push (excO C hp.objs.size)).get? (hp.objs.size + 1) = some (excO C hp.objs.size) := by heap_get
  have hnx : K.lookup (hp.objs.size + 1) = none := by
    cases e : K.lookup (hp.objs.size + 1) with
    | none => rfl
    | some o => exact absurd (Nat.lt_of_succ_lt (Heap.lt_size (show hp.get? (hp.objs.size + 1) = some o from X _ _ e))) (Nat.lt_irrefl _)
  have hnC : hp.objs.size + 1 ≠ C := fun z => absurd (Nat.lt_of_succ_lt (Heap.lt_size (show hp.get? (hp.objs.size + 1) = some _ from z ▸ hC))) (Nat.lt_irrefl _)
  have hz : rest.length ≤ sizeLine := by
    rcases ha with ⟨rfl, _⟩ | ⟨rfl, _⟩
    · exact one_le v
    · exact Nat.zero_le _
  refine mk_call F.excBase_Exception hT hz hC (looks_findIn X F1.fi) (fun self => bind_fn X self F1.ty) ?_
  refine init1 (s := ⟨(hp.push (kdv_tup rest)).push (excO C hp.objs.size), g, dr, tk, os⟩) T F1 hf (X.keeps kk) (hlim.keeps kk) (G.keeps kk) hs (B.keeps kk) hb (v := v) ?_ hget hnx hnC (show A.depth + 1 < recursionLimit from hroom) fun h' tk' dx t1 k' dn dne hx hns => ?_
  · rcases ha with ⟨rfl, rfl⟩ | ⟨rfl, rfl⟩
    · exact .inl rfl
    · exact .inr rfl
  · have z : hp.objs.size + 1 + 1 ≤ dx := by
      have q := dn
      dsimp only at q
      rw [Heap.size_push, Heap.size_push] at q
      exact q
    exact ⟨rfl, hq h' tk' (hp.objs.size + 1) dx ⟨fun b o e => k' b o (Nat.ne_of_lt (Nat.lt_succ_of_lt (Heap.lt_size e))) (kk b o e), Nat.le_succ _, ⟨t1, hx⟩, (show hp.objs.size ≤ dx by omega), dne, hns⟩⟩

theorem made0 (T : ClsT prog K C) (F0 : Fn0 prog K C fI) (X : K.In s.heap) (hlim : s.heap.NoLimit) (G : s.heap.Ns mainGlobals mg) (hs : mg "super" = none) (B : s.heap.Ns builtinsNs mb) (hb : mb "super" = some (.type "super"))
    (hroom : A.depth + 1 < recursionLimit) (hq : ∀ h' tk e, Made0 s.heap h' e C → R (.ok (.ret (.ref e))) { s with heap := h', toks := tk }) : codeAny (model prog w) A (.call (.ref C) ⟨[], []⟩) R s := by
  obtain ⟨nm, N, qn, bs, bm, hdct, sn, sub, ab, col, dd, k0, k1, k2, k3, k5, hC, hT⟩ := excInit_of X T.ex
  obtain ⟨hp, g, dr, tk, os⟩ := s
  have kk : ∀ b o, hp.get? b = some o → ((hp.push (kdv_tup [])).push (excO C hp.objs.size)).get? b = some o := fun b o e => Heap.get?_push_of_some _ (Heap.get?_push_of_some _ e)
  have hget : ((hp.push (kdv_tup [])).push (excO C hp.objs.size)).get? (hp.objs.size + 1) = some (excO C hp.objs.size) := by heap_get
  have hnC : hp.objs.size + 1 ≠ C := fun z => absurd (Nat.lt_of_succ_lt (Heap.lt_size (show hp.get? (hp.objs.size + 1) = some _ from z ▸ hC))) (Nat.lt_irrefl _)
  refine mk_call F.excBase_Exception hT (Nat.zero_le _) hC (looks_findIn X F0.fi) (fun self => bind_fn X self F0.ty) ?_
  refine init0 (s := ⟨(hp.push (kdv_tup [])).push (excO C hp.objs.size), g, dr, tk, os⟩) T F0 (X.keeps kk) (hlim.keeps kk) (G.keeps kk) hs (B.keeps kk) hb hget hnC (show A.depth + 1 < recursionLimit from hroom) fun h' tk' t1 k' hx => ?_
  exact ⟨rfl, hq h' tk' (hp.objs.size + 1) ⟨fun b o e => k' b o (Nat.ne_of_lt (Nat.lt_succ_of_lt (Heap.lt_size e))) (kk b o e), Nat.le_succ _, ⟨t1, hx⟩⟩⟩
end
end PySem.EX

set_option Elab.async false
set_option linter.all false
set_option maxRecDepth 100000
set_option maxHeartbeats 4000000
/-! Own errors over the tracked heap: made, read, asked for their class, raised. -/
namespace K0
open PySem PySem.Spec L2
open PyProof.Rows hiding St

abbrev exOb (C : Addr) (d : Option Addr) (t : Addr) : Obj := { cls := .ref C, dict := d, data := .fields #[.ref t, .none, .none, .none, .bool false, .none] }
/-- an error as a value: its class at C, its own dict d -/
def ExV (C : Addr) (d : Option Addr) (a : Addr) : HO := .ext fun h => ∃ t, h.get? a = some (exOb C d t)
theorem exv_ok {P : Program} {w : World} {H : Hp} {h : Heap} {a C t : Addr} {d : Option Addr} (e : h.get? a = some (exOb C d t)) : ObjOk P w H h a (ExV C d a) :=
  ⟨⟨t, e⟩, ⟨_, e⟩, fun _ _ ⟨t, q⟩ k => ⟨t, k _ q⟩⟩

/-- what the written part says of an own error's class -/
structure ErrC (P : Program) (K : PySem.W.Frag) (C : Addr) : Prop where
  cl : PySem.EX.ClsT P K C
  ga : PySem.W.findIn K (.ref C) "__getattribute__" = some (some (.builtin "BaseException.__getattribute__"))
  gg : PySem.W.findIn K (.ref C) "__getattr__" = some none
  eB : PySem.W.subIn K (.ref C) (.type "BaseException") = some true
  tC : PySem.W.typeIn K (.ref C) = some (.type "type")
  ha : PySem.W.findIn K (.ref C) "__class__" = some (some (.builtin "object.__class__"))
  hn : PySem.W.specialIn K (.builtin "object.__class__") "__get__" = some (some (.builtin "getset_descriptor.__get__"))
  ht : PySem.W.takesIn K (.builtin "object.__class__") = some true
  hm : PySem.W.mroIn K C (.type "object") = some true
theorem ErrC.xf {P : Program} {K : PySem.W.Frag} {C : Addr} (E : ErrC P K C) : XfC K C := ⟨E.ga, E.gg, E.eB, E.cl.hd⟩

section
variable {X : Cx} {C fI : Addr} {f x : Str} {k : Nat}
/-- the call of the class by position or by name, at the machine -/
theorem run_made1 {pins : List (Addr × Obj)} {σ : St} {H1 : Hp} {s1 : Shared} {v : V} {u : Value} {us : List Value} {kw : List (Str × Value)} {R : Value → Shared → Prop} (T : ErrC X.prog X.K C) (F1 : PySem.EX.Fn1 X.prog X.K C fI f) (hf : f ∈ PySem.EX.fNames) (hs : X.mg "super" = none) (hr : Room k X.A)
    (I1 : Inv X pins σ H1 s1) (rv : RelV v u) (ha : (us = [u] ∧ kw = []) ∨ (us = [] ∧ kw = [(f, u)]))
    (h : ∀ (a d t : Addr) (G : Heap) (h' : Heap) (tk : Nat), H1 a = none → H1 d = none → d ≠ a → Inv X pins σ (upd H1 d (.xd [(f, v)])) { s1 with heap := G, toks := tk } → (∀ b o, G.get? b = some o → h'.get? b = some o) → G.get? a = none → h'.get? a = some (exOb C (some d) t) → R (.ref a) { s1 with heap := h', toks := tk }) :
    wpAny (model X.prog X.w) X.A (call (.ref C) us kw) R X.xe s1 := by
  have hlim := I1.nolimit
  have hX := I1.kIn
  have hG : s1.heap.Ns mainGlobals X.mg := I1.mod.glob.keeps I1.bk
  obtain ⟨mb, hB, hBB⟩ := I1.mod.blt
  have hb : mb "super" = some (.type "super") := (hBB _ (by decide)).trans (by decide +kernel)
  have hB' : s1.heap.Ns builtinsNs mb := hB.keeps I1.bk
  refine wpAny_call (PySem.EX.made1 T.cl F1 hf hX hlim hG hs hB' hb ha (by have := hr.dp; omega) fun h' tk e d M => ?_)
  obtain ⟨t, ht⟩ := M.obj
  obtain ⟨G, g1, g2⟩ := restrict h' fun b => decide (b ≠ e)
  have gk : ∀ b, b ≠ e → G.get? b = h'.get? b := fun b hb => g1 b (decide_eq_true hb)
  have ge : G.get? e = none := g2 e (by simp)
  have old : ∀ b o, s1.heap.get? b = some o → G.get? b = some o := fun b o q => (gk b (Nat.ne_of_lt (Nat.lt_of_lt_of_le (Heap.lt_size q) M.new))).trans (M.keep b o q)
  have ob : ObjOk X.prog X.w (upd H1 d (.xd [(f, v)])) G d (.xd [(f, v)]) := ⟨_, M.ns.at (fun o q => (gk d M.dne).trans q), fun g => by
    by_cases hw : g = f
    · subst hw
      rw [if_pos rfl, show List.lookup g [(g, v)] = some v by simp [List.lookup]]
      exact rv
    · have qw : (g == f) = false := by simpa using hw
      rw [if_neg hw, show List.lookup g [(f, v)] = none by simp [List.lookup, qw]]
      trivial⟩
  have J : Inv X pins σ (upd H1 d (.xd [(f, v)])) { s1 with heap := G, toks := tk } := I1.laid (t' := tk) old M.dbig ob
  exact h e d t G h' tk (I1.hok.fresh M.new) (I1.hok.fresh M.dbig) M.dne J (fun b o q => by
    by_cases hb : b = e
    · rw [hb, ge] at q; cases q
    · exact (gk b hb).symm.trans q) ge ht

/-- X(e) -/
def tMk1 (C : Addr) (f : Str) (ta : TA) : TE := fun σ H Q => ta σ H fun vs H1 => ∃ v, vs = [v] ∧ ∀ a d, H1 a = none → H1 d = none → d ≠ a → Q (.ref a) (upd (upd H1 d (.xd [(f, v)])) a (ExV C (some d) a))
def tMkX1 (C : Addr) (f : Str) (ta : TA) : St → Hp → XK → Prop := fun σ H Q => ta σ H fun vs H1 => ∃ v, vs = [v] ∧ ∀ d, H1 d = none → Q (.ref C) (some d) (upd H1 d (.xd [(f, v)]))
theorem fin1 {pins : List (Addr × Obj)} {σ : St} {H1 : Hp} {s1 : Shared} {v : V} {Q : VK} {a d t : Addr} {G h' : Heap} {tk : Nat} (na : H1 a = none) (nd : d ≠ a) (J : Inv X pins σ (upd H1 d (.xd [(f, v)])) { s1 with heap := G, toks := tk })
    (k : ∀ b o, G.get? b = some o → h'.get? b = some o) (ga : G.get? a = none) (ha : h'.get? a = some (exOb C (some d) t)) (q : Q (.ref a) (upd (upd H1 d (.xd [(f, v)])) a (ExV C (some d) a))) : EP X pins σ Q (.ref a) { s1 with heap := h', toks := tk } :=
  ⟨.ref a, _, J.laidN (t' := tk) k ga (by rw [upd_ne nd.symm]; exact na) (exv_ok ha), rfl, q⟩
theorem finX {pins : List (Addr × Obj)} {σ : St} {H1 : Hp} {s1 : Shared} {v : V} {Q : XK} {a d t : Addr} {G h' : Heap} {tk : Nat} (T : ErrC X.prog X.K C) (bare : AllBare s1.gens) (na : H1 a = none) (nd : d ≠ a) (J : Inv X pins σ (upd H1 d (.xd [(f, v)])) { s1 with heap := G, toks := tk })
    (k : ∀ b o, G.get? b = some o → h'.get? b = some o) (ga : G.get? a = none) (ha : h'.get? a = some (exOb C (some d) t)) (q : Q (.ref C) (some d) (upd H1 d (.xd [(f, v)]))) : MkP X pins σ Q (.ref a) { s1 with heap := h', toks := tk } :=
  ⟨a, _, _, { s1 with heap := G, toks := tk }, _, .ref C, some d, rfl, J, k, ga, ha, ⟨rfl, rfl⟩, rfl, rfl, by rw [upd_ne nd.symm]; exact na, rfl, bare, raises_own T.eB T.tC, q⟩

section
variable {e : Expr} {ta : TA} {p pos : Pos} (T : ErrC X.prog X.K C) (F1 : PySem.EX.Fn1 X.prog X.K C fI f) (hf : f ∈ PySem.EX.fNames) (hs : X.mg "super" = none) (hr : Room k X.A) (hm : X.mg x = some (.ref C))
include T F1 hf hs hr hm
theorem pe_mk1 (ha : PA X [e] ta) (hg : Gl X x := by rfl) (he : starEach [e] X.env = (false, eval e X.env) :: starEach [] X.env := by rfl) (hpl : (backTo pos (starEach [] X.env)).any (·.1) = false := by rfl) (hdb : (x == ("__debug__" : Str)) = false := by decide) :
    PE X (.Call (.Name x p) [e] [] pos) (tMk1 C f ta) := by
  refine ⟨fun pins s σ H Q I h => ?_⟩
  refine wpAny_Call_Name_kw (ld_glob I hg hm ?_ hdb)
  refine PySem.W.callWith_K (h₀ := X.base) I.ok.mod.kin T.cl.kp (thn (ha.run pos pins s σ H _ I h) fun us s1 hh => ?_) he hpl
  obtain ⟨vs, H1, I1, r1, v, rfl, q1⟩ := hh
  obtain ⟨u, rfl, ru⟩ := vals1 r1
  exact ⟨I1.kIn, run_made1 T F1 hf hs hr I1 ru (.inl ⟨rfl, rfl⟩) fun a d t G h' tk na nd dne J k ga ha' => fin1 na dne J k ga ha' (q1 a d na nd dne)⟩
theorem pmk1 (ha : PA X [e] ta) (hg : Gl X x := by rfl) (he : starEach [e] X.env = (false, eval e X.env) :: starEach [] X.env := by rfl) (hpl : (backTo pos (starEach [] X.env)).any (·.1) = false := by rfl) (hdb : (x == ("__debug__" : Str)) = false := by decide) :
    PMk X (.Call (.Name x p) [e] [] pos) (tMkX1 C f ta) := by
  intro pins s σ H Q I h
  refine wpAny_Call_Name_kw (ld_glob I hg hm ?_ hdb)
  refine PySem.W.callWith_K (h₀ := X.base) I.ok.mod.kin T.cl.kp (thn (ha.run pos pins s σ H _ I h) fun us s1 hh => ?_) he hpl
  obtain ⟨vs, H1, I1, r1, v, rfl, q1⟩ := hh
  obtain ⟨u, rfl, ru⟩ := vals1 r1
  exact ⟨I1.kIn, run_made1 T F1 hf hs hr I1 ru (.inl ⟨rfl, rfl⟩) fun a d t G h' tk na nd dne J k ga ha' => finX T I1.bare na dne J k ga ha' (q1 d nd)⟩
theorem pe_mkK {kws : List Keyword} (ha : PK X kws ta) (hks : (backToKw pos (keywordEach kws X.env)).filterMap (·.1) = [f] := by rfl) (hall : (backToKw pos (keywordEach kws X.env)).all (·.1.isSome) = true := by rfl) (hg : Gl X x := by rfl)
    (hpl : ((backTo pos (starEach [] X.env)).any (·.1) || (backToKw pos (keywordEach kws X.env)).any (·.1.isNone)) = false := by rfl) (hdb : (x == ("__debug__" : Str)) = false := by decide) :
    PE X (.Call (.Name x p) [] kws pos) (tMk1 C f ta) := by
  refine ⟨fun pins s σ H Q I h => ?_⟩
  refine wpAny_Call_Name_kw (ld_glob I hg hm ?_ hdb)
  refine PySem.W.callWith_KW0 (h₀ := X.base) I.ok.mod.kin T.cl.kp hall (thn (ha.run pos pins s σ H _ I h) fun us s1 hh => ?_) hpl
  obtain ⟨vs, H1, I1, r1, v, rfl, q1⟩ := hh
  obtain ⟨u, rfl, ru⟩ := vals1 r1
  rw [hks]
  exact ⟨I1.kIn, run_made1 T F1 hf hs hr I1 ru (.inr ⟨rfl, rfl⟩) fun a d t G h' tk na nd dne J k ga ha' => fin1 na dne J k ga ha' (q1 a d na nd dne)⟩
theorem pmkK {kws : List Keyword} (ha : PK X kws ta) (hks : (backToKw pos (keywordEach kws X.env)).filterMap (·.1) = [f] := by rfl) (hall : (backToKw pos (keywordEach kws X.env)).all (·.1.isSome) = true := by rfl) (hg : Gl X x := by rfl)
    (hpl : ((backTo pos (starEach [] X.env)).any (·.1) || (backToKw pos (keywordEach kws X.env)).any (·.1.isNone)) = false := by rfl) (hdb : (x == ("__debug__" : Str)) = false := by decide) :
    PMk X (.Call (.Name x p) [] kws pos) (tMkX1 C f ta) := by
  intro pins s σ H Q I h
  refine wpAny_Call_Name_kw (ld_glob I hg hm ?_ hdb)
  refine PySem.W.callWith_KW0 (h₀ := X.base) I.ok.mod.kin T.cl.kp hall (thn (ha.run pos pins s σ H _ I h) fun us s1 hh => ?_) hpl
  obtain ⟨vs, H1, I1, r1, v, rfl, q1⟩ := hh
  obtain ⟨u, rfl, ru⟩ := vals1 r1
  rw [hks]
  exact ⟨I1.kIn, run_made1 T F1 hf hs hr I1 ru (.inr ⟨rfl, rfl⟩) fun a d t G h' tk na nd dne J k ga ha' => finX T I1.bare na dne J k ga ha' (q1 d nd)⟩
end
end
end K0

set_option Elab.async false
set_option linter.all false
set_option maxRecDepth 100000
set_option maxHeartbeats 4000000
/-! Own errors: those without a field; fields read; isinstance. -/
namespace K0
open PySem PySem.Spec L2
open PyProof.Rows hiding St

section
variable {X : Cx} {C fI : Addr} {f x : Str} {k : Nat}
theorem run_made0 {pins : List (Addr × Obj)} {σ : St} {H1 : Hp} {s1 : Shared} {R : Value → Shared → Prop} (T : ErrC X.prog X.K C) (F0 : PySem.EX.Fn0 X.prog X.K C fI) (hs : X.mg "super" = none) (hr : Room k X.A) (I1 : Inv X pins σ H1 s1)
    (h : ∀ (a t : Addr) (G : Heap) (h' : Heap) (tk : Nat), H1 a = none → Inv X pins σ H1 { s1 with heap := G, toks := tk } → (∀ b o, G.get? b = some o → h'.get? b = some o) → G.get? a = none → h'.get? a = some (exOb C none t) → R (.ref a) { s1 with heap := h', toks := tk }) :
    wpAny (model X.prog X.w) X.A (call (.ref C) []) R X.xe s1 := by
  have hlim := I1.nolimit
  have hG : s1.heap.Ns mainGlobals X.mg := I1.mod.glob.keeps I1.bk
  obtain ⟨mb, hB, hBB⟩ := I1.mod.blt
  have hb : mb "super" = some (.type "super") := (hBB _ (by decide)).trans (by decide +kernel)
  refine wpAny_call (PySem.EX.made0 T.cl F0 I1.kIn hlim hG hs (hB.keeps I1.bk) hb (by have := hr.dp; omega) fun h' tk e M => ?_)
  obtain ⟨t, ht⟩ := M.obj
  obtain ⟨G, g1, g2⟩ := restrict h' fun b => decide (b ≠ e)
  have gk : ∀ b, b ≠ e → G.get? b = h'.get? b := fun b hb => g1 b (decide_eq_true hb)
  have ge : G.get? e = none := g2 e (by simp)
  have old : ∀ b o, s1.heap.get? b = some o → G.get? b = some o := fun b o q => (gk b (Nat.ne_of_lt (Nat.lt_of_lt_of_le (Heap.lt_size q) M.new))).trans (M.keep b o q)
  exact h e t G h' tk (I1.hok.fresh M.new) (I1.kept (t' := tk) old) (fun b o q => by
    by_cases hb : b = e
    · rw [hb, ge] at q; cases q
    · exact (gk b hb).symm.trans q) ge ht
/-- X() -/
def tMk0 (C : Addr) : TE := fun _ H Q => ∀ a, H a = none → Q (.ref a) (upd H a (ExV C none a))
def tMkX0 (C : Addr) : St → Hp → XK → Prop := fun _ H Q => Q (.ref C) none H
theorem pe_mk0 {p pos : Pos} (T : ErrC X.prog X.K C) (F0 : PySem.EX.Fn0 X.prog X.K C fI) (hs : X.mg "super" = none) (hr : Room k X.A) (hm : X.mg x = some (.ref C)) (hg : Gl X x := by rfl) (hdb : (x == ("__debug__" : Str)) = false := by decide) :
    PE X (.Call (.Name x p) [] [] pos) (tMk0 C) := by
  refine ⟨fun pins s σ H Q I h => ?_⟩
  refine wpAny_Call_Name_kw (ld_glob I hg hm ?_ hdb)
  refine PySem.W.callWith_K0 I.kIn T.cl.kp (run_made0 T F0 hs hr I fun a t G h' tk na J kk ga ha => ?_)
  exact ⟨.ref a, _, J.laidN (t' := tk) kk ga na (exv_ok ha), rfl, h a na⟩
theorem pmk0 {p pos : Pos} (T : ErrC X.prog X.K C) (F0 : PySem.EX.Fn0 X.prog X.K C fI) (hs : X.mg "super" = none) (hr : Room k X.A) (hm : X.mg x = some (.ref C)) (hg : Gl X x := by rfl) (hdb : (x == ("__debug__" : Str)) = false := by decide) :
    PMk X (.Call (.Name x p) [] [] pos) (tMkX0 C) := by
  intro pins s σ H Q I h
  refine wpAny_Call_Name_kw (ld_glob I hg hm ?_ hdb)
  refine PySem.W.callWith_K0 I.kIn T.cl.kp (run_made0 T F0 hs hr I fun a t G h' tk na J kk ga ha => ?_)
  exact ⟨a, _, _, { s with heap := G, toks := tk }, _, .ref C, none, rfl, J, kk, ga, ha, ⟨rfl, rfl⟩, rfl, rfl, na, rfl, I.bare, raises_own T.eB T.tC, h⟩

/-- e.f, e an error that is tracked -/
def tFldE (P : Program) (K : PySem.W.Frag) (f : Str) (te : TE) : TE := fun σ H Q => te σ H fun y H1 => ∃ (a C d : Addr) (fs : List (Str × V)) (v : V), y = .ref a ∧ H1 a = some (ExV C (some d) a) ∧ H1 d = some (.xd fs) ∧ fs.lookup f = some v ∧ ErrC P K C ∧ PySem.W.findIn K (.ref C) f = some none ∧ Q v H1
theorem pe_fldE {e : Expr} {te : TE} {pos : Pos} (he : PE X e te) (hb : attributeBase e f X.env (eval e X.env) = eval e X.env := by rfl) : PE X (.Attribute e f pos) (tFldE X.prog X.K f te) := by
  refine ⟨fun pins s σ H Q I h => ?_⟩
  refine attr_of hb (thn (he.run pins s σ H _ I h) fun u s1 hh => ?_)
  obtain ⟨y, H1, I1, rx, a, C, d, fs, v, rfl, ea, ed, l, T, hno, q⟩ := hh
  obtain rfl : u = Value.ref a := rx
  obtain ⟨⟨t, ht⟩, _, _⟩ := (show ObjOk X.prog X.w H1 s1.heap a (ExV C (some d) a) from I1.hok a _ ea)
  obtain ⟨mA, hns, hr⟩ := (show ObjOk X.prog X.w H1 s1.heap d (.xd fs) from I1.hok d _ ed)
  obtain ⟨od, ho, hl⟩ := lookIn_ns hns
  obtain ⟨u, hu, ru⟩ := RelO.some_of (v := v) (o := mA f) (by rw [← l]; exact hr f)
  have J : PySem.W.InstAt s1.heap a (exOb C (some d) t) C (some od) := ⟨ht, rfl, rfl, ho⟩
  exact HandSPX.exc_get I1.kIn J T.ga T.gg T.eB (PySem.W.findObj_own T.cl.hd hno rfl (by rw [hl, hu])) (handed_of ru) ⟨v, H1, I1.tok _, ru, q⟩

/-- the own dict of an error, as the heap has it -/
theorem inst_of {pins : List (Addr × Obj)} {σ : St} {H1 : Hp} {s1 : Shared} {a t : Addr} {d : Option Addr} (I1 : Inv X pins σ H1 s1) (ht : s1.heap.get? a = some (exOb C d t)) (hd : d = none ∨ ∃ dd fs, d = some dd ∧ H1 dd = some (.xd fs)) :
    ∃ od, PySem.W.InstAt s1.heap a (exOb C d t) C od := by
  rcases hd with rfl | ⟨dd, fs, rfl, e⟩
  · exact ⟨none, ht, rfl, rfl, trivial⟩
  · obtain ⟨mA, hns, hr⟩ := (show ObjOk X.prog X.w H1 s1.heap dd (.xd fs) from I1.hok dd _ e)
    obtain ⟨od, ho, hl⟩ := lookIn_ns hns
    exact ⟨some od, ht, rfl, rfl, ho⟩
theorem kit_err {P : Program} {K : PySem.W.Frag} {a : Addr} {ox : Obj} {od : Option Obj} (T : ErrC P K C) : PySem.W.KitX K (.ref a) (.ref C) (fun h => PySem.W.InstAt h a ox C od) :=
  PySem.W.kitx_exc (by obtain ⟨cd, hc, _⟩ := PySem.W.any_some T.cl.hd; rw [hc]; rfl) T.ga T.gg T.eB T.ha T.hn T.ht T.hm
/-- isinstance(e, c), e a tracked error -/
def rIsT (P : Program) (K : PySem.W.Frag) : List V → Hp → VK → Prop := fun xs H Q => ∃ (a C : Addr) (d : Option Addr) (c : V) (cv : Value) (b : Bool), xs = [.ref a, c] ∧ ClsV c cv ∧ H a = some (ExV C d a) ∧ (d = none ∨ ∃ dd fs, d = some dd ∧ H dd = some (.xd fs)) ∧ ErrC P K C ∧ PySem.W.kitOne K (.ref C) cv = some b ∧ Q (.bl b) H
theorem call_isT : CallR X (.builtin "isinstance") (rIsT X.prog X.K) := by
  intro pins s σ H xs us Q I r h
  obtain ⟨a, C, d, c, cv, b, rfl, kc, ea, hd, T, e, q⟩ := h
  obtain ⟨u1, u2, rfl, r1, r2⟩ := vals2 r
  cases r1
  have e2 := kc.eq r2
  subst e2
  obtain ⟨⟨t, ht⟩, _, _⟩ := (show ObjOk X.prog X.w H s.heap a (ExV C d a) from I.hok a _ ea)
  obtain ⟨od, J⟩ := inst_of I ht hd
  exact PySem.W.kia_one (kit_err T) I.kIn J e (fun z => nomatch z) fun tk => ⟨.bl b, H, I.tok tk, rfl, q⟩
/-- isinstance(e, (c1, c2, ..)) -/
def rIsTs (P : Program) (K : PySem.W.Frag) : List V → Hp → VK → Prop := fun xs H Q => ∃ (a C tp : Addr) (d : Option Addr) (cs : List V) (us : List Value) (b : Bool), xs = [.ref a, .ref tp] ∧ H tp = some (.tup cs) ∧ Paired ClsV cs us ∧ H a = some (ExV C d a) ∧ (d = none ∨ ∃ dd fs, d = some dd ∧ H dd = some (.xd fs)) ∧ ErrC P K C ∧ PySem.W.kitAny K (.ref C) us = some b ∧ Q (.bl b) H
theorem call_isTs : CallR X (.builtin "isinstance") (rIsTs X.prog X.K) := by
  intro pins s σ H xs us Q I r h
  obtain ⟨a, C, tp, d, cs, ws, b, rfl, hT, kc, ea, hd, T, e, q⟩ := h
  obtain ⟨u1, u2, rfl, r1, r2⟩ := vals2 r
  cases r1
  cases r2
  obtain ⟨_, its, rv, o, h1, h2, n, h3⟩ := (show ObjOk X.prog X.w H s.heap tp (.tup cs) from I.hok tp _ hT)
  have e3 := ClsV.all kc rv
  subst e3
  obtain ⟨oc, od, dt, sl⟩ := o
  simp only at h2 h3
  subst h2 h3
  obtain ⟨⟨t, ht⟩, _, _⟩ := (show ObjOk X.prog X.w H s.heap a (ExV C d a) from I.hok a _ ea)
  obtain ⟨oi, J⟩ := inst_of I ht hd
  exact PySem.W.kia_tup (kit_err T) I.kIn J h1 e (fun z => nomatch z) fun tk => ⟨.bl b, H, I.tok tk, rfl, q⟩
/-- isinstance(e, c), e the error that the suite holds -/
def rIsS (P : Program) (K : PySem.W.Frag) (a : Addr) (cls : Value) (d : Option Addr) : List V → Hp → VK → Prop := fun xs H Q => ∃ (D : Addr) (c : V) (cv : Value) (b : Bool), xs = [.ref a, c] ∧ ClsV c cv ∧ cls = .ref D ∧ (d = none ∨ ∃ dd fs, d = some dd ∧ H dd = some (.xd fs)) ∧ ErrC P K D ∧ PySem.W.kitOne K (.ref D) cv = some b ∧ Q (.bl b) H
theorem call_isS {a : Addr} {oe : Obj} {cls : Value} {d : Option Addr} {pn : List (Addr × Obj)} (hz : Zc cls d oe) (hf : ∃ vs, oe.data = .fields vs) : CallR (X.suite a ((a, oe) :: pn)) (.builtin "isinstance") (rIsS X.prog X.K a cls d) := by
  intro pins s σ H xs us Q I r h
  obtain ⟨D, c, cv, b, rfl, kc, rfl, hd, T, e, q⟩ := h
  obtain ⟨u1, u2, rfl, r1, r2⟩ := vals2 r
  cases r1
  have e2 := kc.eq r2
  subst e2
  obtain ⟨hget, _⟩ := I.pin (a, oe) (List.mem_append.mpr (.inl List.mem_cons_self))
  obtain ⟨vs, hv⟩ := hf
  have J : ∃ od, PySem.W.InstAt s.heap a oe D od := by
    obtain ⟨oc, oo, oda, osl⟩ := oe
    obtain ⟨h1, h2⟩ := hz
    dsimp only at h1 h2 hv
    subst h1 h2 hv
    rcases hd with rfl | ⟨dd, fs, rfl, e⟩
    · exact ⟨none, hget, rfl, rfl, trivial⟩
    · obtain ⟨mA, hns, hr⟩ := (show ObjOk X.prog X.w H s.heap dd (.xd fs) from I.hok dd _ e)
      obtain ⟨od, ho, hl⟩ := lookIn_ns hns
      exact ⟨some od, hget, rfl, rfl, ho⟩
  obtain ⟨od, J⟩ := J
  exact PySem.W.kia_one (kit_err T) I.kIn J e (fun z => nomatch z) fun tk => ⟨.bl b, H, I.tok tk, rfl, q⟩
end
end K0

set_option Elab.async false
set_option linter.all false
set_option maxRecDepth 100000
set_option maxHeartbeats 4000000
/-! try: .. with several clauses, each of which keeps the error under one name, one of which takes whatever comes. -/
namespace K0
open PySem PySem.Spec L2
open PyProof.Rows hiding St

/-- behind a clause its name is gone -/
def gone (i : Nat) (D : Ends) : Ends := { nx := fun τ G => D.nx (τ.set i none) G, rt := D.rt, bk := fun τ G => D.bk (τ.set i none) G, ct := fun τ G => D.ct (τ.set i none) G }
abbrev Sui := Addr → Value → Option Addr → TS
def wAll (K : PySem.W.Frag) (i : Nat) (D : Ends) : List (Value × Sui) → WX
  | [] => fun _ _ _ _ => False
  | (c, ts) :: more => fun cls d τ G => ∃ b, PySem.W.exmOne K cls c = some b ∧ (b = true → ∀ a, G a = none → ts a cls d (gone i D) (τ.set i (some (.ref a))) G) ∧ (b = false → wAll K i D more cls d τ G)
inductive Cls (X : Cx) (n : Str) : List ExceptHandler → List (Value × Sui) → Prop
  | nil : Cls X n [] []
  | cons {x : Str} {c : Value} {ts : Sui} {b₀ : Stmt} {rest : List Stmt} {np qp : Pos} {hds : List ExceptHandler} {l : List (Value × Sui)} (hc : Names X x c)
      (hsu : ∀ (a : Addr) (ob : Obj) (cls : Value) (d : Option Addr) (pn : List (Addr × Obj)), Zc cls d ob → (∃ ws, ob.data = .fields ws) → PSs (X.suite a ((a, ob) :: pn)) (b₀ :: rest) (ts a cls d)) (more : Cls X n hds l) :
      Cls X n (.ExceptHandler (some (.Name x np)) (some n) (b₀ :: rest) qp :: hds) ((c, ts) :: l)
section
variable {X : Cx} {body : List Stmt} {h₀ : ExceptHandler} {hds : List ExceptHandler} {l : List (Value × Sui)} {pos : Pos} {tb : WX → TS} {n : Str} {i : Nat}
theorem ps_try_all (hs : X.stack = X.env :: X.outer) (hf : X.env.frame = some X.env.locals) (hN : X.N.Nodup) (hi : X.N[i]? = some n) (hln : X.env.kindOf n = some .local)
    (hb : ∀ (W : WX) (pn : List (Addr × Obj)) (xe : Value → Shared → Prop), Takes (X.tr pn xe) W → PassesOwn (model X.prog X.w) X.A X.env xe → PSs (X.tr pn xe) body (tb W)) (hh : Cls X n (h₀ :: hds) l) :
    PS X (.Try body (h₀ :: hds) [] [] pos) (fun D σ H => tb (fun cls d τ G => τ.length = X.N.length → wAll X.K i D l cls d τ G) D σ H) := by
  refine ⟨fun pins s σ H D I h => ?_⟩
  have okX := I.ok
  have frX : X.A.frames = some (X.env :: X.outer) := okX.frames.trans (congrArg some hs)
  refine wpAny_Try_except (wpAny_mono ((hb (fun cls d τ G => τ.length = X.N.length → wAll X.K i D l cls d τ G) (X.pn ++ pins) _ (fun u s' xx => ?_) PassesOwn.looking).run [] s σ H D (I.toTry _) h) (fun f s1 hsp => ?_) (fun _ _ z => z))
  · obtain ⟨a, B, sI, _, τ, G, cls, d, rfl, J0, nb, up, sk, na, os, ag, wish⟩ := xx
    have J : Inv X pins τ G sI := J0.ofTry okX
    refine (show wpAny (model X.prog X.w) X.A (noteFrame (.ref a) X.env) _ _ _ from Sky.land Zc.steady frX hf (by rw [← hs]; exact sk) fun g3 F3 u3 => ?_)
    have J3 : Inv X pins τ G { s' with heap := g3 } := J.landed nb F3.1 (up.trans u3) os ag
    obtain ⟨o3, w3, e3, z3, d3⟩ := F3.there
    have far : a ∉ frs (X.env :: X.outer) := fun hm => by
      obtain ⟨_, o', e', hn⟩ := F3.2.2.1.mem hm
      exact hn _ (by rw [e3] at e'; cases e'; exact d3)
    have nL : a ≠ X.env.locals := fun z => far (List.mem_filterMap.mpr ⟨X.env, .head _, hf.trans (congrArg some z.symm)⟩)
    have nF : a ∉ X.fs := fun hm => far (by
      obtain ⟨e, he, q⟩ := List.mem_filterMap.mp hm
      exact List.mem_filterMap.mpr ⟨e, .tail _ he, q⟩)
    have S3 := J3.suite e3 d3 na nL nF
    have hlo : Loc X.env.scope n := .inl hln
    have each : ∀ {hs' : List ExceptHandler} {l' : List (Value × Sui)}, Cls X n hs' l' → wAll X.K i D l' cls d τ G → wpAny (model X.prog X.w) X.A (handleBy (.ref a) X.env hs') (SP X pins D) X.xe { s' with heap := g3 } := by
      intro hs' l' hk
      induction hk with
      | nil => exact fun z => z.elim
      | @cons x c ts b₀ rest np qp hds2 l2 hc hsu more ih =>
        rintro ⟨b, hb1, yes, no⟩
        have LM := PySem.W.exm_one (M := model X.prog X.w) (J3.kIn) (fun A Q E s k q => wpAny_typeOf_ref (k _ _ e3) (by rw [z3.1]; exact q)) hb1
        refine wpAny_handleBy_cons (codeAny_handlers_test ?_) (fun z => nomatch z)
        have named : ∀ {Q : Value → Shared → Prop} {E : Value → Shared → Prop}, Q c { s' with heap := g3 } → wpAny (model X.prog X.w) (X.A.mark (some (.ref a))) (eval (.Name x np) X.env) Q E { s' with heap := g3 } := fun {Q E} q => by
          obtain ⟨y1, y2, y3 | ⟨y3, y4, y5⟩⟩ := hc
          · exact ld_glob (X := X.suite a ((a, o3) :: (X.pn ++ pins))) S3 y1 y3 q y2
          · exact ld_blt (X := X.suite a ((a, o3) :: (X.pn ++ pins))) S3 y1 y3 y4 q y5 y2
        refine named (LM.here ?_)
        cases b with
        | false => exact (show wpAny _ X.A (handleBy (.ref a) X.env hds2) _ _ _ from ih (no rfl))
        | true =>
          refine codeAny_handlers_suite_as (HandSPX.lands_againZ F3 fun g4 F4 u4 => ?_)
          have J4 : Inv X pins τ G { s' with heap := g4 } := J.landed nb F4.1 ((up.trans u3).trans u4) os ag
          obtain ⟨o4, w4, e4, z4, d4⟩ := F4.there
          refine store_ok (X := X.suite a ((a, o4) :: (X.pn ++ pins))) (v := .ref a) (J4.suite e4 d4 na nL nF) hN hi hlo rfl (fun s5 S5 => ?_) (.inr hln)
          refine wpAny_mono ((hsu a o4 cls d (X.pn ++ pins) z4 ⟨_, d4⟩).run [] s5 _ G _ S5 (yes rfl a na)) (fun f s6 r6 => ?_) (fun _ _ z => z.elim)
          have leave : ∀ {υ : St} {M : Hp} {Q : Shared → Prop}, Inv (X.suite a ((a, o4) :: (X.pn ++ pins))) [] υ M s6 → (∀ s7, Inv X pins (υ.set i none) M s7 → Q s7) →
              wpAny (model X.prog X.w) X.A (do bindName X.env n .none; unbindBehindTheSuite X.env n qp) (fun _ s7 => Q s7) X.xe s6 := fun S6 q => gone_ok (S6.unsuite okX) hN hi hln q
          cases f with
          | ret u => obtain ⟨v, υ, M, S6, rv, q⟩ := r6; exact leave S6 fun s7 J7 => ⟨v, _, _, J7, rv, q⟩
          | next => obtain ⟨υ, M, S6, q⟩ := r6; exact leave S6 fun s7 J7 => ⟨_, _, J7, q⟩
          | brk => obtain ⟨υ, M, S6, q⟩ := r6; exact leave S6 fun s7 J7 => ⟨_, _, J7, q⟩
          | cont => obtain ⟨υ, M, S6, q⟩ := r6; exact leave S6 fun s7 J7 => ⟨_, _, J7, q⟩
    exact each hh (wish J.len)
  · cases f with
    | ret u => obtain ⟨v, υ, M, J, r, q⟩ := hsp; exact ⟨v, υ, M, J.ofTry okX, r, q⟩
    | next => obtain ⟨υ, M, J, q⟩ := hsp; exact wpAny_execs_nil ⟨υ, M, J.ofTry okX, q⟩
    | brk => obtain ⟨υ, M, J, q⟩ := hsp; exact ⟨υ, M, J.ofTry okX, q⟩
    | cont => obtain ⟨υ, M, J, q⟩ := hsp; exact ⟨υ, M, J.ofTry okX, q⟩
end
end K0

set_option Elab.async false
set_option linter.all false
set_option maxRecDepth 100000
set_option maxHeartbeats 8000000
/-! The program's looks at webs. -/
namespace K0
open PySem PySem.Spec L2
open PyProof.Rows hiding St
open KR (TupX)
abbrev pWhole : Stmt := top 7
abbrev pBelow : Stmt := top 8
abbrev pPair2 : Stmt := top 9
abbrev pTie : Stmt := top 10
abbrev pWeb : Stmt := top 11
abbrev pCheckWeb : Stmt := top 12
/-- what kind of value stands here -/
inductive VT (H : Hp) : V → String → Prop
  | non : VT H .non "NoneType"
  | bl (b : Bool) : VT H (.bl b) "bool"
  | int (i : Int) : VT H (.int i) "int"
  | str (x : Str) : VT H (.str x) "str"
  | lst {a : Addr} {xs : List V} (e : H a = some (.lst xs)) : VT H (.ref a) "list"
  | tup {a : Addr} {xs : List V} (e : TT H a xs) : VT H (.ref a) "tuple"
  | dct {a : Addr} {kvs : List (Key × V)} (e : H a = some (.dK kvs)) : VT H (.ref a) "dict"
theorem VT.ty {K : PySem.W.Frag} {H : Hp} {v : V} {t : String} (h : VT H v t) : TyX K H v (.type t) := by
  cases h with
  | non => exact .base .non
  | bl b => exact .base (.bl b)
  | int i => exact .base (.int i)
  | str x => exact .base (.str x)
  | lst e => exact .base (.lst e)
  | tup e => exact e.elim (fun e => .base (.tup e)) fun ⟨_, e⟩ => .fTuple e
  | dct e => exact .base (.dK e)
theorem VT.mono {H H' : Hp} {v : V} {t : String} (h : VT H v t) (s : Same H H') : VT H' v t := by
  cases h with
  | non => exact .non
  | bl b => exact .bl b
  | int i => exact .int i
  | str x => exact .str x
  | lst e => exact .lst (s _ _ e)
  | tup e => exact .tup (e.keep fun o q => s _ _ q)
  | dct e => exact .dct (s _ _ e)
theorem VT.kit {K : PySem.W.Frag} {H : Hp} {v : V} {t : String} (h : VT H v t) : PySem.W.kitOne K (.type t) (.type "int") = some (decide (t = "int" ∨ t = "bool")) ∧ PySem.W.kitOne K (.type t) (.type "bool") = some (decide (t = "bool")) ∧ PySem.W.kitOne K (.type t) (.type "tuple") = some (decide (t = "tuple")) := by
  cases h <;> exact ⟨kit_ty (by decide +kernel), kit_ty (by decide +kernel), kit_ty (by decide +kernel)⟩
theorem DV.vt {H : Hp} {T : Addr → Prop} {v : V} {d : PyData} (D : DV H T v d) : ∃ t, VT H v t := by
  cases D with
  | non => exact ⟨_, .non⟩
  | bl b => exact ⟨_, .bl b⟩
  | int i => exact ⟨_, .int i⟩
  | str x => exact ⟨_, .str x⟩
  | lst _ e => exact ⟨_, .lst e⟩
  | tup _ e => exact ⟨_, .tup e⟩
  | dct _ e => exact ⟨_, .dct e⟩
def wholeV : V → Bool
  | .int _ => true
  | _ => false
theorem VT.whole {H : Hp} {v : V} {t : String} (h : VT H v t) : wholeV v = decide (t = "int") := by cases h <;> rfl
def belowV (v : V) (n : Int) : Bool := match v with
  | .int i => decide (0 ≤ i) && decide (i < n)
  | _ => false
/-- isinstance(x, T) -/
theorem isi_run {K : PySem.W.Frag} {H : Hp} {v : V} {t T : String} {b : Bool} {Q : VK} (h : VT H v t) (k : PySem.W.kitOne K (.type t) (.type T) = some b) (q : Q (.bl b) H) : rIsi K [v, .ty T] H Q := ⟨v, .ty T, .type t, .type T, b, rfl, .ty T, h.ty, k, q⟩
def spWhole : Sp := fun vs H Q _ => ∃ (v : V) (t : String), vs = [v] ∧ VT H v t ∧ Q (.bl (wholeV v)) H
def spBelow : Sp := fun vs H Q _ => ∃ (v : V) (t : String) (n : Int), vs = [v, .int n] ∧ VT H v t ∧ Q (.bl (belowV v n)) H
def spIsPair : Sp := fun vs H Q _ => ∃ (a : Addr) (x y : V), vs = [.ref a] ∧ H a = some (.tup [x, y]) ∧ Q (.bl true) H
def spIsTie : Sp := fun vs H Q _ => ∃ (a : Addr) (q : Int × Int) (n : Int), vs = [.ref a, .int n] ∧ H a = some (.tup [.int q.1, .int q.2]) ∧ (0 ≤ q.1 ∧ q.1 < q.2 ∧ q.2 < n) ∧ Q (.bl true) H
/-- a web that is one -/
structure GW (H : Hp) (w : Addr) (n : Nat) (L : List (Int × Int)) : Prop where
  web : Web H w n L
  n1 : 1 ≤ n
  n2 : n ≤ 12
  bel : Bel n L
  srt : Srt L
  few : L.length ≤ 40
theorem GW.same {H H' : Hp} {w : Addr} {n : Nat} {L : List (Int × Int)} (g : GW H w n L) (s : Same H H') : GW H' w n L := ⟨g.web.same s, g.n1, g.n2, g.bel, g.srt, g.few⟩
def spIsWeb : Sp := fun vs H Q _ => ∃ (w : Addr) (n : Nat) (L : List (Int × Int)), vs = [.ref w] ∧ GW H w n L ∧ ∀ H', Same H H' → Q (.bl true) H'
def spCheckWeb : Sp := fun vs H Q _ => ∃ (w : Addr) (n : Nat) (L : List (Int × Int)), vs = [.ref w] ∧ GW H w n L ∧ ∀ H', Same H H' → Q .non H'
theorem cd_inj {n : Int} {a b : Int × Int} (ha : 0 ≤ a.1 ∧ a.1 < a.2 ∧ a.2 < n) (hb : 0 ≤ b.1 ∧ b.1 < b.2 ∧ b.2 < n) (hn : n ≤ 12) (e : cd a = cd b) : a = b := by
  obtain ⟨a1, a2⟩ := a
  obtain ⟨b1, b2⟩ := b
  unfold cd at e
  dsimp only at ha hb e
  have h1 : a1 = b1 := by omega
  have h2 : a2 = b2 := by omega
  rw [h1, h2]
/-- what is sorted in one order is one row -/
theorem srt_uniq {n : Int} (hn : n ≤ 12) : ∀ {L M : List (Int × Int)}, L.Perm M → Bel n L → Srt L → Srt M → L = M
  | [], M, p, _, _, _ => (List.nil_perm.mp p).symm
  | a :: L, [], p, _, _, _ => absurd (List.perm_nil.mp p) (by simp)
  | a :: L, b :: M, p, hb, s1, s2 => by
    obtain ⟨s1a, s1b⟩ := List.pairwise_cons.mp s1
    obtain ⟨s2a, s2b⟩ := List.pairwise_cons.mp s2
    have ab : a = b := by
      have ha : a ∈ b :: M := p.mem_iff.mp (List.mem_cons_self ..)
      have hb' : b ∈ a :: L := p.mem_iff.mpr (List.mem_cons_self ..)
      refine cd_inj (hb a (List.mem_cons_self ..)) (hb b hb') hn ?_
      have h1 : cd b ≤ cd a := by
        rcases List.mem_cons.mp ha with e | e
        · rw [e]; exact Int.le_refl _
        · exact s2a _ e
      have h2 : cd a ≤ cd b := by
        rcases List.mem_cons.mp hb' with e | e
        · rw [e]; exact Int.le_refl _
        · exact s1a _ e
      omega
    subst ab
    rw [srt_uniq hn ((List.perm_cons a).mp p) (fun q z => hb q (List.mem_cons_of_mem _ z)) s1b s2b]
section
variable {P : Program} {w : World} {K : PySem.W.Frag} {mg : Str → Option Value} {base : Heap}
theorem scpWhole : FnScope ["thing"] ["thing"] (defScope pWhole) := ⟨rfl, rfl, rfl, by decide +kernel, rfl, by decide +kernel, by decide +kernel⟩
theorem ok_whole {f : Addr} {fd : FuncData} (F : Fun K "is_whole" "is_whole" pWhole f fd) (T : Bj mg) : FnOk P w K mg base CX0 1 f fd ["thing"] spWhole := by
  refine F.ok scpWhole (fun vs H Q E h => ?_) (fun cdv A outer s H vs Q E hr h => ?_)
  · obtain ⟨v, t, rfl, _⟩ := h
    rfl
  · obtain ⟨v, t, rfl, hv, k⟩ := h
    refine ⟨_, pss_one (ps_ret (pe_and (pe_callB call_isi (by rfl) T.isi (by decide +kernel) (pa_cons (pv 0) (pa_cons (pe_bltn (v := .ty "int") (u := .type "int") (by rfl) T.int (by decide +kernel) rfl) pa_nil)))
      (pe_one (pe_not (pe_callB call_isi (by rfl) T.isi (by decide +kernel) (pa_cons (pv 0) (pa_cons (pe_bltn (v := .ty "bool") (u := .type "bool") (by rfl) T.bool (by decide +kernel) rfl) pa_nil))))))), ?_⟩
    obtain ⟨k1, k2, _⟩ := hv.kit (K := K)
    have hw := hv.whole
    refine ⟨_, rfl, v, .ty "int", .type t, .type "int", _, rfl, .ty "int", hv.ty, k1, _, rfl, ?_⟩
    by_cases h1 : t = "int" ∨ t = "bool"
    · rw [if_pos (decide_eq_true h1)]
      refine ⟨_, rfl, v, .ty "bool", .type t, .type "bool", _, rfl, .ty "bool", hv.ty, k2, _, rfl, ?_⟩
      have e : (!decide (t = "bool")) = wholeV v := by
        rw [hw]
        rcases h1 with rfl | rfl <;> decide
      rw [e]
      exact k
    · rw [if_neg (by rw [decide_eq_false h1]; exact Bool.false_ne_true)]
      have e : false = wholeV v := by rw [hw, decide_eq_false (fun z => h1 (.inl z))]
      rw [e]
      exact k
theorem scpBelow : FnScope ["thing", "bound"] ["thing", "bound"] (defScope pBelow) := ⟨rfl, rfl, rfl, by decide +kernel, rfl, by decide +kernel, by decide +kernel⟩
theorem ok_below {f fW : Addr} {fd fdW : FuncData} (F : Fun K "is_below" "is_below" pBelow f fd) (GW : Dn P w K mg base "is_whole" 1 ["thing"] spWhole fW fdW) : FnOk P w K mg base CX0 2 f fd ["thing", "bound"] spBelow := by
  refine F.ok scpBelow (fun vs H Q E h => ?_) (fun cdv A outer s H vs Q E hr h => ?_)
  · obtain ⟨v, t, n, rfl, _⟩ := h
    rfl
  · obtain ⟨v, t, n, rfl, hv, k⟩ := h
    refine ⟨_, pss_one (ps_ret (pe_and (pe_call GW.ok hr rfl GW.g GW.kp GW.b .nil pass0 (pa_cons (pv 0) pa_nil)) (pe_one (pe_chain op_le op_lt pe_int (pv 0) (pv 1))))), ?_⟩
    refine ⟨_, rfl, v, t, rfl, hv, _, rfl, ?_⟩
    cases hv with
    | int i =>
      refine ⟨_, rfl, _, _, rfl, rfl, _, rfl, ?_⟩
      have kk : Q (.bl (decide (0 ≤ i) && decide (i < n))) H := k
      by_cases h0 : (0 : Int) ≤ i
      · rw [if_pos (decide_eq_true h0)]
        rw [decide_eq_true h0, Bool.true_and] at kk
        exact ⟨_, rfl, _, _, rfl, rfl, kk⟩
      · rw [if_neg (by rw [decide_eq_false h0]; exact Bool.false_ne_true)]
        rw [decide_eq_false h0, Bool.false_and] at kk
        exact kk
    | _ => exact k
theorem scpPair2 : FnScope ["thing"] ["thing"] (defScope pPair2) := ⟨rfl, rfl, rfl, by decide +kernel, rfl, by decide +kernel, by decide +kernel⟩
theorem ok_isPair {f : Addr} {fd : FuncData} (F : Fun K "is_pair" "is_pair" pPair2 f fd) (T : Bj mg) : FnOk P w K mg base CX0 1 f fd ["thing"] spIsPair := by
  refine F.ok scpPair2 (fun vs H Q E h => ?_) (fun cdv A outer s H vs Q E hr h => ?_)
  · obtain ⟨a, x, y, rfl, _⟩ := h
    rfl
  · obtain ⟨a, x, y, rfl, ha, k⟩ := h
    refine ⟨_, pss_one (ps_ret (pe_and (pe_callB call_isi (by rfl) T.isi (by decide +kernel) (pa_cons (pv 0) (pa_cons (pe_bltn (v := .ty "tuple") (u := .type "tuple") (by rfl) T.tuple (by decide +kernel) rfl) pa_nil)))
      (pe_one (pe_cmpR op_eq (pe_callB call_len_seq (by rfl) T.len PySem.boot_len (pa_cons (pv 0) pa_nil)) pe_int (nomark _))))), ?_⟩
    have hv : VT H (.ref a) "tuple" := .tup (.inl ha)
    refine ⟨_, rfl, .ref a, .ty "tuple", .type "tuple", .type "tuple", _, rfl, .ty "tuple", hv.ty, hv.kit.2.2, _, rfl, ?_⟩
    refine iteT ⟨_, rfl, a, _, rfl, .inr (SqT.of ha), rfl, k⟩
theorem scpTie : FnScope ["thing", "places"] ["thing", "places"] (defScope pTie) := ⟨rfl, rfl, rfl, by decide +kernel, rfl, by decide +kernel, by decide +kernel⟩
theorem ok_isTie {f fP fB : Addr} {fd fdP fdB : FuncData} (F : Fun K "is_tie" "is_tie" pTie f fd) (GP : Dn P w K mg base "is_pair" 1 ["thing"] spIsPair fP fdP) (GB : Dn P w K mg base "is_below" 2 ["thing", "bound"] spBelow fB fdB) :
    FnOk P w K mg base CX0 3 f fd ["thing", "places"] spIsTie := by
  refine F.ok scpTie (fun vs H Q E h => ?_) (fun cdv A outer s H vs Q E hr h => ?_)
  · obtain ⟨a, q, n, rfl, _⟩ := h
    rfl
  · obtain ⟨a, q, n, rfl, ha, hq, k⟩ := h
    have hr1 : Room 1 _ := hr.mono (by decide)
    refine ⟨_, pss_one (ps_ret (pe_and (pe_call GP.ok hr1 rfl GP.g GP.kp GP.b .nil pass0 (pa_cons (pv 0) pa_nil))
      (pe_and (pe_call GB.ok hr rfl GB.g GB.kp GB.b .nil pass0 (pa_cons (pe_ix ix_tup (pv 0) pe_int (fun _ _ => rfl)) (pa_cons (pv 1) pa_nil)))
        (pe_one (pe_call GB.ok hr rfl GB.g GB.kp GB.b .nil pass0 (pa_cons (pe_ix ix_tup (pv 0) pe_int (fun _ _ => rfl)) (pa_cons (pe_ix ix_tup (pv 0) pe_int (fun _ _ => rfl)) pa_nil))))))), ?_⟩
    have b2 : belowV (.int q.2) n = true := by show (decide _ && decide _) = true; rw [decide_eq_true (by omega), decide_eq_true (by omega)] <;> rfl
    have b1 : belowV (.int q.1) q.2 = true := by show (decide _ && decide _) = true; rw [decide_eq_true (by omega), decide_eq_true (by omega)] <;> rfl
    refine ⟨_, rfl, a, _, _, rfl, ha, _, rfl, iteT ⟨_, rfl, a, _, _, _, rfl, rfl, SqT.of ha, atI_nat (j := 1) rfl, _, rfl, _, "int", n, rfl, .int _, _, rfl, ?_⟩⟩
    rw [b2]
    refine iteT ⟨_, rfl, a, _, _, _, rfl, rfl, SqT.of ha, atI_nat (j := 0) rfl, _, rfl, a, _, _, _, rfl, rfl, SqT.of ha, atI_nat (j := 1) rfl, _, "int", q.2, rfl, .int _, ?_⟩
    rw [b1]
    exact k
end
end K0

set_option Elab.async false
set_option linter.all false
set_option maxRecDepth 100000
set_option maxHeartbeats 8000000
/-! A web is told as one. -/
namespace K0
open PySem PySem.Spec L2
open PyProof.Rows hiding St
/-- what the program's own names hold -/
structure Bk (mg : Str → Option Value) : Prop extends Bj mg where
  most : ∃ t, mg "MOST_PLACES" = some (.int 12 t)
  sup : mg "super" = none
theorem pd_eqv (L : List (Int × Int)) : PyData.eqv (.list (L.map pd)) (.list (L.map pd)) = true := SeqAt.eqv_refl _ (by
  have h := pd_shaped L
  unfold SeqAt.shaped at h
  rw [Bool.and_eq_true] at h
  exact h.1)
section
variable {P : Program} {w : World} {K : PySem.W.Frag} {mg : Str → Option Value} {base : Heap}
abbrev nIsWeb : List Str := ["thing", "places", "ties", "tie"]
theorem scIsWeb : FnScope nIsWeb ["thing"] (defScope pWeb) := ⟨rfl, rfl, rfl, by decide +kernel, rfl, by decide +kernel, by decide +kernel⟩
theorem ok_isWeb {f fP fW fT : Addr} {fd fdP fdW fdT : FuncData} (F : Fun K "is_web" "is_web" pWeb f fd) (T : Bk mg) (GP : Dn P w K mg base "is_pair" 1 ["thing"] spIsPair fP fdP) (GW' : Dn P w K mg base "is_whole" 1 ["thing"] spWhole fW fdW)
    (GT : Dn P w K mg base "is_tie" 3 ["thing", "places"] spIsTie fT fdT) : FnOk P w K mg base CX0 4 f fd ["thing"] spIsWeb := by
  refine F.ok scIsWeb (fun vs H Q E h => ?_) (fun cdv A outer s H vs Q E hr h => ?_)
  · obtain ⟨w, n, L, rfl, _⟩ := h
    rfl
  · obtain ⟨w, n, L, rfl, G, k⟩ := h
    have hr1 : Room 1 _ := hr.mono (by decide)
    have hu6 : A.units + 3 + 64 < cLine := by have := hr.un; have e : (A.deeper (envOfC "is_web" (defScope pWeb) s.heap.objs.size f cdv)).units = A.units + 3 := rfl; omega
    obtain ⟨tk, hmost⟩ := T.most
    refine ⟨_, pss_cons (ps_if (pt_not (pt_val (pe_call GP.ok hr1 rfl GP.g GP.kp GP.b .nil pass0 (pa_cons (pv 0) pa_nil)))) (pss_one (ps_ret pe_bl)) pss_nil)
      <| pss_cons (ps_asg (pv 0) (pg_tup rfl (pgs_cons (pg_name (i := 1) scIsWeb.nd rfl (.inr rfl)) (pgs_cons (pg_name (i := 2) scIsWeb.nd rfl (.inl rfl)) pgs_nil))))
      <| pss_cons (ps_if (PW.pt (pw_or (pt_not (pt_val (pe_call GW'.ok hr1 rfl GW'.g GW'.kp GW'.b .nil pass0 (pa_cons (pv 1) pa_nil))))
          (pw_or (pt_not (pt_chain op_le op_le pe_int (pv 1) (pe_glob rfl hmost (show RelV (.int 12) _ from ⟨_, rfl⟩))))
            (pw_or1 (pt_not (pt_val (pe_callB call_isi (by rfl) T.isi (by decide +kernel) (pa_cons (pv 2) (pa_cons (pe_bltn (v := .ty "tuple") (u := .type "tuple") (by rfl) T.tuple (by decide +kernel) rfl) pa_nil)))))))))
          (pss_one (ps_ret pe_bl)) pss_nil)
      <| pss_one (ps_ret (pe_and (pe_callB (cr_all rfl) (by rfl) T.all (by decide +kernel) (pa_cons (pe_lc (own := [("tie", 3)]) (g := gName 3) (tt := tYes) rfl scIsWeb.nd (pi_tup (pv 2)) (blkOk_by (N := nIsWeb) (sc := defScope pWeb) (by decide +kernel))
            (fun _ _ _ _ _ => pg_name (i := 3) scIsWeb.nd rfl (Or.inl rfl)) (fun _ _ _ _ _ => pts_nil) (fun _ _ _ _ _ => pe_call GT.ok hr rfl GT.g GT.kp GT.b .nil pass0 (pa_cons (pv 3) (pa_cons (pv 1) pa_nil)))) pa_nil))
          (pe_one (pe_cmpR (op_eqD hu6) (pe_callTy call_list_of (by rfl) T.list (by decide +kernel) (pa_cons (pv 2) pa_nil)) (pe_callB (KR.cr_sortTT (d := 2) (B := 64) (by decide)) (by rfl) T.sorted (by decide +kernel) (pa_cons (pv 2) pa_nil)) (nomark _))))), ?_⟩
    obtain ⟨t, vs, e1, e2, e3⟩ := G.web.ex
    have n1 := G.n1
    have n2 := G.n2
    have few := G.few
    have len := e3.len
    refine ⟨_, rfl, w, _, _, rfl, e1, _, rfl, ?_⟩
    refine ⟨_, rfl, w, _, rfl, SqT.of e1, rfl, _, _, rfl, _, _, rfl, rfl, ?_⟩
    have htup : VT H (.ref t) "tuple" := .tup (.inl e2)
    have c1 : decide ((1 : Int) ≤ n) = true := decide_eq_true (by omega)
    have c2 : decide ((n : Int) ≤ 12) = true := decide_eq_true (by omega)
    refine ⟨_, rfl, _, "int", rfl, .int _, _, rfl, _, rfl, _, _, rfl, rfl, _, rfl, ?_⟩
    rw [if_pos c1]
    refine ⟨_, _, rfl, rfl, ?_⟩
    refine ⟨_, rfl, iteNS (c := (n : Int) ≤ 12) (by omega) ?_⟩
    refine ⟨_, rfl, .ref t, .ty "tuple", .type "tuple", .type "tuple", _, rfl, .ty "tuple", htup.ty, htup.kit.2.2, _, rfl, iteNS (c := "tuple" = "tuple") rfl ?_⟩
    refine ⟨_, rfl, t, rfl, ⟨_, SqT.of e2⟩, fun Da hD => ?_⟩
    refine lc_it (walk_tup (xs := vs)) (fun i M => M Da = some (.lst (List.replicate i (.bl true))) ∧ Same H M) ⟨upd_same, same_new hD⟩ (fun i M _ g => SqT.of (g.2 _ _ e2)) ?_ ?_
    · rintro i x M M' hi ⟨g1, g2⟩ ⟨rfl, hx⟩
      obtain ⟨a, q, rfl, hq, ha⟩ := e3.get hx
      refine ⟨rfl, ?_⟩
      unfold tYes
      refine iteT ?_
      refine ⟨_, rfl, _, rfl, a, q, n, rfl, g2 _ _ ha, G.bel q (List.mem_of_getElem? hq), _, g1, by rw [List.length_replicate, sizeLine_eq]; omega, by rw [upd_same, List.replicate_succ'], fun b o e => by rw [upd_ne (ne_of_none e hD)]; exact g2 _ _ e⟩
    · rintro M ⟨g1, g2⟩
      have all1 : ∀ m : Nat, (List.replicate m true).all id = true := fun m => by
        induction m with
        | zero => rfl
        | succ m ih => rw [List.replicate_succ, List.all_cons, ih] <;> rfl
      refine ⟨Da, List.replicate vs.length true, rfl, SqL.of (by rw [g1, List.map_replicate]), _, rfl, ?_⟩
      rw [all1]
      refine iteT ?_
      refine ⟨_, rfl, t, vs, rfl, .inr (SqT.of (g2 _ _ e2)), fun l hl => ?_⟩
      have s1 : Same H (upd M l (.lst vs)) := g2.trans (same_new hl)
      refine ⟨_, rfl, t, vs, rfl, SqT.of (s1 _ _ e2), by omega, (e3.mono (same_tup s1)).tups G.bel (by omega), fun ys p pm pw hp => ?_⟩
      obtain ⟨M2, pm2, pr⟩ := Prs.perm pm (e3.mono (same_tup s1))
      have eM : M2 = L := (srt_uniq (n := n) (by omega) pm2.symm G.bel G.srt (pr.srt pw)).symm
      subst eM
      have s2 : Same H (upd (upd M l (.lst vs)) p (.lst ys)) := s1.trans (same_new hp)
      refine ⟨.list (M2.map pd), .list (M2.map pd), .lst (SqL.of (by rw [upd_ne (ne_of_none upd_same hp)]; exact upd_same)) (e3.mono (same_tup s2)).dp, .lst (SqL.of upd_same) (pr.mono (new_tup hp)).dp, pd_shaped M2, pd_shaped M2, ?_⟩
      rw [pd_eqv]
      exact k _ s2
theorem scCheckWeb : FnScope ["thing"] ["thing"] (defScope pCheckWeb) := ⟨rfl, rfl, rfl, by decide +kernel, rfl, by decide +kernel, by decide +kernel⟩
theorem ok_checkWeb {f fW : Addr} {fd fdW : FuncData} (F : Fun K "check_web" "check_web" pCheckWeb f fd) (GW' : Dn P w K mg base "is_web" 4 ["thing"] spIsWeb fW fdW) : FnOk P w K mg base CX0 5 f fd ["thing"] spCheckWeb := by
  refine F.ok scCheckWeb (fun vs H Q E h => ?_) (fun cdv A outer s H vs Q E hr h => ?_)
  · obtain ⟨w, n, L, rfl, _⟩ := h
    rfl
  · obtain ⟨w, n, L, rfl, G, k⟩ := h
    refine ⟨_, pss_one (ps_if (pt_not (pt_val (pe_call GW'.ok hr rfl GW'.g GW'.kp GW'.b .nil pass0 (pa_cons (pv 0) pa_nil)))) (pss_one ps_never) pss_nil), ?_⟩
    exact ⟨_, rfl, w, n, L, rfl, G, fun H' s1 => ⟨_, rfl, k H' s1⟩⟩
end
end K0

set_option Elab.async false
set_option linter.all false
set_option maxRecDepth 100000
set_option maxHeartbeats 8000000
/-! Lots: told, refused. -/
namespace K0
open PySem PySem.Spec L2
open PyProof.Rows hiding St
abbrev pIsLotOf : Stmt := top 13
abbrev pCheckLot : Stmt := top 14
abbrev pIsTieNo : Stmt := top 15
abbrev pCheckTie : Stmt := top 16
abbrev pIsLot : Stmt := top 17
abbrev pPlainOf : Stmt := top 18
abbrev pPlainWeb : Stmt := top 19
abbrev pPlacesBut : Stmt := top 20
abbrev pRestOf : Stmt := top 21
abbrev pCutTies : Stmt := top 22
abbrev pCutOf : Stmt := top 23
abbrev pWebOf : Stmt := top 24
abbrev pWithin : Stmt := top 25
abbrev pWithout : Stmt := top 26
abbrev pEndsOf : Stmt := top 27
/-- a value that may be a lot: a tuple of such items, or none -/
inductive Th (H : Hp) : V → Option (List V) → Prop
  | tup {a : Addr} {xs : List V} (e : TT H a xs) (h : ∀ x ∈ xs, ∃ t, VT H x t) (l : xs.length ≤ 60) : Th H (.ref a) (some xs)
  | oth {v : V} {t : String} (h : VT H v t) (ne : t ≠ "tuple") : Th H v none
theorem Th.same {H H' : Hp} {v : V} {o : Option (List V)} (h : Th H v o) (s : Same H H') : Th H' v o := by
  cases h with
  | tup e h l => exact .tup (e.keep fun o q => s _ _ q) (fun x hx => let ⟨t, q⟩ := h x hx; ⟨t, q.mono s⟩) l
  | oth h ne => exact .oth (h.mono s) ne
def intV : V → Int
  | .int i => i
  | _ => 0
def lotD (n : Int) (xs : List V) : Bool := xs.all (belowV · n) && decide ((xs.map intV).Pairwise (· < ·))
def lotO (n : Int) : Option (List V) → Bool
  | some xs => lotD n xs
  | none => false
/-- a lot of the places below n -/
structure IsLot (n : Int) (ns : List Int) : Prop where
  bel : ∀ i ∈ ns, 0 ≤ i ∧ i < n
  inc : ns.Pairwise (· < ·)
theorem below_ints {n : Int} : ∀ {xs : List V}, xs.all (belowV · n) = true → xs = (xs.map intV).map V.int ∧ ∀ i ∈ xs.map intV, 0 ≤ i ∧ i < n
  | [], _ => ⟨rfl, fun _ z => nomatch z⟩
  | x :: xs, h => by
    rw [List.all_cons, Bool.and_eq_true] at h
    obtain ⟨h1, h2⟩ := h
    obtain ⟨e1, e2⟩ := below_ints h2
    cases x with
    | int i =>
      have h1 : (decide (0 ≤ i) && decide (i < n)) = true := h1
      rw [Bool.and_eq_true, decide_eq_true_eq, decide_eq_true_eq] at h1
      refine ⟨by rw [List.map_cons, List.map_cons, ← e1] <;> rfl, fun j hj => ?_⟩
      rw [List.map_cons] at hj
      rcases List.mem_cons.mp hj with rfl | z
      · exact h1
      · exact e2 j z
    | _ => cases h1
theorem lot_of {n : Int} {xs : List V} (h : lotD n xs = true) : xs = (xs.map intV).map V.int ∧ IsLot n (xs.map intV) := by
  unfold lotD at h
  rw [Bool.and_eq_true, decide_eq_true_eq] at h
  obtain ⟨e1, e2⟩ := below_ints h.1
  exact ⟨e1, e2, h.2⟩
theorem map_intV (ns : List Int) : (ns.map V.int).map intV = ns := by
  rw [List.map_map]
  exact (List.map_congr_left fun i _ => rfl).trans (List.map_id ns)
theorem of_lot {n : Int} {ns : List Int} (h : IsLot n ns) : lotD n (ns.map V.int) = true := by
  unfold lotD
  rw [map_intV, Bool.and_eq_true, decide_eq_true_eq]
  refine ⟨List.all_eq_true.mpr fun x hx => ?_, h.inc⟩
  obtain ⟨i, hi, rfl⟩ := List.mem_map.mp hx
  have := h.bel i hi
  show (decide _ && decide _) = true
  rw [decide_eq_true this.1, decide_eq_true this.2] <;> rfl
/-- rows that rise and have the same members are one -/
theorem inc_uniq : ∀ {a b : List Int}, a.Pairwise (· < ·) → b.Pairwise (· < ·) → (∀ k, k ∈ a ↔ k ∈ b) → a = b
  | [], [], _, _, _ => rfl
  | [], y :: b, _, _, h => absurd ((h y).mpr (List.mem_cons_self ..)) List.not_mem_nil
  | x :: a, [], _, _, h => absurd ((h x).mp (List.mem_cons_self ..)) List.not_mem_nil
  | x :: a, y :: b, ha, hb, h => by
    obtain ⟨a1, a2⟩ := List.pairwise_cons.mp ha
    obtain ⟨b1, b2⟩ := List.pairwise_cons.mp hb
    have e : x = y := by
      have hx := (h x).mp (List.mem_cons_self ..)
      have hy := (h y).mpr (List.mem_cons_self ..)
      rcases List.mem_cons.mp hx with e | z
      · exact e
      · rcases List.mem_cons.mp hy with e | z'
        · exact e.symm
        · have := b1 _ z
          have := a1 _ z'
          omega
    subst e
    rw [inc_uniq a2 b2 fun k => ⟨fun hk => ?_, fun hk => ?_⟩]
    · rcases List.mem_cons.mp ((h k).mp (List.mem_cons_of_mem _ hk)) with e | z
      · have := a1 _ hk; omega
      · exact z
    · rcases List.mem_cons.mp ((h k).mpr (List.mem_cons_of_mem _ hk)) with e | z
      · have := b1 _ hk; omega
      · exact z
theorem eqvAll_ints : ∀ a b : List Int, PyData.eqvAll (a.map PyData.int) (b.map PyData.int) = decide (a = b)
  | [], [] => by simp [PyData.eqvAll]
  | [], y :: b => by simp [PyData.eqvAll]
  | x :: a, [] => by simp [PyData.eqvAll]
  | x :: a, y :: b => by
    simp only [List.map_cons, PyData.eqvAll, PyData.eqv, eqvAll_ints a b, List.cons.injEq]
    by_cases h : x = y <;> by_cases g : a = b <;> simp [h, g]
theorem eqv_ints (a b : List Int) : PyData.eqv (.list (a.map PyData.int)) (.list (b.map PyData.int)) = decide (a = b) := by
  rw [← eqvAll_ints a b]
  simp only [PyData.eqv]
def spIsLotOf : Sp := fun vs H Q _ => ∃ (w : Addr) (n : Nat) (L : List (Int × Int)) (v : V) (o : Option (List V)), vs = [.ref w, v] ∧ GW H w n L ∧ Th H v o ∧ ∀ H', Same H H' → Q (.bl (lotO n o)) H'
/-- an error with a field -/
structure ErX (P : Program) (K : PySem.W.Frag) (mg : Str → Option Value) (nm : Str) (C fI : Addr) (f : Str) : Prop where
  er : ErrC P K C
  f1 : PySem.EX.Fn1 P K C fI f
  g : mg nm = some (.ref C)
/-- an error is raised that carries v -/
def Rz (C : Addr) (f : Str) (v : V) (H : Hp) (E : XK) : Prop := ∀ (d : Addr) (H' : Hp), Same H H' → H d = none → H' d = some (.xd [(f, v)]) → E (.ref C) (some d) H'
theorem Rz.same {C : Addr} {f : Str} {v : V} {H H1 : Hp} {E : XK} (r : Rz C f v H E) (s : Same H H1) : Rz C f v H1 E := fun d H' s' hd e => r d H' (s.trans s') (s.free hd) e
def spCheckLot (C : Addr) : Sp := fun vs H Q E => ∃ (w : Addr) (n : Nat) (L : List (Int × Int)) (v : V) (o : Option (List V)), vs = [.ref w, v] ∧ GW H w n L ∧ Th H v o ∧ (lotO n o = true → ∀ H', Same H H' → Q .non H') ∧ (lotO n o = false → Rz C "thing" v H E)
def spIsTieNo : Sp := fun vs H Q _ => ∃ (w : Addr) (n : Nat) (L : List (Int × Int)) (v : V) (t : String), vs = [.ref w, v] ∧ GW H w n L ∧ VT H v t ∧ Q (.bl (belowV v L.length)) H
def spCheckTie (C : Addr) : Sp := fun vs H Q E => ∃ (w : Addr) (n : Nat) (L : List (Int × Int)) (v : V) (t : String), vs = [.ref w, v] ∧ GW H w n L ∧ VT H v t ∧ (belowV v L.length = true → Q .non H) ∧ (belowV v L.length = false → Rz C "number" v H E)
section
variable {P : Program} {w0 : World} {K : PySem.W.Frag} {mg : Str → Option Value} {base : Heap}
abbrev nIsLotOf : List Str := ["web", "thing", "place"]
theorem scIsLotOf : FnScope nIsLotOf ["web", "thing"] (defScope pIsLotOf) := ⟨rfl, rfl, rfl, by decide +kernel, rfl, by decide +kernel, by decide +kernel⟩
theorem ok_isLotOf {f fB : Addr} {fd fdB : FuncData} (F : Fun K "is_lot_of" "is_lot_of" pIsLotOf f fd) (T : Bk mg) (GB : Dn P w0 K mg base "is_below" 2 ["thing", "bound"] spBelow fB fdB) : FnOk P w0 K mg base CX0 3 f fd ["web", "thing"] spIsLotOf := by
  refine F.ok scIsLotOf (fun vs H Q E h => ?_) (fun cdv A outer s H vs Q E hr h => ?_)
  · obtain ⟨w, n, L, v, o, rfl, _⟩ := h
    rfl
  · obtain ⟨w, n, L, v, o, rfl, G, th, k⟩ := h
    have hu6 : A.units + 3 + 64 < cLine := by have := hr.un; have e : (A.deeper (envOfC "is_lot_of" (defScope pIsLotOf) s.heap.objs.size f cdv)).units = A.units + 3 := rfl; omega
    refine ⟨_, pss_cons (ps_if (PW.pt (pw_or (pt_not (pt_val (pe_callB call_isi (by rfl) T.isi (by decide +kernel) (pa_cons (pv 1) (pa_cons (pe_bltn (v := .ty "tuple") (u := .type "tuple") (by rfl) T.tuple (by decide +kernel) rfl) pa_nil)))))
          (pw_or1 (pt_not (pt_val (pe_callB (cr_all rfl) (by rfl) T.all (by decide +kernel) (pa_cons (pe_lc (own := [("place", 2)]) (g := gName 2) (tt := tYes) rfl scIsLotOf.nd (pi_tup (pv 1)) (blkOk_by (N := nIsLotOf) (sc := defScope pIsLotOf) (by decide +kernel))
            (fun _ _ _ _ _ => pg_name (i := 2) scIsLotOf.nd rfl (Or.inl rfl)) (fun _ _ _ _ _ => pts_nil) (fun _ _ _ _ _ => pe_call GB.ok hr rfl GB.g GB.kp GB.b .nil pass0 (pa_cons (pv 2) (pa_cons (pe_ix (show IxR _ (rIxT K) from ix_tup) (pv 0) pe_int (fun _ _ => rfl)) pa_nil)))) pa_nil)))))))
          (pss_one (ps_ret pe_bl)) pss_nil)
      <| pss_one (ps_ret (pe_cmpR (op_eqD hu6) (pe_callTy call_list_of (by rfl) T.list (by decide +kernel) (pa_cons (pv 1) pa_nil)) (pe_callB (cr_sortedSet rfl) (by rfl) T.sorted (by decide +kernel) (pa_cons (pe_callTy (KR.cr_setTI rfl) (by rfl) T.set (by decide +kernel) (pa_cons (pv 1) pa_nil)) pa_nil)) (nomark _))), ?_⟩
    obtain ⟨t, vs, e1, e2, e3⟩ := G.web.ex
    cases th with
    | @oth v t h ne =>
      exact ⟨_, rfl, v, .ty "tuple", .type t, .type "tuple", _, rfl, .ty "tuple", h.ty, h.kit.2.2, _, rfl, by
        rw [decide_eq_false ne]
        exact k H (Same.refl H)⟩
    | @tup a xs e h l =>
      have hv : VT H (.ref a) "tuple" := .tup e
      refine ⟨_, rfl, .ref a, .ty "tuple", .type "tuple", .type "tuple", _, rfl, .ty "tuple", hv.ty, hv.kit.2.2, _, rfl, iteNS (c := "tuple" = "tuple") rfl ?_⟩
      refine ⟨_, rfl, a, rfl, ⟨_, e.sq⟩, fun Da hD => ?_⟩
      refine lc_it (walk_tup (xs := xs)) (fun i M => M Da = some (.lst (((xs.take i).map (belowV · n)).map V.bl)) ∧ Same H M) ⟨upd_same, same_new hD⟩ (fun i M _ g => (e.keep fun o q => g.2 _ _ q).sq) ?_ ?_
      · rintro i x M M' hi ⟨g1, g2⟩ ⟨rfl, hx⟩
        obtain ⟨t, ht⟩ := h x (List.mem_of_getElem? hx)
        refine ⟨rfl, ?_⟩
        unfold tYes
        refine iteT ?_
        refine ⟨_, rfl, _, rfl, w, _, _, _, rfl, rfl, SqT.of (g2 _ _ e1), atI_nat (j := 0) rfl, x, t, n, rfl, ht.mono g2, _, g1, by rw [List.length_map, List.length_map, List.length_take, sizeLine_eq]; omega, by rw [upd_same, List.take_add_one, hx] <;> simp, fun b o e => by rw [upd_ne (ne_of_none e hD)]; exact g2 _ _ e⟩
      · rintro M ⟨g1, g2⟩
        rw [List.take_length] at g1
        have ea : (xs.map (belowV · n)).all id = xs.all (belowV · n) := by rw [List.all_map] <;> rfl
        refine ⟨Da, _, rfl, SqL.of g1, _, rfl, ?_⟩
        rw [ea]
        by_cases hb : xs.all (belowV · n) = true
        · obtain ⟨x1, x2⟩ := below_ints hb
          rw [hb]
          generalize hns : xs.map intV = ns at x1 x2
          have hlen : ns.length ≤ 60 := by rw [← hns, List.length_map]; exact l
          have eM : TT M a (ns.map V.int) := x1 ▸ (e.keep fun o q => g2 _ _ q)
          refine ⟨_, rfl, a, _, rfl, .inr eM.sq, fun l1 hl1 => ⟨_, rfl, a, ns, rfl, ?_, by omega, fun b c hb1 hc => ⟨b, _, c, rfl, upd_same, by omega, fun ms p m1 m2 _ hp => ?_⟩⟩⟩
          · exact (eM.keep fun o q => by rw [upd_ne (ne_of_none q hl1)]; exact q).sq
          · have s3 : Same H (upd (upd (upd M l1 (.lst (ns.map V.int))) b (SetO w0 b (fun j => decide (j ∈ ns)) c)) p (.lst (ms.map V.int))) := ((g2.trans (same_new hl1)).trans (same_new hb1)).trans (same_new hp)
            have n1p : l1 ≠ b := ne_of_none upd_same hb1
            have n2p : l1 ≠ p := ne_of_none (H := upd (upd M l1 (.lst (ns.map V.int))) b (SetO w0 b (fun j => decide (j ∈ ns)) c)) (by rw [upd_ne n1p]; exact upd_same) hp
            refine ⟨.list (ns.map PyData.int), .list (ms.map PyData.int), .lst (SqL.of (by rw [upd_ne n2p, upd_ne n1p]; exact upd_same)) (ints_dp ns), .lst (SqL.of upd_same) (ints_dp ms), ints_shaped ns, ints_shaped ms, ?_⟩
            rw [eqv_ints]
            have ans : decide (ns = ms) = lotO n (some xs) := by
              show _ = lotD n xs
              unfold lotD
              rw [hb, Bool.true_and, hns]
              by_cases hp : ns.Pairwise (· < ·)
              · rw [decide_eq_true hp]
                exact decide_eq_true (inc_uniq hp m1 fun k => by rw [m2 k, decide_eq_true_eq])
              · rw [decide_eq_false hp]
                exact decide_eq_false fun e => hp (e ▸ m1)
            rw [ans]
            exact k _ s3
        · rw [Bool.eq_false_iff.mpr hb]
          have ans : false = lotO n (some xs) := by
            show _ = lotD n xs
            unfold lotD
            rw [Bool.eq_false_iff.mpr hb, Bool.false_and]
          show Q (.bl false) M
          rw [ans]
          exact k M g2
theorem scCheckLot : FnScope ["web", "thing"] ["web", "thing"] (defScope pCheckLot) := ⟨rfl, rfl, rfl, by decide +kernel, rfl, by decide +kernel, by decide +kernel⟩
theorem ok_checkLot {f fI C fC : Addr} {fd fdI : FuncData} (F : Fun K "check_lot" "check_lot" pCheckLot f fd) (T : Bk mg) (R : ErX P K mg "BadLot" C fC "thing") (GI : Dn P w0 K mg base "is_lot_of" 3 ["web", "thing"] spIsLotOf fI fdI) :
    FnOk P w0 K mg base (L2.CX P w0) 4 f fd ["web", "thing"] (spCheckLot C) := by
  refine F.okX scCheckLot (fun vs H Q E h => ?_) (fun cdv A outer s H vs Q E hr h => ?_)
  · obtain ⟨w, n, L, v, o, rfl, _⟩ := h
    rfl
  · obtain ⟨w, n, L, v, o, rfl, G, th, k, kx⟩ := h
    refine ⟨_, pss_one (ps_if (pt_not (pt_val (pe_call GI.ok hr rfl GI.g GI.kp GI.b .nil pass0 (pa_cons (pv 0) (pa_cons (pv 1) pa_nil)))))
      (pss_one (ps_raise rfl (takes_of rfl rfl rfl rfl) (pmk1 R.er R.f1 (by decide) T.sup hr R.g (pa_cons (pv 1) pa_nil)))) pss_nil), ?_⟩
    refine ⟨_, rfl, _, rfl, w, n, L, v, o, rfl, G, th, fun H' s1 => ⟨_, rfl, ?_⟩⟩
    cases e : lotO n o with
    | true => exact k e H' s1
    | false => exact ⟨_, rfl, v, rfl, fun d hd => kx e d _ (s1.trans (same_new hd)) (s1.free hd) upd_same⟩
theorem scIsTieNo : FnScope ["web", "thing"] ["web", "thing"] (defScope pIsTieNo) := ⟨rfl, rfl, rfl, by decide +kernel, rfl, by decide +kernel, by decide +kernel⟩
theorem ok_isTieNo {f fB : Addr} {fd fdB : FuncData} (F : Fun K "is_tie_number" "is_tie_number" pIsTieNo f fd) (T : Bk mg) (GB : Dn P w0 K mg base "is_below" 2 ["thing", "bound"] spBelow fB fdB) : FnOk P w0 K mg base CX0 3 f fd ["web", "thing"] spIsTieNo := by
  refine F.ok scIsTieNo (fun vs H Q E h => ?_) (fun cdv A outer s H vs Q E hr h => ?_)
  · obtain ⟨w, n, L, v, t, rfl, _⟩ := h
    rfl
  · obtain ⟨w, n, L, v, t, rfl, G, ht, k⟩ := h
    refine ⟨_, pss_one (ps_ret (pe_call GB.ok hr rfl GB.g GB.kp GB.b .nil pass0 (pa_cons (pv 1) (pa_cons (pe_callB call_len_seq (by rfl) T.len PySem.boot_len (pa_cons (pe_ix ix_tup (pv 0) pe_int (fun _ _ => rfl)) pa_nil)) pa_nil)))), ?_⟩
    obtain ⟨ta, vs, e1, e2, e3⟩ := G.web.ex
    refine ⟨_, rfl, _, rfl, w, _, _, _, rfl, rfl, SqT.of e1, atI_nat (j := 1) rfl, ta, vs, rfl, .inr (SqT.of e2), v, t, _, rfl, ht, ?_⟩
    rw [e3.len]
    exact k
theorem scCheckTie : FnScope ["web", "thing"] ["web", "thing"] (defScope pCheckTie) := ⟨rfl, rfl, rfl, by decide +kernel, rfl, by decide +kernel, by decide +kernel⟩
theorem ok_checkTie {f fI C fC : Addr} {fd fdI : FuncData} (F : Fun K "check_tie" "check_tie" pCheckTie f fd) (T : Bk mg) (R : ErX P K mg "BadTie" C fC "number") (GI : Dn P w0 K mg base "is_tie_number" 3 ["web", "thing"] spIsTieNo fI fdI) :
    FnOk P w0 K mg base (L2.CX P w0) 4 f fd ["web", "thing"] (spCheckTie C) := by
  refine F.okX scCheckTie (fun vs H Q E h => ?_) (fun cdv A outer s H vs Q E hr h => ?_)
  · obtain ⟨w, n, L, v, t, rfl, _⟩ := h
    rfl
  · obtain ⟨w, n, L, v, t, rfl, G, ht, k, kx⟩ := h
    refine ⟨_, pss_one (ps_if (pt_not (pt_val (pe_call GI.ok hr rfl GI.g GI.kp GI.b .nil pass0 (pa_cons (pv 0) (pa_cons (pv 1) pa_nil)))))
      (pss_one (ps_raise rfl (takes_of rfl rfl rfl rfl) (pmk1 R.er R.f1 (by decide) T.sup hr R.g (pa_cons (pv 1) pa_nil)))) pss_nil), ?_⟩
    refine ⟨_, rfl, _, rfl, w, n, L, v, t, rfl, G, ht, _, rfl, ?_⟩
    cases e : belowV v L.length with
    | true => exact k e
    | false => exact ⟨_, rfl, v, rfl, fun d hd => kx e d _ (same_new hd) hd upd_same⟩
end
end K0

set_option Elab.async false
set_option linter.all false
set_option maxRecDepth 100000
set_option maxHeartbeats 8000000
/-! Plain webs, rests. -/
namespace K0
open PySem PySem.Spec L2
open PyProof.Rows hiding St
/-! ### members of a row of ints -/
theorem inV_ints (k : Int) (ns : List Int) : inV (.int k) (ns.map V.int) = decide (k ∈ ns) := by
  unfold inV
  rw [List.any_map]
  induction ns with
  | nil => rfl
  | cons n ns ih =>
    rw [List.any_cons, ih]
    show ((n == k) || decide (k ∈ ns)) = decide (k ∈ n :: ns)
    by_cases h : n = k
    · subst h
      simp
    · have h' : ¬ k = n := fun z => h z.symm
      simp [h, h', List.mem_cons]
theorem flat_ints (ns : List Int) : (ns.map V.int).all flatV = true := List.all_eq_true.mpr fun v hv => by
  obtain ⟨i, _, rfl⟩ := List.mem_map.mp hv
  rfl
/-- the places that are not in ns -/
def iota (n : Nat) : List Int := (List.range n).map fun i => ((i : Nat) : Int)
def restN (n : Nat) (ns : List Int) : List Int := (iota n).filter fun i => !decide (i ∈ ns)
theorem iota_succ (n : Nat) : iota (n + 1) = iota n ++ [(n : Int)] := by
  unfold iota
  rw [List.range_succ, List.map_append] <;> rfl
theorem rest_succ (n : Nat) (ns : List Int) : restN (n + 1) ns = if (!decide ((n : Int) ∈ ns)) = true then restN n ns ++ [(n : Int)] else restN n ns := by
  unfold restN
  rw [iota_succ, List.filter_append]
  by_cases h : (n : Int) ∈ ns
  · simp [h]
  · simp [h]
theorem iota_mem {n : Nat} {i : Int} : i ∈ iota n ↔ 0 ≤ i ∧ i < n := by
  unfold iota
  rw [List.mem_map]
  constructor
  · rintro ⟨k, hk, rfl⟩
    have := List.mem_range.mp hk
    omega
  · intro h
    exact ⟨i.toNat, List.mem_range.mpr (by omega), by omega⟩
theorem iota_inc (n : Nat) : (iota n).Pairwise (· < ·) := by
  unfold iota
  exact List.pairwise_map.mpr (List.pairwise_lt_range.imp fun {a b} z => by omega)
theorem rest_mem {n : Nat} {ns : List Int} {i : Int} : i ∈ restN n ns ↔ (0 ≤ i ∧ i < n) ∧ i ∉ ns := by
  unfold restN
  rw [List.mem_filter, iota_mem]
  simp
theorem rest_lot (n : Nat) (ns : List Int) : IsLot n (restN n ns) := ⟨fun i hi => (rest_mem.mp hi).1, (iota_inc n).filter _⟩
theorem rest_len (n : Nat) (ns : List Int) : (restN n ns).length ≤ n := by
  unfold restN iota
  refine Nat.le_trans (List.length_filter_le _ _) ?_
  rw [List.length_map, List.length_range]
  exact Nat.le_refl _
theorem inc_nd {ns : List Int} (h : ns.Pairwise (· < ·)) : ns.Nodup := h.imp fun {a b} z e => by omega
theorem nd_len : ∀ {α : Type} [DecidableEq α] {M L : List α}, M.Nodup → (∀ q ∈ M, q ∈ L) → M.length ≤ L.length
  | _, _, [], L, _, _ => Nat.zero_le _
  | _, _, q :: M, L, h, s => by
    obtain ⟨h1, h2⟩ := List.pairwise_cons.mp h
    have hq := s q (List.mem_cons_self ..)
    have := nd_len (M := M) (L := L.erase q) h2 fun r hr => (List.mem_erase_of_ne (fun e => h1 r hr e.symm)).mpr (s r (List.mem_cons_of_mem _ hr))
    rw [List.length_erase_of_mem hq] at this
    have pos := List.length_pos_of_mem hq
    rw [List.length_cons]
    omega
theorem lot_len {n : Nat} {ns : List Int} (h : IsLot n ns) : ns.length ≤ n := by
  have := nd_len (L := iota n) (inc_nd h.inc) fun i hi => iota_mem.mpr (h.bel i hi)
  rwa [iota, List.length_map, List.length_range] at this
/-! ### a web without doubled ties -/
structure IsPl (L M : List (Int × Int)) : Prop where
  nd : M.Nodup
  srt : Srt M
  mem : ∀ q, q ∈ M ↔ q ∈ L
theorem pl_uniq {n : Int} {L M M' : List (Int × Int)} (hn : n ≤ 12) (hB : Bel n L) (a : IsPl L M) (b : IsPl L M') : M = M' :=
  srt_uniq hn ((List.perm_ext_iff_of_nodup a.nd b.nd).mpr fun q => (a.mem q).trans (b.mem q).symm) (hB.sub fun q z => (a.mem q).mp z) a.srt b.srt
theorem pl_self {L M : List (Int × Int)} (a : IsPl L M) : IsPl M M := ⟨a.nd, a.srt, fun _ => Iff.rfl⟩
theorem pl_two {L M M' : List (Int × Int)} (a : IsPl L M) (b : IsPl M M') : IsPl L M' := ⟨b.nd, b.srt, fun q => (b.mem q).trans (a.mem q)⟩
theorem GW.pl {H : Hp} {w w' : Addr} {n : Nat} {L M : List (Int × Int)} (g : GW H w n L) (W : Web H w' n M) (p : IsPl L M) : GW H w' n M :=
  ⟨W, g.n1, g.n2, g.bel.sub fun q z => (p.mem q).mp z, p.srt, Nat.le_trans (nd_len p.nd fun q z => (p.mem q).mp z) g.few⟩
theorem Prs.ks {H : Hp} {vs : List V} {L : List (Int × Int)} (p : Prs H vs L) : ∃ ks : List (Addr × List Int), vs = ks.map (fun e => V.ref e.1) ∧ (∀ e ∈ ks, ∃ q ∈ L, e.2 = [q.1, q.2] ∧ H e.1 = some (.tup [.int q.1, .int q.2])) ∧ (∀ q ∈ L, ∃ e ∈ ks, e.2 = [q.1, q.2]) ∧ ks.length = L.length := by
  induction p with
  | nil => exact ⟨[], rfl, (fun _ z => nomatch z), (fun _ z => nomatch z), rfl⟩
  | @cons a r vs L h t ih =>
    obtain ⟨ks, e1, e2, e3, e4⟩ := ih
    refine ⟨(a, [r.1, r.2]) :: ks, by rw [e1] <;> rfl, fun e he => ?_, fun q hq => ?_, by rw [List.length_cons, List.length_cons, e4]⟩
    · rcases List.mem_cons.mp he with rfl | he
      · exact ⟨r, List.mem_cons_self .., rfl, h⟩
      · obtain ⟨q, q1, q2⟩ := e2 e he
        exact ⟨q, List.mem_cons_of_mem _ q1, q2⟩
    · rcases List.mem_cons.mp hq with rfl | hq
      · exact ⟨_, List.mem_cons_self .., rfl⟩
      · obtain ⟨e, e1, e2⟩ := e3 q hq
        exact ⟨e, List.mem_cons_of_mem _ e1, e2⟩
theorem ks_prs {H : Hp} {L : List (Int × Int)} : ∀ {ks : List (Addr × List Int)}, (∀ e ∈ ks, ∃ q ∈ L, e.2 = [q.1, q.2] ∧ H e.1 = some (.tup [.int q.1, .int q.2])) → ∃ M : List (Int × Int), Prs H (ks.map fun e => V.ref e.1) M ∧ ks.map (·.2) = M.map fun q => [q.1, q.2]
  | [], _ => ⟨[], .nil, rfl⟩
  | e :: ks, h => by
    obtain ⟨q, _, h1, h2⟩ := h e (List.mem_cons_self ..)
    obtain ⟨M, m1, m2⟩ := ks_prs (ks := ks) fun e z => h e (List.mem_cons_of_mem _ z)
    exact ⟨q :: M, .cons h2 m1, by rw [List.map_cons, List.map_cons, h1, m2]⟩
theorem pr_inj : ∀ {a b : Int × Int}, ([a.1, a.2] : List Int) = [b.1, b.2] → a = b := fun {a b} h => by
  obtain ⟨a1, a2⟩ := a
  obtain ⟨b1, b2⟩ := b
  simp only [List.cons.injEq, and_true] at h
  rw [h.1, h.2]
def spPlainOf : Sp := fun vs H Q _ => ∃ (w : Addr) (n : Nat) (L : List (Int × Int)), vs = [.ref w] ∧ GW H w n L ∧ ∀ (w' : Addr) (M : List (Int × Int)) (H' : Hp), Same H H' → H w' = none → Web H' w' n M → IsPl L M → Q (.ref w') H'
def spPlacesBut : Sp := fun vs H Q _ => ∃ (w a : Addr) (n : Nat) (L : List (Int × Int)) (ns : List Int), vs = [.ref w, .ref a] ∧ GW H w n L ∧ TT H a (ns.map V.int) ∧ ∀ (t : Addr) (H' : Hp), Same H H' → H t = none → H' t = some (.tup ((restN n ns).map V.int)) → Q (.ref t) H'
def spIsLot : Sp := fun vs H Q _ => ∃ (w : Addr) (n : Nat) (L : List (Int × Int)) (v : V) (o : Option (List V)), vs = [.ref w, v] ∧ GW H w n L ∧ Th H v o ∧ ∀ H', Same H H' → Q (.bl (lotO n o)) H'
/-- a def of a web and a lot, that refuses what is none -/
def spLot (C : Addr) (G : Hp → Addr → Nat → List (Int × Int) → List Int → VK → Prop) : Sp := fun vs H Q E => ∃ (w : Addr) (n : Nat) (L : List (Int × Int)) (v : V) (o : Option (List V)), vs = [.ref w, v] ∧ GW H w n L ∧ Th H v o ∧
  (∀ (a : Addr) (ns : List Int), v = .ref a → o = some (ns.map V.int) → IsLot n ns → TT H a (ns.map V.int) → G H a n L ns Q) ∧ (lotO n o = false → Rz C "thing" v H E)
def gRest : Hp → Addr → Nat → List (Int × Int) → List Int → VK → Prop := fun H _ n _ ns Q => ∀ (t : Addr) (H' : Hp), Same H H' → H t = none → H' t = some (.tup ((restN n ns).map V.int)) → Q (.ref t) H'
/-- it is a lot, or refused -/
theorem th_cases {H : Hp} {v : V} {o : Option (List V)} {n : Int} (h : Th H v o) : (lotO n o = true ∧ ∃ a ns, v = .ref a ∧ o = some (ns.map V.int) ∧ IsLot n ns ∧ TT H a (ns.map V.int)) ∨ lotO n o = false := by
  cases h with
  | oth _ _ => exact .inr rfl
  | @tup a xs e _ _ =>
    cases z : lotD n xs with
    | false => exact .inr z
    | true =>
      obtain ⟨e1, e2⟩ := lot_of z
      exact .inl ⟨z, a, _, rfl, congrArg some e1, e2, e1 ▸ e⟩
section
variable {P : Program} {w0 : World} {K : PySem.W.Frag} {mg : Str → Option Value} {base : Heap}
theorem scIsLot : FnScope ["web", "thing"] ["web", "thing"] (defScope pIsLot) := ⟨rfl, rfl, rfl, by decide +kernel, rfl, by decide +kernel, by decide +kernel⟩
theorem ok_isLot {f fC fI : Addr} {fd fdC fdI : FuncData} (F : Fun K "is_lot" "is_lot" pIsLot f fd) (GC : Dn P w0 K mg base "check_web" 5 ["thing"] spCheckWeb fC fdC) (GI : Dn P w0 K mg base "is_lot_of" 3 ["web", "thing"] spIsLotOf fI fdI) :
    FnOk P w0 K mg base CX0 6 f fd ["web", "thing"] spIsLot := by
  refine F.ok scIsLot (fun vs H Q E h => ?_) (fun cdv A outer s H vs Q E hr h => ?_)
  · obtain ⟨w, n, L, v, o, rfl, _⟩ := h
    rfl
  · obtain ⟨w, n, L, v, o, rfl, G, th, k⟩ := h
    refine ⟨_, pss_cons (ps_expr (pe_call GC.ok hr rfl GC.g GC.kp GC.b .nil pass0 (pa_cons (pv 0) pa_nil))) <| pss_one (ps_ret (pe_call GI.ok (hr.mono (by decide)) rfl GI.g GI.kp GI.b .nil pass0 (pa_cons (pv 0) (pa_cons (pv 1) pa_nil)))), ?_⟩
    exact ⟨_, rfl, w, n, L, rfl, G, fun H1 s1 => ⟨_, rfl, _, rfl, w, n, L, v, o, rfl, G.same s1, th.same s1, fun H2 s2 => k H2 (s1.trans s2)⟩⟩
theorem scPlainOf : FnScope ["web"] ["web"] (defScope pPlainOf) := ⟨rfl, rfl, rfl, by decide +kernel, rfl, by decide +kernel, by decide +kernel⟩
theorem ok_plainOf {f : Addr} {fd : FuncData} (F : Fun K "plain_of" "plain_of" pPlainOf f fd) (T : Bk mg) : FnOk P w0 K mg base CX0 1 f fd ["web"] spPlainOf := by
  refine F.ok scPlainOf (fun vs H Q E h => ?_) (fun cdv A outer s H vs Q E hr h => ?_)
  · obtain ⟨w, n, L, rfl, _⟩ := h
    rfl
  · obtain ⟨w, n, L, rfl, G, k⟩ := h
    refine ⟨_, pss_one (ps_ret (pe_tup (pa_cons (pe_ix ix_tup (pv 0) pe_int (fun _ _ => rfl)) (pa_cons (pe_callTy call_tuple_of (by rfl) T.tuple (by decide +kernel) (pa_cons (pe_callB (cr_sortedT rfl) (by rfl) T.sorted (by decide +kernel)
      (pa_cons (pe_callTy (KR.cr_setTT rfl hr.units) (by rfl) T.set (by decide +kernel) (pa_cons (pe_ix ix_tup (pv 0) pe_int (fun _ _ => rfl)) pa_nil)) pa_nil)) pa_nil)) pa_nil)))), ?_⟩
    obtain ⟨ta, vs, e1, e2, e3⟩ := G.web.ex
    obtain ⟨ks, k1, k2, k3, k4⟩ := e3.ks
    have few := G.few
    refine ⟨_, rfl, w, _, _, _, rfl, rfl, SqT.of e1, atI_nat (j := 0) rfl, _, rfl, w, _, _, _, rfl, rfl, SqT.of e1, atI_nat (j := 1) rfl, ta, ks, rfl, SqT.of (k1 ▸ e2), fun e he => ?_, by omega, fun b Ls hb s1 s2 => ?_⟩
    · obtain ⟨q, _, h1, h2⟩ := k2 e he
      rw [h1]
      exact SqT.of h2
    · have sb : Same H (upd H b (SetTO P w0 b Ls)) := same_new hb
      refine ⟨b, Ls, 2, 64, rfl, upd_same, fun e he => ?_, by decide, fun e he => ?_, fun Lt p pm nd lt pw hp => ?_⟩
      · obtain ⟨q, _, h1, h2⟩ := k2 e (s1 e he)
        rw [h1]
        exact SqT.of (sb _ _ h2)
      · obtain ⟨q, hq, h1, _⟩ := k2 e (s1 e he)
        have := G.bel q hq
        have := G.n2
        rw [h1]
        refine ⟨rfl, fun m hm => ?_⟩
        rcases List.mem_cons.mp hm with rfl | hm
        · omega
        · rw [List.mem_singleton.mp hm]; omega
      · have sp := sb.trans (same_new (o := .lst (Lt.map fun q => V.ref q.1)) hp)
        have mt : ∀ e ∈ Lt, ∃ q ∈ L, e.2 = [q.1, q.2] ∧ (upd (upd H b (SetTO P w0 b Ls)) p (.lst (Lt.map fun q => V.ref q.1))) e.1 = some (.tup [.int q.1, .int q.2]) := fun e he => by
          obtain ⟨q, hq, h1, h2⟩ := k2 e (s1 e (pm.mem_iff.mp he))
          exact ⟨q, hq, h1, sp _ _ h2⟩
        obtain ⟨M, m1, m2⟩ := ks_prs mt
        have pl : IsPl L M := by
          refine ⟨?_, ?_, fun q => ⟨fun hq => ?_, fun hq => ?_⟩⟩
          · rw [m2] at nd
            exact nodup_of_map nd
          · have : (Lt.map (·.2)).Pairwise fun a b => TS.code 64 a ≤ TS.code 64 b := List.pairwise_map.mpr pw
            rw [m2] at this
            exact (List.pairwise_map.mp this).imp fun {a b} z => by rw [code_pair, code_pair] at z; exact z
          · have : [q.1, q.2] ∈ Lt.map (·.2) := by rw [m2]; exact List.mem_map.mpr ⟨q, hq, rfl⟩
            obtain ⟨e, he, e1⟩ := List.mem_map.mp this
            obtain ⟨r, hr, h1, _⟩ := mt e he
            rw [pr_inj (e1.symm.trans h1)]
            exact hr
          · obtain ⟨e, he, h1⟩ := k3 q hq
            have h2 := s2 e he
            rw [h1] at h2
            obtain ⟨e', he', h3⟩ := List.mem_map.mp h2
            have : [q.1, q.2] ∈ Lt.map (·.2) := List.mem_map.mpr ⟨e', pm.mem_iff.mpr he', h3⟩
            rw [m2] at this
            obtain ⟨r, hr, h4⟩ := List.mem_map.mp this
            rw [← pr_inj h4]
            exact hr
        refine ⟨p, _, rfl, .inl ⟨SqL.of upd_same, fun t ht => ⟨by show 2 ≤ sizeLine; decide, fun w' hw => ?_⟩⟩⟩
        have s2' : Same H (upd (upd (upd H b (SetTO P w0 b Ls)) p (.lst (Lt.map fun (q : Addr × List Int) => V.ref q.1))) t (.tup (Lt.map fun (q : Addr × List Int) => V.ref q.1))) := sp.trans (same_new ht)
        exact k w' M _ (s2'.trans (same_new hw)) (s2'.free hw) ⟨t, _, upd_same, by rw [upd_ne (ne_of_none upd_same hw)]; exact upd_same, (m1.mono (new_tup ht)).mono (new_tup hw)⟩ pl
theorem scPlainWeb : FnScope ["web"] ["web"] (defScope pPlainWeb) := ⟨rfl, rfl, rfl, by decide +kernel, rfl, by decide +kernel, by decide +kernel⟩
theorem ok_plainWeb {f fC fI : Addr} {fd fdC fdI : FuncData} (F : Fun K "plain_web" "plain_web" pPlainWeb f fd) (GC : Dn P w0 K mg base "check_web" 5 ["thing"] spCheckWeb fC fdC) (GI : Dn P w0 K mg base "plain_of" 1 ["web"] spPlainOf fI fdI) :
    FnOk P w0 K mg base CX0 6 f fd ["web"] spPlainOf := by
  refine F.ok scPlainWeb (fun vs H Q E h => ?_) (fun cdv A outer s H vs Q E hr h => ?_)
  · obtain ⟨w, n, L, rfl, _⟩ := h
    rfl
  · obtain ⟨w, n, L, rfl, G, k⟩ := h
    refine ⟨_, pss_cons (ps_expr (pe_call GC.ok hr rfl GC.g GC.kp GC.b .nil pass0 (pa_cons (pv 0) pa_nil))) <| pss_one (ps_ret (pe_call GI.ok (hr.mono (by decide)) rfl GI.g GI.kp GI.b .nil pass0 (pa_cons (pv 0) pa_nil))), ?_⟩
    exact ⟨_, rfl, w, n, L, rfl, G, fun H1 s1 => ⟨_, rfl, w, n, L, rfl, G.same s1, fun w' M H2 s2 hw W p => k w' M H2 (s1.trans s2) (s1.free hw) W p⟩⟩
abbrev nPlacesBut : List Str := ["web", "lot", "place"]
theorem scPlacesBut : FnScope nPlacesBut ["web", "lot"] (defScope pPlacesBut) := ⟨rfl, rfl, rfl, by decide +kernel, rfl, by decide +kernel, by decide +kernel⟩
theorem ok_placesBut {f : Addr} {fd : FuncData} (F : Fun K "places_but" "places_but" pPlacesBut f fd) (T : Bk mg) : FnOk P w0 K mg base CX0 1 f fd ["web", "lot"] spPlacesBut := by
  refine F.ok scPlacesBut (fun vs H Q E h => ?_) (fun cdv A outer s H vs Q E hr h => ?_)
  · obtain ⟨w, a, n, L, ns, rfl, _⟩ := h
    rfl
  · obtain ⟨w, a, n, L, ns, rfl, G, hl, k⟩ := h
    refine ⟨_, pss_one (ps_ret (pe_callTy call_tuple_of (by rfl) T.tuple (by decide +kernel) (pa_cons (pe_lc (own := [("place", 2)]) (g := gName 2) rfl scPlacesBut.nd (pi_range1 (by rfl) T.range (pa_cons (pe_ix ix_tup (pv 0) pe_int (fun _ _ => rfl)) pa_nil))
      (blkOk_by (N := nPlacesBut) (sc := defScope pPlacesBut) (by decide +kernel)) (fun _ _ _ _ _ => pg_name (i := 2) scPlacesBut.nd rfl (Or.inl rfl)) (fun _ _ _ _ _ => pts_one (pt_cmpR (show OpR _ (compareOp .NotIn) (rIn K true) from op_notIn_seq) (pv 2) (pv 1) (by rfl))) (fun _ _ _ _ _ => pv 2)) pa_nil))), ?_⟩
    obtain ⟨ta, vs, e1, e2, e3⟩ := G.web.ex
    have n2 := G.n2
    refine ⟨_, rfl, w, _, _, _, rfl, rfl, SqT.of e1, atI_nat (j := 0) rfl, _, rfl, by omega, by omega, fun Da hD => ?_⟩
    refine lc_range (lo := 0) (n := (n : Int).toNat) (fun i M => M Da = some (.lst ((restN i ns).map V.int)) ∧ Same H M) ⟨upd_same, same_new hD⟩ ?_ ?_
    · rintro i M hi ⟨g1, g2⟩
      refine ⟨rfl, _, rfl, _, rfl, a, _, rfl, .inr (hl.keep fun o q => g2 _ _ q).sq, rfl, flat_ints ns, _, rfl, ?_⟩
      have e : (if true = true then !inV (V.int (0 + (i : Int))) (ns.map V.int) else inV (V.int (0 + (i : Int))) (ns.map V.int)) = !decide ((i : Int) ∈ ns) := by rw [if_pos rfl, inV_ints, Int.zero_add]
      rw [e]
      have rs := rest_succ i ns
      cases h : (!decide ((i : Int) ∈ ns)) with
      | true =>
        rw [if_pos h] at rs
        exact iteT ⟨_, rfl, _, g1, by rw [List.length_map, sizeLine_eq]; have := rest_len i ns; omega, by rw [upd_same, rs, List.map_append, Int.zero_add] <;> rfl, fun b o e => by rw [upd_ne (ne_of_none e hD)]; exact g2 _ _ e⟩
      | false =>
        rw [if_neg (by rw [h]; exact Bool.false_ne_true)] at rs
        exact iteF ⟨by rw [rs]; exact g1, g2⟩
    · rintro M ⟨g1, g2⟩
      rw [show (n : Int).toNat = n by omega] at g1
      exact ⟨Da, _, rfl, .inl ⟨SqL.of g1, fun t ht => k t _ (g2.trans (same_new ht)) (g2.free ht) upd_same⟩⟩
theorem scRestOf : FnScope ["web", "lot"] ["web", "lot"] (defScope pRestOf) := ⟨rfl, rfl, rfl, by decide +kernel, rfl, by decide +kernel, by decide +kernel⟩
theorem ok_restOf {f fC fL fB C : Addr} {fd fdC fdL fdB : FuncData} (F : Fun K "rest_of" "rest_of" pRestOf f fd) (GC : Dn P w0 K mg base "check_web" 5 ["thing"] spCheckWeb fC fdC)
    (GL : FnOk P w0 K mg base (L2.CX P w0) 4 fL fdL ["web", "thing"] (spCheckLot C)) (gL : mg "check_lot" = some (.ref fL)) (kL : PySem.W.keepIn K (.ref fL) = true) (bL : Binds K fdL ["web", "thing"] [])
    (GB : Dn P w0 K mg base "places_but" 1 ["web", "lot"] spPlacesBut fB fdB) : FnOk P w0 K mg base (L2.CX P w0) 6 f fd ["web", "lot"] (spLot C gRest) := by
  refine F.okX scRestOf (fun vs H Q E h => ?_) (fun cdv A outer s H vs Q E hr h => ?_)
  · obtain ⟨w, n, L, v, o, rfl, _⟩ := h
    rfl
  · obtain ⟨w, n, L, v, o, rfl, G, th, k, kx⟩ := h
    refine ⟨_, pss_cons (ps_expr (pe_call GC.ok hr rfl GC.g GC.kp GC.b .nil pass0 (pa_cons (pv 0) pa_nil)))
      <| pss_cons (ps_expr (pe_call GL (hr.mono (by decide)) rfl gL kL bL .nil (passes_call (takes_of rfl rfl rfl rfl) (fun _ _ _ _ h => h)) (pa_cons (pv 0) (pa_cons (pv 1) pa_nil))))
      <| pss_one (ps_ret (pe_call GB.ok (hr.mono (by decide)) rfl GB.g GB.kp GB.b .nil pass0 (pa_cons (pv 0) (pa_cons (pv 1) pa_nil)))), ?_⟩
    refine ⟨_, rfl, w, n, L, rfl, G, fun H1 s1 => ⟨_, rfl, _, rfl, w, n, L, v, o, rfl, G.same s1, th.same s1, fun hl H2 s2 => ?_, fun hl => (kx hl).same s1⟩⟩
    rcases th_cases (n := n) th with ⟨_, a, ns, rfl, rfl, il, tt⟩ | z
    · have s12 := s1.trans s2
      exact ⟨_, rfl, _, rfl, w, a, n, L, ns, rfl, G.same s12, tt.keep fun o q => s12 _ _ q, fun t H3 s3 ht e => k a ns rfl rfl il tt t H3 (s12.trans s3) (s12.free ht) e⟩
    · rw [z] at hl; cases hl
end
end K0

set_option Elab.async false
set_option linter.all false
set_option maxRecDepth 100000
set_option maxHeartbeats 8000000
/-! Cuts, the web within a lot and without it, ends. -/
namespace K0
open PySem PySem.Spec L2
open PyProof.Rows hiding St
/-! ### cuts -/
def crs (L : List (Int × Int)) (ns : List Int) (i : Nat) : Bool := match L[i]? with
  | some q => decide (q.1 ∈ ns) != decide (q.2 ∈ ns)
  | none => false
def cutG (L : List (Int × Int)) (ns : List Int) (i : Nat) : List Int := ((List.range i).filter (crs L ns)).map fun i => ((i : Nat) : Int)
abbrev cutN (L : List (Int × Int)) (ns : List Int) : List Int := cutG L ns L.length
theorem cut_succ (L : List (Int × Int)) (ns : List Int) (i : Nat) : cutG L ns (i + 1) = if crs L ns i = true then cutG L ns i ++ [(i : Int)] else cutG L ns i := by
  unfold cutG
  rw [List.range_succ, List.filter_append]
  cases h : crs L ns i <;> simp [h]
theorem crs_at {L : List (Int × Int)} {ns : List Int} {i : Nat} {q : Int × Int} (h : L[i]? = some q) : crs L ns i = (decide (q.1 ∈ ns) != decide (q.2 ∈ ns)) := by
  unfold crs
  rw [h]
theorem cut_len (L : List (Int × Int)) (ns : List Int) (i : Nat) : (cutG L ns i).length ≤ i := by
  unfold cutG
  rw [List.length_map]
  refine Nat.le_trans (List.length_filter_le _ _) ?_
  rw [List.length_range]
  exact Nat.le_refl _
theorem ne_bl (a b : Bool) : (!decide (V.bl a = V.bl b)) = (a != b) := by cases a <;> cases b <;> decide
/-! ### the web within a lot -/
def idx (ns : List Int) (k : Int) : Int := ((ns.idxOf k : Nat) : Int)
def both (ns : List Int) (q : Int × Int) : Bool := decide (q.1 ∈ ns) && decide (q.2 ∈ ns)
def withinL (L : List (Int × Int)) (ns : List Int) : List (Int × Int) := (L.filter (both ns)).map fun q => (idx ns q.1, idx ns q.2)
theorem within_snoc (L : List (Int × Int)) (ns : List Int) (q : Int × Int) : withinL (L ++ [q]) ns = if both ns q = true then withinL L ns ++ [(idx ns q.1, idx ns q.2)] else withinL L ns := by
  unfold withinL
  rw [List.filter_append]
  cases h : both ns q <;> simp [h]
theorem within_len (L : List (Int × Int)) (ns : List Int) : (withinL L ns).length ≤ L.length := by
  unfold withinL
  rw [List.length_map]
  exact List.length_filter_le _ _
theorem take_snoc {α : Type} {L : List α} {i : Nat} {q : α} (h : L[i]? = some q) : L.take (i + 1) = L.take i ++ [q] := by rw [List.take_add_one, h] <;> rfl
theorem rest_len_eq {n : Nat} {ns : List Int} (h : IsLot n ns) : (restN n ns).length + ns.length = n := by
  have p : (restN n ns ++ ns).Perm (iota n) := by
    refine (List.perm_ext_iff_of_nodup ?_ (inc_nd (iota_inc n))).mpr fun i => ?_
    · refine List.nodup_append.mpr ⟨inc_nd (rest_lot n ns).inc, inc_nd h.inc, fun a ha b hb e => ?_⟩
      subst e
      exact (rest_mem.mp ha).2 hb
    · rw [List.mem_append, rest_mem, iota_mem]
      constructor
      · rintro (z | z)
        · exact z.1
        · exact h.bel i z
      · intro z
        by_cases m : i ∈ ns
        · exact .inr m
        · exact .inl ⟨z, m⟩
  have := p.length_eq
  rw [List.length_append, iota, List.length_map, List.length_range] at this
  exact this
/-- the dict of the places -/
def kvA : List Int → Int → List (Key × V)
  | [], _ => []
  | k :: r, s => (Sum.inl k, .int s) :: kvA r (s + 1)
theorem kv_len : ∀ (ns : List Int) (s : Int), (kvA ns s).length = ns.length
  | [], _ => rfl
  | k :: r, s => by rw [kvA, List.length_cons, List.length_cons, kv_len]
theorem kv_val (k : Int) : ∀ (ns : List Int) (s : Int), valV (kvA ns s) (Sum.inl k) = if k ∈ ns then some (.int (s + idx ns k)) else none
  | [], _ => rfl
  | j :: r, s => by
    by_cases h : j = k
    · subst h
      rw [if_pos (List.mem_cons_self ..)]
      show valV ((Sum.inl j, .int s) :: kvA r (s + 1)) (Sum.inl j) = _
      rw [valV_pos rfl]
      unfold idx
      rw [List.idxOf_cons_self]
      simp
    · show valV ((Sum.inl j, .int s) :: kvA r (s + 1)) (Sum.inl k) = _
      rw [valV_neg (fun z => h (Sum.inl.inj z)), kv_val k r (s + 1)]
      have h' : ¬ k = j := fun z => h z.symm
      have hb : (j == k) = false := by simpa using h
      by_cases g : k ∈ r
      · rw [if_pos g, if_pos (List.mem_cons_of_mem _ g)]
        unfold idx
        rw [List.idxOf_cons, hb]
        simp only [cond_false]
        congr 2
        omega
      · rw [if_neg g, if_neg (by rw [List.mem_cons]; exact fun z => z.elim h' g)]
theorem kv_put (k : Int) (ns : List Int) (h : k ∉ ns) : putK (kvA ns 0) (Sum.inl k) (.int (ns.length : Nat)) = kvA (ns ++ [k]) 0 := by
  rw [putK_new _ (by rw [kv_val, if_neg h])]
  have e : ∀ (ms : List Int) (s : Int), kvA ms s ++ [(Sum.inl k, V.int (s + (ms.length : Nat)))] = kvA (ms ++ [k]) s := fun ms => by
    induction ms with
    | nil => intro s; simp [kvA]
    | cons m ms ih =>
      intro s
      rw [List.cons_append, kvA, kvA, List.cons_append, ← ih (s + 1), show (s + (((m :: ms).length : Nat) : Int)) = (s + 1) + (ms.length : Nat) by rw [List.length_cons]; omega]
  have := e ns 0
  rw [Int.zero_add] at this
  exact this
theorem dc_it {J : It} {n : Nat} {G : Hp → Prop} {Y : Nat → Hp → V → Hp → Prop} (w : Walk J n G Y) {g : TG} {tt : L2.TT} {tk tv : TE} {vs : List Nat} {σ : St} {H1 : Hp} {D : Addr} {Qd : Hp → Prop} (Pv : Nat → Hp → Prop) (h0 : Pv 0 (upd H1 D (.dK []))) (hG : ∀ i H, i ≤ n → Pv i H → G H)
    (hs : ∀ i x H H', i < n → Pv i H → Y i H x H' → g x (wipe σ vs) H' fun σ2 H2 => wipe σ2 vs = wipe σ vs ∧ tt σ2 H2 fun b H3 =>
      if b = true then tk σ2 H3 fun y H4 => tv σ2 H4 fun z H5 => ∃ kvs k, y = kV k ∧ H5 D = some (.dK kvs) ∧ kvs.length < sizeLine ∧ Pv (i + 1) (upd H5 D (.dK (putK kvs k z))) else Pv (i + 1) H3) (hd : ∀ H, Pv n H → Qd H) :
    ∃ W : Nat → Nat → Hp → Prop, (∃ m, W 0 m (upd H1 D (.dK []))) ∧ ∀ i m H, W i m H →
      (J.stop i H ∧ Qd H) ∨ (J.go i H ∧ ∃ Nx : Hp → Prop, (∀ H', Nx H' → ∃ m', m' < m ∧ W (i + 1) m' H') ∧ ∀ x H', J.yld i H x H' → g x (wipe σ vs) H' fun σ2 H2 => wipe σ2 vs = wipe σ vs ∧ tt σ2 H2 fun b H3 =>
        if b = true then tk σ2 H3 fun y H4 => tv σ2 H4 fun z H5 => ∃ kvs k, y = kV k ∧ H5 D = some (.dK kvs) ∧ kvs.length < sizeLine ∧ Nx (upd H5 D (.dK (putK kvs k z))) else Nx H3) := by
  refine ⟨fun i m H => m = n - i ∧ i ≤ n ∧ Pv i H, ⟨n, by simp, Nat.zero_le _, h0⟩, ?_⟩
  rintro i m H ⟨rfl, hi, p⟩
  have q := hG i H hi p
  by_cases lt : i < n
  · exact .inr ⟨w.goes i H lt q, Pv (i + 1), fun H' p' => ⟨n - (i + 1), by omega, rfl, lt, p'⟩, fun x H' y => hs i x H H' lt p (w.yields i H x H' lt q y)⟩
  · have e : i = n := by omega
    subst e
    exact .inl ⟨w.stops H q, hd H p⟩
/-- a def of a web and a lot, that refuses what is none, and may refuse a lot too -/
def spLotX (C : Addr) (G : Hp → Addr → Nat → List (Int × Int) → List Int → VK → XK → Prop) : Sp := fun vs H Q E => ∃ (w : Addr) (n : Nat) (L : List (Int × Int)) (v : V) (o : Option (List V)), vs = [.ref w, v] ∧ GW H w n L ∧ Th H v o ∧
  (∀ (a : Addr) (ns : List Int), v = .ref a → o = some (ns.map V.int) → IsLot n ns → TT H a (ns.map V.int) → G H a n L ns Q E) ∧ (lotO n o = false → Rz C "thing" v H E)
def gCut : Hp → Addr → Nat → List (Int × Int) → List Int → VK → Prop := fun H _ _ L ns Q => ∀ (t : Addr) (H' : Hp), Same H H' → H t = none → H' t = some (.tup ((cutN L ns).map V.int)) → Q (.ref t) H'
def spCutTies : Sp := fun vs H Q _ => ∃ (w a : Addr) (n : Nat) (L : List (Int × Int)) (ns : List Int), vs = [.ref w, .ref a] ∧ GW H w n L ∧ TT H a (ns.map V.int) ∧ gCut H a n L ns Q
def gIn (H : Hp) (L : List (Int × Int)) (ns : List Int) (Q : VK) : Prop := ∀ (w' : Addr) (H' : Hp), Same H H' → H w' = none → Web H' w' ns.length (withinL L ns) → Q (.ref w') H'
def gWithin (C : Addr) : Hp → Addr → Nat → List (Int × Int) → List Int → VK → XK → Prop := fun H a _ L ns Q E => (ns ≠ [] → gIn H L ns Q) ∧ (ns = [] → Rz C "thing" (.ref a) H E)
def gWithout (C : Addr) : Hp → Addr → Nat → List (Int × Int) → List Int → VK → XK → Prop := fun H a n L ns Q E => (restN n ns ≠ [] → gIn H L (restN n ns) Q) ∧ (restN n ns = [] → Rz C "thing" (.ref a) H E)
def spWebOf : Sp := fun vs H Q _ => ∃ (w a : Addr) (n : Nat) (L : List (Int × Int)) (ns : List Int), vs = [.ref w, .ref a] ∧ GW H w n L ∧ TT H a (ns.map V.int) ∧ IsLot n ns ∧ gIn H L ns Q
def spEnds (C : Addr) : Sp := fun vs H Q E => ∃ (w : Addr) (n : Nat) (L : List (Int × Int)) (v : V) (t : String), vs = [.ref w, v] ∧ GW H w n L ∧ VT H v t ∧
  (∀ (i : Nat) (q : Int × Int), v = .int i → L[i]? = some q → ∀ (a : Addr) (H' : Hp), Same H H' → H' a = some (.tup [.int q.1, .int q.2]) → Q (.ref a) H') ∧ (belowV v L.length = false → Rz C "number" v H E)
section
variable {P : Program} {w0 : World} {K : PySem.W.Frag} {mg : Str → Option Value} {base : Heap}
abbrev nCutTies : List Str := ["web", "lot", "number", "a", "b"]
theorem scCutTies : FnScope nCutTies ["web", "lot"] (defScope pCutTies) := ⟨rfl, rfl, rfl, by decide +kernel, rfl, by decide +kernel, by decide +kernel⟩
theorem ok_cutTies {f : Addr} {fd : FuncData} (F : Fun K "cut_ties" "cut_ties" pCutTies f fd) (T : Bk mg) : FnOk P w0 K mg base CX0 1 f fd ["web", "lot"] spCutTies := by
  refine F.ok scCutTies (fun vs H Q E h => ?_) (fun cdv A outer s H vs Q E hr h => ?_)
  · obtain ⟨w, a, n, L, ns, rfl, _⟩ := h
    rfl
  · obtain ⟨w, a, n, L, ns, rfl, G, tt, k⟩ := h
    refine ⟨_, pss_one (ps_ret (pe_callTy call_tuple_of (by rfl) T.tuple (by decide +kernel) (pa_cons (pe_lc (own := [("number", 2), ("a", 3), ("b", 4)]) (g := gTup K 2 (gCons (gName 2) (gCons (gTup K 2 (gCons (gName 3) (gCons (gName 4) gNil))) gNil))) rfl scCutTies.nd
          (KR.pi_enumT (by rfl) T.enu (pa_cons (pe_ix ix_tup (pv 0) pe_int (fun _ _ => rfl)) pa_nil)) (blkOk_by (N := nCutTies) (sc := defScope pCutTies) (by decide +kernel))
          (fun _ _ _ _ _ => pg_tup rfl (pgs_cons (pg_name (i := 2) scCutTies.nd rfl (.inl rfl) (.inr rfl)) (pgs_cons (pg_tup rfl (pgs_cons (pg_name (i := 3) scCutTies.nd rfl (.inl rfl) (.inr rfl)) (pgs_cons (pg_name (i := 4) scCutTies.nd rfl (.inl rfl) (.inr rfl)) pgs_nil))) pgs_nil)))
          (fun _ _ _ _ _ => pts_one (pt_cmpR op_ne (pe_cmpR (show OpR _ (compareOp .In) (rIn K false) from op_in_seq) (pv 3) (pv 1) (by rfl)) (pe_cmpR (show OpR _ (compareOp .In) (rIn K false) from op_in_seq) (pv 4) (pv 1) (by rfl)) (nomark _)))
          (fun _ _ _ _ _ => pv 2)) pa_nil))), ?_⟩
    obtain ⟨ta, vs, e1, e2, e3⟩ := G.web.ex
    have len := e3.len
    have few := G.few
    refine ⟨_, rfl, w, _, _, _, rfl, rfl, SqT.of e1, atI_nat (j := 1) rfl, ta, vs, rfl, SqT.of e2, fun Da hD => ?_⟩
    refine lc_it (KR.walk_enumT (xs := vs)) (fun i M => M Da = some (.lst ((cutG L ns i).map V.int)) ∧ Same H M) ⟨upd_same, same_new hD⟩ (fun i M _ g => SqT.of (g.2 _ _ e2)) ?_ ?_
    · rintro i x M M' hi ⟨g1, g2⟩ ⟨Tt, u, y, rfl, hT, rfl, e7, e8⟩
      cases e7
      obtain ⟨b, q, rfl, hq, hb⟩ := e3.get e8
      have sT : Same H (upd M Tt (.tup [.int (i : Nat), .ref b])) := g2.trans (same_new hT)
      have hls : TT (upd M Tt (.tup [.int (i : Nat), .ref b])) a (ns.map V.int) := tt.keep fun o q => sT _ _ q
      refine ⟨Tt, _, rfl, SqT.of upd_same, rfl, _, _, rfl, _, _, rfl, b, _, rfl, SqT.of (sT _ _ hb), rfl, _, _, rfl, _, _, rfl, rfl, rfl, rfl, ?_⟩
      refine ⟨_, rfl, _, rfl, a, _, rfl, .inr hls.sq, rfl, flat_ints ns, _, rfl, _, rfl, a, _, rfl, .inr hls.sq, rfl, flat_ints ns, rfl, _, rfl, ?_⟩
      have ec : (!decide (V.bl (if false = true then !inV (V.int q.1) (ns.map V.int) else inV (V.int q.1) (ns.map V.int)) = V.bl (if false = true then !inV (V.int q.2) (ns.map V.int) else inV (V.int q.2) (ns.map V.int)))) = crs L ns i := by
        rw [if_neg Bool.false_ne_true, if_neg Bool.false_ne_true, inV_ints, inV_ints, ne_bl, crs_at hq]
      rw [ec]
      have cs := cut_succ L ns i
      have eD : (upd M Tt (.tup [.int (i : Nat), .ref b])) Da = some (.lst ((cutG L ns i).map V.int)) := by rw [upd_ne (ne_of_none g1 hT)]; exact g1
      cases h : crs L ns i with
      | true =>
        rw [if_pos h] at cs
        exact iteT ⟨_, rfl, _, eD, by rw [List.length_map, sizeLine_eq]; have := cut_len L ns i; omega, by rw [upd_same, cs, List.map_append] <;> rfl, fun b o e => by rw [upd_ne (ne_of_none e hD)]; exact sT _ _ e⟩
      | false =>
        rw [if_neg (by rw [h]; exact Bool.false_ne_true)] at cs
        exact iteF ⟨by rw [cs]; exact eD, sT⟩
    · rintro M ⟨g1, g2⟩
      rw [len] at g1
      exact ⟨Da, _, rfl, .inl ⟨SqL.of g1, fun t ht => k t _ (g2.trans (same_new ht)) (g2.free ht) upd_same⟩⟩
theorem scCutOf : FnScope ["web", "lot"] ["web", "lot"] (defScope pCutOf) := ⟨rfl, rfl, rfl, by decide +kernel, rfl, by decide +kernel, by decide +kernel⟩
theorem ok_cutOf {f fC fL fB C : Addr} {fd fdC fdL fdB : FuncData} (F : Fun K "cut_of" "cut_of" pCutOf f fd) (GC : Dn P w0 K mg base "check_web" 5 ["thing"] spCheckWeb fC fdC)
    (GL : FnOk P w0 K mg base (L2.CX P w0) 4 fL fdL ["web", "thing"] (spCheckLot C)) (gL : mg "check_lot" = some (.ref fL)) (kL : PySem.W.keepIn K (.ref fL) = true) (bL : Binds K fdL ["web", "thing"] [])
    (GB : Dn P w0 K mg base "cut_ties" 1 ["web", "lot"] spCutTies fB fdB) : FnOk P w0 K mg base (L2.CX P w0) 6 f fd ["web", "lot"] (spLot C gCut) := by
  refine F.okX scCutOf (fun vs H Q E h => ?_) (fun cdv A outer s H vs Q E hr h => ?_)
  · obtain ⟨w, n, L, v, o, rfl, _⟩ := h
    rfl
  · obtain ⟨w, n, L, v, o, rfl, G, th, k, kx⟩ := h
    refine ⟨_, pss_cons (ps_expr (pe_call GC.ok hr rfl GC.g GC.kp GC.b .nil pass0 (pa_cons (pv 0) pa_nil)))
      <| pss_cons (ps_expr (pe_call GL (hr.mono (by decide)) rfl gL kL bL .nil (passes_call (takes_of rfl rfl rfl rfl) (fun _ _ _ _ h => h)) (pa_cons (pv 0) (pa_cons (pv 1) pa_nil))))
      <| pss_one (ps_ret (pe_call GB.ok (hr.mono (by decide)) rfl GB.g GB.kp GB.b .nil pass0 (pa_cons (pv 0) (pa_cons (pv 1) pa_nil)))), ?_⟩
    refine ⟨_, rfl, w, n, L, rfl, G, fun H1 s1 => ⟨_, rfl, _, rfl, w, n, L, v, o, rfl, G.same s1, th.same s1, fun hl H2 s2 => ?_, fun hl => (kx hl).same s1⟩⟩
    rcases th_cases (n := n) th with ⟨_, a, ns, rfl, rfl, il, tt⟩ | z
    · have s12 := s1.trans s2
      exact ⟨_, rfl, _, rfl, w, a, n, L, ns, rfl, G.same s12, tt.keep fun o q => s12 _ _ q, fun t H3 s3 ht e => k a ns rfl rfl il tt t H3 (s12.trans s3) (s12.free ht) e⟩
    · rw [z] at hl; cases hl
end
end K0

set_option Elab.async false
set_option linter.all false
set_option maxRecDepth 100000
set_option maxHeartbeats 8000000
/-! The web within a lot and without it, ends. -/
namespace K0
open PySem PySem.Spec L2
open PyProof.Rows hiding St
section
variable {P : Program} {w0 : World} {K : PySem.W.Frag} {mg : Str → Option Value} {base : Heap}
abbrev nWebOf : List Str := ["web", "lot", "names", "at", "place", "a", "b"]
theorem scWebOf : FnScope nWebOf ["web", "lot"] (defScope pWebOf) := ⟨rfl, rfl, rfl, by decide +kernel, rfl, by decide +kernel, by decide +kernel⟩
theorem ok_webOf {f : Addr} {fd : FuncData} (F : Fun K "web_of" "web_of" pWebOf f fd) (T : Bk mg) : FnOk P w0 K mg base CX0 1 f fd ["web", "lot"] spWebOf := by
  refine F.ok scWebOf (fun vs H Q E h => ?_) (fun cdv A outer s H vs Q E hr h => ?_)
  · obtain ⟨w, a, n, L, ns, rfl, _⟩ := h
    rfl
  · obtain ⟨w, a, n, L, ns, rfl, G, tt, il, k⟩ := h
    have hu := hu_of hr
    refine ⟨_, pss_cons (ps_set (i := 2) scWebOf.nd rfl (.inr rfl) (pe_dc (own := [("at", 3), ("place", 4)]) (g := gTup K 2 (gCons (gName 3) (gCons (gName 4) gNil))) (tt := tYes) rfl scWebOf.nd (KR.pi_enumT (by rfl) T.enu (pa_cons (pv 1) pa_nil))
          (blkOk_by (N := nWebOf) (sc := defScope pWebOf) (by decide +kernel)) (fun _ _ _ _ _ => pg_tup rfl (pgs_cons (pg_name (i := 3) scWebOf.nd rfl (.inl rfl) (.inr rfl)) (pgs_cons (pg_name (i := 4) scWebOf.nd rfl (.inl rfl) (.inr rfl)) pgs_nil))) (fun _ _ _ _ _ => pts_nil)
          (fun _ _ _ _ _ => pv 4) (fun _ _ _ _ _ => pv 3)))
      <| pss_one (ps_ret (pe_tup (pa_cons (pe_callB call_len_seq (by rfl) T.len PySem.boot_len (pa_cons (pv 1) pa_nil)) (pa_cons (pe_callTy call_tuple_of (by rfl) T.tuple (by decide +kernel) (pa_cons
          (pe_lc (own := [("a", 5), ("b", 6)]) (g := gTup K 2 (gCons (gName 5) (gCons (gName 6) gNil))) rfl scWebOf.nd (pi_tup (pe_ix ix_tup (pv 0) pe_int (fun _ _ => rfl)))
            (blkOk_by (N := nWebOf) (sc := defScope pWebOf) (by decide +kernel)) (fun _ _ _ _ _ => pg_tup rfl (pgs_cons (pg_name (i := 5) scWebOf.nd rfl (.inl rfl) (.inr rfl)) (pgs_cons (pg_name (i := 6) scWebOf.nd rfl (.inl rfl) (.inr rfl)) pgs_nil)))
            (fun _ _ _ _ _ => pts_one (PW.pt (pw_and (pt_cmp (pc_din hu (pv 5) (pv 2))) (pw_and1 (pt_cmp (pc_din hu (pv 6) (pv 2)))))))
            (fun _ _ _ _ _ => pe_tup (pa_cons (pe_dget hu (pv 2) (pv 5) (fun _ _ => rfl)) (pa_cons (pe_dget hu (pv 2) (pv 6) (fun _ _ => rfl)) pa_nil)))) pa_nil)) pa_nil)))), ?_⟩
    obtain ⟨ta, vs, e1, e2, e3⟩ := G.web.ex
    have len := e3.len
    have few := G.few
    have ln := lot_len il
    have n2 := G.n2
    have nd := inc_nd il.inc
    -- the dict of the places
    refine ⟨_, rfl, a, _, rfl, tt.sq, fun Dd hDd => ?_⟩
    refine dc_it (KR.walk_enumT (xs := ns.map V.int)) (fun i M => M Dd = some (.dK (kvA (ns.take i) 0)) ∧ Same H M) ⟨upd_same, same_new hDd⟩ (fun i M _ g => (tt.keep fun o q => g.2 _ _ q).sq) ?_ ?_
    · rintro i x M M' hi ⟨g1, g2⟩ ⟨Tt, u, y, rfl, hT, rfl, e7, e8⟩
      cases e7
      have e8 : (ns.map V.int)[i]? = some y := e8
      rw [List.getElem?_map] at e8
      have hi' : i < ns.length := by rw [List.length_map] at hi; exact hi
      rw [List.getElem?_eq_getElem hi'] at e8
      cases e8
      have sT : Same H (upd M Tt (.tup [.int (i : Nat), .int ns[i]])) := g2.trans (same_new hT)
      have gD : (upd M Tt (.tup [.int (i : Nat), .int ns[i]])) Dd = some (.dK (kvA (ns.take i) 0)) := by rw [upd_ne (ne_of_none g1 hT)]; exact g1
      refine ⟨Tt, _, rfl, SqT.of upd_same, rfl, _, _, rfl, _, _, rfl, rfl, rfl, ?_⟩
      unfold tYes
      refine iteT ⟨_, rfl, _, rfl, _, Sum.inl ns[i], rfl, gD, by rw [kv_len, List.length_take, sizeLine_eq]; omega, ?_, fun b o e => by rw [upd_ne (ne_of_none e hDd)]; exact sT _ _ e⟩
      have tk : ns.take (i + 1) = ns.take i ++ [ns[i]] := take_snoc (List.getElem?_eq_getElem hi')
      have nin : ns[i] ∉ ns.take i := fun z => by
        have := nd
        rw [← List.take_append_drop i ns] at this
        have h2 := (List.nodup_append.mp this).2.2 _ z ns[i] (by rw [List.drop_eq_getElem_cons hi']; exact List.mem_cons_self ..)
        exact h2 rfl
      have lt : (ns.take i).length = i := by rw [List.length_take]; omega
      have := kv_put ns[i] (ns.take i) nin
      rw [lt] at this
      rw [upd_same, tk, this]
    rintro M ⟨g1, g2⟩
    rw [List.length_map, List.take_length] at g1
    have tM := tt.keep fun o q => g2 _ _ q
    refine ⟨_, rfl, a, _, rfl, .inr tM.sq, _, rfl, w, _, _, _, rfl, rfl, SqT.of (g2 _ _ e1), atI_nat (j := 1) rfl, ta, rfl, ⟨_, SqT.of (g2 _ _ e2)⟩, fun Da hD => ?_⟩
    have hDa := g2.free hD
    have e3M := e3.mono (same_tup g2)
    have ndD : Dd ≠ Da := ne_of_none g1 hD
    refine lc_it (walk_tup (xs := vs)) (fun i N => (∃ ws, N Da = some (.lst ws) ∧ Prs N ws (withinL (L.take i) ns)) ∧ N Dd = some (.dK (kvA ns 0)) ∧ Same M N) ⟨⟨[], upd_same, .nil⟩, by rw [upd_ne ndD]; exact g1, same_new hD⟩ (fun i N _ g => SqT.of (g.2.2 _ _ (g2 _ _ e2))) ?_ ?_
    · rintro i x N N' hi ⟨⟨ws, f1, f2⟩, f3, f4⟩ ⟨rfl, hx⟩
      obtain ⟨b, q, rfl, hq, hb⟩ := e3M.get hx
      have ts := take_snoc hq
      have wl := within_len (L.take i) ns
      rw [List.length_take] at wl
      have wsn := within_snoc (L.take i) ns q
      rw [← ts] at wsn
      have dg : ∀ {N1 : Hp} (j : Int), N1 Dd = some (.dK (kvA ns 0)) → DGet N1 Dd (.int j) (if j ∈ ns then some (.int (0 + idx ns j)) else none) := fun j e => kv_val j ns 0 ▸ DGet.k (k := Sum.inl j) e
      refine ⟨b, _, rfl, SqT.of (f4 _ _ hb), rfl, _, _, rfl, _, _, rfl, rfl, rfl, _, rfl, _, rfl, Dd, _, rfl, dg q.1 f3, _, rfl, ?_⟩
      by_cases h1 : q.1 ∈ ns
      · rw [if_pos h1]
        refine iteT ⟨_, rfl, _, rfl, Dd, _, rfl, dg q.2 f3, _, rfl, ?_⟩
        by_cases h2 : q.2 ∈ ns
        · have hbo : both ns q = true := by unfold both; rw [decide_eq_true h1, decide_eq_true h2] <;> rfl
          rw [if_pos hbo] at wsn
          rw [if_pos h2]
          have d1 := dg q.1 f3
          have d2 := dg q.2 f3
          rw [if_pos h1] at d1
          rw [if_pos h2] at d2
          rw [Int.zero_add] at d1 d2
          refine iteT ⟨_, rfl, _, rfl, Dd, _, rfl, d1, _, rfl, _, rfl, Dd, _, rfl, d2, by show 2 ≤ sizeLine; decide, fun t ht => ?_⟩
          have f1' : (upd N' t (.tup [.int (idx ns q.1), .int (idx ns q.2)])) Da = some (.lst ws) := by rw [upd_ne (ne_of_none f1 ht)]; exact f1
          refine ⟨ws, f1', by rw [f2.len, sizeLine_eq]; omega, ⟨_, upd_same, ?_⟩, by rw [upd_ne ndD, upd_ne (ne_of_none f3 ht)]; exact f3, fun c o e => by rw [upd_ne (ne_of_none e hD), upd_ne (ne_of_none (f4 _ _ e) ht)]; exact f4 _ _ e⟩
          rw [wsn]
          exact ((f2.mono (new_tup ht)).app (.cons (q := (idx ns q.1, idx ns q.2)) upd_same .nil)).mono (upd_tup f1')
        · have hbo : both ns q = false := by unfold both; rw [decide_eq_false h2, Bool.and_false]
          rw [if_neg (by rw [hbo]; exact Bool.false_ne_true)] at wsn
          rw [if_neg h2]
          exact iteF ⟨⟨ws, f1, by rw [wsn]; exact f2⟩, f3, f4⟩
      · have hbo : both ns q = false := by unfold both; rw [decide_eq_false h1, Bool.false_and]
        rw [if_neg (by rw [hbo]; exact Bool.false_ne_true)] at wsn
        rw [if_neg h1]
        exact iteF ⟨⟨ws, f1, by rw [wsn]; exact f2⟩, f3, f4⟩
    · rintro N ⟨⟨ws, f1, f2⟩, f3, f4⟩
      rw [len, List.take_length] at f2
      refine ⟨Da, ws, rfl, .inl ⟨SqL.of f1, fun t ht => ⟨by show 2 ≤ sizeLine; decide, fun w' hw => ?_⟩⟩⟩
      have s3 := (g2.trans f4).trans (same_new (o := .tup ws) ht)
      have ew : ((ns.map V.int).length : Nat) = ns.length := List.length_map ..
      refine k w' _ (s3.trans (same_new hw)) (s3.free hw) ⟨t, ws, by rw [upd_same, ew], by rw [upd_ne (ne_of_none upd_same hw)]; exact upd_same, (f2.mono (new_tup ht)).mono (new_tup hw)⟩
theorem scWithin : FnScope ["web", "lot"] ["web", "lot"] (defScope pWithin) := ⟨rfl, rfl, rfl, by decide +kernel, rfl, by decide +kernel, by decide +kernel⟩
theorem ok_within {f fC fL fW C cI : Addr} {fd fdC fdL fdW : FuncData} (F : Fun K "within" "within" pWithin f fd) (T : Bk mg) (R : ErX P K mg "BadLot" C cI "thing") (GC : Dn P w0 K mg base "check_web" 5 ["thing"] spCheckWeb fC fdC)
    (GL : FnOk P w0 K mg base (L2.CX P w0) 4 fL fdL ["web", "thing"] (spCheckLot C)) (gL : mg "check_lot" = some (.ref fL)) (kL : PySem.W.keepIn K (.ref fL) = true) (bL : Binds K fdL ["web", "thing"] [])
    (GW' : Dn P w0 K mg base "web_of" 1 ["web", "lot"] spWebOf fW fdW) : FnOk P w0 K mg base (L2.CX P w0) 6 f fd ["web", "lot"] (spLotX C (gWithin C)) := by
  refine F.okX scWithin (fun vs H Q E h => ?_) (fun cdv A outer s H vs Q E hr h => ?_)
  · obtain ⟨w, n, L, v, o, rfl, _⟩ := h
    rfl
  · obtain ⟨w, n, L, v, o, rfl, G, th, k, kx⟩ := h
    refine ⟨_, pss_cons (ps_expr (pe_call GC.ok hr rfl GC.g GC.kp GC.b .nil pass0 (pa_cons (pv 0) pa_nil)))
      <| pss_cons (ps_expr (pe_call GL (hr.mono (by decide)) rfl gL kL bL .nil (passes_call (takes_of rfl rfl rfl rfl) (fun _ _ _ _ h => h)) (pa_cons (pv 0) (pa_cons (pv 1) pa_nil))))
      <| pss_cons (ps_if (pt_not (pt_truth (pv 1) (by intro _; rfl))) (pss_one (ps_raise rfl (takes_of rfl rfl rfl rfl) (pmk1 R.er R.f1 (by decide) T.sup hr R.g (pa_cons (pv 1) pa_nil)))) pss_nil)
      <| pss_one (ps_ret (pe_call GW'.ok (hr.mono (by decide)) rfl GW'.g GW'.kp GW'.b .nil pass0 (pa_cons (pv 0) (pa_cons (pv 1) pa_nil)))), ?_⟩
    refine ⟨_, rfl, w, n, L, rfl, G, fun H1 s1 => ⟨_, rfl, _, rfl, w, n, L, v, o, rfl, G.same s1, th.same s1, fun hl H2 s2 => ?_, fun hl => (kx hl).same s1⟩⟩
    rcases th_cases (n := n) th with ⟨_, a, ns, rfl, rfl, il, tt⟩ | z
    · have s12 := s1.trans s2
      have t2 := tt.keep fun o q => s12 _ _ q
      obtain ⟨k1, k2⟩ := k a ns rfl rfl il tt
      refine ⟨_, rfl, _, .inr (.inl ⟨_, t2.sq, rfl⟩), ?_⟩
      cases ns with
      | nil => exact ⟨_, rfl, _, rfl, fun d hd => (k2 rfl) d _ (s12.trans (same_new hd)) (s12.free hd) upd_same⟩
      | cons i r => exact ⟨_, rfl, _, rfl, w, a, n, L, i :: r, rfl, G.same s12, t2, il, fun w' H3 s3 hw W => k1 (by simp) w' H3 (s12.trans s3) (s12.free hw) W⟩
    · rw [z] at hl; cases hl
theorem scWithout : FnScope ["web", "lot"] ["web", "lot"] (defScope pWithout) := ⟨rfl, rfl, rfl, by decide +kernel, rfl, by decide +kernel, by decide +kernel⟩
theorem ok_without {f fC fL fW fB C cI : Addr} {fd fdC fdL fdW fdB : FuncData} (F : Fun K "without" "without" pWithout f fd) (T : Bk mg) (R : ErX P K mg "BadLot" C cI "thing") (GC : Dn P w0 K mg base "check_web" 5 ["thing"] spCheckWeb fC fdC)
    (GL : FnOk P w0 K mg base (L2.CX P w0) 4 fL fdL ["web", "thing"] (spCheckLot C)) (gL : mg "check_lot" = some (.ref fL)) (kL : PySem.W.keepIn K (.ref fL) = true) (bL : Binds K fdL ["web", "thing"] [])
    (GW' : Dn P w0 K mg base "web_of" 1 ["web", "lot"] spWebOf fW fdW) (GB : Dn P w0 K mg base "places_but" 1 ["web", "lot"] spPlacesBut fB fdB) : FnOk P w0 K mg base (L2.CX P w0) 6 f fd ["web", "lot"] (spLotX C (gWithout C)) := by
  refine F.okX scWithout (fun vs H Q E h => ?_) (fun cdv A outer s H vs Q E hr h => ?_)
  · obtain ⟨w, n, L, v, o, rfl, _⟩ := h
    rfl
  · obtain ⟨w, n, L, v, o, rfl, G, th, k, kx⟩ := h
    refine ⟨_, pss_cons (ps_expr (pe_call GC.ok hr rfl GC.g GC.kp GC.b .nil pass0 (pa_cons (pv 0) pa_nil)))
      <| pss_cons (ps_expr (pe_call GL (hr.mono (by decide)) rfl gL kL bL .nil (passes_call (takes_of rfl rfl rfl rfl) (fun _ _ _ _ h => h)) (pa_cons (pv 0) (pa_cons (pv 1) pa_nil))))
      <| pss_cons (ps_if (pt_cmpR op_eq (pe_callB call_len_seq (by rfl) T.len PySem.boot_len (pa_cons (pv 1) pa_nil)) (pe_ix ix_tup (pv 0) pe_int (fun _ _ => rfl)) (nomark _)) (pss_one (ps_raise rfl (takes_of rfl rfl rfl rfl) (pmk1 R.er R.f1 (by decide) T.sup hr R.g (pa_cons (pv 1) pa_nil)))) pss_nil)
      <| pss_one (ps_ret (pe_call GW'.ok (hr.mono (by decide)) rfl GW'.g GW'.kp GW'.b .nil pass0 (pa_cons (pv 0) (pa_cons (pe_call GB.ok (hr.mono (by decide)) rfl GB.g GB.kp GB.b .nil pass0 (pa_cons (pv 0) (pa_cons (pv 1) pa_nil))) pa_nil)))), ?_⟩
    refine ⟨_, rfl, w, n, L, rfl, G, fun H1 s1 => ⟨_, rfl, _, rfl, w, n, L, v, o, rfl, G.same s1, th.same s1, fun hl H2 s2 => ?_, fun hl => (kx hl).same s1⟩⟩
    rcases th_cases (n := n) th with ⟨_, a, ns, rfl, rfl, il, tt⟩ | z
    · have s12 := s1.trans s2
      have t2 := tt.keep fun o q => s12 _ _ q
      have G2 := G.same s12
      obtain ⟨ta, vs, e1, e2, e3⟩ := G2.web.ex
      obtain ⟨k1, k2⟩ := k a ns rfl rfl il tt
      have le := rest_len_eq il
      refine ⟨_, rfl, a, _, rfl, .inr t2.sq, _, rfl, w, _, _, _, rfl, rfl, SqT.of e1, atI_nat (j := 0) rfl, rfl, _, rfl, ?_⟩
      by_cases h : ns.length = n
      · have : restN n ns = [] := List.length_eq_zero_iff.mp (by omega)
        rw [decide_eq_true (by rw [List.length_map, h])]
        exact iteT ⟨_, rfl, _, rfl, fun d hd => (k2 this) d _ (s12.trans (same_new hd)) (s12.free hd) upd_same⟩
      · have nz : restN n ns ≠ [] := fun z => by rw [z] at le; simp at le; exact h le
        rw [decide_eq_false (by rw [List.length_map]; intro z; cases z; exact h rfl)]
        refine iteF ⟨_, rfl, _, rfl, _, rfl, w, a, n, L, ns, rfl, G2, t2, fun t H3 s3 ht e => ?_⟩
        have s13 := s12.trans s3
        exact ⟨w, t, n, L, restN n ns, rfl, G.same s13, .inl e, rest_lot n ns, fun w' H4 s4 hw W => k1 nz w' H4 (s13.trans s4) (s13.free hw) W⟩
    · rw [z] at hl; cases hl
theorem scEndsOf : FnScope ["web", "number"] ["web", "number"] (defScope pEndsOf) := ⟨rfl, rfl, rfl, by decide +kernel, rfl, by decide +kernel, by decide +kernel⟩
theorem ok_endsOf {f fC fL C : Addr} {fd fdC fdL : FuncData} (F : Fun K "ends_of" "ends_of" pEndsOf f fd) (GC : Dn P w0 K mg base "check_web" 5 ["thing"] spCheckWeb fC fdC)
    (GL : FnOk P w0 K mg base (L2.CX P w0) 4 fL fdL ["web", "thing"] (spCheckTie C)) (gL : mg "check_tie" = some (.ref fL)) (kL : PySem.W.keepIn K (.ref fL) = true) (bL : Binds K fdL ["web", "thing"] []) :
    FnOk P w0 K mg base (L2.CX P w0) 6 f fd ["web", "number"] (spEnds C) := by
  refine F.okX scEndsOf (fun vs H Q E h => ?_) (fun cdv A outer s H vs Q E hr h => ?_)
  · obtain ⟨w, n, L, v, t, rfl, _⟩ := h
    rfl
  · obtain ⟨w, n, L, v, t, rfl, G, hv, k, kx⟩ := h
    refine ⟨_, pss_cons (ps_expr (pe_call GC.ok hr rfl GC.g GC.kp GC.b .nil pass0 (pa_cons (pv 0) pa_nil)))
      <| pss_cons (ps_expr (pe_call GL (hr.mono (by decide)) rfl gL kL bL .nil (passes_call (takes_of rfl rfl rfl rfl) (fun _ _ _ _ h => h)) (pa_cons (pv 0) (pa_cons (pv 1) pa_nil))))
      <| pss_one (ps_ret (pe_ix ix_tup (pe_ix ix_tup (pv 0) pe_int (fun _ _ => rfl)) (pv 1) (fun _ _ => rfl))), ?_⟩
    refine ⟨_, rfl, w, n, L, rfl, G, fun H1 s1 => ⟨_, rfl, _, rfl, w, n, L, v, t, rfl, G.same s1, hv.mono s1, fun hl => ?_, fun hl => (kx hl).same s1⟩⟩
    obtain ⟨ta, vs, e1, e2, e3⟩ := (G.same s1).web.ex
    cases hv with
    | int i =>
      have hl' : (decide (0 ≤ i) && decide (i < (L.length : Nat))) = true := hl
      rw [Bool.and_eq_true, decide_eq_true_eq, decide_eq_true_eq] at hl'
      obtain ⟨j, rfl⟩ : ∃ j : Nat, i = j := ⟨i.toNat, by omega⟩
      have len := e3.len
      have hj : j < vs.length := by omega
      obtain ⟨b, q, eb, hq, hb⟩ := e3.get (List.getElem?_eq_getElem hj)
      refine ⟨_, rfl, w, _, _, _, rfl, rfl, SqT.of e1, atI_nat (j := 1) rfl, _, rfl, ta, vs, _, _, rfl, rfl, SqT.of e2, atI_nat (List.getElem?_eq_getElem hj), ?_⟩
      rw [eb]
      exact k j q rfl hq b H1 s1 hb
    | _ => cases hl
end
end K0

set_option Elab.async false
set_option linter.all false
set_option maxRecDepth 100000
set_option maxHeartbeats 8000000
/-! The law's own looks. -/
namespace K0
open PySem PySem.Spec L2
open PyProof.Rows hiding St
open KR (TupX)
abbrev lLot : Stmt := top 37
abbrev lRest : Stmt := top 38
abbrev lCut : Stmt := top 39
abbrev lWithin : Stmt := top 40
abbrev lWhole : Stmt := top 41
abbrev lIsLot : Stmt := top 42
/-! ### a list beside the empty one -/
section
variable {X : Cx}
def rEq0 (K : PySem.W.Frag) : R2 := fun x y H Q => ∃ a b xs, x = .ref a ∧ y = .ref b ∧ SqL K H a xs ∧ SqL K H b [] ∧ Q (.bl xs.isEmpty) H
def rNe0 (K : PySem.W.Frag) : R2 := fun x y H Q => ∃ a b xs, x = .ref a ∧ y = .ref b ∧ SqL K H a xs ∧ SqL K H b [] ∧ Q (.bl (!xs.isEmpty)) H
theorem op_eq0 (hu : X.A.units < cLine) : OpR X (compareOp .Eq) (rEq0 X.K) := by
  intro pins s σ H x y v u Q I rx ry h
  obtain ⟨a, b, xs, rfl, rfl, ha, hb, q⟩ := h
  cases rx
  cases ry
  obtain ⟨its, r1, p1, _⟩ := I.list ha
  obtain ⟨jts, r2, p2, _⟩ := I.list hb
  cases r2
  cases r1 with
  | nil => exact SeqAt.RcAt.lists (e := fun _ => true) p1.isList p2.isList rfl hu (fun j h1 => absurd h1 (Nat.not_lt_zero _)) X.prog X.w _ _ ⟨.bl true, H, I, rfl, q⟩
  | cons r rr => exact SeqAt.RcAt.lists_lengths p1.isList p2.isList (by simp) hu X.prog X.w _ _ ⟨.bl false, H, I, rfl, q⟩
theorem op_ne0 (hu : X.A.units < cLine) : OpR X (compareOp .NotEq) (rNe0 X.K) := by
  intro pins s σ H x y v u Q I rx ry h
  obtain ⟨a, b, xs, rfl, rfl, ha, hb, q⟩ := h
  cases rx
  cases ry
  obtain ⟨its, r1, p1, _⟩ := I.list ha
  obtain ⟨jts, r2, p2, _⟩ := I.list hb
  cases r2
  cases r1 with
  | nil => exact SeqAt.RcNeAt.lists (e := fun _ => true) p1.isList p2.isList rfl hu (fun j h1 => absurd h1 (Nat.not_lt_zero _)) X.prog X.w _ _ ⟨.bl false, H, I, rfl, q⟩
  | cons r rr => exact SeqAt.RcNeAt.lists_lengths p1.isList p2.isList (by simp) hu X.prog X.w _ _ ⟨.bl true, H, I, rfl, q⟩
end
/-! ### the lot of a number -/
def bitAt (x : Nat) (i : Nat) : Bool := decide (x / 2 ^ i % 2 = 1)
def bitsN (x : Nat) (i : Nat) : List Int := ((List.range i).filter (bitAt x)).map fun i => ((i : Nat) : Int)
theorem bits_succ (x i : Nat) : bitsN x (i + 1) = if bitAt x i = true then bitsN x i ++ [(i : Int)] else bitsN x i := by
  unfold bitsN
  rw [List.range_succ, List.filter_append]
  cases h : bitAt x i <;> simp [h]
theorem bits_len (x i : Nat) : (bitsN x i).length ≤ i := by
  unfold bitsN
  rw [List.length_map]
  refine Nat.le_trans (List.length_filter_le _ _) ?_
  rw [List.length_range]
  exact Nat.le_refl _
theorem bits_lot {x n : Nat} (h : x < 2 ^ n) (hn : n ≤ 12) : IsLot n (bitsN x 12) := by
  refine ⟨fun i hi => ?_, ?_⟩
  · unfold bitsN at hi
    obtain ⟨j, hj, rfl⟩ := List.mem_map.mp hi
    obtain ⟨_, h2⟩ := List.mem_filter.mp hj
    refine ⟨by omega, ?_⟩
    rcases Nat.lt_or_ge j n with z | z
    · omega
    · exfalso
      have h3 : x / 2 ^ j = 0 := Nat.div_eq_of_lt (Nat.lt_of_lt_of_le h (Nat.pow_le_pow_right (by decide) z))
      have h2' := of_decide_eq_true h2
      rw [h3] at h2'
      exact absurd h2' (by decide)
  · unfold bitsN
    exact List.pairwise_map.mpr ((List.pairwise_lt_range.filter _).imp fun {a b} z => by omega)
theorem bit_one (x i : Nat) : decide (Builtin.bitAnd ((x : Int) / 2 ^ ((0 : Int) + (i : Int)).toNat) 1 = 1) = bitAt x i := by
  have e : ((0 : Int) + (i : Int)).toNat = i := by omega
  rw [e]
  have p : (0 : Int) ≤ (x : Int) / 2 ^ i := Int.ediv_nonneg (by omega) (by exact_mod_cast Nat.zero_le _)
  have m := Bits.bitAnd_mask 1 p
  rw [show ((2 : Int) ^ 1 - 1) = 1 by decide, show ((2 : Int) ^ 1) = 2 by decide] at m
  rw [m]
  unfold bitAt
  have c : (x : Int) / 2 ^ i % 2 = ((x / 2 ^ i % 2 : Nat) : Int) := by simp
  rw [c]
  by_cases h : x / 2 ^ i % 2 = 1
  · rw [h]; rfl
  · rw [decide_eq_false h]
    exact decide_eq_false fun z => h (by omega)
def spLLot : Sp := fun vs H Q _ => ∃ (x : Nat), vs = [.int x] ∧ ∀ (t : Addr) (H' : Hp), Same H H' → H t = none → TupX H' t ((bitsN x 12).map V.int) → Q (.ref t) H'
def spLRest : Sp := fun vs H Q _ => ∃ (w a : Addr) (n : Nat) (L : List (Int × Int)) (ns : List Int), vs = [.ref w, .ref a] ∧ GW H w n L ∧ TT H a (ns.map V.int) ∧ ∀ (t : Addr) (H' : Hp), Same H H' → H t = none → TupX H' t ((restN n ns).map V.int) → Q (.ref t) H'
def spLCut : Sp := fun vs H Q _ => ∃ (w a : Addr) (n : Nat) (L : List (Int × Int)) (ns : List Int), vs = [.ref w, .ref a] ∧ GW H w n L ∧ TT H a (ns.map V.int) ∧ ∀ (t : Addr) (H' : Hp), Same H H' → H t = none → H' t = some (.tup ((cutN L ns).map V.int)) → Q (.ref t) H'
def spLWithin : Sp := fun vs H Q _ => ∃ (w a : Addr) (n : Nat) (L : List (Int × Int)) (ns : List Int), vs = [.ref w, .ref a] ∧ GW H w n L ∧ TupX H a (ns.map V.int) ∧ gIn H L ns Q
def spLIsLot : Sp := fun vs H Q _ => ∃ (n : Nat) (v : V) (o : Option (List V)), vs = [.int n, v] ∧ n ≤ 12 ∧ Th H v o ∧ ∀ H', Same H H' → Q (.bl (lotO n o)) H'
section
variable {P : Program} {w0 : World} {K : PySem.W.Frag} {mg : Str → Option Value} {base : Heap}
abbrev nLLot : List Str := ["_law_number", "_law_at"]
theorem scLLot : FnScope nLLot ["_law_number"] (defScope lLot) := ⟨rfl, rfl, rfl, by decide +kernel, rfl, by decide +kernel, by decide +kernel⟩
theorem ok_lLot {f : Addr} {fd : FuncData} (F : Fun K "_law_lot" "_law_lot" lLot f fd) (T : Bk mg) : FnOk P w0 K mg base CX0 1 f fd ["_law_number"] spLLot := by
  refine F.ok scLLot (fun vs H Q E h => ?_) (fun cdv A outer s H vs Q E hr h => ?_)
  · obtain ⟨x, rfl, _⟩ := h
    rfl
  · obtain ⟨x, rfl, k⟩ := h
    refine ⟨_, pss_one (ps_ret (pe_callTy KR.call_tupF (by rfl) T.tuple (by decide +kernel) (pa_cons (pe_lc (own := [("_law_at", 1)]) (g := gName 1) rfl scLLot.nd (pi_range1 (by rfl) T.range (pa_cons pe_int pa_nil))
      (blkOk_by (N := nLLot) (sc := defScope lLot) (by decide +kernel)) (fun _ _ _ _ _ => pg_name (i := 1) scLLot.nd rfl (Or.inl rfl)) (fun _ _ _ _ _ => pts_one (pt_cmpR op_eq (pe_op op_and (pe_op op_shr (pv 0) (pv 1)) pe_int) pe_int (nomark _))) (fun _ _ _ _ _ => pv 1)) pa_nil))), ?_⟩
    refine ⟨_, rfl, by decide, by decide, fun Da hD => ?_⟩
    refine lc_range (lo := 0) (n := 12) (fun i M => M Da = some (.lst ((bitsN x i).map V.int)) ∧ Same H M) ⟨upd_same, same_new hD⟩ ?_ ?_
    · rintro i M hi ⟨g1, g2⟩
      have ec : decide (V.int (Builtin.bitAnd ((x : Int) / 2 ^ ((0 : Int) + (i : Int)).toNat) 1) = V.int 1) = bitAt x i := by
        rw [← bit_one]
        by_cases h : Builtin.bitAnd ((x : Int) / 2 ^ ((0 : Int) + (i : Int)).toNat) 1 = 1
        · rw [h]; rfl
        · rw [decide_eq_false h]; exact decide_eq_false fun z => h (V.int.inj z)
      refine ⟨rfl, _, rfl, _, rfl, _, _, rfl, rfl, by omega, _, _, rfl, rfl, rfl, _, rfl, ?_⟩
      rw [ec]
      have bs := bits_succ x i
      cases h : bitAt x i with
      | true =>
        rw [if_pos h] at bs
        exact iteT ⟨_, rfl, _, g1, by rw [List.length_map, sizeLine_eq]; have := bits_len x i; omega, by rw [upd_same, bs, List.map_append, Int.zero_add] <;> rfl, fun b o e => by rw [upd_ne (ne_of_none e hD)]; exact g2 _ _ e⟩
      | false =>
        rw [if_neg (by rw [h]; exact Bool.false_ne_true)] at bs
        exact iteF ⟨by rw [bs]; exact g1, g2⟩
    · rintro M ⟨g1, g2⟩
      exact ⟨Da, _, rfl, SqL.of g1, fun t us ht => k t _ (g2.trans (same_new ht)) (g2.free ht) .of⟩
abbrev nLRest : List Str := ["_law_web_here", "_law_lot_here", "_law_place"]
theorem scLRest : FnScope nLRest ["_law_web_here", "_law_lot_here"] (defScope lRest) := ⟨rfl, rfl, rfl, by decide +kernel, rfl, by decide +kernel, by decide +kernel⟩
theorem ok_lRest {f : Addr} {fd : FuncData} (F : Fun K "_law_rest" "_law_rest" lRest f fd) (T : Bk mg) : FnOk P w0 K mg base CX0 1 f fd ["_law_web_here", "_law_lot_here"] spLRest := by
  refine F.ok scLRest (fun vs H Q E h => ?_) (fun cdv A outer s H vs Q E hr h => ?_)
  · obtain ⟨w, a, n, L, ns, rfl, _⟩ := h
    rfl
  · obtain ⟨w, a, n, L, ns, rfl, G, hl, k⟩ := h
    refine ⟨_, pss_one (ps_ret (pe_callTy KR.call_tupF (by rfl) T.tuple (by decide +kernel) (pa_cons (pe_lc (own := [("_law_place", 2)]) (g := gName 2) rfl scLRest.nd (pi_range1 (by rfl) T.range (pa_cons (pe_ix ix_tup (pv 0) pe_int (fun _ _ => rfl)) pa_nil))
      (blkOk_by (N := nLRest) (sc := defScope lRest) (by decide +kernel)) (fun _ _ _ _ _ => pg_name (i := 2) scLRest.nd rfl (Or.inl rfl)) (fun _ _ _ _ _ => pts_one (pt_cmpR (show OpR _ (compareOp .NotIn) (rIn K true) from op_notIn_seq) (pv 2) (pv 1) (by rfl))) (fun _ _ _ _ _ => pv 2)) pa_nil))), ?_⟩
    obtain ⟨ta, vs, e1, e2, e3⟩ := G.web.ex
    have n2 := G.n2
    refine ⟨_, rfl, w, _, _, _, rfl, rfl, SqT.of e1, atI_nat (j := 0) rfl, _, rfl, by omega, by omega, fun Da hD => ?_⟩
    refine lc_range (lo := 0) (n := (n : Int).toNat) (fun i M => M Da = some (.lst ((restN i ns).map V.int)) ∧ Same H M) ⟨upd_same, same_new hD⟩ ?_ ?_
    · rintro i M hi ⟨g1, g2⟩
      refine ⟨rfl, _, rfl, _, rfl, a, _, rfl, .inr (hl.keep fun o q => g2 _ _ q).sq, rfl, flat_ints ns, _, rfl, ?_⟩
      have e : (if true = true then !inV (V.int (0 + (i : Int))) (ns.map V.int) else inV (V.int (0 + (i : Int))) (ns.map V.int)) = !decide ((i : Int) ∈ ns) := by rw [if_pos rfl, inV_ints, Int.zero_add]
      rw [e]
      have rs := rest_succ i ns
      cases h : (!decide ((i : Int) ∈ ns)) with
      | true =>
        rw [if_pos h] at rs
        exact iteT ⟨_, rfl, _, g1, by rw [List.length_map, sizeLine_eq]; have := rest_len i ns; omega, by rw [upd_same, rs, List.map_append, Int.zero_add] <;> rfl, fun b o e => by rw [upd_ne (ne_of_none e hD)]; exact g2 _ _ e⟩
      | false =>
        rw [if_neg (by rw [h]; exact Bool.false_ne_true)] at rs
        exact iteF ⟨by rw [rs]; exact g1, g2⟩
    · rintro M ⟨g1, g2⟩
      rw [show (n : Int).toNat = n by omega] at g1
      exact ⟨Da, _, rfl, SqL.of g1, fun t us ht => k t _ (g2.trans (same_new ht)) (g2.free ht) .of⟩
abbrev nLCut : List Str := ["_law_web_here", "_law_lot_here", "_law_at", "_law_tie"]
theorem scLCut : FnScope nLCut ["_law_web_here", "_law_lot_here"] (defScope lCut) := ⟨rfl, rfl, rfl, by decide +kernel, rfl, by decide +kernel, by decide +kernel⟩
theorem ok_lCut {f : Addr} {fd : FuncData} (F : Fun K "_law_cut" "_law_cut" lCut f fd) (T : Bk mg) : FnOk P w0 K mg base CX0 1 f fd ["_law_web_here", "_law_lot_here"] spLCut := by
  refine F.ok scLCut (fun vs H Q E h => ?_) (fun cdv A outer s H vs Q E hr h => ?_)
  · obtain ⟨w, a, n, L, ns, rfl, _⟩ := h
    rfl
  · obtain ⟨w, a, n, L, ns, rfl, G, tt, k⟩ := h
    refine ⟨_, pss_one (ps_ret (pe_callTy call_tuple_of (by rfl) T.tuple (by decide +kernel) (pa_cons (pe_lc (own := [("_law_at", 2), ("_law_tie", 3)]) (g := gTup K 2 (gCons (gName 2) (gCons (gName 3) gNil))) rfl scLCut.nd
          (KR.pi_enumT (by rfl) T.enu (pa_cons (pe_ix ix_tup (pv 0) pe_int (fun _ _ => rfl)) pa_nil)) (blkOk_by (N := nLCut) (sc := defScope lCut) (by decide +kernel))
          (fun _ _ _ _ _ => pg_tup rfl (pgs_cons (pg_name (i := 2) scLCut.nd rfl (.inl rfl) (.inr rfl)) (pgs_cons (pg_name (i := 3) scLCut.nd rfl (.inl rfl) (.inr rfl)) pgs_nil)))
          (fun _ _ _ _ _ => pts_one (pt_cmpR op_ne (pe_cmpR (show OpR _ (compareOp .In) (rIn K false) from op_in_seq) (pe_ix (show IxR _ (rIxT K) from ix_tup) (pv 3) pe_int (fun _ _ => rfl)) (pv 1) (by rfl))
            (pe_cmpR (show OpR _ (compareOp .In) (rIn K false) from op_in_seq) (pe_ix (show IxR _ (rIxT K) from ix_tup) (pv 3) pe_int (fun _ _ => rfl)) (pv 1) (by rfl)) (nomark _)))
          (fun _ _ _ _ _ => pv 2)) pa_nil))), ?_⟩
    obtain ⟨ta, vs, e1, e2, e3⟩ := G.web.ex
    have len := e3.len
    have few := G.few
    refine ⟨_, rfl, w, _, _, _, rfl, rfl, SqT.of e1, atI_nat (j := 1) rfl, ta, vs, rfl, SqT.of e2, fun Da hD => ?_⟩
    refine lc_it (KR.walk_enumT (xs := vs)) (fun i M => M Da = some (.lst ((cutG L ns i).map V.int)) ∧ Same H M) ⟨upd_same, same_new hD⟩ (fun i M _ g => SqT.of (g.2 _ _ e2)) ?_ ?_
    · rintro i x M M' hi ⟨g1, g2⟩ ⟨Tt, u, y, rfl, hT, rfl, e7, e8⟩
      cases e7
      obtain ⟨b, q, rfl, hq, hb⟩ := e3.get e8
      have sT : Same H (upd M Tt (.tup [.int (i : Nat), .ref b])) := g2.trans (same_new hT)
      have hls : TT (upd M Tt (.tup [.int (i : Nat), .ref b])) a (ns.map V.int) := tt.keep fun o q => sT _ _ q
      refine ⟨Tt, _, rfl, SqT.of upd_same, rfl, _, _, rfl, _, _, rfl, rfl, rfl, ?_⟩
      refine ⟨_, rfl, b, _, _, _, rfl, rfl, SqT.of (sT _ _ hb), atI_nat (j := 0) rfl, _, rfl, a, _, rfl, .inr hls.sq, rfl, flat_ints ns, _, rfl, b, _, _, _, rfl, rfl, SqT.of (sT _ _ hb), atI_nat (j := 1) rfl, _, rfl, a, _, rfl, .inr hls.sq, rfl, flat_ints ns, rfl, _, rfl, ?_⟩
      have ec : (!decide (V.bl (if false = true then !inV (V.int q.1) (ns.map V.int) else inV (V.int q.1) (ns.map V.int)) = V.bl (if false = true then !inV (V.int q.2) (ns.map V.int) else inV (V.int q.2) (ns.map V.int)))) = crs L ns i := by
        rw [if_neg Bool.false_ne_true, if_neg Bool.false_ne_true, inV_ints, inV_ints, ne_bl, crs_at hq]
      rw [ec]
      have cs := cut_succ L ns i
      have eD : (upd M Tt (.tup [.int (i : Nat), .ref b])) Da = some (.lst ((cutG L ns i).map V.int)) := by rw [upd_ne (ne_of_none g1 hT)]; exact g1
      cases h : crs L ns i with
      | true =>
        rw [if_pos h] at cs
        exact iteT ⟨_, rfl, _, eD, by rw [List.length_map, sizeLine_eq]; have := cut_len L ns i; omega, by rw [upd_same, cs, List.map_append] <;> rfl, fun b o e => by rw [upd_ne (ne_of_none e hD)]; exact sT _ _ e⟩
      | false =>
        rw [if_neg (by rw [h]; exact Bool.false_ne_true)] at cs
        exact iteF ⟨by rw [cs]; exact eD, sT⟩
    · rintro M ⟨g1, g2⟩
      rw [len] at g1
      exact ⟨Da, _, rfl, .inl ⟨SqL.of g1, fun t ht => k t _ (g2.trans (same_new ht)) (g2.free ht) upd_same⟩⟩
abbrev nLWithin : List Str := ["_law_web_here", "_law_lot_here", "_law_some", "_law_one", "_law_other"]
theorem scLWithin : FnScope nLWithin ["_law_web_here", "_law_lot_here"] (defScope lWithin) := ⟨rfl, rfl, rfl, by decide +kernel, rfl, by decide +kernel, by decide +kernel⟩
theorem ok_lWithin {f : Addr} {fd : FuncData} (F : Fun K "_law_within" "_law_within" lWithin f fd) (T : Bk mg) : FnOk P w0 K mg base CX0 1 f fd ["_law_web_here", "_law_lot_here"] spLWithin := by
  refine F.ok scLWithin (fun vs H Q E h => ?_) (fun cdv A outer s H vs Q E hr h => ?_)
  · obtain ⟨w, a, n, L, ns, rfl, _⟩ := h
    rfl
  · obtain ⟨w, a, n, L, ns, rfl, G, tx, k⟩ := h
    refine ⟨_, pss_cons (ps_setLc (i := 2) (own := [("_law_one", 3), ("_law_other", 4)]) (g := gTup K 2 (gCons (gName 3) (gCons (gName 4) gNil))) rfl scLWithin.nd rfl rfl (sw_true rfl rfl rfl (by decide +kernel)) (pi_tup (pe_ix ix_tup (pv 0) pe_int (fun _ _ => rfl)))
            (blkOk_by (N := nLWithin) (sc := defScope lWithin) (by decide +kernel)) (fun _ _ _ _ _ => pg_tup rfl (pgs_cons (pg_name (i := 3) scLWithin.nd rfl (.inl rfl) (.inr rfl)) (pgs_cons (pg_name (i := 4) scLWithin.nd rfl (.inl rfl) (.inr rfl)) pgs_nil)))
            (fun _ _ _ _ _ => pts_one (PW.pt (pw_and (pt_cmpR (show OpR _ (compareOp .In) (rIn K false) from op_in_seq) (pv 3) (pv 1) (by rfl)) (pw_and1 (pt_cmpR (show OpR _ (compareOp .In) (rIn K false) from op_in_seq) (pv 4) (pv 1) (by rfl))))))
            (fun _ _ _ _ _ => pe_tup (pa_cons (KR.pe_tindex (pv 1) (pa_cons (pv 3) pa_nil)) (pa_cons (KR.pe_tindex (pv 1) (pa_cons (pv 4) pa_nil)) pa_nil))))
      <| pss_one (ps_ret (pe_tup (pa_cons (pe_callB call_len_seq (by rfl) T.len PySem.boot_len (pa_cons (pv 1) pa_nil)) (pa_cons (pe_callTy call_tuple_of (by rfl) T.tuple (by decide +kernel) (pa_cons (pv 2) pa_nil)) pa_nil)))), ?_⟩
    obtain ⟨ta, vs, e1, e2, e3⟩ := G.web.ex
    have len := e3.len
    have few := G.few
    refine ⟨_, rfl, w, _, _, _, rfl, rfl, SqT.of e1, atI_nat (j := 1) rfl, ta, rfl, ⟨_, SqT.of e2⟩, fun Da hD => ?_⟩
    refine lc_it (walk_tup (xs := vs)) (fun i N => (∃ ws, N Da = some (.lst ws) ∧ Prs N ws (withinL (L.take i) ns)) ∧ Same H N) ⟨⟨[], upd_same, .nil⟩, same_new hD⟩ (fun i N _ g => SqT.of (g.2 _ _ e2)) ?_ ?_
    · rintro i x N N' hi ⟨⟨ws, f1, f2⟩, f4⟩ ⟨rfl, hx⟩
      obtain ⟨b, q, rfl, hq, hb⟩ := e3.get hx
      have ts := take_snoc hq
      have wl := within_len (L.take i) ns
      rw [List.length_take] at wl
      have wsn := within_snoc (L.take i) ns q
      rw [← ts] at wsn
      have tN := tx.same f4
      have ein : ∀ j : Int, (if false = true then !inV (V.int j) (ns.map V.int) else inV (V.int j) (ns.map V.int)) = decide (j ∈ ns) := fun j => by rw [if_neg Bool.false_ne_true, inV_ints]
      refine ⟨b, _, rfl, SqT.of (f4 _ _ hb), rfl, _, _, rfl, _, _, rfl, rfl, rfl, _, rfl, _, rfl, a, _, rfl, .inr tN.sq, rfl, flat_ints ns, _, rfl, ?_⟩
      rw [ein]
      by_cases h1 : q.1 ∈ ns
      · rw [decide_eq_true h1]
        refine iteT ⟨_, rfl, _, rfl, a, _, rfl, .inr tN.sq, rfl, flat_ints ns, _, rfl, ?_⟩
        rw [ein]
        by_cases h2 : q.2 ∈ ns
        · have hbo : both ns q = true := by unfold both; rw [decide_eq_true h1, decide_eq_true h2] <;> rfl
          rw [if_pos hbo] at wsn
          rw [decide_eq_true h2]
          refine iteT ⟨_, rfl, ⟨a, _, rfl, tN⟩, _, rfl, a, ns, q.1, rfl, rfl, tN, h1, _, rfl, ⟨a, _, rfl, tN⟩, _, rfl, a, ns, q.2, rfl, rfl, tN, h2, by show 2 ≤ sizeLine; decide, fun t ht => ?_⟩
          have f1' : (upd N' t (.tup [.int (idx ns q.1), .int (idx ns q.2)])) Da = some (.lst ws) := by rw [upd_ne (ne_of_none f1 ht)]; exact f1
          refine ⟨ws, f1', by rw [f2.len, sizeLine_eq]; omega, ⟨_, upd_same, ?_⟩, fun c o e => by rw [upd_ne (ne_of_none e hD), upd_ne (ne_of_none (f4 _ _ e) ht)]; exact f4 _ _ e⟩
          rw [wsn]
          exact ((f2.mono (new_tup ht)).app (.cons (q := (idx ns q.1, idx ns q.2)) upd_same .nil)).mono (upd_tup f1')
        · have hbo : both ns q = false := by unfold both; rw [decide_eq_false h2, Bool.and_false]
          rw [if_neg (by rw [hbo]; exact Bool.false_ne_true)] at wsn
          rw [decide_eq_false h2]
          exact iteF ⟨⟨ws, f1, by rw [wsn]; exact f2⟩, f4⟩
      · have hbo : both ns q = false := by unfold both; rw [decide_eq_false h1, Bool.false_and]
        rw [if_neg (by rw [hbo]; exact Bool.false_ne_true)] at wsn
        rw [decide_eq_false h1]
        exact iteF ⟨⟨ws, f1, by rw [wsn]; exact f2⟩, f4⟩
    · rintro N ⟨⟨ws, f1, f2⟩, f4⟩
      rw [len, List.take_length] at f2
      refine ⟨_, rfl, a, _, rfl, .inr (tx.same f4).sq, _, rfl, Da, ws, rfl, .inl ⟨SqL.of f1, fun t ht => ⟨by show 2 ≤ sizeLine; decide, fun w' hw => ?_⟩⟩⟩
      have s3 := f4.trans (same_new (o := .tup ws) ht)
      have ew : ((ns.map V.int).length : Nat) = ns.length := List.length_map ..
      refine k w' _ (s3.trans (same_new hw)) (s3.free hw) ⟨t, ws, by rw [upd_same, ew], by rw [upd_ne (ne_of_none upd_same hw)]; exact upd_same, (f2.mono (new_tup ht)).mono (new_tup hw)⟩
end
end K0

set_option Elab.async false
set_option linter.all false
set_option maxRecDepth 100000
set_option maxHeartbeats 8000000
/-! The law's own word on lots. -/
namespace K0
open PySem PySem.Spec L2
open PyProof.Rows hiding St
open KR (TupX tobj)
/-- (a, b, ..), known whole -/
def tTupF (t : TA) : TE := fun σ H Q => t σ H fun xs H1 => xs.length ≤ sizeLine ∧ ∀ p us, H1 p = none → Q (.ref p) (upd H1 p (.frz (tobj us) (.tup xs)))
theorem pe_tupF {X : Cx} {es : List Expr} {x1} {t : TA} {pos : Pos} (h : PA X es t) : PE X (.Tuple es x1 pos) (tTupF t) := by
  refine ⟨fun pins s σ H Q I hq => wpAny_Tuple_spliced (thn (h.run pos pins s σ H _ I hq) fun us s1 ⟨xs, H1, I1, r, z, q⟩ => ⟨by rw [← r.length]; exact z, ?_⟩)⟩
  have hf : H1 s1.heap.objs.size = none := I1.hok.fresh (Nat.le_refl _)
  exact ⟨.ref s1.heap.objs.size, _, I1.laid (t' := s1.toks) (fun b u e => Heap.get?_push_of_some _ e) (Nat.le_refl _) (KR.frz_ok (us := us) (Heap.get?_push_size _ rfl) r z), rfl, q _ us hf⟩
theorem whole_ints : ∀ {xs : List V}, xs.all wholeV = true → xs = (xs.map intV).map V.int
  | [], _ => rfl
  | x :: xs, h => by
    rw [List.all_cons, Bool.and_eq_true] at h
    cases x with
    | int i => rw [List.map_cons, List.map_cons, ← whole_ints h.2] <;> rfl
    | _ => cases h.1
theorem fl_empty {α : Type} (p : α → Bool) (xs : List α) : (xs.filter fun x => !p x).isEmpty = xs.all p := by
  induction xs with
  | nil => rfl
  | cons x xs ih => cases h : p x <;> simp [h] <;> simpa using ih
theorem below_whole {n : Int} {xs : List V} (h : xs.all wholeV = false) : xs.all (belowV · n) = false := by
  induction xs with
  | nil => cases h
  | cons x xs ih =>
    rw [List.all_cons] at h ⊢
    cases x with
    | int i =>
      have : xs.all wholeV = false := by simpa [wholeV] using h
      rw [ih this, Bool.and_false]
    | _ => rfl
def inR (n i : Int) : Bool := decide (0 ≤ i) && decide (i < n)
theorem all_inR (n : Int) (ns : List Int) : (ns.map V.int).all (belowV · n) = ns.all (inR n) := by
  rw [List.all_map]
  rfl
section
variable {P : Program} {w0 : World} {K : PySem.W.Frag} {mg : Str → Option Value} {base : Heap}
theorem scLWhole : FnScope ["_law_thing"] ["_law_thing"] (defScope lWhole) := ⟨rfl, rfl, rfl, by decide +kernel, rfl, by decide +kernel, by decide +kernel⟩
theorem ok_lWhole {f : Addr} {fd : FuncData} (F : Fun K "_law_is_whole" "_law_is_whole" lWhole f fd) (T : Bj mg) : FnOk P w0 K mg base CX0 1 f fd ["_law_thing"] spWhole := by
  refine F.ok scLWhole (fun vs H Q E h => ?_) (fun cdv A outer s H vs Q E hr h => ?_)
  · obtain ⟨v, t, rfl, _⟩ := h
    rfl
  · obtain ⟨v, t, rfl, hv, k⟩ := h
    refine ⟨_, pss_one (ps_ret (pe_and (pe_callB call_isi (by rfl) T.isi (by decide +kernel) (pa_cons (pv 0) (pa_cons (pe_bltn (v := .ty "int") (u := .type "int") (by rfl) T.int (by decide +kernel) rfl) pa_nil)))
      (pe_one (pe_not (pe_callB call_isi (by rfl) T.isi (by decide +kernel) (pa_cons (pv 0) (pa_cons (pe_bltn (v := .ty "bool") (u := .type "bool") (by rfl) T.bool (by decide +kernel) rfl) pa_nil))))))), ?_⟩
    obtain ⟨k1, k2, _⟩ := hv.kit (K := K)
    have hw := hv.whole
    refine ⟨_, rfl, v, .ty "int", .type t, .type "int", _, rfl, .ty "int", hv.ty, k1, _, rfl, ?_⟩
    by_cases h1 : t = "int" ∨ t = "bool"
    · rw [if_pos (decide_eq_true h1)]
      refine ⟨_, rfl, v, .ty "bool", .type t, .type "bool", _, rfl, .ty "bool", hv.ty, k2, _, rfl, ?_⟩
      have e : (!decide (t = "bool")) = wholeV v := by
        rw [hw]
        rcases h1 with rfl | rfl <;> decide
      rw [e]
      exact k
    · rw [if_neg (by rw [decide_eq_false h1]; exact Bool.false_ne_true)]
      have e : false = wholeV v := by rw [hw, decide_eq_false (fun z => h1 (.inl z))]
      rw [e]
      exact k
abbrev nLIsLot : List Str := ["_law_n", "_law_thing", "_law_it"]
theorem scLIsLot : FnScope nLIsLot ["_law_n", "_law_thing"] (defScope lIsLot) := ⟨rfl, rfl, rfl, by decide +kernel, rfl, by decide +kernel, by decide +kernel⟩
theorem ok_lIsLot {f fW : Addr} {fd fdW : FuncData} (F : Fun K "_law_is_lot" "_law_is_lot" lIsLot f fd) (T : Bk mg) (GW' : Dn P w0 K mg base "_law_is_whole" 1 ["_law_thing"] spWhole fW fdW) : FnOk P w0 K mg base CX0 2 f fd ["_law_n", "_law_thing"] spLIsLot := by
  refine F.ok scLIsLot (fun vs H Q E h => ?_) (fun cdv A outer s H vs Q E hr h => ?_)
  · obtain ⟨n, v, o, rfl, _⟩ := h
    rfl
  · obtain ⟨n, v, o, rfl, hn, th, k⟩ := h
    have hu0 := hr.units0
    have hu6 : A.units + 3 + 64 < cLine := by have := hr.un; have e : (A.deeper (envOfC "_law_is_lot" (defScope lIsLot) s.heap.objs.size f cdv)).units = A.units + 3 := rfl; omega
    refine ⟨_, pss_cons (ps_if (PW.pt (pw_or (pt_not (pt_val (pe_callB call_isi (by rfl) T.isi (by decide +kernel) (pa_cons (pv 1) (pa_cons (pe_bltn (v := .ty "tuple") (u := .type "tuple") (by rfl) T.tuple (by decide +kernel) rfl) pa_nil)))))
          (pw_or1 (pt_cmpR (op_ne0 hu0) (pe_lc (own := [("_law_it", 2)]) (g := gName 2) rfl scLIsLot.nd (pi_tup (pv 1)) (blkOk_by (N := nLIsLot) (sc := defScope lIsLot) (by decide +kernel))
            (fun _ _ _ _ _ => pg_name (i := 2) scLIsLot.nd rfl (Or.inl rfl)) (fun _ _ _ _ _ => pts_one (pt_not (pt_val (pe_call GW'.ok hr rfl GW'.g GW'.kp GW'.b .nil pass0 (pa_cons (pv 2) pa_nil))))) (fun _ _ _ _ _ => pv 2)) (pe_lst pa_nil) (nomark _)))))
          (pss_one (ps_ret pe_bl)) pss_nil)
      <| pss_one (ps_ret (pe_and (pe_cmpR (op_eq0 hu0) (pe_lc (own := [("_law_it", 2)]) (g := gName 2) rfl scLIsLot.nd (pi_tup (pv 1)) (blkOk_by (N := nLIsLot) (sc := defScope lIsLot) (by decide +kernel))
            (fun _ _ _ _ _ => pg_name (i := 2) scLIsLot.nd rfl (Or.inl rfl)) (fun _ _ _ _ _ => pts_one (PW.pt (pw_or (pt_cmpR op_lt (pv 2) pe_int (nomark _)) (pw_or1 (pt_cmpR op_ge (pv 2) (pv 0) (nomark _)))))) (fun _ _ _ _ _ => pv 2)) (pe_lst pa_nil) (nomark _))
          (pe_one (pe_cmpR (op_eqD hu6) (pe_callTy call_list_of (by rfl) T.list (by decide +kernel) (pa_cons (pv 1) pa_nil)) (pe_callB (cr_sortedSet rfl) (by rfl) T.sorted (by decide +kernel) (pa_cons (pe_callTy (KR.cr_setTI rfl) (by rfl) T.set (by decide +kernel) (pa_cons (pv 1) pa_nil)) pa_nil)) (nomark _))))), ?_⟩
    cases th with
    | @oth v t h ne =>
      exact ⟨_, rfl, v, .ty "tuple", .type t, .type "tuple", _, rfl, .ty "tuple", h.ty, h.kit.2.2, _, rfl, by
        rw [decide_eq_false ne]
        exact k H (Same.refl H)⟩
    | @tup a xs e h l =>
      have hv : VT H (.ref a) "tuple" := .tup e
      refine ⟨_, rfl, .ref a, .ty "tuple", .type "tuple", .type "tuple", _, rfl, .ty "tuple", hv.ty, hv.kit.2.2, _, rfl, iteNS (c := "tuple" = "tuple") rfl ?_⟩
      refine ⟨_, rfl, a, rfl, ⟨_, e.sq⟩, fun Da hD => ?_⟩
      refine lc_it (walk_tup (xs := xs)) (fun i M => M Da = some (.lst ((xs.take i).filter fun x => !wholeV x)) ∧ Same H M) ⟨upd_same, same_new hD⟩ (fun i M _ g => (e.keep fun o q => g.2 _ _ q).sq) ?_ ?_
      · rintro i x M M' hi ⟨g1, g2⟩ ⟨rfl, hx⟩
        obtain ⟨t, ht⟩ := h x (List.mem_of_getElem? hx)
        have fl : ((xs.take i).filter fun x => !wholeV x).length ≤ 60 := Nat.le_trans (List.length_filter_le _ _) (by rw [List.length_take]; omega)
        refine ⟨rfl, _, rfl, x, t, rfl, ht.mono g2, _, rfl, ?_⟩
        have tk : (xs.take (i + 1)).filter (fun x => !wholeV x) = (xs.take i).filter (fun x => !wholeV x) ++ [x].filter fun x => !wholeV x := by rw [take_snoc hx, List.filter_append]
        cases hw : wholeV x with
        | true =>
          refine iteF ⟨?_, g2⟩
          rw [tk, g1]
          simp [hw]
        | false =>
          refine iteT ⟨_, rfl, _, g1, by rw [sizeLine_eq]; omega, ?_, fun b o e => by rw [upd_ne (ne_of_none e hD)]; exact g2 _ _ e⟩
          rw [tk, upd_same]
          simp [hw]
      · rintro M ⟨g1, g2⟩
        rw [List.take_length] at g1
        refine ⟨by show 0 ≤ sizeLine; exact Nat.zero_le _, fun b0 hb0 => ?_⟩
        have s1 : Same H (upd M b0 (.lst [])) := g2.trans (same_new hb0)
        refine ⟨Da, b0, _, rfl, rfl, SqL.of (by rw [upd_ne (ne_of_none g1 hb0)]; exact g1), SqL.of upd_same, _, rfl, ?_⟩
        rw [fl_empty]
        cases ha : xs.all wholeV with
        | false =>
          have ans : false = lotO n (some xs) := by
            show _ = lotD n xs
            unfold lotD
            rw [below_whole ha, Bool.false_and]
          show Q (.bl false) _
          rw [ans]
          exact k _ s1
        | true =>
          have x1 := whole_ints ha
          generalize hns : xs.map intV = ns at x1
          have hlen : ns.length ≤ 60 := by rw [← hns, List.length_map]; exact l
          have eM : ∀ {M' : Hp}, Same H M' → TT M' a (ns.map V.int) := fun s => x1 ▸ (e.keep fun o q => s _ _ q)
          refine ⟨_, rfl, a, rfl, ⟨_, (eM s1).sq⟩, fun Db hb => ?_⟩
          have hDb := s1.free hb
          refine lc_it (walk_tup (xs := ns.map V.int)) (fun i M2 => M2 Db = some (.lst (((ns.take i).filter fun i => !inR n i).map V.int)) ∧ Same H M2) ⟨upd_same, s1.trans (same_new hb)⟩ (fun i M2 _ g => (eM g.2).sq) ?_ ?_
          · rintro i x M2 M3 hi ⟨f1, f2⟩ ⟨rfl, hx⟩
            rw [List.getElem?_map] at hx
            have hi' : i < ns.length := by rw [List.length_map] at hi; exact hi
            rw [List.getElem?_eq_getElem hi'] at hx
            cases hx
            have fl : (((ns.take i).filter fun i => !inR n i).map V.int).length ≤ 60 := by
              rw [List.length_map]
              exact Nat.le_trans (List.length_filter_le _ _) (by rw [List.length_take]; omega)
            have tk : (ns.take (i + 1)).filter (fun i => !inR n i) = (ns.take i).filter (fun i => !inR n i) ++ [ns[i]].filter fun i => !inR n i := by rw [take_snoc (List.getElem?_eq_getElem hi'), List.filter_append]
            have put : (!inR n ns[i]) = true → ∃ acc, M3 Db = some (.lst acc) ∧ acc.length < sizeLine ∧ (upd M3 Db (.lst (acc ++ [V.int ns[i]]))) Db = some (.lst (((ns.take (i + 1)).filter fun i => !inR n i).map V.int)) ∧ Same H (upd M3 Db (.lst (acc ++ [V.int ns[i]]))) := fun hz => by
              refine ⟨_, f1, by rw [sizeLine_eq]; omega, ?_, fun b o e => by rw [upd_ne (ne_of_none e hDb)]; exact f2 _ _ e⟩
              rw [tk, upd_same]
              simp [hz]
            have skip : (!inR n ns[i]) = false → M3 Db = some (.lst (((ns.take (i + 1)).filter fun i => !inR n i).map V.int)) ∧ Same H M3 := fun hz => by
              refine ⟨?_, f2⟩
              rw [tk, f1]
              simp [hz]
            refine ⟨rfl, _, rfl, _, _, rfl, rfl, _, rfl, ?_⟩
            by_cases h0 : ns[i] < 0
            · have hz : (!inR n ns[i]) = true := by unfold inR; rw [decide_eq_false (show ¬ (0 : Int) ≤ ns[i] by omega)] <;> rfl
              rw [decide_eq_true h0]
              exact iteT ⟨_, rfl, put hz⟩
            · rw [decide_eq_false h0]
              refine iteF ⟨_, rfl, _, rfl, _, _, rfl, rfl, _, rfl, ?_⟩
              by_cases h1 : ns[i] ≥ n
              · have hz : (!inR n ns[i]) = true := by unfold inR; rw [decide_eq_false (show ¬ ns[i] < (n : Int) by omega), Bool.and_false] <;> rfl
                rw [decide_eq_true h1]
                exact iteT ⟨_, rfl, put hz⟩
              · have hz : (!inR n ns[i]) = false := by unfold inR; rw [decide_eq_true (show (0 : Int) ≤ ns[i] by omega), decide_eq_true (show ns[i] < (n : Int) by omega)] <;> rfl
                rw [decide_eq_false h1]
                exact iteF (skip hz)
          · rintro M2 ⟨f1, f2⟩
            rw [List.length_map, List.take_length] at f1
            refine ⟨by show 0 ≤ sizeLine; exact Nat.zero_le _, fun b1 hb1 => ?_⟩
            have s2 : Same H (upd M2 b1 (.lst [])) := f2.trans (same_new hb1)
            refine ⟨Db, b1, _, rfl, rfl, SqL.of (by rw [upd_ne (ne_of_none f1 hb1)]; exact f1), SqL.of upd_same, _, rfl, ?_⟩
            rw [show ((ns.filter fun i => !inR n i).map V.int).isEmpty = ns.all (inR n) by rw [← fl_empty (inR n)]; cases ns.filter fun i => !inR n i <;> rfl]
            have lo : lotO n (some xs) = (ns.all (inR n) && decide (ns.Pairwise (· < ·))) := by
              show lotD n xs = _
              unfold lotD
              rw [hns, x1, all_inR]
            cases hR : ns.all (inR n) with
            | false =>
              rw [hR, Bool.false_and] at lo
              show Q (.bl false) _
              rw [← lo]
              exact k _ s2
            | true =>
              rw [hR, Bool.true_and] at lo
              refine ⟨_, rfl, a, _, rfl, .inr (eM s2).sq, fun l1 hl1 => ⟨_, rfl, a, ns, rfl, (eM (s2.trans (same_new hl1))).sq, by omega, fun b c hb2 hc => ⟨b, _, c, rfl, upd_same, by omega, fun ms p m1 m2 _ hp => ?_⟩⟩⟩
              have s3 := ((s2.trans (same_new (o := .lst (ns.map V.int)) hl1)).trans (same_new hb2)).trans (same_new (o := .lst (ms.map V.int)) hp)
              have n1p : l1 ≠ b := ne_of_none upd_same hb2
              have n2p : l1 ≠ p := ne_of_none (by rw [upd_ne n1p]; exact upd_same) hp
              refine ⟨.list (ns.map PyData.int), .list (ms.map PyData.int), .lst (SqL.of (by rw [upd_ne n2p, upd_ne n1p]; exact upd_same)) (ints_dp ns), .lst (SqL.of upd_same) (ints_dp ms), ints_shaped ns, ints_shaped ms, ?_⟩
              rw [eqv_ints]
              have ans : decide (ns = ms) = lotO n (some xs) := by
                rw [lo]
                by_cases hp : ns.Pairwise (· < ·)
                · rw [decide_eq_true hp]
                  exact decide_eq_true (inc_uniq hp m1 fun k => by rw [m2 k, decide_eq_true_eq])
                · rw [decide_eq_false hp]
                  exact decide_eq_false fun e => hp (e ▸ m1)
              rw [ans]
              exact k _ s3
end
end K0

set_option Elab.async false
set_option linter.all false
set_option maxRecDepth 100000
set_option maxHeartbeats 8000000
/-! Values near lots. -/
namespace K0
open PySem PySem.Spec L2
open PyProof.Rows hiding St
open KR (TupX tobj)
abbrev lBent : Stmt := top 44
/-! ### tuples known whole, put together -/
theorem cut_whole {xs : List V} {lo hi : Option Int} (h : HT.sIx xs.length 0 lo = 0 ∧ HT.sIx xs.length xs.length hi = xs.length) : cutV xs lo hi = xs := by
  unfold cutV
  rw [h.1, h.2, List.drop_zero, Nat.sub_zero, List.take_length]
section
variable {X : Cx}
def rSlU : V → Option Int → Option Int → Hp → VK → Prop := fun x lo hi H Q => ∃ a xs, x = .ref a ∧ TupX H a xs ∧ ∀ r H', Same H H' → TupX H' r (cutV xs lo hi) → Q (.ref r) H'
theorem sl_tupU : SlR X rSlU := fun pins s σ H x v vl vu lo hi sl Q I rx hs pl pu ⟨a, xs, e, t, q⟩ =>
  KR.sl_tupF pins s σ H x v vl vu lo hi sl Q I rx hs pl pu ⟨a, xs, e, t.sq, fun hw => q a H (Same.refl H) ((cut_whole hw).symm ▸ t), fun _ p us hp => q p _ (same_new hp) .of⟩
def rCatU : R2 := fun x y H Q => ∃ a b xs ys, x = .ref a ∧ y = .ref b ∧ TupX H a xs ∧ TupX H b ys ∧ xs.length + ys.length ≤ sizeLine ∧ ∀ r H', Same H H' → TupX H' r (xs ++ ys) → Q (.ref r) H'
theorem op_catU : OpR X (binaryOp .Add) rCatU := fun pins s σ H x y v u Q I rx ry ⟨a, b, xs, ys, e1, e2, t, t', z, q⟩ =>
  KR.op_catF pins s σ H x y v u Q I rx ry ⟨a, b, xs, ys, e1, e2, t.sq, t'.sq, z, fun h => q b H (Same.refl H) (by rw [h]; exact t'), fun _ h => q a H (Same.refl H) (by rw [h, List.append_nil]; exact t), fun _ _ p us hp => q p _ (same_new hp) .of⟩
end
theorem kpT {p c a : Addr} {H H' : Hp} {xs : List V} (t : TupX H a xs) (D : Deck H p c) (k : Kp p c H H') : TupX H' a xs := by
  obtain ⟨us, e⟩ := t
  obtain ⟨ys, m, n, h1, h2, _⟩ := D.ex
  exact ⟨us, k a _ (ne_of e h1 (by intro z; cases z)) (ne_of e h2 (by intro z; cases z)) e⟩
/-! ### items -/
/-- each item is some small datum -/
def Al (H : Hp) (xs : List V) : Prop := ∀ x ∈ xs, ∃ d, DV H Any x d ∧ Tame 0 d
theorem Al.same {H H' : Hp} {xs : List V} (a : Al H xs) (s : Same H H') : Al H' xs := fun x hx => let ⟨d, h1, h2⟩ := a x hx; ⟨d, h1.same s, h2⟩
theorem Al.app {H : Hp} {xs ys : List V} (a : Al H xs) (b : Al H ys) : Al H (xs ++ ys) := fun x hx => (List.mem_append.mp hx).elim (a x) (b x)
theorem Al.sub {H : Hp} {xs ys : List V} (a : Al H xs) (h : ∀ x ∈ ys, x ∈ xs) : Al H ys := fun x hx => a x (h x hx)
theorem Al.cut {H : Hp} {xs : List V} {lo hi : Option Int} (a : Al H xs) : Al H (cutV xs lo hi) := a.sub fun x hx => List.mem_of_mem_drop (List.mem_of_mem_take hx)
theorem Al.data {H : Hp} : ∀ {xs : List V}, Al H xs → ∃ ds : List PyData, xs.length = ds.length ∧ (∀ (i : Nat) (v : V) (d : PyData), xs[i]? = some v → ds[i]? = some d → DV H Any v d) ∧ ∀ d ∈ ds, Tame 0 d
  | [], _ => ⟨[], rfl, (fun i v d z => by simp at z), fun _ z => nomatch z⟩
  | x :: xs, a => by
    obtain ⟨d, h1, h2⟩ := a x (List.mem_cons_self ..)
    obtain ⟨ds, g1, g2, g3⟩ := Al.data (xs := xs) fun y hy => a y (List.mem_cons_of_mem _ hy)
    refine ⟨d :: ds, by rw [List.length_cons, List.length_cons, g1], fun i v e z1 z2 => ?_, fun e he => ?_⟩
    · cases i with
      | zero => cases z1; cases z2; exact h1
      | succ i => exact g2 i v e (by simpa using z1) (by simpa using z2)
    · rcases List.mem_cons.mp he with rfl | he
      · exact h2
      · exact g3 e he
theorem tame_big {ds : List PyData} (h : ∀ d ∈ ds, Tame 0 d) (l : ds.length ≤ 40) : Tame 3 (.tuple ds) ∧ Tame 3 (.list ds) := by
  obtain ⟨h1, h2, h3, h4⟩ := all_of h
  have b0 : bb 0 = 20 := rfl
  have b3 : bb 3 = 1280 := rfl
  have q : ds.length * (bb 0 + 1) ≤ 40 * 21 := by rw [b0]; exact Nat.mul_le_mul_right _ l
  exact ⟨⟨by simp only [PyData.showable, h1], by simp only [PyData.leavesShort, h2], by simp only [PyData.depth]; omega, by simp only [PyData.bulk]; omega, by simp only [slimD, slim_of h, Bool.and_true]; exact decide_eq_true (by omega)⟩, ⟨by simp only [PyData.showable, h1], by simp only [PyData.leavesShort, h2], by simp only [PyData.depth]; omega, by simp only [PyData.bulk]; omega, by simp only [slimD]⟩⟩
theorem int12 : ∀ i : Fin 64, PyData.showable (.int (i.val : Int)) = true ∧ PyData.leavesShort 200 (.int (i.val : Int)) = true := by decide +kernel
theorem small12 {i : Int} (h : 0 ≤ i ∧ i < 64) : PyData.showable (.int i) = true ∧ PyData.leavesShort 200 (.int i) = true := by
  have := int12 ⟨i.toNat, by omega⟩
  have e : ((i.toNat : Nat) : Int) = i := by omega
  rwa [show (((⟨i.toNat, by omega⟩ : Fin 64).val : Nat) : Int) = i from e] at this
theorem tame_small {i : Int} (h : 0 ≤ i ∧ i < 64) (k : Nat) : Tame k (.int i) := ⟨(small12 h).1, (small12 h).2, by simp only [PyData.depth]; omega, by simp only [PyData.bulk]; omega, by simp only [slimD]⟩
/-- a row of small ints, as data -/
theorem ints_nice {ns : List Int} (h : ∀ i ∈ ns, 0 ≤ i ∧ i < 64) : PyData.showableAll (ns.map PyData.int) = true ∧ PyData.leavesShortAll 200 (ns.map PyData.int) = true ∧ PyData.depthAll (ns.map PyData.int) = 0 ∧ PyData.bulkAll (ns.map PyData.int) ≤ ns.length := by
  induction ns with
  | nil => exact ⟨by simp only [List.map_nil, PyData.showableAll], by simp only [List.map_nil, PyData.leavesShortAll], by simp only [List.map_nil, PyData.depthAll], by simp only [List.map_nil, PyData.bulkAll]; exact Nat.zero_le _⟩
  | cons i ns ih =>
    obtain ⟨g1, g2, g3, g4⟩ := ih fun j hj => h j (List.mem_cons_of_mem _ hj)
    obtain ⟨s1, s2⟩ := small12 (h i (List.mem_cons_self ..))
    exact ⟨by simp only [List.map_cons, PyData.showableAll, s1, g1, Bool.and_self], by simp only [List.map_cons, PyData.leavesShortAll, s2, g2, Bool.and_self], by simp only [List.map_cons, PyData.depthAll, PyData.depth, g3]; omega,
      by simp only [List.map_cons, PyData.bulkAll, PyData.bulk, List.length_cons]; omega⟩
theorem tame_lot {n : Nat} {ns : List Int} (h : IsLot n ns) (hn : n ≤ 12) : Tame 0 (.tuple (ns.map PyData.int)) := by
  obtain ⟨g1, g2, g3, g4⟩ := ints_nice (ns := ns) fun i hi => by have := h.bel i hi; omega
  have := lot_len h
  have b0 : bb 0 = 20 := rfl
  exact ⟨by simp only [PyData.showable, g1], by simp only [PyData.leavesShort, g2], by simp only [PyData.depth, g3]; omega, by simp only [PyData.bulk]; omega, by simp only [slimD, slim_ints, Bool.and_true]; exact decide_eq_true (by rw [List.length_map]; omega)⟩
theorem dv_ints {H : Hp} (ns : List Int) : ∀ (i : Nat) (v : V) (d : PyData), (ns.map V.int)[i]? = some v → (ns.map PyData.int)[i]? = some d → DV H Any v d := fun i v d z1 z2 => by
  rw [List.getElem?_map] at z1 z2
  cases e : ns[i]? with
  | none => rw [e] at z1; cases z1
  | some k => rw [e] at z1 z2; cases z1; cases z2; exact .int k
theorem dv_lot {H : Hp} {a : Addr} {ns : List Int} (t : TT H a (ns.map V.int)) : DV H Any (.ref a) (.tuple (ns.map PyData.int)) := .tup trivial t (by rw [List.length_map, List.length_map]) (dv_ints ns)
theorem al_lot {H : Hp} {n : Nat} {ns : List Int} (h : IsLot n ns) (hn : n ≤ 12) : Al H (ns.map V.int) := fun x hx => by
  obtain ⟨i, hi, rfl⟩ := List.mem_map.mp hx
  have := h.bel i hi
  exact ⟨.int i, .int i, tame_small (by omega) 0⟩
/-- what a bent lot is -/
def Bnt (H : Hp) (v : V) : Prop := ∃ (e : PyData) (o : Option (List V)), DV H Any v e ∧ Tame 3 e ∧ Th H v o ∧ NT H v
theorem bnt_tup {H : Hp} {r : Addr} {xs : List V} (t : TupX H r xs) (a : Al H xs) (l : xs.length ≤ 40) : Bnt H (.ref r) := by
  obtain ⟨ds, g1, g2, g3⟩ := a.data
  refine ⟨.tuple ds, some xs, .tup trivial (.inr t) g1 g2, (tame_big g3 (by omega)).1, .tup (.inr t) (fun x hx => let ⟨d, h, _⟩ := a x hx; h.vt) (by omega), ?_⟩
  obtain ⟨us, e⟩ := t
  exact nt_frz e (by omega)
theorem cutV_le {xs : List V} {lo hi : Option Int} : (cutV xs lo hi).length ≤ xs.length := by
  unfold cutV
  rw [List.length_take, List.length_drop]
  omega
def spBent : Sp := fun vs H Q _ => ∃ (p c a : Addr) (n : Nat) (ns : List Int), vs = [.ref p, .int n, .ref a] ∧ 1 ≤ n ∧ n ≤ 12 ∧ Deck H p c ∧ TupX H a (ns.map V.int) ∧ IsLot n ns ∧ ∀ (v : V) (H' : Hp), Bnt H' v → Deck H' p c → Kp p c H H' → Q v H'
section
variable {P : Program} {w0 : World} {K : PySem.W.Frag} {mg : Str → Option Value} {base : Heap}
abbrev nBent : List Str := ["_law_deck_here", "_law_n", "_law_lot_here", "_law_way", "_law_at", "_law_odd"]
theorem scBent : FnScope nBent ["_law_deck_here", "_law_n", "_law_lot_here"] (defScope lBent) := ⟨rfl, rfl, rfl, by decide +kernel, rfl, by decide +kernel, by decide +kernel⟩
theorem ok_bent {f fD fP fA : Addr} {fd fdD fdP fdA : FuncData} (F : Fun K "_law_bent_lot" "_law_bent_lot" lBent f fd) (T : Bk mg) (GD : Dn P w0 K mg base "_law_draw" 1 ["_law_deck_here", "_law_many"] spDraw fD fdD)
    (GP : Dn P w0 K mg base "_law_pick" 2 ["_law_deck_here", "_law_some"] spPick fP fdP) (GA : Dn P w0 K mg base "_law_any" 5 ["_law_deck_here", "_law_deep"] (spAny 3) fA fdA) : FnOk P w0 K mg base CX0 6 f fd ["_law_deck_here", "_law_n", "_law_lot_here"] spBent := by
  refine F.ok scBent (fun vs H Q E h => ?_) (fun cdv A outer s H vs Q E hr h => ?_)
  · obtain ⟨p, c, a, n, ns, rfl, _⟩ := h
    rfl
  · obtain ⟨p, c, a, n, ns, rfl, hn1, hn2, D, tx, il, k⟩ := h
    have hr1 : Room 1 (A.deeper (envOfC "_law_bent_lot" (defScope lBent) s.heap.objs.size f cdv)) := hr.mono (by decide)
    have hr2 : Room 2 (A.deeper (envOfC "_law_bent_lot" (defScope lBent) s.heap.objs.size f cdv)) := hr.mono (by decide)
    refine ⟨_, pss_cons (ps_par (i := 3) (j := 4) rfl scBent.nd rfl rfl (by decide) rfl rfl (pa_cons (pe_call GD.ok hr1 rfl GD.g GD.kp GD.b .nil pass0 (pa_cons (pv 0) (pa_cons pe_int pa_nil)))
          (pa_cons (pe_call GD.ok hr1 rfl GD.g GD.kp GD.b .nil pass0 (pa_cons (pv 0) (pa_cons (pe_op op_add (pe_callB call_len_seq (by rfl) T.len PySem.boot_len (pa_cons (pv 2) pa_nil)) pe_int) pa_nil))) pa_nil)) (by rfl))
      <| pss_cons (ps_if (pt_cmpR op_eq (pv 3) pe_int (nomark _)) (pss_one (ps_ret (pe_callTy call_list_of (by rfl) T.list (by decide +kernel) (pa_cons (pv 2) pa_nil)))) pss_nil)
      <| pss_cons (ps_if (pt_cmpR op_eq (pv 3) pe_int (nomark _)) (pss_one (ps_ret (KR.pe_revF (pv 2)))) pss_nil)
      <| pss_cons (ps_if (pt_cmpR op_eq (pv 3) pe_int (nomark _))
          (pss_cons (ps_set (i := 5) scBent.nd rfl (.inl rfl) (pe_call GP.ok hr2 rfl GP.g GP.kp GP.b .nil pass0 (pa_cons (pv 0) (pa_cons (pe_lst (pa_cons pe_bl (pa_cons pe_bl (pa_cons pe_non (pa_cons pe_str (pa_cons (pe_un un_neg pe_int) (pa_cons (pv 1)
              (pa_cons (pe_op op_pow pe_int pe_int) (pa_cons (pe_tup (pa_cons pe_int pa_nil)) (pa_cons (pe_lst (pa_cons pe_int pa_nil)) (pa_cons pe_dnewK (pa_cons pe_int (pa_cons pe_int pa_nil))))))))))))) pa_nil))))
          <| pss_one (ps_ret (pe_op op_catU (pe_op op_catU (pe_slice sl_tupU (pv 2) po_none (po_some (pv 4))) (pe_tupF (pa_cons (pv 5) pa_nil))) (pe_slice sl_tupU (pv 2) (po_some (pv 4)) po_none)))) pss_nil)
      <| pss_cons (ps_if (pt_cmpR op_eq (pv 3) pe_int (nomark _))
          (pss_one (ps_ret (pe_op op_catU (pe_op op_catU (pe_slice sl_tupU (pv 2) po_none (po_some (pv 4))) (pe_slice sl_tupU (pe_slice sl_tupU (pv 2) po_none (po_some (pv 4))) (po_some (pe_un un_neg pe_int)) po_none)) (pe_slice sl_tupU (pv 2) (po_some (pv 4)) po_none)))) pss_nil)
      <| pss_cons (ps_if (pt_cmpR op_eq (pv 3) pe_int (nomark _)) (pss_one (ps_ret (pe_op op_catU (pe_slice sl_tupU (pv 2) (po_some (pv 4)) po_none) (pe_slice sl_tupU (pv 2) po_none (po_some (pv 4)))))) pss_nil)
      <| pss_cons (ps_if (pt_cmpR op_eq (pv 3) pe_int (nomark _)) (pss_one (ps_ret (pe_tupF (pa_cons (pv 2) pa_nil)))) pss_nil)
      <| pss_cons (ps_if (pt_cmpR op_eq (pv 3) pe_int (nomark _)) (pss_one (ps_ret (pe_op op_catU (pv 2) (pe_tupF (pa_cons (pv 1) pa_nil))))) pss_nil)
      <| pss_cons (ps_if (pt_cmpR op_eq (pv 3) pe_int (nomark _)) (pss_one (ps_ret (pe_call GA.ok hr rfl GA.g GA.kp GA.b .nil pass0 (pa_cons (pv 0) (pa_cons pe_int pa_nil))))) pss_nil)
      <| pss_one (ps_ret (pe_op op_catU (pe_slice sl_tupU (pv 2) po_none (po_some (pv 4))) (pe_slice sl_tupU (pv 2) (po_some (pe_op op_add (pv 4) pe_int)) po_none))), ?_⟩
    have ln := lot_len il
    have ln' : (ns.map V.int).length ≤ 12 := by rw [List.length_map]; omega
    refine ⟨_, rfl, p, c, _, rfl, D, by decide, by decide, fun wy H1 w0 w1 D1 K1 => ⟨_, rfl, _, rfl, a, _, rfl, .inr (kpT tx D K1).sq, _, _, rfl, rfl, p, c, _, rfl, D1, by omega, by omega, fun at' H2 a0 a1 D2 K2 => ⟨_, _, rfl, ?_⟩⟩⟩
    have K12 := K1.trans K2
    have t2 := kpT (kpT tx D K1) D1 K2
    have aL : ∀ {M : Hp}, Al M (ns.map V.int) := al_lot il hn2
    have z30 : ∀ {m : Nat}, m ≤ 1000 → m ≤ sizeLine := fun h => by rw [sizeLine_eq]; omega
    have fin : ∀ (r : Addr) (M : Hp) (xs : List V), Same H2 M → TupX M r xs → Al M xs → xs.length ≤ 40 → Q (.ref r) M := fun r M xs s t al l => k _ M (bnt_tup t al l) (D2.same s) (K12.trans (kp_same s))
    refine ⟨_, rfl, rfl, _, rfl, ite2 (fun _ => ?_) (fun _ => ?_)⟩
    · refine ⟨_, rfl, a, _, rfl, .inr t2.sq, fun l hl => ?_⟩
      obtain ⟨ds, g1, g2, g3⟩ := (aL (M := upd H2 l (.lst (ns.map V.int)))).data
      rw [List.length_map] at g1
      exact k _ _ ⟨.list ds, none, .lst trivial upd_same (by rw [List.length_map]; exact g1) g2, (tame_big g3 (by omega)).2, .oth (.lst upd_same) (by decide), nt_lst upd_same⟩ (D2.new hl) (K12.trans (kp_new hl))
    refine ⟨_, rfl, rfl, _, rfl, ite2 (fun _ => ?_) (fun _ => ?_)⟩
    · exact ⟨_, rfl, a, _, rfl, t2.sq, fun r us hr => fin r _ _ (same_new hr) .of (aL.sub fun x hx => List.mem_reverse.mp hx) (by rw [List.length_reverse]; omega)⟩
    refine ⟨_, rfl, rfl, _, rfl, ite2 (fun _ => ?_) (fun _ => ?_)⟩
    · -- an odd item
      refine ⟨_, rfl, _, rfl, _, rfl, _, _, rfl, rfl, ⟨by decide, by decide, by decide⟩, by show 1 ≤ sizeLine; exact z30 (by decide), fun t ht => ⟨by show 1 ≤ sizeLine; exact z30 (by decide), fun l0 hl0 d0 hd0 => ⟨by show 12 ≤ sizeLine; exact z30 (by decide), fun lm hlm => ?_⟩⟩⟩
      have s1 : Same H2 (upd H2 t (.tup [.int 0])) := same_new ht
      have s2 := s1.trans (same_new (o := .lst [.int 0]) hl0)
      have s3 := s2.trans (same_new (o := .dK []) hd0)
      have s4 : Same H2 (upd (upd (upd (upd H2 t (.tup [.int 0])) l0 (.lst [.int 0])) d0 (.dK [])) lm (.lst [.bl true, .bl false, .non, .str "0", .int (-1), .int n, .int (10 ^ (39 : Int).toNat), .ref t, .ref l0, .ref d0, .int 1, .int 0])) := s3.trans (same_new hlm)
      have D4 := D2.same s4
      obtain ⟨lp, lc⟩ := D2.inp (s3.free hlm)
      obtain ⟨tp, tc⟩ := D2.inp ht
      obtain ⟨l0p, l0c⟩ := D2.inp (s1.free hl0)
      obtain ⟨dp, dc⟩ := D2.inp (s2.free hd0)
      refine ⟨p, c, lm, _, rfl, D4, upd_same, lp, lc, by show 1 ≤ 12; decide, by show 12 < 1000; decide, fun i v M e D5 K5 => ?_⟩
      have mo : ∀ {x : Addr} {o : HO}, x ≠ p → x ≠ c → (upd (upd (upd (upd H2 t (.tup [.int 0])) l0 (.lst [.int 0])) d0 (.dK [])) lm (.lst [.bl true, .bl false, .non, .str "0", .int (-1), .int n, .int (10 ^ (39 : Int).toNat), .ref t, .ref l0, .ref d0, .int 1, .int 0])) x = some o → M x = some o := fun h1 h2 h3 => K5 _ _ h1 h2 h3
      have e1 : (upd H2 t (.tup [V.int 0])) t = some (.tup [.int 0]) := upd_same
      have e2 : (upd (upd H2 t (.tup [V.int 0])) l0 (.lst [.int 0])) l0 = some (.lst [.int 0]) := upd_same
      have mt : M t = some (.tup [.int 0]) := mo tp tc (by rw [upd_ne (ne_of_none (by rw [upd_ne (ne_of_none (by rw [upd_ne (ne_of_none e1 hl0)]; exact e1) hd0), upd_ne (ne_of_none e1 hl0)]; exact e1) hlm), upd_ne (ne_of_none (by rw [upd_ne (ne_of_none e1 hl0)]; exact e1) hd0), upd_ne (ne_of_none e1 hl0)]; exact e1)
      have ml : M l0 = some (.lst [.int 0]) := mo l0p l0c (by rw [upd_ne (ne_of_none (by rw [upd_ne (ne_of_none e2 hd0)]; exact e2) hlm), upd_ne (ne_of_none e2 hd0)]; exact e2)
      have md : M d0 = some (.dK []) := mo dp dc (by rw [upd_ne (ne_of_none upd_same hlm)]; exact upd_same)
      have k5 := K12.trans ((kp_same s4).trans K5)
      have t5 : TupX M a (ns.map V.int) := kpT (t2.same s4) D4 K5
      have one : ∀ (i : Nat) (v : V) (d : PyData), ([V.int 0] : List V)[i]? = some v → ([PyData.int 0] : List PyData)[i]? = some d → DV M Any v d := fun i v d z1 z2 => by
        cases i with
        | zero => cases z1; cases z2; exact .int 0
        | succ i => simp at z1
      have odd : ∃ d, DV M Any v d ∧ Tame 0 d := by
        have hv := List.mem_of_getElem? e
        simp only [List.mem_cons, List.not_mem_nil, or_false] at hv
        rcases hv with rfl | rfl | rfl | rfl | rfl | rfl | rfl | rfl | rfl | rfl | rfl | rfl
        · exact ⟨_, .bl true, tame_plain (.inl ⟨_, rfl⟩) _⟩
        · exact ⟨_, .bl false, tame_plain (.inl ⟨_, rfl⟩) _⟩
        · exact ⟨_, .non, tame_plain (.inr rfl) _⟩
        · exact ⟨_, .str "0", ⟨by simp only [PyData.showable], by decide +kernel, by decide +kernel, by decide +kernel, by decide +kernel⟩⟩
        · exact ⟨_, .int (-1), ⟨by decide +kernel, by decide +kernel, by decide +kernel, by decide +kernel, by decide +kernel⟩⟩
        · exact ⟨_, .int n, tame_small (by omega) 0⟩
        · exact ⟨_, .int _, ⟨by decide +kernel, by decide +kernel, by simp only [PyData.depth]; omega, by simp only [PyData.bulk]; omega, by simp only [slimD]⟩⟩
        · exact ⟨.tuple [.int 0], .tup trivial (.inl mt) rfl one, ⟨by decide +kernel, by decide +kernel, by decide +kernel, by decide +kernel, by decide +kernel⟩⟩
        · exact ⟨.list [.int 0], .lst trivial ml rfl one, ⟨by decide +kernel, by decide +kernel, by decide +kernel, by decide +kernel, by decide +kernel⟩⟩
        · exact ⟨.dict [], .dct (kvs := []) (ds := []) trivial md rfl (fun i v d z => by simp at z), ⟨by decide +kernel, by decide +kernel, by decide +kernel, by decide +kernel, by decide +kernel⟩⟩
        · exact ⟨_, .int 1, tame_small (by omega) 0⟩
        · exact ⟨_, .int 0, tame_small (by omega) 0⟩
      obtain ⟨dv, od1, od2⟩ := odd
      refine ⟨_, rfl, _, rfl, _, rfl, a, _, rfl, t5, fun r1 M1 m1 u1 => ⟨_, rfl, by show 1 ≤ sizeLine; exact z30 (by decide), fun r2 us2 hr2 => ?_⟩⟩
      have m2 : Same M (upd M1 r2 (.frz (tobj us2) (.tup [v]))) := m1.trans (same_new hr2)
      have cl1 := cutV_le (xs := ns.map V.int) (lo := none) (hi := some at')
      have cl2 := cutV_le (xs := ns.map V.int) (lo := some at') (hi := none)
      refine ⟨r1, r2, _, [v], rfl, rfl, u1.same (same_new hr2), .of, by show _ + 1 ≤ sizeLine; exact z30 (by omega), fun r3 M3 m3 u3 => ⟨_, rfl, _, rfl, _, rfl, a, _, rfl, t5.same (m2.trans m3), fun r4 M4 m4 u4 => ?_⟩⟩
      refine ⟨r3, r4, _, _, rfl, rfl, u3.same m4, u4, by rw [List.length_append]; show _ + 1 + _ ≤ sizeLine; exact z30 (by omega), fun r5 M5 m5 u5 => ?_⟩
      have mm' := ((m2.trans m3).trans m4).trans m5
      have al : Al M5 ((cutV (ns.map V.int) none (some at') ++ [v]) ++ cutV (ns.map V.int) (some at') none) := ((aL.cut.app fun x hx => by rw [List.mem_singleton.mp hx]; exact ⟨dv, od1.same mm', od2⟩).app aL.cut)
      exact k _ M5 (bnt_tup u5 al (by rw [List.length_append, List.length_append]; show _ + 1 + _ ≤ 40; omega)) (D5.same mm') (k5.trans (kp_same mm'))
    refine ⟨_, rfl, rfl, _, rfl, ite2 (fun _ => ?_) (fun _ => ?_)⟩
    · refine ⟨_, rfl, _, rfl, _, rfl, a, _, rfl, t2, fun r1 M1 m1 u1 => ⟨_, rfl, _, rfl, _, rfl, a, _, rfl, t2.same m1, fun r2 M2 m2 u2 => ⟨_, rfl, _, rfl, r2, _, rfl, u2, fun r3 M3 m3 u3 => ?_⟩⟩⟩
      have cl1 := cutV_le (xs := ns.map V.int) (lo := none) (hi := some at')
      have cl2 := cutV_le (xs := ns.map V.int) (lo := some at') (hi := none)
      have cl3 := cutV_le (xs := cutV (ns.map V.int) none (some at')) (lo := some (-1)) (hi := none)
      refine ⟨r1, r3, _, _, rfl, rfl, (u1.same m2).same m3, u3, z30 (by omega), fun r4 M4 m4 u4 => ⟨_, rfl, _, rfl, _, rfl, a, _, rfl, t2.same (((m1.trans m2).trans m3).trans m4), fun r5 M5 m5 u5 => ?_⟩⟩
      refine ⟨r4, r5, _, _, rfl, rfl, u4.same m5, u5, by rw [List.length_append]; exact z30 (by omega), fun r6 M6 m6 u6 => fin r6 M6 _ (((((m1.trans m2).trans m3).trans m4).trans m5).trans m6) u6 ((aL.cut.app aL.cut.cut).app aL.cut) (by rw [List.length_append, List.length_append]; omega)⟩
    refine ⟨_, rfl, rfl, _, rfl, ite2 (fun _ => ?_) (fun _ => ?_)⟩
    · have cl1 := cutV_le (xs := ns.map V.int) (lo := none) (hi := some at')
      have cl2 := cutV_le (xs := ns.map V.int) (lo := some at') (hi := none)
      exact ⟨_, rfl, _, rfl, _, rfl, a, _, rfl, t2, fun r1 M1 m1 u1 => ⟨_, rfl, _, rfl, _, rfl, a, _, rfl, t2.same m1, fun r2 M2 m2 u2 => ⟨r1, r2, _, _, rfl, rfl, u1.same m2, u2, z30 (by omega), fun r3 M3 m3 u3 => fin r3 M3 _ ((m1.trans m2).trans m3) u3 (aL.cut.app aL.cut) (by rw [List.length_append]; omega)⟩⟩⟩
    refine ⟨_, rfl, rfl, _, rfl, ite2 (fun _ => ?_) (fun _ => ?_)⟩
    · exact ⟨_, rfl, by show 1 ≤ sizeLine; exact z30 (by decide), fun r us hr => fin r _ [.ref a] (same_new hr) .of (fun x hx => by rw [List.mem_singleton.mp hx]; exact ⟨_, dv_lot (.inr (t2.same (same_new hr))), tame_lot il hn2⟩) (by show 1 ≤ 40; decide)⟩
    refine ⟨_, rfl, rfl, _, rfl, ite2 (fun _ => ?_) (fun _ => ?_)⟩
    · refine ⟨_, rfl, _, rfl, by show 1 ≤ sizeLine; exact z30 (by decide), fun r us hr => ⟨a, r, _, _, rfl, rfl, t2.same (same_new hr), .of, by show _ + 1 ≤ sizeLine; exact z30 (by omega), fun r3 M3 m3 u3 => ?_⟩⟩
      exact fin r3 M3 _ ((same_new hr).trans m3) u3 (aL.app fun x hx => by rw [List.mem_singleton.mp hx]; exact ⟨_, .int n, tame_small (by omega) 0⟩) (by rw [List.length_append]; show _ + 1 ≤ 40; omega)
    refine ⟨_, rfl, rfl, _, rfl, ite2 (fun _ => ?_) (fun _ => ?_)⟩
    · refine ⟨_, rfl, p, c, 2, rfl, by decide, D2, fun v e M tm dv nt D3 K3 => ?_⟩
      have th : ∃ o, Th M v o := by
        cases dv with
        | non => exact ⟨_, .oth .non (by decide)⟩
        | bl b => exact ⟨_, .oth (.bl b) (by decide)⟩
        | int i => exact ⟨_, .oth (.int i) (by decide)⟩
        | str x => exact ⟨_, .oth (.str x) (by decide)⟩
        | lst _ e => exact ⟨_, .oth (.lst e) (by decide)⟩
        | dct _ e => exact ⟨_, .oth (.dct e) (by decide)⟩
        | @tup r xs ds _ e l h =>
          refine ⟨some xs, .tup e (fun x hx => ?_) ?_⟩
          · obtain ⟨i, hi⟩ := List.getElem?_of_mem hx
            have hi' : i < ds.length := by rw [← l]; exact (List.getElem?_eq_some_iff.mp hi).1
            exact (h i x _ hi (List.getElem?_eq_getElem hi')).vt
          · rcases e with e | e
            · exact absurd e (nt r xs rfl).1
            · exact (nt r xs rfl).2 e
      obtain ⟨o, ho⟩ := th
      exact k v M ⟨e, o, dv.any, tm.up, ho, nt⟩ D3 (K12.trans K3)
    have cl1 := cutV_le (xs := ns.map V.int) (lo := none) (hi := some at')
    have cl2 := cutV_le (xs := ns.map V.int) (lo := some (at' + 1)) (hi := none)
    exact ⟨_, rfl, _, rfl, _, rfl, a, _, rfl, t2, fun r1 M1 m1 u1 => ⟨_, rfl, _, rfl, _, _, rfl, rfl, _, rfl, a, _, rfl, t2.same m1, fun r2 M2 m2 u2 => ⟨r1, r2, _, _, rfl, rfl, u1.same m2, u2, z30 (by omega), fun r3 M3 m3 u3 => fin r3 M3 _ ((m1.trans m2).trans m3) u3 (aL.cut.app aL.cut) (by rw [List.length_append]; omega)⟩⟩⟩
end
end K0

set_option Elab.async false
set_option linter.all false
set_option maxRecDepth 100000
set_option maxHeartbeats 8000000
/-! What a call returns, or which error it raises; defs that show, and that make lambdas. -/
namespace K0
open PySem PySem.Spec L2
open PyProof.Rows hiding St
open KR (TupX tobj)
open LamX (ExtN Tabs TabB LamS lamCx tLam GivesTo CodeO)
abbrev lTold : Stmt := top 45
/-! ### what stays while tables grow -/
section
variable {H H' : Hp}
theorem ext_at {b : Addr} {o : HO} (e : ExtN H H') (h : H b = some o) (n : ∀ ps, o ≠ .tbl ps) : H' b = some o := e b o h n
theorem ext_tup (e : ExtN H H') : ∀ a x, H a = some (.tup x) → H' a = some (.tup x) := fun a x h => e a _ h fun _ z => nomatch z
theorem ext_same (s : Same H H') : ExtN H H' := fun b o h _ => s b o h
theorem ext_new {l : Addr} {o : HO} (h : H l = none) : ExtN H (upd H l o) := ext_same (same_new h)
theorem TupX.ext {a : Addr} {xs : List V} (t : TupX H a xs) (e : ExtN H H') : TupX H' a xs := let ⟨us, h⟩ := t; ⟨us, e a _ h fun _ z => nomatch z⟩
theorem TT.ext {a : Addr} {xs : List V} (t : TT H a xs) (e : ExtN H H') : TT H' a xs := t.imp (fun h => ext_tup e _ _ h) fun h => TupX.ext h e
theorem GW.ext {w : Addr} {n : Nat} {L : List (Int × Int)} (g : GW H w n L) (e : ExtN H H') : GW H' w n L := ⟨g.web.mono (ext_tup e), g.n1, g.n2, g.bel, g.srt, g.few⟩
theorem VT.ext {v : V} {t : String} (h : VT H v t) (e : ExtN H H') : VT H' v t := by
  cases h with
  | non => exact .non
  | bl b => exact .bl b
  | int i => exact .int i
  | str x => exact .str x
  | lst q => exact .lst (e _ _ q fun _ z => nomatch z)
  | tup q => exact .tup (TT.ext q e)
  | dct q => exact .dct (e _ _ q fun _ z => nomatch z)
theorem Th.ext {v : V} {o : Option (List V)} (h : Th H v o) (e : ExtN H H') : Th H' v o := by
  cases h with
  | tup q h l => exact .tup (TT.ext q e) (fun x hx => let ⟨t, z⟩ := h x hx; ⟨t, VT.ext z e⟩) l
  | oth h ne => exact .oth (VT.ext h e) ne
theorem DV.ext {T : Addr → Prop} {v : V} {d : PyData} (h : DV H T v d) (e : ExtN H H') : DV H' T v d := by
  induction h with
  | non => exact .non
  | bl b => exact .bl b
  | int i => exact .int i
  | str x => exact .str x
  | lst t q l _ ih => exact .lst t (e _ _ q fun _ z => nomatch z) l ih
  | tup t q l _ ih => exact .tup t (TT.ext q e) l ih
  | dct t q l _ ih => exact .dct t (e _ _ q fun _ z => nomatch z) l ih
theorem Deck.ext {p c : Addr} (D : Deck H p c) (e : ExtN H H') : Deck H' p c := by
  obtain ⟨xs, m, n, h1, h2, h3⟩ := D.ex
  exact ⟨xs, m, n, e _ _ h1 (fun _ z => nomatch z), e _ _ h2 (fun _ z => nomatch z), h3⟩
theorem tabs_same {T : List (Addr × Str)} (t : Tabs T H) (s : Same H H') : Tabs T H' := t.ext s
theorem tabs_kp {T : List (Addr × Str)} {p c : Addr} (t : Tabs T H) (D : Deck H p c) (k : Kp p c H H') : Tabs T H' := fun q hq => by
  obtain ⟨ps, h1, h2, h3⟩ := t q hq
  obtain ⟨xs, m, n, e1, e2, _⟩ := D.ex
  have ko : ∀ {b : Addr} {o : HO}, H b = some o → (∀ z, o ≠ .dK z) → (∀ z, o ≠ .lst z) → H' b = some o := fun e z1 z2 =>
    k _ _ (fun z => by subst z; rw [e1] at e; cases e; exact z1 _ rfl) (fun z => by subst z; rw [e2] at e; cases e; exact z2 _ rfl) e
  refine ⟨ps, ko h1 (fun _ z => nomatch z) (fun _ z => nomatch z), h2, fun pos cv hc => ?_⟩
  obtain ⟨cc, z1, z2⟩ := h3 pos cv hc
  exact ⟨cc, z1, ko z2 (fun _ z => by unfold CodeO at z; cases z) (fun _ z => by unfold CodeO at z; cases z)⟩
end
/-! ### defs called where nothing is being shown -/
/-- a def's promise, where nothing is being shown -/
structure FnG (P : Program) (w : World) (K : PySem.W.Frag) (mg : Str → Option Value) (base : Heap) (CX : CXT) (k : Nat) (f : Addr) (fd : FuncData) (ps : List Str) (sp : Sp) : Prop where
  len : ∀ vs H Q E, sp vs H Q E → vs.length = ps.length
  run : ∀ (A : Around) (outer : List Env) (s : Shared) (H : Hp) (args : Args) (us : List Value) (vs : List V) (Q : VK) (E : XK), A.guards = some [] → Room k A → Env0 P w K mg base A outer s H → BindsTo s fd args (ps.zip us) → Vals vs us → sp vs H Q E →
    codeAny (model P w) A (.call (.ref f) args) (CR CX outer P w H s Q E) s
/-- as Fun, its code object told -/
structure FunC (K : PySem.W.Frag) (x qual : Str) (st : Stmt) (f : Addr) (fd : FuncData) (c : Addr) : Prop where
  ex : ∃ (oc : Value) (od : Option Addr) (kV doc pm : Value) (an : Option Addr) (ct : Value) (osl : Array (Option Value)),
    fd = PySem.W.fnOf x qual (defArgs st) (defBody st) (defScope st) .none kV doc pm an (.ref c) ct ∧ K.lookup f = some ⟨oc, od, .func fd, osl⟩ ∧ PySem.W.codeIn K (.ref c) qual = true
  kp : PySem.W.keepIn K (.ref f) = true
section
variable {P : Program} {w : World} {K : PySem.W.Frag} {mg : Str → Option Value} {base : Heap}
theorem FunC.fun {x qual : Str} {st : Stmt} {f c : Addr} {fd : FuncData} (F : FunC K x qual st f fd c) : Fun K x qual st f fd :=
  let ⟨oc, od, kV, doc, pm, an, ct, osl, h⟩ := F.ex; ⟨⟨oc, od, kV, doc, pm, an, .ref c, ct, osl, h⟩, F.kp⟩
/-- at one place: the body as a term of rules -/
theorem FunC.run1 {x qual : Str} {st : Stmt} {f c : Addr} {fd : FuncData} {N ps : List Str} {k : Nat} (F : FunC K x qual st f fd c) (S : FnScope N ps (defScope st))
    {A : Around} {outer : List Env} {s : Shared} {H : Hp} {args : Args} {us : List Value} {vs : List V} {Q : VK} {E : XK} (hr : Room (k + 1) A) (e0 : Env0 P w K mg base A outer s H) (hb : BindsTo s fd args (ps.zip us)) (r : Vals vs us) (hl : vs.length = ps.length)
    (hbody : Room k (A.deeper (envOfC qual (defScope st) s.heap.objs.size f (.ref c))) → ∃ t, PSs (cxOf CX0 P w K mg base N qual (defScope st) f (.ref c) A outer s H E).nox (defBody st) t ∧ t { nx := fun _ H' => Q .non H', rt := Q } (start N vs) H) :
    codeAny (model P w) A (.call (.ref f) args) (CR CX0 outer P w H s Q E) s := by
  obtain ⟨oc, od, kV, doc, pm, an, ct, osl, rfl, lk, hcd⟩ := F.ex
  exact LamX.run_ofS lk hcd S hr e0 hb r hl fun h => let ⟨t, h1, h2⟩ := hbody h; ⟨t, h1.nox, h2⟩
theorem FunC.okG {x qual : Str} {st : Stmt} {f c : Addr} {fd : FuncData} {N ps : List Str} {k : Nat} {sp : Sp} (F : FunC K x qual st f fd c) (S : FnScope N ps (defScope st)) (len : ∀ vs H Q E, sp vs H Q E → vs.length = ps.length)
    (hbody : ∀ (A : Around) (outer : List Env) (s : Shared) (H : Hp) (vs : List V) (Q : VK) (E : XK), A.guards = some [] → Room k (A.deeper (envOfC qual (defScope st) s.heap.objs.size f (.ref c))) → sp vs H Q E →
      ∃ t, PSs (cxOf CX0 P w K mg base N qual (defScope st) f (.ref c) A outer s H E).nox (defBody st) t ∧ t { nx := fun _ H' => Q .non H', rt := Q } (start N vs) H) : FnG P w K mg base CX0 (k + 1) f fd ps sp :=
  ⟨len, fun A outer s H args us vs Q E hg hr e0 hb r hsp => F.run1 S hr e0 hb r (len _ _ _ _ hsp) fun h => hbody A outer s H vs Q E hg h hsp⟩
end
section
variable {X : Cx} {CX : CXT} {k : Nat} {f : Addr} {fd : FuncData} {ps : List Str} {sp : Sp} {E : XK} {x : Str} {p pos : Pos} {e : Expr} {es : List Expr} {t : TA}
theorem pe_callG (F : FnG X.prog X.w X.K X.mg X.base CX k f fd ps sp) (gu : X.A.guards = some []) (hr : Room k X.A) (hg : Gl X x) (hm : X.mg x = some (.ref f)) (hk : PySem.W.keepIn X.K (.ref f) = true) (hb : Binds X.K fd ps []) (hx : Passes CX X E)
    (ha : PA X (e :: es) t) (hdb : (x == ("__debug__" : Str)) = false := by decide) (he : starEach (e :: es) X.env = (false, eval e X.env) :: starEach es X.env := by rfl) (hpl : (backTo pos (starEach es X.env)).any (·.1) = false := by rfl) :
    PE X (.Call (.Name x p) (e :: es) [] pos) (tCall sp [] E t) := by
  refine ⟨fun pins s σ H Q I h => wpAny_Call_Name_kw (ld_glob I hg hm ?_ hdb)⟩
  refine PySem.W.callWith_K (h₀ := X.base) I.ok.mod.kin hk (thn (ha.run pos pins s σ H _ I h) fun us s1 ⟨vs, H1, I1, r, q⟩ => ⟨I1.kIn, ?_⟩) he hpl
  have q : sp (vs ++ []) H1 Q E := q
  rw [List.append_nil] at q
  have hl : us.length = ps.length := by rw [← r.length]; exact F.len _ _ _ _ q
  have b := hb s1 us I1.kIn (by rw [List.append_nil]; exact hl)
  rw [List.append_nil] at b
  refine wpAny_call (codeAny_mono (F.run X.A X.stack s1 H1 ⟨us, []⟩ us vs Q E gu hr I1.env0 b r q) fun r s' hq => ?_)
  match r, hq with
  | .error e, hq => exact hx pins σ H1 s1 e s' I1 hq
  | .ok (.ret u), hq => exact I1.after hq
  | .ok .next, hq => exact False.elim hq
  | .ok .brk, hq => exact False.elim hq
  | .ok .cont, hq => exact False.elim hq
/-- all by name -/
theorem pe_callN {ks : List Str} {g : List Value → List Value} {gV : List V → List V} {kws : List Keyword} {tk : TA} (F : FnOk X.prog X.w X.K X.mg X.base CX k f fd ps sp) (hr : Room k X.A) (hg : Gl X x) (hm : X.mg x = some (.ref f)) (hk : PySem.W.keepIn X.K (.ref f) = true)
    (hb : ∀ (s : Shared) (ws : List Value), ws.length = ps.length → BindsTo s fd ⟨[], ks.zip ws⟩ (ps.zip (g ws))) (hgr : ∀ {zs : List V} {ws : List Value}, Vals zs ws → Vals (gV zs) (g ws)) (hgl : ∀ zs : List V, (gV zs).length = ps.length → zs.length = ps.length) (hx : Passes CX X E)
    (hkw : PK X kws tk) (hall : (backToKw pos (keywordEach kws X.env)).all (·.1.isSome) = true := by rfl) (hks : (backToKw pos (keywordEach kws X.env)).filterMap (·.1) = ks := by rfl) (hdb : (x == ("__debug__" : Str)) = false := by decide)
    (hpl : ((backTo pos (starEach [] X.env)).any (·.1) || (backToKw pos (keywordEach kws X.env)).any (·.1.isNone)) = false := by rfl) :
    PE X (.Call (.Name x p) [] kws pos) (fun σ H Q => tk σ H fun zs H2 => sp (gV zs) H2 Q E) := by
  refine ⟨fun pins s σ H Q I h => wpAny_Call_Name_kw (ld_glob I hg hm ?_ hdb)⟩
  refine PySem.W.callWith_KW0 (h₀ := X.base) I.ok.mod.kin hk hall (thn (hkw.run pos pins s σ H _ I h) fun ws s2 ⟨zs, H2, I2, rz, q2⟩ => ⟨I2.kIn, ?_⟩) hpl
  rw [hks]
  have q2 : sp (gV zs) H2 Q E := q2
  have hl := F.len _ _ _ _ q2
  have lz := hgl zs hl
  refine wpAny_call (codeAny_mono (F.run X.A X.stack s2 H2 ⟨[], ks.zip ws⟩ (g ws) (gV zs) Q E hr I2.env0 (hb s2 ws (by rw [← rz.length]; exact lz)) (hgr rz) q2) fun r s' hq => ?_)
  match r, hq with
  | .error e, hq => exact hx pins σ H2 s2 e s' I2 hq
  | .ok (.ret u), hq => exact I2.after hq
  | .ok .next, hq => exact False.elim hq
  | .ok .brk, hq => exact False.elim hq
  | .ok .cont, hq => exact False.elim hq
end
/-! ### what is told of a deed -/
abbrev nTold : List Str := ["_law_deed", "e"]
theorem scTold : FnScope nTold ["_law_deed"] (defScope lTold) := ⟨rfl, rfl, rfl, by decide +kernel, rfl, by decide +kernel, by decide +kernel⟩
/-- a pair of a word and a value is returned -/
def Pr2 (x : Str) (v : V) (H : Hp) (Q : VK) : Prop := ∀ t, H t = none → Q (.ref t) (upd H t (.tup [.str x, v]))
def TT2 (CL CT : Addr) : (XK → Hp → VK → Prop) → Hp → VK → Prop := fun tl H Q =>
  tl (fun cls d H' => (cls = .ref CL ∧ ∃ d0 v, d = some d0 ∧ H' d0 = some (.xd [("thing", v)]) ∧ Pr2 "lot" v H' Q) ∨ (cls = .ref CT ∧ ∃ d0 v, d = some d0 ∧ H' d0 = some (.xd [("number", v)]) ∧ Pr2 "tie" v H' Q)) H (fun v H' => Pr2 "told" v H' Q)
structure ToldT (P : Program) (K : PySem.W.Frag) (mg : Str → Option Value) (CL CT lI tI g : Addr) (fd : FuncData) : Prop where
  L : ErX P K mg "BadLot" CL lI "thing"
  N : ErX P K mg "BadTie" CT tI "number"
  ll : PySem.W.subIn K (.ref CL) (.ref CL) = some true
  tl : PySem.W.subIn K (.ref CT) (.ref CL) = some false
  tt : PySem.W.subIn K (.ref CT) (.ref CT) = some true
  F : Fun K "_law_told" "_law_told" lTold g fd
  b : Binds K fd ["_law_deed"] []
  gm : mg "_law_told" = some (.ref g)
theorem told_ok {X : Cx} {CL CT lI tI g : Addr} {fd : FuncData} {cdg : Value} {q : Str} (T : ToldT X.prog X.K X.mg CL CT lI tI g fd) : GivesTo X nTold "_law_told" (defScope lTold) g cdg (defBody lTold) "_law_deed" q (TT2 CL CT) := by
  intro f c' s H Q tl act hc h
  have sz : ∀ {n : Nat}, n ≤ 100 → n ≤ sizeLine := fun h => by rw [sizeLine_eq]; omega
  refine ⟨_, pss_one (ps_try_all (X := (cxOf C8.CX0 X.prog X.w X.K X.mg X.base nTold "_law_told" (defScope lTold) g cdg X.A X.stack s H C8.E0).nox) (i := 1) (n := "e")
      (tb := fun W D σ H => ∃ Ech : XK, (∀ cls d σ' H', Ech cls d H' → W cls d σ' H') ∧ σ[0]? = some (some (.ref f)) ∧ H c' = some (CodeO c' q) ∧ tl Ech H (fun v H' => 2 ≤ sizeLine ∧ ∀ t, H' t = none → D.rt (.ref t) (upd H' t (.tup [.str "told", v]))))
      rfl rfl scTold.nd rfl rfl (fun W pn xe tk _ => ⟨fun pins s' σ H' D I h' => ?_⟩)
      (Cls.cons ⟨rfl, by decide, .inl T.L.g⟩ (fun a ob cls d pn hz hf => pss_one (ps_ret (pe_tup (pa_cons pe_str (pa_cons (pe_xf T.L.er.xf T.L.f1.no hz hf (pv 1)) pa_nil)))))
        (Cls.cons ⟨rfl, by decide, .inl T.N.g⟩ (fun a ob cls d pn hz hf => pss_one (ps_ret (pe_tup (pa_cons pe_str (pa_cons (pe_xf T.N.er.xf T.N.f1.no hz hf (pv 1)) pa_nil))))) Cls.nil))), ?_⟩
  · obtain ⟨Ech, hW, h1, h2, h3⟩ := h'
    exact (pss_one (ps_ret (pe_tup (pa_cons pe_str (pa_cons (act W pn xe Ech _ _ tk hW) pa_nil))))).run pins s' σ H' D I ⟨h1, h2, h3⟩
  · have x1 : PySem.W.exmOne X.K (.ref CL) (.ref CL) = some true := PySem.W.exm_ref T.L.er.eB T.L.er.cl.hd T.L.er.tC T.ll
    have x2 : PySem.W.exmOne X.K (.ref CT) (.ref CL) = some false := PySem.W.exm_ref T.L.er.eB T.L.er.cl.hd T.L.er.tC T.tl
    have x3 : PySem.W.exmOne X.K (.ref CT) (.ref CT) = some true := PySem.W.exm_ref T.N.er.eB T.N.er.cl.hd T.N.er.tC T.tt
    refine ⟨fun cls d H' => (cls = .ref CL ∧ ∃ d0 v, d = some d0 ∧ H' d0 = some (.xd [("thing", v)]) ∧ Pr2 "lot" v H' Q) ∨ (cls = .ref CT ∧ ∃ d0 v, d = some d0 ∧ H' d0 = some (.xd [("number", v)]) ∧ Pr2 "tie" v H' Q), fun cls d σ' H' z => ?_, rfl, hc, ?_⟩
    rotate_left
    · have h' := h
      unfold TT2 at h'
      have key : ∀ v H', Pr2 "told" v H' Q → 2 ≤ sizeLine ∧ ∀ t, H' t = none → Q (.ref t) (upd H' t (.tup [.str "told", v])) := fun v H' z => ⟨sz (by decide), z⟩
      have e : (fun (v : V) (H' : Hp) => 2 ≤ sizeLine ∧ ∀ t, H' t = none → Q (.ref t) (upd H' t (.tup [.str "told", v]))) = fun v H' => Pr2 "told" v H' Q := by
        funext v H'
        exact propext ⟨fun z => z.2, key v H'⟩
      show tl _ H (fun v H' => 2 ≤ sizeLine ∧ ∀ t, H' t = none → Q (.ref t) (upd H' t (.tup [.str "told", v])))
      rw [e]
      exact h'
    · intro hl
      have e1 : ∀ a : Addr, (List.set σ' 1 (some (V.ref a)))[1]? = some (some (V.ref a)) := fun a => by rw [List.getElem?_set_self (by rw [hl]; show 1 < 2; decide)]
      rcases z with ⟨rfl, d0, v, rfl, hd, k⟩ | ⟨rfl, d0, v, rfl, hd, k⟩
      · refine ⟨_, x1, fun _ a ha => ?_, fun z => nomatch z⟩
        exact ⟨_, e1 a, rfl, rfl, d0, _, v, rfl, hd, by simp [List.lookup], sz (by simp), fun t ht => k t ht⟩
      · refine ⟨_, x2, (fun z => nomatch z), fun _ => ⟨_, x3, fun _ a ha => ?_, fun z => nomatch z⟩⟩
        exact ⟨_, e1 a, rfl, rfl, d0, _, v, rfl, hd, by simp [List.lookup], sz (by simp), fun t ht => k t ht⟩
section
variable {X : Cx} {CL CT lI tI g c Pt : Addr} {fd : FuncData} {T : List (Addr × Str)} {k : Nat} {params : Arguments} {body : Expr} {scope : Scope} {t : XK → TE} {p lpos pos : Pos}
/-- what is told of a lambda -/
theorem pe_told (D : ToldT X.prog X.K X.mg CL CT lI tI g fd) (hg : Gl X "_law_told") (TB : TabB X.base X.mg c Pt) (hcode : X.env.code = .ref c) (hmT : (Pt, X.env.qual ++ "<lambda>") ∈ T) (hu : ∀ p ∈ T, p.1 = Pt → p.2 = X.env.qual ++ "<lambda>") (hr : Room (k + 2) X.A) (L : LamS X.env.scope scope)
    (hdef : defaultsOf params X.env = ([], [])) (hbind : ∀ (q : Str) (cl : List (Str × Addr)) (pm cv ctv : Value), bindArgs (PySem.W.kla_fn "<lambda>" q params body scope cl pm cv ctv) ⟨[], []⟩ = pure [])
    (hbody : ∀ (A : Around) (outer : List Env) (s : Shared) (H : Hp) (E : XK) (f c' : Addr), Room k (A.deeper (LamX.lamEnv X scope s.heap.objs.size f c')) → PE (lamCx X A outer s H E scope f c') body (t E)) :
    PE X (.Call (.Name "_law_told" p) [.Lambda params body scope lpos] [] pos) (tLam T (TT2 CL CT) t) := by
  obtain ⟨oc, od, kV, doc, pm, an, cdv, ct, osl, e, lk, hcd⟩ := D.F.ex
  have hb := D.b
  subst e
  exact LamX.pe_lamcall (a := "_law_deed") (Ng := nTold) hg D.gm D.F.kp lk hcd hb scTold rfl (.inl rfl) (told_ok D) TB hcode hmT hu hr L hdef hbind hbody
end
end K0

set_option Elab.async false
set_option linter.all false
set_option maxRecDepth 100000
set_option maxHeartbeats 8000000
/-! What is due of a lot. -/
namespace K0
open PySem PySem.Spec L2
open PyProof.Rows hiding St
open KR (TupX tobj)
open LamX (ExtN Tabs TabB LamS lamCx tLam GivesTo CodeO)
/-! ### rests of rests -/
theorem rest_rest {n : Nat} {ns : List Int} (h : IsLot n ns) : restN n (restN n ns) = ns := by
  refine inc_uniq (rest_lot n (restN n ns)).inc h.inc fun k => ?_
  rw [rest_mem, rest_mem]
  constructor
  · rintro ⟨h1, h2⟩
    exact Decidable.byContradiction fun z => h2 ⟨h1, z⟩
  · intro z
    exact ⟨h.bel k z, fun y => y.2 z⟩
theorem cut_rest {n : Nat} {L : List (Int × Int)} {ns : List Int} (hB : Bel n L) : cutN L (restN n ns) = cutN L ns := by
  unfold cutN cutG
  congr 1
  refine List.filter_congr fun i hi => ?_
  have hi' : i < L.length := List.mem_range.mp hi
  have e := List.getElem?_eq_getElem hi'
  rw [crs_at e, crs_at e]
  have b := hB _ (List.getElem_mem hi')
  have m : ∀ k : Int, 0 ≤ k ∧ k < n → decide (k ∈ restN n ns) = !decide (k ∈ ns) := fun k hk => by
    by_cases z : k ∈ ns
    · rw [decide_eq_true z, decide_eq_false (fun y => (rest_mem.mp y).2 z)] <;> rfl
    · rw [decide_eq_false z, decide_eq_true (rest_mem.mpr ⟨hk, z⟩)] <;> rfl
  rw [m _ (by omega), m _ (by omega)]
  cases decide ((L[i]).1 ∈ ns) <;> cases decide ((L[i]).2 ∈ ns) <;> rfl
/-! ### data -/
abbrev intsD (ns : List Int) : PyData := .tuple (ns.map PyData.int)
abbrev webD (n : Nat) (L : List (Int × Int)) : PyData := .tuple [.int n, .tuple (L.map pd)]
theorem its1 {H : Hp} {a : V} {b : PyData} (h1 : DV H Any a b) : ∀ (i : Nat) (v : V) (e : PyData), [a][i]? = some v → [b][i]? = some e → DV H Any v e := fun i v e z1 z2 => match i, z1, z2 with
  | 0, rfl, rfl => h1
  | n + 1, z1, _ => by simp at z1
theorem its2 {H : Hp} {a c : V} {b d : PyData} (h1 : DV H Any a b) (h2 : DV H Any c d) : ∀ (i : Nat) (v : V) (e : PyData), [a, c][i]? = some v → [b, d][i]? = some e → DV H Any v e := fun i v e z1 z2 => match i, z1, z2 with
  | 0, rfl, rfl => h1
  | n + 1, z1, z2 => its1 h2 n v e (by simpa using z1) (by simpa using z2)
theorem its3 {H : Hp} {a c u : V} {b d w : PyData} (h1 : DV H Any a b) (h2 : DV H Any c d) (h3 : DV H Any u w) : ∀ (i : Nat) (v : V) (e : PyData), [a, c, u][i]? = some v → [b, d, w][i]? = some e → DV H Any v e := fun i v e z1 z2 => match i, z1, z2 with
  | 0, rfl, rfl => h1
  | n + 1, z1, z2 => its2 h2 h3 n v e (by simpa using z1) (by simpa using z2)
theorem its4 {H : Hp} {a c u x : V} {b d w y : PyData} (h1 : DV H Any a b) (h2 : DV H Any c d) (h3 : DV H Any u w) (h4 : DV H Any x y) : ∀ (i : Nat) (v : V) (e : PyData), [a, c, u, x][i]? = some v → [b, d, w, y][i]? = some e → DV H Any v e := fun i v e z1 z2 => match i, z1, z2 with
  | 0, rfl, rfl => h1
  | n + 1, z1, z2 => its3 h2 h3 h4 n v e (by simpa using z1) (by simpa using z2)
theorem Prs.dv {H : Hp} {vs : List V} {L : List (Int × Int)} (p : Prs H vs L) : ∀ (i : Nat) (v : V) (d : PyData), vs[i]? = some v → (L.map pd)[i]? = some d → DV H Any v d := fun i v d z1 z2 => by
  obtain ⟨a, q, rfl, hq, h⟩ := p.get z1
  rw [List.getElem?_map, hq] at z2
  cases z2
  exact .tup trivial (.inl h) rfl (its2 (.int _) (.int _))
theorem Web.dv {H : Hp} {w : Addr} {n : Nat} {L : List (Int × Int)} (W : Web H w n L) : DV H Any (.ref w) (webD n L) := by
  obtain ⟨t, vs, h1, h2, h3⟩ := W.ex
  exact .tup trivial (.inl h1) rfl (its2 (.int _) (.tup trivial (.inl h2) (by rw [List.length_map, h3.len]) h3.dv))
theorem dv_pr {H : Hp} {t : Addr} {x : Str} {v : V} {d : PyData} (h : H t = some (.tup [.str x, v])) (D : DV H Any v d) : DV H Any (.ref t) (.tuple [.str x, d]) := .tup trivial (.inl h) rfl (its2 (.str x) D)
theorem tame_ints {ns : List Int} (h : ∀ i ∈ ns, 0 ≤ i ∧ i < 64) (l : ns.length ≤ 40) : Tame 2 (intsD ns) := by
  obtain ⟨g1, g2, g3, g4⟩ := ints_nice h
  have b2 : bb 2 = 320 := rfl
  exact ⟨by simp only [PyData.showable, g1], by simp only [PyData.leavesShort, g2], by simp only [PyData.depth, g3]; omega, by simp only [PyData.bulk]; omega, by simp only [slimD, slim_ints, Bool.and_true]; exact decide_eq_true (by rw [List.length_map]; omega)⟩
theorem tame_pd {q : Int × Int} (h1 : 0 ≤ q.1 ∧ q.1 < 64) (h2 : 0 ≤ q.2 ∧ q.2 < 64) : Tame 0 (pd q) := by
  obtain ⟨g1, g2, g3, g4⟩ := ints_nice (ns := [q.1, q.2]) fun i hi => by
    rcases List.mem_cons.mp hi with rfl | hi
    · exact h1
    · rw [List.mem_singleton.mp hi]; exact h2
  have e : pd q = .tuple ([q.1, q.2].map PyData.int) := rfl
  have b0 : bb 0 = 20 := rfl
  rw [e]
  exact ⟨by simp only [PyData.showable, g1], by simp only [PyData.leavesShort, g2], by simp only [PyData.depth, g3]; omega, by simp only [PyData.bulk]; have : ([q.1, q.2] : List Int).length = 2 := rfl; omega, by simp only [slimD, slim_ints, Bool.and_true]; exact decide_eq_true (by rw [List.length_map]; show 2 ≤ 60; decide)⟩
theorem tame_web {n : Nat} {L : List (Int × Int)} (hn : n ≤ 12) (hL : ∀ q ∈ L, (0 ≤ q.1 ∧ q.1 < 64) ∧ (0 ≤ q.2 ∧ q.2 < 64)) (l : L.length ≤ 40) : Tame 4 (webD n L) := by
  refine tame_tuple (fun d hd => ?_) (by show 2 ≤ 3; decide)
  rcases List.mem_cons.mp hd with rfl | hd
  · exact tame_small (by omega) 3
  · rw [List.mem_singleton.mp hd]
    exact (tame_big (fun e he => by
      obtain ⟨q, hq, rfl⟩ := List.mem_map.mp he
      exact tame_pd (hL q hq).1 (hL q hq).2) (by rw [List.length_map]; exact l)).1
theorem tame_word {x : Str} (h : x ∈ (["told", "lot", "tie"] : List Str)) (k : Nat) : Tame k (.str x) := by
  have z : ∀ y ∈ (["told", "lot", "tie"] : List Str), PyData.leavesShort 200 (.str y) = true ∧ y.cps.size ≤ 12 := by decide +kernel
  refine ⟨by simp only [PyData.showable], (z x h).1, by simp only [PyData.depth]; omega, ?_, by simp only [slimD]⟩
  have := (z x h).2
  have := bb_le k
  simp only [PyData.bulk]
  omega
theorem tame_pr {x : Str} {d : PyData} {k : Nat} (h : x ∈ (["told", "lot", "tie"] : List Str)) (t : Tame k d) : Tame (k + 1) (.tuple [.str x, d]) := tame_tuple (fun e he => by
  rcases List.mem_cons.mp he with rfl | he
  · exact tame_word h k
  · rw [List.mem_singleton.mp he]; exact t) (by simp)
theorem Tame.upTo {j k : Nat} {d : PyData} (t : Tame j d) (h : j ≤ k) : Tame k d := by
  induction h with
  | refl => exact t
  | step _ ih => exact ih.up
theorem Tame.fit {k : Nat} {d : PyData} (t : Tame k d) (h : k ≤ 5) : Fit d := by
  have t5 := t.upTo h
  have b5 : bb 5 = 20480 := rfl
  exact fit_of t5.sh t5.lv (by have := t5.dp; omega) (by have := t5.bk; omega)
theorem lot_small {n : Nat} {ns : List Int} (h : IsLot n ns) (hn : n ≤ 12) : (∀ i ∈ ns, 0 ≤ i ∧ i < 64) ∧ ns.length ≤ 40 := ⟨fun i hi => by have := h.bel i hi; omega, by have := lot_len h; omega⟩
theorem cut_small {L : List (Int × Int)} {ns : List Int} (h : L.length ≤ 40) : (∀ i ∈ cutN L ns, 0 ≤ i ∧ i < 64) ∧ (cutN L ns).length ≤ 40 := by
  refine ⟨fun i hi => ?_, Nat.le_trans (cut_len L ns L.length) h⟩
  obtain ⟨j, hj, rfl⟩ := List.mem_map.mp hi
  have := List.mem_range.mp (List.mem_filter.mp hj).1
  omega
theorem idx_small {ns : List Int} {k : Int} (h : ns.length ≤ 40) : 0 ≤ idx ns k ∧ idx ns k < 64 := by
  have : ns.idxOf k ≤ ns.length := List.idxOf_le_length
  unfold idx
  omega
theorem within_small {L : List (Int × Int)} {ns : List Int} (h : ns.length ≤ 40) : ∀ q ∈ withinL L ns, (0 ≤ q.1 ∧ q.1 < 64) ∧ (0 ≤ q.2 ∧ q.2 < 64) := fun q hq => by
  obtain ⟨p, _, rfl⟩ := List.mem_map.mp hq
  exact ⟨idx_small h, idx_small h⟩
/-- what is due of a lot: the web within it, or that it leaves none -/
def dueD (L : List (Int × Int)) (ms ns : List Int) : PyData := if ms = [] then .tuple [.str "lot", intsD ns] else .tuple [.str "told", webD ms.length (withinL L ms)]
theorem due_tame {n : Nat} {L : List (Int × Int)} {ms ns : List Int} (h1 : IsLot n ms) (h2 : IsLot n ns) (hn : n ≤ 12) (hL : L.length ≤ 40) : Tame 5 (dueD L ms ns) := by
  unfold dueD
  by_cases z : ms = []
  · rw [if_pos z]
    obtain ⟨a, b⟩ := lot_small h2 hn
    exact (tame_pr (by decide) ((tame_ints a b).upTo (by decide : 2 ≤ 4)))
  · rw [if_neg z]
    obtain ⟨a, b⟩ := lot_small h1 hn
    exact tame_pr (by decide) (tame_web (by have := lot_len h1; omega) (within_small b) (Nat.le_trans (within_len L ms) hL))
theorem fit2 {a b : PyData} (ha : Tame 5 a) (hb : Tame 5 b) : Fit (.list [a, b]) := by
  obtain ⟨h1, h2, h3, h4⟩ := all_of (k := 5) (ds := [a, b]) fun d hd => by
    rcases List.mem_cons.mp hd with rfl | hd
    · exact ha
    · rw [List.mem_singleton.mp hd]; exact hb
  have b5 : bb 5 = 20480 := rfl
  have l2 : ([a, b] : List PyData).length = 2 := rfl
  rw [l2] at h4
  exact fit_of (by simp only [PyData.showable, h1]) (by simp only [PyData.leavesShort, h2]) (by simp only [PyData.depth]; omega) (by simp only [PyData.bulk]; omega)
end K0

set_option Elab.async false
set_option linter.all false
set_option maxRecDepth 100000
set_option maxHeartbeats 8000000
/-! Whether what a lot tells is as it is due. -/
namespace K0
open PySem PySem.Spec L2
open PyProof.Rows hiding St
open KR (TupX tobj)
open LamX (ExtN Tabs TabB LamS lamCx tLam GivesTo CodeO lamS_by)
abbrev lAreLots : Stmt := top 46
/-! ### calls by name -/
/-- a def that may raise -/
structure DX (P : Program) (w : World) (K : PySem.W.Frag) (mg : Str → Option Value) (base : Heap) (name : Str) (k : Nat) (ps : List Str) (sp : Sp) (f : Addr) (fd : FuncData) : Prop where
  g : mg name = some (.ref f)
  kp : PySem.W.keepIn K (.ref f) = true
  b : Binds K fd ps []
  ok : FnOk P w K mg base (L2.CX P w) k f fd ps sp
def Kw1 (fd : FuncData) (k : Str) : Prop := ∀ (s : Shared) (a : Value), BindsTo s fd ⟨[], [(k, a)]⟩ [(k, a)]
/-- two parameters, by name: in their order, and in the other one -/
def Kw2 (fd : FuncData) (k1 k2 : Str) : Prop := ∀ (s : Shared) (a b : Value), BindsTo s fd ⟨[], [(k1, a), (k2, b)]⟩ [(k1, a), (k2, b)] ∧ BindsTo s fd ⟨[], [(k2, b), (k1, a)]⟩ [(k1, a), (k2, b)]
def rev2 {α : Type} : List α → List α
  | [a, b] => [b, a]
  | _ => []
section
variable {X : Cx} {CX : CXT} {k : Nat} {f : Addr} {fd : FuncData} {sp : Sp} {E : XK} {x k1 k2 : Str} {p pos q1 q2 : Pos} {e1 e2 : Expr} {t1 t2 : TE}
theorem pe_kw1 (F : FnOk X.prog X.w X.K X.mg X.base CX k f fd [k1] sp) (hr : Room k X.A) (hg : Gl X x) (hm : X.mg x = some (.ref f)) (hk : PySem.W.keepIn X.K (.ref f) = true) (hb : Kw1 fd k1) (hx : Passes CX X E) (h1 : PE X e1 t1)
    (hdb : (x == ("__debug__" : Str)) = false := by decide) : PE X (.Call (.Name x p) [] [⟨some k1, e1, q1⟩] pos) (fun σ H Q => t1 σ H fun v H1 => sp [v] H1 Q E) := by
  have h := pe_callN (p := p) (pos := pos) (ks := [k1]) (g := id) (gV := id) F hr hg hm hk (fun s ws hl => match ws, hl with | [a], _ => hb s a) (fun h => h) (fun zs h => h) hx (pk_cons (kpos := q1) (nm := some k1) h1 pk_nil) (by rfl) (by rfl) hdb (by rfl)
  exact ⟨fun pins s σ H Q I z => h.run pins s σ H Q I z⟩
theorem pe_kw2 (F : FnOk X.prog X.w X.K X.mg X.base CX k f fd [k1, k2] sp) (hr : Room k X.A) (hg : Gl X x) (hm : X.mg x = some (.ref f)) (hk : PySem.W.keepIn X.K (.ref f) = true) (hb : Kw2 fd k1 k2) (hx : Passes CX X E) (h1 : PE X e1 t1) (h2 : PE X e2 t2)
    (hdb : (x == ("__debug__" : Str)) = false := by decide) : PE X (.Call (.Name x p) [] [⟨some k1, e1, q1⟩, ⟨some k2, e2, q2⟩] pos) (fun σ H Q => t1 σ H fun u H1 => t2 σ H1 fun v H2 => sp [u, v] H2 Q E) := by
  have h := pe_callN (p := p) (pos := pos) (ks := [k1, k2]) (g := id) (gV := id) F hr hg hm hk (fun s ws hl => match ws, hl with | [a, b], _ => (hb s a b).1) (fun h => h) (fun zs h => h) hx (pk_cons (kpos := q1) (nm := some k1) h1 (pk_cons (kpos := q2) (nm := some k2) h2 pk_nil)) (by rfl) (by rfl) hdb (by rfl)
  exact ⟨fun pins s σ H Q I z => h.run pins s σ H Q I z⟩
theorem pe_kw2r (F : FnOk X.prog X.w X.K X.mg X.base CX k f fd [k1, k2] sp) (hr : Room k X.A) (hg : Gl X x) (hm : X.mg x = some (.ref f)) (hk : PySem.W.keepIn X.K (.ref f) = true) (hb : Kw2 fd k1 k2) (hx : Passes CX X E) (h2 : PE X e2 t2) (h1 : PE X e1 t1)
    (hdb : (x == ("__debug__" : Str)) = false := by decide) : PE X (.Call (.Name x p) [] [⟨some k2, e2, q2⟩, ⟨some k1, e1, q1⟩] pos) (fun σ H Q => t2 σ H fun v H1 => t1 σ H1 fun u H2 => sp [u, v] H2 Q E) := by
  have h := pe_callN (p := p) (pos := pos) (ks := [k2, k1]) (g := rev2) (gV := rev2) F hr hg hm hk (fun s ws hl => match ws, hl with | [b, a], _ => (hb s a b).2)
    (fun {zs ws} h => match zs, ws, h with | _, _, .nil => .nil | _, _, .cons _ .nil => .nil | _, _, .cons r (.cons r2 .nil) => .cons r2 (.cons r .nil) | _, _, .cons _ (.cons _ (.cons _ _)) => .nil)
    (fun zs h => match zs, h with | [_, _], _ => rfl) hx (pk_cons (kpos := q2) (nm := some k2) h2 (pk_cons (kpos := q1) (nm := some k1) h1 pk_nil)) (by rfl) (by rfl) hdb (by rfl)
  exact ⟨fun pins s σ H Q I z => h.run pins s σ H Q I z⟩
end
/-! ### what is due -/
theorem ints_shapedT (xs : List Int) : SeqAt.shaped (intsD xs) = true := by
  have h : ∀ ys : List Int, PyData.canLayAll0 (ys.map PyData.int) = true ∧ PyData.depthAll (ys.map PyData.int) = 0 := fun ys => by
    induction ys with
    | nil => exact ⟨by simp [PyData.canLayAll0], by simp [PyData.depthAll]⟩
    | cons y ys ih => exact ⟨by simp [PyData.canLayAll0, PyData.canLay0, ih.1], by simp [PyData.depthAll, PyData.depth, ih.2]⟩
  show (PyData.canLay0 _ && decide (PyData.depth _ ≤ 64)) = true
  rw [Bool.and_eq_true]
  exact ⟨by simp only [PyData.canLay0]; exact (h xs).1, decide_eq_true (by simp only [PyData.depth, (h xs).2]; omega)⟩
theorem eqv_nilT (ns : List Int) : PyData.eqv (intsD ns) (.tuple []) = decide (ns = []) := by
  have h := eqvAll_ints ns []
  simp only [PyData.eqv]
  exact h
theorem thX {H : Hp} {a : Addr} {n : Nat} {ns : List Int} (t : TupX H a (ns.map V.int)) (h : IsLot n ns) (hn : n ≤ 12) : Th H (.ref a) (some (ns.map V.int)) := .tup (.inr t) (fun x hx => by
  obtain ⟨i, _, rfl⟩ := List.mem_map.mp hx
  exact ⟨_, .int i⟩) (by rw [List.length_map]; have := lot_len h; omega)
theorem thT {H : Hp} {a : Addr} {n : Nat} {ns : List Int} (t : TT H a (ns.map V.int)) (h : IsLot n ns) (hn : n ≤ 12) : Th H (.ref a) (some (ns.map V.int)) := .tup t (fun x hx => by
  obtain ⟨i, _, rfl⟩ := List.mem_map.mp hx
  exact ⟨_, .int i⟩) (by rw [List.length_map]; have := lot_len h; omega)
theorem lot_yes {n : Nat} {ns : List Int} (h : IsLot n ns) : lotO n (some (ns.map V.int)) = true := of_lot h
theorem map_inj {ns ms : List Int} (h : ns.map V.int = ms.map V.int) : ns = ms := by
  have := congrArg (List.map intV) h
  rwa [map_intV, map_intV] at this
/-- a lot is handed in -/
theorem run_lot {C : Addr} {G : Hp → Addr → Nat → List (Int × Int) → List Int → VK → Prop} {H : Hp} {w a : Addr} {n : Nat} {L : List (Int × Int)} {ns : List Int} {Q : VK} {E : XK} (g : GW H w n L) (t : TT H a (ns.map V.int)) (h : IsLot n ns) (k : G H a n L ns Q) : spLot C G [.ref w, .ref a] H Q E :=
  ⟨w, n, L, .ref a, some (ns.map V.int), rfl, g, thT t h g.n2, fun b ms e1 e2 _ _ => by
    cases e1
    cases map_inj (Option.some.inj e2)
    exact k, fun z => by rw [lot_yes h] at z; cases z⟩
theorem run_lotX {C : Addr} {G : Hp → Addr → Nat → List (Int × Int) → List Int → VK → XK → Prop} {H : Hp} {w a : Addr} {n : Nat} {L : List (Int × Int)} {ns : List Int} {Q : VK} {E : XK} (g : GW H w n L) (t : TT H a (ns.map V.int)) (h : IsLot n ns) (k : G H a n L ns Q E) : spLotX C G [.ref w, .ref a] H Q E :=
  ⟨w, n, L, .ref a, some (ns.map V.int), rfl, g, thT t h g.n2, fun b ms e1 e2 _ _ => by
    cases e1
    cases map_inj (Option.some.inj e2)
    exact k, fun z => by rw [lot_yes h] at z; cases z⟩
/-- what the error tells -/
abbrev ErrQ (CL CT : Addr) (Q : VK) : XK := fun cls d H' => (cls = .ref CL ∧ ∃ d0 v, d = some d0 ∧ H' d0 = some (.xd [("thing", v)]) ∧ Pr2 "lot" v H' Q) ∨ (cls = .ref CT ∧ ∃ d0 v, d = some d0 ∧ H' d0 = some (.xd [("number", v)]) ∧ Pr2 "tie" v H' Q)
theorem due_run {CL CT : Addr} {H : Hp} {a : Addr} {L : List (Int × Int)} {ms ns : List Int} {Q : VK} (t : TT H a (ns.map V.int)) (k : ∀ t H', Same H H' → DV H' Any (.ref t) (dueD L ms ns) → Q (.ref t) H') :
    (ms ≠ [] → gIn H L ms fun v H' => Pr2 "told" v H' Q) ∧ (ms = [] → Rz CL "thing" (.ref a) H (ErrQ CL CT Q)) := by
  refine ⟨fun ne w' H2 s2 hw W p hp => k p _ (s2.trans (same_new hp)) ?_, fun em d H2 s2 hd ed => .inl ⟨rfl, d, _, rfl, ed, fun p hp => k p _ (s2.trans (same_new hp)) ?_⟩⟩
  · unfold dueD
    rw [if_neg ne]
    exact dv_pr upd_same (W.dv.same (same_new hp))
  · unfold dueD
    rw [if_pos em]
    exact dv_pr upd_same ((dv_lot t).same (s2.trans (same_new hp)))
theorem ne_self (v : V) : (!decide (v = v)) = false := by simp
theorem eq_self' (v : V) : decide (v = v) = true := by simp
theorem fit3 {a b : PyData} (ha : Tame 2 a) (hb : Tame 2 b) : Fit (.tuple [a, b, .bool true]) := (tame_tuple (k := 2) (fun d hd => by
  rcases List.mem_cons.mp hd with rfl | hd
  · exact ha
  rcases List.mem_cons.mp hd with rfl | hd
  · exact hb
  · rw [List.mem_singleton.mp hd]; exact tame_plain (.inl ⟨true, rfl⟩) 2) (by simp)).fit (by decide)
theorem fit2t {a b : PyData} (ha : Tame 2 a) (hb : Tame 2 b) : Fit (.tuple [a, b]) := (tame_tuple (k := 2) (fun d hd => by
  rcases List.mem_cons.mp hd with rfl | hd
  · exact ha
  · rw [List.mem_singleton.mp hd]; exact hb) (by simp)).fit (by decide)
/-- what the law says is due of a lot -/
theorem due_if {K : PySem.W.Frag} {σ : St} {H : Hp} {Q : VK} {w a b : Addr} {n : Nat} {L : List (Int × Int)} {ms ns : List Int} {j : Nat} (h0 : σ[0]? = some (some (.ref w))) (h1 : σ[1]? = some (some (.ref a))) (hj : σ[j]? = some (some (.ref b))) (g : GW H w n L) (tb : TupX H b (ms.map V.int)) (ta : TupX H a (ns.map V.int))
    (k : ∀ (t : Addr) (H' : Hp), Same H H' → DV H' Any (.ref t) (dueD L ms ns) → Q (.ref t) H') :
    tIf (tTest (tOp (rNeD K) (tVar j) (tTup tNil))) (tTup (tCons (tC (.str "told")) (tCons (tCall spLWithin [] E0 (tCons (tVar 0) (tCons (tVar j) tNil))) tNil))) (tTup (tCons (tC (.str "lot")) (tCons (tVar 1) tNil))) σ H Q := by
  have z30 : ∀ {m : Nat}, m ≤ 1000 → m ≤ sizeLine := fun h => by rw [sizeLine_eq]; omega
  refine ⟨_, hj, z30 (Nat.zero_le _), fun p hp => ⟨intsD ms, .tuple [], .tup (tb.same (same_new hp)).sq (ints_dp ms), .tup (SqT.of upd_same) .nil, ints_shapedT ms, by decide, _, rfl, ?_⟩⟩
  have s1 : Same H (upd H p (.tup [])) := same_new hp
  rw [eqv_nilT]
  by_cases z : ms = []
  · rw [decide_eq_true z]
    refine iteF ⟨_, h1, by show 2 ≤ sizeLine; exact z30 (by decide), fun t ht => k t _ (s1.trans (same_new ht)) ?_⟩
    unfold dueD
    rw [if_pos z]
    exact dv_pr upd_same (dv_lot (.inr (ta.same (s1.trans (same_new ht)))))
  · rw [decide_eq_false z]
    refine iteT ⟨_, h0, _, hj, w, b, n, L, ms, rfl, g.same s1, tb.same s1, fun w' H2 s2 hw W => ⟨by show 2 ≤ sizeLine; exact z30 (by decide), fun t ht => k t _ ((s1.trans s2).trans (same_new ht)) ?_⟩⟩
    unfold dueD
    rw [if_neg z]
    exact dv_pr upd_same (W.dv.same (same_new ht))
/-- the program's defs, and the law's looks -/
structure Pg (P : Program) (w0 : World) (K : PySem.W.Frag) (mg : Str → Option Value) (base : Heap) (CL CT lI tI g : Addr) (fg : FuncData) : Prop where
  bk : Bk mg
  told : ToldT P K mg CL CT lI tI g fg
  rest : ∃ f fd, DX P w0 K mg base "rest_of" 6 ["web", "lot"] (spLot CL gRest) f fd ∧ Kw2 fd "web" "lot"
  cut : ∃ f fd, DX P w0 K mg base "cut_of" 6 ["web", "lot"] (spLot CL gCut) f fd ∧ Kw2 fd "web" "lot"
  win : ∃ f fd, DX P w0 K mg base "within" 6 ["web", "lot"] (spLotX CL (gWithin CL)) f fd ∧ Kw2 fd "web" "lot"
  wout : ∃ f fd, DX P w0 K mg base "without" 6 ["web", "lot"] (spLotX CL (gWithout CL)) f fd
  ends : ∃ f fd, DX P w0 K mg base "ends_of" 6 ["web", "number"] (spEnds CT) f fd ∧ Kw2 fd "web" "number"
  isl : ∃ f fd, Dn P w0 K mg base "is_lot" 6 ["web", "thing"] spIsLot f fd ∧ Kw2 fd "web" "thing"
  pln : ∃ f fd, Dn P w0 K mg base "plain_web" 6 ["web"] spPlainOf f fd ∧ Kw1 fd "web"
  lRest : ∃ f fd, Dn P w0 K mg base "_law_rest" 1 ["_law_web_here", "_law_lot_here"] spLRest f fd
  lCut : ∃ f fd, Dn P w0 K mg base "_law_cut" 1 ["_law_web_here", "_law_lot_here"] spLCut f fd
  lWin : ∃ f fd, Dn P w0 K mg base "_law_within" 1 ["_law_web_here", "_law_lot_here"] spLWithin f fd
  lIsl : ∃ f fd, Dn P w0 K mg base "_law_is_lot" 2 ["_law_n", "_law_thing"] spLIsLot f fd
/-- the tables of the law's defs -/
structure Tb (T : List (Addr × Str)) (base : Heap) (mg : Str → Option Value) (c Pt : Addr) (q : Str) : Prop where
  tb : TabB base mg c Pt
  mem : (Pt, q) ∈ T
  uniq : ∀ p ∈ T, p.1 = Pt → p.2 = q
def spAreLots (T : List (Addr × Str)) : Sp := fun vs H Q _ => ∃ (w a : Addr) (n : Nat) (L : List (Int × Int)) (ns : List Int), vs = [.ref w, .ref a] ∧ GW H w n L ∧ TupX H a (ns.map V.int) ∧ IsLot n ns ∧ Tabs T H ∧ ∀ H', ExtN H H' → Tabs T H' → Q (.bl true) H'
abbrev nAreLots : List Str := ["_law_web_here", "_law_lot_here", "_law_rest_here", "_law_due", "_law_near", "_law_far", "_law_told_here"]
theorem scAreLots : FnScope nAreLots ["_law_web_here", "_law_lot_here"] (defScope lAreLots) := ⟨rfl, rfl, rfl, by decide +kernel, rfl, by decide +kernel, by decide +kernel⟩
section
variable {P : Program} {w0 : World} {K : PySem.W.Frag} {mg : Str → Option Value} {base : Heap} {CL CT lI tI g c Pt f : Addr} {fg fd : FuncData} {T : List (Addr × Str)}
theorem ok_areLots (F : FunC K "_law_are_lots" "_law_are_lots" lAreLots f fd c) (G : Pg P w0 K mg base CL CT lI tI g fg) (B : Tb T base mg c Pt "_law_are_lots.<locals>.<lambda>") : FnG P w0 K mg base CX0 9 f fd ["_law_web_here", "_law_lot_here"] (spAreLots T) := by
  obtain ⟨fR, dR, R, kR⟩ := G.rest
  obtain ⟨fC, dC, C, kC⟩ := G.cut
  obtain ⟨fW, dW, W, kW⟩ := G.win
  obtain ⟨fO, dO, O⟩ := G.wout
  obtain ⟨fI, dI, I, kI⟩ := G.isl
  obtain ⟨f1, d1, LR⟩ := G.lRest
  obtain ⟨f2, d2, LC⟩ := G.lCut
  obtain ⟨f3, d3, LW⟩ := G.lWin
  have Bt := G.bk
  have D := G.told
  refine F.okG scAreLots (fun vs H Q E h => ?_) (fun A outer s H vs Q E hgu hr h => ?_)
  · obtain ⟨w, a, n, L, ns, rfl, _⟩ := h
    rfl
  · obtain ⟨w, a, n, L, ns, rfl, gw, tx, il, tabs, k⟩ := h
    have hr1 : Room 1 (A.deeper (envOfC "_law_are_lots" (defScope lAreLots) s.heap.objs.size f (.ref c))) := hr.mono (by decide)
    have hr6 : Room 6 (A.deeper (envOfC "_law_are_lots" (defScope lAreLots) s.heap.objs.size f (.ref c))) := hr.mono (by decide)
    have hu := hr.units
    refine ⟨_, pss_cons (ps_par (i := 2) (j := 3) rfl scAreLots.nd rfl rfl (by decide) rfl rfl (pa_cons (pe_call LR.ok hr1 rfl LR.g LR.kp LR.b .nil pass0 (pa_cons (pv 0) (pa_cons (pv 1) pa_nil))) (pa_cons (pe_call LC.ok hr1 rfl LC.g LC.kp LC.b .nil pass0 (pa_cons (pv 0) (pa_cons (pv 1) pa_nil))) pa_nil)) (by rfl))
      <| pss_cons (ps_if (pt_cmpR op_ne
          (pe_callB (call_repr hgu hu) (by rfl) Bt.repr (by decide +kernel) (pa_cons (pe_tup (pa_cons (pe_call R.ok hr6 rfl R.g R.kp R.b .nil passL (pa_cons (pv 0) (pa_cons (pv 1) pa_nil)))
            (pa_cons (pe_kw2r R.ok hr6 rfl R.g R.kp kR passL (pv 2) (pv 0)) (pa_cons (pe_call I.ok hr6 rfl I.g I.kp I.b .nil pass0 (pa_cons (pv 0) (pa_cons (pv 1) pa_nil))) pa_nil)))) pa_nil))
          (pe_callB (call_repr hgu hu) (by rfl) Bt.repr (by decide +kernel) (pa_cons (pe_tup (pa_cons (pv 2) (pa_cons (pv 1) (pa_cons pe_bl pa_nil)))) pa_nil)) (nomark _)) (pss_one (ps_ret pe_bl)) pss_nil)
      <| pss_cons (ps_if (pt_cmpR op_ne
          (pe_callB (call_repr hgu hu) (by rfl) Bt.repr (by decide +kernel) (pa_cons (pe_tup (pa_cons (pe_call C.ok hr6 rfl C.g C.kp C.b .nil passL (pa_cons (pv 0) (pa_cons (pv 1) pa_nil)))
            (pa_cons (pe_kw2r C.ok hr6 rfl C.g C.kp kC passL (pv 2) (pv 0)) pa_nil))) pa_nil))
          (pe_callB (call_repr hgu hu) (by rfl) Bt.repr (by decide +kernel) (pa_cons (pe_tup (pa_cons (pv 3) (pa_cons (pv 3) pa_nil))) pa_nil)) (nomark _)) (pss_one (ps_ret pe_bl)) pss_nil)
      <| pss_cons (ps_set (i := 4) scAreLots.nd rfl (.inl rfl) (pe_ifExp (pt_cmpR (op_neD hu) (pv 1) (pe_tup pa_nil) (nomark _))
          (pe_tup (pa_cons pe_str (pa_cons (pe_call LW.ok hr1 rfl LW.g LW.kp LW.b .nil pass0 (pa_cons (pv 0) (pa_cons (pv 1) pa_nil))) pa_nil))) (pe_tup (pa_cons pe_str (pa_cons (pv 1) pa_nil)))))
      <| pss_cons (ps_set (i := 5) scAreLots.nd rfl (.inl rfl) (pe_ifExp (pt_cmpR (op_neD hu) (pv 2) (pe_tup pa_nil) (nomark _))
          (pe_tup (pa_cons pe_str (pa_cons (pe_call LW.ok hr1 rfl LW.g LW.kp LW.b .nil pass0 (pa_cons (pv 0) (pa_cons (pv 2) pa_nil))) pa_nil))) (pe_tup (pa_cons pe_str (pa_cons (pv 1) pa_nil)))))
      <| pss_cons (ps_set (i := 6) scAreLots.nd rfl (.inl rfl) (pe_lst (pa_cons
          (pe_told (k := 6) D rfl B.tb rfl B.mem B.uniq hr (show LamS (defScope lAreLots) _ from lamS_by (by decide +kernel)) rfl (fun _ _ _ _ _ => rfl) (fun _ _ _ _ _ _ _ hr' => pe_call W.ok hr' rfl W.g W.kp W.b .nil (passes_call (takes_of rfl rfl rfl rfl) (fun _ _ _ _ h => h)) (pa_cons (pv 0) (pa_cons (pv 1) pa_nil))))
          (pa_cons (pe_told (k := 6) D rfl B.tb rfl B.mem B.uniq hr (show LamS (defScope lAreLots) _ from lamS_by (by decide +kernel)) rfl (fun _ _ _ _ _ => rfl) (fun _ _ _ _ _ _ _ hr' => pe_call O.ok hr' rfl O.g O.kp O.b .nil (passes_call (takes_of rfl rfl rfl rfl) (fun _ _ _ _ h => h)) (pa_cons (pv 0) (pa_cons (pv 1) pa_nil))))
          pa_nil))))
      <| pss_one (ps_ret (pe_cmpR op_eq (pe_callB (call_repr hgu hu) (by rfl) Bt.repr (by decide +kernel) (pa_cons (pv 6) pa_nil))
          (pe_callB (call_repr hgu hu) (by rfl) Bt.repr (by decide +kernel) (pa_cons (pe_lst (pa_cons (pv 4) (pa_cons (pv 5) pa_nil))) pa_nil)) (nomark _))), ?_⟩
    have n2 := gw.n2
    have few := gw.few
    have z30 : ∀ {m : Nat}, m ≤ 1000 → m ≤ sizeLine := fun h => by rw [sizeLine_eq]; omega
    refine ⟨_, rfl, _, rfl, w, a, n, L, ns, rfl, gw, .inr tx, fun t1 H1 s1 h1 x1 => ⟨_, rfl, _, rfl, w, a, n, L, ns, rfl, gw.same s1, .inr (tx.same s1), fun t2 H2 s2 h2 x2 => ⟨_, _, rfl, ?_⟩⟩⟩
    have rl := rest_lot n ns
    have g2 := gw.same (s1.trans s2)
    have tx2 := tx.same (s1.trans s2)
    have x12 := x1.same s2
    refine ⟨_, rfl, _, rfl, run_lot g2 (.inr tx2) il fun t3 H3 s3 h3 x3 => ⟨_, rfl, _, rfl, run_lot (g2.same s3) (.inr (x12.same s3)) rl fun t4 H4 s4 h4 x4 => ?_⟩⟩
    have s24 := s3.trans s4
    refine ⟨_, rfl, _, rfl, w, n, L, .ref a, some (ns.map V.int), rfl, g2.same s24, thX (tx2.same s24) il n2, fun H5 s5 => ?_⟩
    rw [lot_yes il]
    refine ⟨by show 3 ≤ sizeLine; exact z30 (by decide), fun p hp => ?_⟩
    rw [rest_rest il] at x4
    obtain ⟨l1, l2⟩ := lot_small il n2
    obtain ⟨r1, r2⟩ := lot_small rl n2
    have nK : ∀ {ds : List PyData} (kvs), PyData.tuple ds ≠ .dict kvs := fun _ z => nomatch z
    have s2p := (s24.trans s5).trans (same_new (o := .tup [.ref t3, .ref t4, .bl true]) hp)
    refine ⟨p, .tuple [intsD (restN n ns), intsD ns, .bool true], rfl, .tup trivial (.inl upd_same) rfl (its3 (dv_lot (.inl (same_new hp _ _ (s5 _ _ (s4 _ _ x3))))) (dv_lot (.inl (same_new hp _ _ (s5 _ _ x4)))) (.bl true)), fit3 (tame_ints r1 r2) (tame_ints l1 l2), nK, ?_⟩
    refine ⟨_, rfl, _, rfl, by show 3 ≤ sizeLine; exact z30 (by decide), fun p2 hp2 => ?_⟩
    have s2q := s2p.trans (same_new (o := .tup [.ref t1, .ref a, .bl true]) hp2)
    refine ⟨p2, .tuple [intsD (restN n ns), intsD ns, .bool true], rfl, .tup trivial (.inl upd_same) rfl (its3 (dv_lot (.inr (x12.same s2q))) (dv_lot (.inr (tx2.same s2q))) (.bl true)), fit3 (tame_ints r1 r2) (tame_ints l1 l2), nK, ?_⟩
    refine ⟨rfl, _, rfl, ?_⟩
    rw [ne_self]
    refine iteF ?_
    clear hp2 hp s2p
    generalize upd (upd H5 p (HO.tup [.ref t3, .ref t4, .bl true])) p2 (HO.tup [.ref t1, .ref a, .bl true]) = M0 at s2q ⊢
    have gM := g2.same s2q
    refine ⟨_, rfl, _, rfl, run_lot gM (.inr (tx2.same s2q)) il fun t5 H6 s6 h5 x5 => ⟨_, rfl, _, rfl, run_lot (gM.same s6) (.inr ((x12.same s2q).same s6)) rl fun t6 H7 s7 h6 x6 => ?_⟩⟩
    rw [cut_rest gw.bel] at x6
    have s27 := (s2q.trans s6).trans s7
    refine ⟨by show 2 ≤ sizeLine; exact z30 (by decide), fun p hp => ?_⟩
    obtain ⟨c1, c2⟩ := cut_small (L := L) (ns := ns) few
    have s2p := s27.trans (same_new (o := .tup [.ref t5, .ref t6]) hp)
    refine ⟨p, .tuple [intsD (cutN L ns), intsD (cutN L ns)], rfl, .tup trivial (.inl upd_same) rfl (its2 (dv_lot (.inl (same_new hp _ _ (s7 _ _ x5)))) (dv_lot (.inl (same_new hp _ _ x6)))), fit2t (tame_ints c1 c2) (tame_ints c1 c2), nK, ?_⟩
    refine ⟨_, rfl, _, rfl, by show 2 ≤ sizeLine; exact z30 (by decide), fun p2 hp2 => ?_⟩
    have s2r := s2p.trans (same_new (o := .tup [.ref t2, .ref t2]) hp2)
    refine ⟨p2, .tuple [intsD (cutN L ns), intsD (cutN L ns)], rfl, .tup trivial (.inl upd_same) rfl (its2 (dv_lot (.inl (s2r _ _ x2))) (dv_lot (.inl (s2r _ _ x2)))), fit2t (tame_ints c1 c2) (tame_ints c1 c2), nK, ?_⟩
    refine ⟨rfl, _, rfl, ?_⟩
    rw [ne_self]
    refine iteF ?_
    clear hp2 hp s2p
    generalize upd (upd H7 p (HO.tup [.ref t5, .ref t6])) p2 (HO.tup [.ref t2, .ref t2]) = M1 at s2r ⊢
    refine due_if rfl rfl rfl (g2.same s2r) (tx2.same s2r) (tx2.same s2r) fun tn M2 u1 dn => ?_
    have v2 := s2r.trans u1
    refine due_if rfl rfl rfl (g2.same v2) (x12.same v2) (tx2.same v2) fun tf M3 u2 df => ?_
    have v3 := v2.trans u2
    refine ⟨tabs.ext ((s1.trans s2).trans v3), fun M4 e4 T4 => ?_⟩
    have s03 : Same H M3 := (s1.trans s2).trans v3
    have x04 : ExtN H M4 := (ext_same s03).trans e4
    refine ⟨_, rfl, _, rfl, run_lotX (gw.ext x04) (.inr (K0.TupX.ext tx x04)) il (due_run (.inr (K0.TupX.ext tx x04)) fun q1 M5 s5' dq => ?_)⟩
    refine ⟨T4.ext s5', fun M6 e6 T6 => ?_⟩
    have x06 : ExtN H M6 := (x04.trans (ext_same s5')).trans e6
    refine ⟨_, rfl, _, rfl, run_lotX (gw.ext x06) (.inr (K0.TupX.ext tx x06)) il (due_run (.inr (K0.TupX.ext tx x06)) fun q2 M7 s7' dr => ?_)⟩
    refine ⟨by show 2 ≤ sizeLine; exact z30 (by decide), fun l hl => ?_⟩
    have da : Tame 5 (dueD L ns ns) := due_tame il il n2 few
    have db : Tame 5 (dueD L (restN n ns) ns) := due_tame rl il n2 few
    have s7l := same_new (o := .lst [.ref q1, .ref q2]) hl
    have e58 : ExtN M5 (upd M7 l (.lst [.ref q1, .ref q2])) := e6.trans (ext_same (s7'.trans s7l))
    refine ⟨_, rfl, l, .list [dueD L ns ns, dueD L (restN n ns) ns], rfl, .lst trivial upd_same rfl (its2 (dq.ext e58) (dr.same s7l)), fit2 da db, (fun _ z => nomatch z), ?_⟩
    refine ⟨_, rfl, _, rfl, by show 2 ≤ sizeLine; exact z30 (by decide), fun l2 hl2 => ?_⟩
    have s8 := same_new (o := .lst [.ref tn, .ref tf]) hl2
    have e49 : ExtN M3 (upd (upd M7 l (.lst [.ref q1, .ref q2])) l2 (.lst [.ref tn, .ref tf])) := (e4.trans (ext_same s5')).trans (e58.trans (ext_same s8))
    refine ⟨l2, .list [dueD L ns ns, dueD L (restN n ns) ns], rfl, .lst trivial upd_same rfl (its2 ((dn.same u2).ext e49) (df.ext e49)), fit2 da db, (fun _ z => nomatch z), ?_⟩
    refine ⟨rfl, ?_⟩
    rw [eq_self']
    exact k _ ((ext_same s03).trans e49) ((T6.ext s7').ext (s7l.trans s8))
end
end K0

set_option Elab.async false
set_option linter.all false
set_option maxRecDepth 100000
set_option maxHeartbeats 8000000
/-! Whether a value is refused where it is no lot. -/
namespace K0
open PySem PySem.Spec L2
open PyProof.Rows hiding St
open KR (TupX tobj)
open LamX (ExtN Tabs TabB LamS lamCx tLam GivesTo CodeO lamS_by)
abbrev lStrange : Stmt := top 47
section
variable {CL CT : Addr} {H : Hp} {w : Addr} {n : Nat} {L : List (Int × Int)} {v : V} {o : Option (List V)} {e : PyData} {Q Q' : VK}
theorem rz_run {f x : Str} (de : DV H Any v e) (k : ∀ t H', Same H H' → DV H' Any (.ref t) (.tuple [.str x, e]) → Q (.ref t) H') : ∀ (d : Addr) (H2 : Hp), Same H H2 → H d = none → H2 d = some (.xd [(f, v)]) → Pr2 x v H2 Q := fun d H2 s2 _ _ p hp =>
  k p _ (s2.trans (same_new hp)) (dv_pr upd_same (de.same (s2.trans (same_new hp))))
theorem odd_run {G : Hp → Addr → Nat → List (Int × Int) → List Int → VK → Prop} (g : GW H w n L) (th : Th H v o) (no : lotO n o = false) (de : DV H Any v e) (k : ∀ t H', Same H H' → DV H' Any (.ref t) (.tuple [.str "lot", e]) → Q (.ref t) H') : spLot CL G [.ref w, v] H Q' (ErrQ CL CT Q) :=
  ⟨w, n, L, v, o, rfl, g, th, fun a ns _ e2 il _ => (by rw [e2, lot_yes il] at no; cases no), fun _ d H2 s2 hd ed => .inl ⟨rfl, d, v, rfl, ed, rz_run de k d H2 s2 hd ed⟩⟩
theorem odd_runX {G : Hp → Addr → Nat → List (Int × Int) → List Int → VK → XK → Prop} (g : GW H w n L) (th : Th H v o) (no : lotO n o = false) (de : DV H Any v e) (k : ∀ t H', Same H H' → DV H' Any (.ref t) (.tuple [.str "lot", e]) → Q (.ref t) H') : spLotX CL G [.ref w, v] H Q' (ErrQ CL CT Q) :=
  ⟨w, n, L, v, o, rfl, g, th, fun a ns _ e2 il _ => (by rw [e2, lot_yes il] at no; cases no), fun _ d H2 s2 hd ed => .inl ⟨rfl, d, v, rfl, ed, rz_run de k d H2 s2 hd ed⟩⟩
end
theorem fit4 {a : PyData} (h : Tame 4 a) : Fit (.list [a, a, a, a]) := by
  obtain ⟨h1, h2, h3, h4⟩ := all_of (k := 4) (ds := [a, a, a, a]) fun d hd => by
    rcases List.mem_cons.mp hd with rfl | hd
    · exact h
    rcases List.mem_cons.mp hd with rfl | hd
    · exact h
    rcases List.mem_cons.mp hd with rfl | hd
    · exact h
    · rw [List.mem_singleton.mp hd]; exact h
  have b4 : bb 4 = 5120 := rfl
  have l4 : ([a, a, a, a] : List PyData).length = 4 := rfl
  rw [l4] at h4
  exact fit_of (by simp only [PyData.showable, h1]) (by simp only [PyData.leavesShort, h2]) (by simp only [PyData.depth]; omega) (by simp only [PyData.bulk]; omega)
theorem fit_bb (b : Bool) : Fit (.tuple [.bool b, .bool b]) := (tame_tuple (k := 0) (fun d hd => by
  rcases List.mem_cons.mp hd with rfl | hd
  · exact tame_plain (.inl ⟨b, rfl⟩) 0
  · rw [List.mem_singleton.mp hd]; exact tame_plain (.inl ⟨b, rfl⟩) 0) (by simp)).fit (by decide)
/-- a tuple that isn't a tracked one is known whole -/
theorem nt_whole {H : Hp} {a : Addr} {xs : List V} (t : TT H a xs) (h : NT H (.ref a)) : TupX H a xs := t.elim (fun e => absurd e (h a xs rfl).1) id
def spStrange (T : List (Addr × Str)) : Sp := fun vs H Q _ => ∃ (w : Addr) (v : V) (n : Nat) (L : List (Int × Int)), vs = [.ref w, v] ∧ GW H w n L ∧ Bnt H v ∧ Tabs T H ∧ ∀ H', ExtN H H' → Tabs T H' → Q (.bl true) H'
abbrev nStrange : List Str := ["_law_web_here", "_law_thing", "_law_due", "_law_told_here"]
theorem scStrange : FnScope nStrange ["_law_web_here", "_law_thing"] (defScope lStrange) := ⟨rfl, rfl, rfl, by decide +kernel, rfl, by decide +kernel, by decide +kernel⟩
section
variable {P : Program} {w0 : World} {K : PySem.W.Frag} {mg : Str → Option Value} {base : Heap} {CL CT lI tI g c Pt f fA : Addr} {fg fd fdA : FuncData} {T : List (Addr × Str)}
theorem ok_strange (F : FunC K "_law_are_strange" "_law_are_strange" lStrange f fd c) (G : Pg P w0 K mg base CL CT lI tI g fg) (B : Tb T base mg c Pt "_law_are_strange.<locals>.<lambda>")
    (AL : FnG P w0 K mg base CX0 9 fA fdA ["_law_web_here", "_law_lot_here"] (spAreLots T)) (mA : mg "_law_are_lots" = some (.ref fA)) (kA : PySem.W.keepIn K (.ref fA) = true) (bA : Binds K fdA ["_law_web_here", "_law_lot_here"] []) : FnG P w0 K mg base CX0 10 f fd ["_law_web_here", "_law_thing"] (spStrange T) := by
  obtain ⟨fR, dR, R, kR⟩ := G.rest
  obtain ⟨fC, dC, C, kC⟩ := G.cut
  obtain ⟨fW, dW, W, kW⟩ := G.win
  obtain ⟨fO, dO, O⟩ := G.wout
  obtain ⟨fI, dI, I, kI⟩ := G.isl
  obtain ⟨f4, d4, LI⟩ := G.lIsl
  have Bt := G.bk
  have D := G.told
  refine F.okG scStrange (fun vs H Q E h => ?_) (fun A outer s H vs Q E hgu hr h => ?_)
  · obtain ⟨w, v, n, L, rfl, _⟩ := h
    rfl
  · obtain ⟨w, v, n, L, rfl, gw, ⟨e, o, de, te, th, nt⟩, tabs, k⟩ := h
    have hr2 : Room 2 (A.deeper (envOfC "_law_are_strange" (defScope lStrange) s.heap.objs.size f (.ref c))) := hr.mono (by decide)
    have hr6 : Room 6 (A.deeper (envOfC "_law_are_strange" (defScope lStrange) s.heap.objs.size f (.ref c))) := hr.mono (by decide)
    have hr8 : Room 8 (A.deeper (envOfC "_law_are_strange" (defScope lStrange) s.heap.objs.size f (.ref c))) := hr.mono (by decide)
    have hu := hr.units
    refine ⟨_, pss_cons (ps_set (i := 2) scStrange.nd rfl (.inl rfl) (pe_call LI.ok hr2 rfl LI.g LI.kp LI.b .nil pass0 (pa_cons (pe_ix ix_tup (pv 0) pe_int (fun _ _ => rfl)) (pa_cons (pv 1) pa_nil))))
      <| pss_cons (ps_if (pt_cmpR op_ne
          (pe_callB (call_repr hgu hu) (by rfl) Bt.repr (by decide +kernel) (pa_cons (pe_tup (pa_cons (pe_call I.ok hr6 rfl I.g I.kp I.b .nil pass0 (pa_cons (pv 0) (pa_cons (pv 1) pa_nil))) (pa_cons (pe_kw2r I.ok hr6 rfl I.g I.kp kI pass0 (pv 1) (pv 0)) pa_nil))) pa_nil))
          (pe_callB (call_repr hgu hu) (by rfl) Bt.repr (by decide +kernel) (pa_cons (pe_tup (pa_cons (pv 2) (pa_cons (pv 2) pa_nil))) pa_nil)) (nomark _)) (pss_one (ps_ret pe_bl)) pss_nil)
      <| pss_cons (ps_if (pt_val (pv 2)) (pss_one (ps_ret (pe_callG AL hgu hr rfl mA kA bA pass0 (pa_cons (pv 0) (pa_cons (pv 1) pa_nil))))) pss_nil)
      <| pss_cons (ps_set (i := 3) scStrange.nd rfl (.inl rfl) (pe_lst (pa_cons
          (pe_told (k := 6) D rfl B.tb rfl B.mem B.uniq hr8 (show LamS (defScope lStrange) _ from lamS_by (by decide +kernel)) rfl (fun _ _ _ _ _ => rfl) (fun _ _ _ _ _ _ _ hr' => pe_call R.ok hr' rfl R.g R.kp R.b .nil (passes_call (takes_of rfl rfl rfl rfl) (fun _ _ _ _ h => h)) (pa_cons (pv 0) (pa_cons (pv 1) pa_nil))))
          (pa_cons (pe_told (k := 6) D rfl B.tb rfl B.mem B.uniq hr8 (show LamS (defScope lStrange) _ from lamS_by (by decide +kernel)) rfl (fun _ _ _ _ _ => rfl) (fun _ _ _ _ _ _ _ hr' => pe_call C.ok hr' rfl C.g C.kp C.b .nil (passes_call (takes_of rfl rfl rfl rfl) (fun _ _ _ _ h => h)) (pa_cons (pv 0) (pa_cons (pv 1) pa_nil))))
          (pa_cons (pe_told (k := 6) D rfl B.tb rfl B.mem B.uniq hr8 (show LamS (defScope lStrange) _ from lamS_by (by decide +kernel)) rfl (fun _ _ _ _ _ => rfl) (fun _ _ _ _ _ _ _ hr' => pe_kw2 W.ok hr' rfl W.g W.kp kW (passes_call (takes_of rfl rfl rfl rfl) (fun _ _ _ _ h => h)) (pv 0) (pv 1)))
          (pa_cons (pe_told (k := 6) D rfl B.tb rfl B.mem B.uniq hr8 (show LamS (defScope lStrange) _ from lamS_by (by decide +kernel)) rfl (fun _ _ _ _ _ => rfl) (fun _ _ _ _ _ _ _ hr' => pe_call O.ok hr' rfl O.g O.kp O.b .nil (passes_call (takes_of rfl rfl rfl rfl) (fun _ _ _ _ h => h)) (pa_cons (pv 0) (pa_cons (pv 1) pa_nil))))
          pa_nil))))))
      <| pss_one (ps_ret (pe_cmpR op_eq (pe_callB (call_repr hgu hu) (by rfl) Bt.repr (by decide +kernel) (pa_cons (pv 3) pa_nil))
          (pe_callB (call_repr hgu hu) (by rfl) Bt.repr (by decide +kernel) (pa_cons (pe_op op_rep (pe_lst (pa_cons (pe_tup (pa_cons pe_str (pa_cons (pv 1) pa_nil))) pa_nil)) pe_int) pa_nil)) (nomark _))), ?_⟩
    have n2 := gw.n2
    have z30 : ∀ {m : Nat}, m ≤ 1000 → m ≤ sizeLine := fun h => by rw [sizeLine_eq]; omega
    have nK : ∀ {ds : List PyData} (kvs), PyData.tuple ds ≠ .dict kvs := fun _ z => nomatch z
    obtain ⟨ta, vs, e1, e2, e3⟩ := gw.web.ex
    refine ⟨_, rfl, w, _, _, _, rfl, rfl, SqT.of e1, atI_nat (j := 0) rfl, _, rfl, n, v, o, rfl, n2, th, fun H1 s1 => ?_⟩
    refine ⟨_, rfl, _, rfl, w, n, L, v, o, rfl, gw.same s1, th.same s1, fun H2 s2 => ⟨_, rfl, _, rfl, w, n, L, v, o, rfl, gw.same (s1.trans s2), th.same (s1.trans s2), fun H3 s3 => ?_⟩⟩
    refine ⟨by show 2 ≤ sizeLine; exact z30 (by decide), fun p hp => ⟨p, .tuple [.bool (lotO n o), .bool (lotO n o)], rfl, .tup trivial (.inl upd_same) rfl (its2 (.bl _) (.bl _)), fit_bb _, nK, ?_⟩⟩
    refine ⟨_, rfl, _, rfl, by show 2 ≤ sizeLine; exact z30 (by decide), fun p2 hp2 => ⟨p2, .tuple [.bool (lotO n o), .bool (lotO n o)], rfl, .tup trivial (.inl upd_same) rfl (its2 (.bl _) (.bl _)), fit_bb _, nK, ?_⟩⟩
    refine ⟨rfl, _, rfl, ?_⟩
    rw [ne_self]
    refine iteF ?_
    have s0 : Same H (upd (upd H3 p (.tup [.bl (lotO n o), .bl (lotO n o)])) p2 (.tup [.bl (lotO n o), .bl (lotO n o)])) := (((s1.trans s2).trans s3).trans (same_new hp)).trans (same_new hp2)
    clear hp2 hp
    generalize upd (upd H3 p (.tup [.bl (lotO n o), .bl (lotO n o)])) p2 (.tup [.bl (lotO n o), .bl (lotO n o)]) = M0 at s0 ⊢
    refine ⟨_, rfl, _, rfl, ?_⟩
    rcases th_cases (n := n) th with ⟨y, a, ns, rfl, rfl, il, tt⟩ | no
    · rw [y]
      refine iteT ⟨_, rfl, _, rfl, w, a, n, L, ns, rfl, gw.same s0, TupX.same (nt_whole tt nt) s0, il, tabs.ext s0, fun H' e' T' => k H' ((ext_same s0).trans e') T'⟩
    · rw [no]
      refine iteF ⟨tabs.ext s0, fun M1 e1 T1 => ?_⟩
      have x1 : ExtN H M1 := (ext_same s0).trans e1
      refine ⟨_, rfl, _, rfl, odd_run (gw.ext x1) (th.ext x1) no (de.ext x1) fun q1 N1 u1 dq1 => ⟨T1.ext u1, fun M2 e2 T2 => ?_⟩⟩
      have x2 : ExtN H M2 := (x1.trans (ext_same u1)).trans e2
      refine ⟨_, rfl, _, rfl, odd_run (gw.ext x2) (th.ext x2) no (de.ext x2) fun q2 N2 u2 dq2 => ⟨T2.ext u2, fun M3 e3 T3 => ?_⟩⟩
      have x3 : ExtN H M3 := (x2.trans (ext_same u2)).trans e3
      refine ⟨_, rfl, _, rfl, odd_runX (gw.ext x3) (th.ext x3) no (de.ext x3) fun q3 N3 u3 dq3 => ⟨T3.ext u3, fun M4 e4 T4 => ?_⟩⟩
      have x4 : ExtN H M4 := (x3.trans (ext_same u3)).trans e4
      refine ⟨_, rfl, _, rfl, odd_runX (gw.ext x4) (th.ext x4) no (de.ext x4) fun q4 N4 u4 dq4 => ⟨by show 4 ≤ sizeLine; exact z30 (by decide), fun l hl => ?_⟩⟩
      have tD : Tame 4 (.tuple [.str "lot", e]) := tame_pr (by decide) te
      have y4 : ExtN N4 (upd N4 l (.lst [.ref q1, .ref q2, .ref q3, .ref q4])) := ext_new hl
      have y3 := e4.trans ((ext_same u4).trans y4)
      have y2 := e3.trans ((ext_same u3).trans y3)
      have y1 := e2.trans ((ext_same u2).trans y2)
      have y0 : ExtN H (upd N4 l (.lst [.ref q1, .ref q2, .ref q3, .ref q4])) := x1.trans ((ext_same u1).trans y1)
      refine ⟨_, rfl, l, .list [.tuple [.str "lot", e], .tuple [.str "lot", e], .tuple [.str "lot", e], .tuple [.str "lot", e]], rfl, .lst trivial upd_same rfl (its4 (dq1.ext y1) (dq2.ext y2) (dq3.ext y3) (dq4.ext y4)), fit4 tD, (fun _ z => nomatch z), ?_⟩
      refine ⟨_, rfl, by show 2 ≤ sizeLine; exact z30 (by decide), fun p hp => ⟨by show 1 ≤ sizeLine; exact z30 (by decide), fun l1 hl1 => ?_⟩⟩
      refine ⟨l1, 4, _, rfl, rfl, upd_same, by decide, by decide, by show 1 * 4 ≤ sizeLine; exact z30 (by decide), fun l2 hl2 => ?_⟩
      have s5 : Same (upd N4 l (.lst [.ref q1, .ref q2, .ref q3, .ref q4])) (upd (upd (upd (upd N4 l (.lst [.ref q1, .ref q2, .ref q3, .ref q4])) p (.tup [.str "lot", v])) l1 (.lst [.ref p])) l2 (.lst [.ref p, .ref p, .ref p, .ref p])) := ((same_new hp).trans (same_new hl1)).trans (same_new hl2)
      have pp : (upd (upd (upd (upd N4 l (.lst [.ref q1, .ref q2, .ref q3, .ref q4])) p (.tup [.str "lot", v])) l1 (.lst [.ref p])) l2 (.lst [.ref p, .ref p, .ref p, .ref p])) p = some (.tup [.str "lot", v]) := ((same_new hl1).trans (same_new hl2)) _ _ upd_same
      have dp := dv_pr pp ((de.ext y0).same s5)
      refine ⟨l2, .list [.tuple [.str "lot", e], .tuple [.str "lot", e], .tuple [.str "lot", e], .tuple [.str "lot", e]], rfl, .lst trivial (xs := [.ref p, .ref p, .ref p, .ref p]) upd_same rfl (its4 dp dp dp dp), fit4 tD, (fun _ z => nomatch z), ?_⟩
      refine ⟨rfl, ?_⟩
      rw [eq_self']
      exact k _ (y0.trans (ext_same s5)) (((T4.ext u4).ext (same_new hl)).ext s5)
end
end K0

set_option Elab.async false
set_option linter.all false
set_option maxRecDepth 100000
set_option maxHeartbeats 8000000
/-! The law's own parts: ends of ties, numbers of lots. -/
namespace K0
open PySem PySem.Spec L2
open PyProof.Rows hiding St
open KR (TupX tobj)
open LamX (ExtN Tabs TabB LamS lamCx tLam GivesTo CodeO lamS_by)
/-- what is due of a tie's number -/
def TieD (L : List (Int × Int)) (v : V) (e d : PyData) : Prop := (∃ (i : Nat) (q : Int × Int), v = .int i ∧ L[i]? = some q ∧ d = .tuple [.str "told", pd q]) ∨ (belowV v L.length = false ∧ d = .tuple [.str "tie", e])
theorem below_at {L : List (Int × Int)} {i : Nat} {q : Int × Int} (h : L[i]? = some q) : belowV (.int i) L.length = true := by
  have := (List.getElem?_eq_some_iff.mp h).1
  show (decide ((0 : Int) ≤ i) && decide ((i : Int) < (L.length : Nat))) = true
  rw [decide_eq_true (show (0 : Int) ≤ i by omega), decide_eq_true (show (i : Int) < (L.length : Nat) by omega)] <;> rfl
theorem tie_ex (L : List (Int × Int)) (v : V) (e : PyData) : ∃ d, TieD L v e d := by
  cases h : belowV v L.length with
  | false => exact ⟨_, .inr ⟨h, rfl⟩⟩
  | true =>
    cases v with
    | int i =>
      have h : (decide (0 ≤ i) && decide (i < (L.length : Nat))) = true := h
      rw [Bool.and_eq_true, decide_eq_true_eq, decide_eq_true_eq] at h
      obtain ⟨j, rfl⟩ : ∃ j : Nat, i = j := ⟨i.toNat, by omega⟩
      exact ⟨_, .inl ⟨j, _, rfl, List.getElem?_eq_getElem (by omega), rfl⟩⟩
    | _ => cases h
theorem tie_tame {L : List (Int × Int)} {v : V} {e d : PyData} {n : Nat} (h : TieD L v e d) (hB : Bel n L) (hn : n ≤ 12) (te : Tame 3 e) : Tame 5 d := by
  rcases h with ⟨i, q, _, hq, rfl⟩ | ⟨_, rfl⟩
  · have := hB q (List.mem_of_getElem? hq)
    exact tame_pr (by decide) ((tame_pd (q := q) (by omega) (by omega)).upTo (by decide : 0 ≤ 4))
  · exact tame_pr (by decide) te.up
section
variable {CL CT : Addr} {H : Hp} {w : Addr} {n : Nat} {L : List (Int × Int)} {v : V} {t : String} {e d : PyData} {Q : VK}
theorem ends_run (h : TieD L v e d) (g : GW H w n L) (hv : VT H v t) (de : DV H Any v e) (k : ∀ p H', Same H H' → DV H' Any (.ref p) d → Q (.ref p) H') : spEnds CT [.ref w, v] H (fun v H' => Pr2 "told" v H' Q) (ErrQ CL CT Q) := by
  refine ⟨w, n, L, v, t, rfl, g, hv, fun i q e1 hq a H' s' ea p hp => ?_, fun no d' H2 s2 hd ed => .inr ⟨rfl, d', v, rfl, ed, fun p hp => ?_⟩⟩
  · rcases h with ⟨j, r, e2, hr, rfl⟩ | ⟨no, _⟩
    · rw [e1] at e2
      have : i = j := by
        have := V.int.inj e2
        omega
      subst this
      rw [hq] at hr
      cases hr
      exact k p _ (s'.trans (same_new hp)) (dv_pr upd_same (DV.same (.tup trivial (.inl ea) rfl (its2 (.int _) (.int _))) (same_new hp)))
    · rw [e1, below_at hq] at no
      cases no
  · rcases h with ⟨j, r, e2, hr, rfl⟩ | ⟨_, rfl⟩
    · rw [e2, below_at hr] at no
      cases no
    · exact k p _ (s2.trans (same_new hp)) (dv_pr upd_same (de.same (s2.trans (same_new hp))))
end
/-- the law's state behind its first look -/
structure LS (T : List (Addr × Str)) (p c w : Addr) (n : Nat) (L : List (Int × Int)) (H : Hp) : Prop where
  G : GW H w n L
  D : Deck H p c
  T : Tabs T H
theorem LS.same {T : List (Addr × Str)} {p c w : Addr} {n : Nat} {L : List (Int × Int)} {H H' : Hp} (h : LS T p c w n L H) (s : Same H H') : LS T p c w n L H' := ⟨h.G.same s, h.D.same s, h.T.ext s⟩
theorem LS.kp {T : List (Addr × Str)} {p c w : Addr} {n : Nat} {L : List (Int × Int)} {H H' : Hp} (h : LS T p c w n L H) (D' : Deck H' p c) (k : Kp p c H H') : LS T p c w n L H' := ⟨⟨h.G.web.mono (k.tup h.D), h.G.n1, h.G.n2, h.G.bel, h.G.srt, h.G.few⟩, D', tabs_kp h.T h.D k⟩
theorem LS.ext {T : List (Addr × Str)} {p c w : Addr} {n : Nat} {L : List (Int × Int)} {H H' : Hp} (h : LS T p c w n L H) (e : ExtN H H') (t : Tabs T H') : LS T p c w n L H' := ⟨h.G.ext e, h.D.ext e, t⟩
/-- data beside the deck stay -/
abbrev Off (p c : Addr) : Addr → Prop := fun b => b ≠ p ∧ b ≠ c
theorem dv_kp {p c : Addr} {H H' : Hp} {v : V} {e : PyData} (h : DV H (Off p c) v e) (k : Kp p c H H') : DV H' (Off p c) v e := h.mono fun b o t q => ⟨t, k b o t.1 t.2 q⟩
theorem pow12 {n : Nat} (h : n ≤ 12) : 1 ≤ 2 ^ n ∧ 2 ^ n ≤ 4096 := ⟨Nat.one_le_two_pow, Nat.pow_le_pow_right (by decide) h⟩
theorem if_two {c : Bool} {σ : St} {H : Hp} {Q : VK} {i j : Int} (k : ∀ m : Int, m = i ∨ m = j → Q (.int m) H) : if c = true then tC (.int i) σ H Q else tC (.int j) σ H Q := by
  cases c
  · rw [if_neg Bool.false_ne_true]
    exact k j (.inr rfl)
  · rw [if_pos rfl]
    exact k i (.inl rfl)
end K0

set_option Elab.async false
set_option linter.all false
set_option maxRecDepth 100000
set_option maxHeartbeats 16000000
/-! The law. -/
namespace K0
open PySem PySem.Spec L2
open PyProof.Rows hiding St
open KR (TupX tobj)
open LamX (ExtN Tabs TabB LamS lamCx tLam GivesTo CodeO lamS_by)
abbrev lLaw : Stmt := top 48
/-- a def that is called where nothing is being shown -/
structure DG (P : Program) (w : World) (K : PySem.W.Frag) (mg : Str → Option Value) (base : Heap) (name : Str) (k : Nat) (ps : List Str) (sp : Sp) (f : Addr) (fd : FuncData) : Prop where
  g : mg name = some (.ref f)
  kp : PySem.W.keepIn K (.ref f) = true
  b : Binds K fd ps []
  ok : FnG P w K mg base CX0 k f fd ps sp
structure Lw (P : Program) (w0 : World) (K : PySem.W.Frag) (mg : Str → Option Value) (base : Heap) (T : List (Addr × Str)) (CL CT lI tI g : Addr) (fg : FuncData) : Prop where
  G : Pg P w0 K mg base CL CT lI tI g fg
  deck : ∃ f fd, Dn P w0 K mg base "_law_deck" 1 ["_law_script"] (spDeck K) f fd
  draw : ∃ f fd, Dn P w0 K mg base "_law_draw" 1 ["_law_deck_here", "_law_many"] spDraw f fd
  pick : ∃ f fd, Dn P w0 K mg base "_law_pick" 2 ["_law_deck_here", "_law_some"] spPick f fd
  any : ∃ f fd, Dn P w0 K mg base "_law_any" 5 ["_law_deck_here", "_law_deep"] (spAny 3) f fd
  web : ∃ f fd, Dn P w0 K mg base "_law_web" 4 ["_law_deck_here", "_law_n", "_law_most"] spWeb f fd
  lot : ∃ f fd, Dn P w0 K mg base "_law_lot" 1 ["_law_number"] spLLot f fd
  bent : ∃ f fd, Dn P w0 K mg base "_law_bent_lot" 6 ["_law_deck_here", "_law_n", "_law_lot_here"] spBent f fd
  whole : ∃ f fd, Dn P w0 K mg base "_law_is_whole" 1 ["_law_thing"] spWhole f fd
  lots : ∃ f fd, DG P w0 K mg base "_law_are_lots" 9 ["_law_web_here", "_law_lot_here"] (spAreLots T) f fd
  odd : ∃ f fd, DG P w0 K mg base "_law_are_strange" 10 ["_law_web_here", "_law_thing"] (spStrange T) f fd
abbrev nLaw : List Str := ["_law_script", "_law_deck_here", "_law_n", "_law_web_here", "_law_many", "_law_told_here", "_law_plain", "_law_numbers", "_law_number", "_law_turn", "_law_odd", "_law_due", "_law_at"]
theorem scLaw : FnScope nLaw ["_law_script"] (defScope lLaw) := ⟨rfl, rfl, rfl, by decide +kernel, rfl, by decide +kernel, by decide +kernel⟩
theorem itT {b : Bool} {A B : Prop} (hb : b = true) (h : A) : if b = true then A else B := by rw [if_pos hb]; exact h
theorem itF {b : Bool} {A B : Prop} (hb : b = false) (h : B) : if b = true then A else B := by rw [hb, if_neg Bool.false_ne_true]; exact h
section
variable {P : Program} {w0 : World} {K : PySem.W.Frag} {mg : Str → Option Value} {base : Heap} {CL CT lI tI g c0 Pt fa a : Addr} {fg : FuncData} {T : List (Addr × Str)}
/-- the numbers of the lots that are looked at -/
def NumT (σ : St) (M : Hp) (Q : VK) : Prop := ∃ (a p c w : Addr) (n : Nat) (m : Int) (o5 o6 : V), σ = [some (.ref a), some (.ref p), some (.int n), some (.ref w), some (.int m), some o5, some o6, none, none, none, none, none, none] ∧ 1 ≤ n ∧ n ≤ 12 ∧ Deck M p c ∧
  ∀ (l : Addr) (xs : List V) (M' : Hp), M' l = some (.lst xs) → (∀ v ∈ xs, ∃ x : Nat, v = .int x ∧ x < 2 ^ n) → l ≠ p → l ≠ c → Deck M' p c → Kp p c M M' → Q (.ref l) M'
/-- what is due of the number drawn -/
def DueT (σ : St) (M : Hp) (Q : VK) : Prop := ∃ (w : Addr) (n : Nat) (L : List (Int × Int)) (v : V) (t : String) (e d : PyData), σ[3]? = some (some (.ref w)) ∧ σ[4]? = some (some (.int (L.length : Nat))) ∧ σ[10]? = some (some v) ∧ GW M w n L ∧ VT M v t ∧ DV M Any v e ∧ TieD L v e d ∧
  ∀ (p : Addr) (M' : Hp), Same M M' → DV M' Any (.ref p) d → Q (.ref p) M'
theorem law_body (Z : Lw P w0 K mg base T CL CT lI tI g fg) (B : Tb T base mg c0 Pt "law.<locals>.<lambda>") {s : Shared} {H : Hp} {ns : List Int} (hS : SqL K H a (ns.map V.int)) (tabs : Tabs T H) (hr : Room 10 (callerA.deeper (envOfC "law" (defScope lLaw) s.heap.objs.size fa (.ref c0)))) :
    ∃ t, PSs (cxOf CX0 P w0 K mg base nLaw "law" (defScope lLaw) fa (.ref c0) callerA [] s H (fun _ _ _ => False)).nox (defBody lLaw) t ∧ t { nx := fun _ H' => (V.non = .bl true : Prop), rt := fun v _ => v = .bl true } (start nLaw [.ref a]) H := by
  obtain ⟨fE, dE, E, kE⟩ := Z.G.ends
  obtain ⟨fP, dP, PL, kP⟩ := Z.G.pln
  obtain ⟨_, _, GDk⟩ := Z.deck
  obtain ⟨_, _, GD⟩ := Z.draw
  obtain ⟨_, _, GP⟩ := Z.pick
  obtain ⟨_, _, GA⟩ := Z.any
  obtain ⟨_, _, GWb⟩ := Z.web
  obtain ⟨_, _, GL⟩ := Z.lot
  obtain ⟨_, _, GB⟩ := Z.bent
  obtain ⟨_, _, GH⟩ := Z.whole
  obtain ⟨_, _, AL⟩ := Z.lots
  obtain ⟨_, _, AS⟩ := Z.odd
  have Bt := Z.G.bk
  have D := Z.G.told
  have hu : callerA.units + 3 + 64 < cLine := by decide +kernel
  have hgu : (callerA.deeper (envOfC "law" (defScope lLaw) s.heap.objs.size fa (.ref c0))).guards = some [] := rfl
  have r1 : Room 1 (callerA.deeper (envOfC "law" (defScope lLaw) s.heap.objs.size fa (.ref c0))) := hr.mono (by decide)
  have r2 : Room 2 (callerA.deeper (envOfC "law" (defScope lLaw) s.heap.objs.size fa (.ref c0))) := hr.mono (by decide)
  have r4 : Room 4 (callerA.deeper (envOfC "law" (defScope lLaw) s.heap.objs.size fa (.ref c0))) := hr.mono (by decide)
  have r5 : Room 5 (callerA.deeper (envOfC "law" (defScope lLaw) s.heap.objs.size fa (.ref c0))) := hr.mono (by decide)
  have r6 : Room 6 (callerA.deeper (envOfC "law" (defScope lLaw) s.heap.objs.size fa (.ref c0))) := hr.mono (by decide)
  have r8 : Room 8 (callerA.deeper (envOfC "law" (defScope lLaw) s.heap.objs.size fa (.ref c0))) := hr.mono (by decide)
  have r9 : Room 9 (callerA.deeper (envOfC "law" (defScope lLaw) s.heap.objs.size fa (.ref c0))) := hr.mono (by decide)
  refine ⟨_, pss_cons (ps_set (i := 1) scLaw.nd rfl (.inr rfl) (pe_call GDk.ok r1 rfl GDk.g GDk.kp GDk.b .nil pass0 (pa_cons (pv 0) pa_nil)))
    <| pss_cons (ps_set (i := 2) scLaw.nd rfl (.inr rfl) (pe_op op_add pe_int (pe_call GD.ok r1 rfl GD.g GD.kp GD.b .nil pass0 (pa_cons (pv 1) (pa_cons (pe_ifExp (pt_cmpR op_eq (pe_call GD.ok r1 rfl GD.g GD.kp GD.b .nil pass0 (pa_cons (pv 1) (pa_cons pe_int pa_nil))) pe_int (nomark _)) pe_int pe_int) pa_nil)))))
    <| pss_cons (ps_set (i := 3) scLaw.nd rfl (.inr rfl) (pe_call GWb.ok r4 rfl GWb.g GWb.kp GWb.b .nil pass0 (pa_cons (pv 1) (pa_cons (pv 2) (pa_cons (pe_call GP.ok r2 rfl GP.g GP.kp GP.b .nil pass0 (pa_cons (pv 1) (pa_cons (pe_lst (pa_cons pe_int (pa_cons pe_int (pa_cons pe_int pa_nil)))) pa_nil))) pa_nil)))))
    <| pss_cons (ps_set (i := 4) scLaw.nd rfl (.inl rfl) (pe_callB call_len_seq (by rfl) Bt.len PySem.boot_len (pa_cons (pe_ix ix_tup (pv 3) pe_int (fun _ _ => rfl)) pa_nil)))
    <| pss_cons (ps_set (i := 5) scLaw.nd rfl (.inl rfl) (pe_tup (pa_cons (pe_call PL.ok r6 rfl PL.g PL.kp PL.b .nil pass0 (pa_cons (pv 3) pa_nil)) (pa_cons (pe_kw1 PL.ok r6 rfl PL.g PL.kp kP pass0 (pe_call PL.ok r6 rfl PL.g PL.kp PL.b .nil pass0 (pa_cons (pv 3) pa_nil)))
        (pa_cons (pe_callTy call_tuple_of (by rfl) Bt.tuple (by decide +kernel) (pa_cons (pe_lc (own := [("_law_at", 12)]) (g := gName 12) (tt := tYes) rfl scLaw.nd (pi_range1 (by rfl) Bt.range (pa_cons (pv 4) pa_nil)) (blkOk_by (N := nLaw) (sc := defScope lLaw) (by decide +kernel))
            (fun _ _ _ _ _ => pg_name (i := 12) scLaw.nd rfl (Or.inl rfl)) (fun _ _ _ _ _ => pts_nil) (fun _ _ _ _ _ => pe_call E.ok r6 rfl E.g E.kp E.b .nil passL (pa_cons (pv 3) (pa_cons (pv 12) pa_nil)))) pa_nil)) pa_nil)))))
    <| pss_cons (ps_set (i := 6) scLaw.nd rfl (.inl rfl) (pe_tup (pa_cons (pv 2) (pa_cons (pe_callTy call_tuple_of (by rfl) Bt.tuple (by decide +kernel) (pa_cons (pe_callB (cr_sortedT rfl) (by rfl) Bt.sorted (by decide +kernel)
        (pa_cons (pe_callTy (KR.cr_setTT rfl hu) (by rfl) Bt.set (by decide +kernel) (pa_cons (pe_ix ix_tup (pv 3) pe_int (fun _ _ => rfl)) pa_nil)) pa_nil)) pa_nil)) pa_nil))))
    <| pss_cons (ps_if (pt_cmpR op_ne (pe_callB (call_repr hgu hu) (by rfl) Bt.repr (by decide +kernel) (pa_cons (pv 5) pa_nil))
        (pe_callB (call_repr hgu hu) (by rfl) Bt.repr (by decide +kernel) (pa_cons (pe_tup (pa_cons (pv 6) (pa_cons (pv 6) (pa_cons (pe_ix ix_tup (pv 3) pe_int (fun _ _ => rfl)) pa_nil)))) pa_nil)) (nomark _)) (pss_one (ps_ret pe_bl)) pss_nil)
    <| pss_cons (ps_set (i := 7) scLaw.nd rfl (.inl rfl) (pe_imp (t' := NumT) (pe_ifExp (pt_cmpR op_lt (pv 2) pe_int (nomark _)) (pe_listRg rfl (by rfl) Bt.list (prg_1 (by rfl) Bt.range (pe_op op_oneShl pe_int (pv 2))))
        (pe_op op_cat (pe_lc (own := [("_law_turn", 9)]) (g := gName 9) (tt := tYes) rfl scLaw.nd (pi_range1 (by rfl) Bt.range (pa_cons pe_int pa_nil)) (blkOk_by (N := nLaw) (sc := defScope lLaw) (by decide +kernel))
            (fun _ _ _ _ _ => pg_name (i := 9) scLaw.nd rfl (Or.inl rfl)) (fun _ _ _ _ _ => pts_nil) (fun _ _ _ _ _ => pe_call GD.ok r1 rfl GD.g GD.kp GD.b .nil pass0 (pa_cons (pv 1) (pa_cons (pe_op op_oneShl pe_int (pv 2)) pa_nil))))
          (pe_lst (pa_cons pe_int (pa_cons (pe_op op_sub (pe_op op_oneShl pe_int (pv 2)) pe_int) pa_nil))))) ?num))
    <| pss_cons (ps_for PassesOwn.never rfl (pi_list (pv 7)) (pg_name (i := 8) scLaw.nd rfl (.inl rfl))
        (pss_one (ps_if (pt_not (pt_val (pe_callG AL.ok hgu r9 rfl AL.g AL.kp AL.b pass0 (pa_cons (pv 3) (pa_cons (pe_call GL.ok r1 rfl GL.g GL.kp GL.b .nil pass0 (pa_cons (pv 8) pa_nil)) pa_nil))))) (pss_one (ps_ret pe_bl)) pss_nil)))
    <| pss_cons (ps_for PassesOwn.never rfl (pi_range1 (by rfl) Bt.range (pa_cons pe_int pa_nil)) (pg_name (i := 9) scLaw.nd rfl (.inl rfl))
        (pss_cons (ps_if (pt_not (pt_val (pe_callG AS.ok hgu hr rfl AS.g AS.kp AS.b pass0 (pa_cons (pv 3) (pa_cons (pe_call GB.ok r6 rfl GB.g GB.kp GB.b .nil pass0 (pa_cons (pv 1) (pa_cons (pv 2)
            (pa_cons (pe_call GL.ok r1 rfl GL.g GL.kp GL.b .nil pass0 (pa_cons (pe_call GD.ok r1 rfl GD.g GD.kp GD.b .nil pass0 (pa_cons (pv 1) (pa_cons (pe_op op_oneShl pe_int (pv 2)) pa_nil))) pa_nil)) pa_nil)))) pa_nil))))) (pss_one (ps_ret pe_bl)) pss_nil)
        <| pss_cons (ps_set (i := 10) scLaw.nd rfl (.inr rfl) (pe_call GP.ok r2 rfl GP.g GP.kp GP.b .nil pass0 (pa_cons (pv 1) (pa_cons (pe_lst (pa_cons (pv 4) (pa_cons (pe_un un_neg pe_int) (pa_cons pe_bl (pa_cons pe_bl (pa_cons pe_non (pa_cons pe_str
            (pa_cons (pe_tup (pa_cons pe_int pa_nil)) (pa_cons (pe_lst (pa_cons pe_int pa_nil)) (pa_cons (pe_op op_pow pe_int pe_int) (pa_cons (pe_call GA.ok r5 rfl GA.g GA.kp GA.b .nil pass0 (pa_cons (pv 1) (pa_cons pe_int pa_nil))) (pa_cons (pe_op op_sub (pv 4) pe_int) pa_nil)))))))))))) pa_nil))))
        <| pss_cons (ps_set (i := 11) scLaw.nd rfl (.inl rfl) (pe_imp (t' := DueT) (pe_ifExp (PW.pt (pw_and (pt_val (pe_call GH.ok r1 rfl GH.g GH.kp GH.b .nil pass0 (pa_cons (pv 10) pa_nil))) (pw_and1 (pt_chain op_le op_lt pe_int (pv 10) (pv 4)))))
            (pe_tup (pa_cons pe_str (pa_cons (pe_ix ix_tup (pe_ix ix_tup (pv 3) pe_int (fun _ _ => rfl)) (pv 10) (fun _ _ => rfl)) pa_nil))) (pe_tup (pa_cons pe_str (pa_cons (pv 10) pa_nil)))) ?due))
        <| pss_cons (ps_set (i := 5) scLaw.nd rfl (.inl rfl) (pe_lst (pa_cons
            (pe_told (k := 6) D rfl B.tb rfl B.mem B.uniq r8 (show LamS (defScope lLaw) _ from lamS_by (by decide +kernel)) rfl (fun _ _ _ _ _ => rfl) (fun _ _ _ _ _ _ _ hr' => pe_call E.ok hr' rfl E.g E.kp E.b .nil (passes_call (takes_of rfl rfl rfl rfl) (fun _ _ _ _ h => h)) (pa_cons (pv 3) (pa_cons (pv 10) pa_nil))))
            (pa_cons (pe_told (k := 6) D rfl B.tb rfl B.mem B.uniq r8 (show LamS (defScope lLaw) _ from lamS_by (by decide +kernel)) rfl (fun _ _ _ _ _ => rfl) (fun _ _ _ _ _ _ _ hr' => pe_kw2r E.ok hr' rfl E.g E.kp kE (passes_call (takes_of rfl rfl rfl rfl) (fun _ _ _ _ h => h)) (pv 10) (pv 3)))
            pa_nil))))
        <| pss_one (ps_if (pt_cmpR op_ne (pe_callB (call_repr hgu hu) (by rfl) Bt.repr (by decide +kernel) (pa_cons (pv 5) pa_nil))
            (pe_callB (call_repr hgu hu) (by rfl) Bt.repr (by decide +kernel) (pa_cons (pe_lst (pa_cons (pv 11) (pa_cons (pv 11) pa_nil))) pa_nil)) (nomark _)) (pss_one (ps_ret pe_bl)) pss_nil)))
    <| pss_one (ps_ret pe_bl), ?main⟩
  case num =>
    rintro σ M Q ⟨a, p, c, w, n, m, o5, o6, rfl, n1, n2, D, k⟩
    obtain ⟨w1, w2⟩ := pow12 n2
    have ep : (2 : Int) ^ n = ((2 ^ n : Nat) : Int) := by simp
    refine ⟨_, rfl, _, _, rfl, rfl, _, rfl, ?_⟩
    cases hn : decide ((n : Int) < 5) with
    | true =>
      refine itT rfl ⟨_, rfl, n, rfl, rfl, by omega, ?_⟩
      rw [ep]
      refine ⟨_, rfl, .of_le (by omega) (by omega) (by omega) (by omega), fun q hq => ?_⟩
      rw [rg_ints]
      refine k q _ _ upd_same (fun v hv => ?_) (D.inp hq).1 (D.inp hq).2 (D.new hq) (kp_new hq)
      obtain ⟨i, hi, rfl⟩ := List.mem_map.mp hv
      obtain ⟨j, hj, rfl⟩ := List.mem_map.mp hi
      exact ⟨j, rfl, List.mem_range.mp hj⟩
    | false =>
      refine itF rfl ⟨_, rfl, by decide, by decide, fun Da hD => ?_⟩
      obtain ⟨Dp, Dc⟩ := D.inp hD
      refine lc_range (lo := 0) (n := 10) (fun i N => (∃ xs : List V, N Da = some (.lst xs) ∧ xs.length = i ∧ ∀ v ∈ xs, ∃ x : Nat, v = .int x ∧ x < 2 ^ n) ∧ Deck N p c ∧ Kp p c M N) ⟨⟨[], upd_same, rfl, fun _ z => nomatch z⟩, D.new hD, kp_new hD⟩ ?_ ?_
      · rintro i N hi ⟨⟨xs, f1, f2, f3⟩, D2, K2⟩
        refine ⟨rfl, ?_⟩
        unfold tYes
        refine iteT ⟨_, rfl, _, rfl, n, rfl, rfl, by omega, p, c, _, rfl, D2, by omega, by omega, fun r N2 r0 r1 D3 K3 => ?_⟩
        obtain ⟨x, rfl⟩ : ∃ x : Nat, r = x := ⟨r.toNat, by omega⟩
        have e := K3 Da _ Dp Dc f1
        refine ⟨xs, e, by rw [f2, sizeLine_eq]; omega, ⟨_, upd_same, by rw [List.length_append, f2]; rfl, fun v hv => ?_⟩, D3.put Dp Dc, (K2.trans K3).own hD⟩
        rcases List.mem_append.mp hv with hv | hv
        · exact f3 v hv
        · rw [List.mem_singleton.mp hv]
          exact ⟨x, rfl, by omega⟩
      · rintro N ⟨⟨xs, f1, f2, f3⟩, D2, K2⟩
        refine ⟨_, rfl, n, rfl, rfl, by omega, _, _, rfl, rfl, by show 2 ≤ sizeLine; rw [sizeLine_eq]; omega, fun l hl => ?_⟩
        refine ⟨Da, l, _, _, rfl, rfl, by rw [upd_ne (ne_of_none f1 hl)]; exact f1, upd_same, by rw [f2, sizeLine_eq]; show 10 + 2 ≤ 16777216; decide, fun q hq => ?_⟩
        have D4 := D2.new (o := .lst [.int 0, .int ((2 : Int) ^ n - 1)]) hl
        refine k q _ _ upd_same (fun v hv => ?_) (D4.inp hq).1 (D4.inp hq).2 (D4.new hq) ((K2.trans (kp_new hl)).trans (kp_new hq))
        rcases List.mem_append.mp hv with hv | hv
        · exact f3 v hv
        · rcases List.mem_cons.mp hv with rfl | hv
          · exact ⟨0, rfl, by omega⟩
          · rw [List.mem_singleton.mp hv, ep]
            exact ⟨2 ^ n - 1, congrArg V.int (show ((2 ^ n : Nat) : Int) - 1 = ((2 ^ n - 1 : Nat) : Int) by generalize 2 ^ n = z at w1 w2 ⊢; omega), by omega⟩
  case due =>
    rintro σ M Q ⟨w, n, L, v, t, e, d, h3, h4, h10, g, hv, de, td, k⟩
    obtain ⟨ta, vs, e1, e2, e3⟩ := g.web.ex
    refine ⟨_, h10, v, t, rfl, hv, _, rfl, ?_⟩
    have tie : belowV v L.length = false → d = .tuple [.str "tie", e] → tTup (tCons (tC (.str "tie")) (tCons (tVar 10) tNil)) σ M Q := fun _ ed => ⟨_, h10, by show 2 ≤ sizeLine; rw [sizeLine_eq]; omega, fun p hp => k p _ (same_new hp) (ed ▸ dv_pr upd_same (de.same (same_new hp)))⟩
    rcases td with ⟨i, q, rfl, hq, rfl⟩ | ⟨no, ed⟩
    · have hi := (List.getElem?_eq_some_iff.mp hq).1
      have len := e3.len
      refine itT rfl ⟨_, h10, _, _, rfl, rfl, _, rfl, itT (decide_eq_true (by omega)) ⟨_, h4, _, _, rfl, rfl, _, rfl, itT (decide_eq_true (by omega)) ?_⟩⟩
      have hj : i < vs.length := by omega
      obtain ⟨b, r, eb, hr', hb⟩ := e3.get (List.getElem?_eq_getElem hj)
      rw [hq] at hr'
      cases hr'
      refine ⟨_, h3, w, _, _, _, rfl, rfl, SqT.of e1, atI_nat (j := 1) rfl, _, h10, ta, vs, _, _, rfl, rfl, SqT.of e2, atI_nat (List.getElem?_eq_getElem hj), by show 2 ≤ sizeLine; rw [sizeLine_eq]; omega, fun p hp => k p _ (same_new hp) ?_⟩
      rw [eb]
      exact dv_pr upd_same (.tup trivial (.inl (same_new hp _ _ hb)) rfl (its2 (.int _) (.int _)))
    · have T := tie no ed
      cases hv with
      | int i =>
        refine itT rfl ⟨_, h10, _, _, rfl, rfl, _, rfl, ?_⟩
        have no : (decide (0 ≤ i) && decide (i < (L.length : Nat))) = false := no
        by_cases h0 : (0 : Int) ≤ i
        · rw [decide_eq_true h0, Bool.true_and] at no
          exact itT (decide_eq_true h0) ⟨_, h4, _, _, rfl, rfl, _, rfl, itF no T⟩
        · exact itF (decide_eq_false h0) ⟨_, rfl, itF rfl T⟩
      | _ => exact itF rfl (itF rfl T)
  case main =>
    have z30 : ∀ {m : Nat}, m ≤ 1000 → m ≤ sizeLine := fun h => by rw [sizeLine_eq]; omega
    refine ⟨_, rfl, a, ns, rfl, hS, fun p c H1 D1 s1 hp hc => ?_⟩
    refine ⟨_, rfl, _, rfl, p, c, 4, rfl, D1, by decide, by decide, fun r0 H2 _ _ D2 K2 => ⟨rfl, _, rfl, if_two fun m hm => ⟨p, c, m, rfl, D2, by omega, by omega, fun r3 H3 b0 b1 D3 K3 => ⟨_, _, rfl, rfl, ?_⟩⟩⟩⟩
    obtain ⟨n, hn⟩ : ∃ n : Nat, 1 + r3 = (n : Int) := ⟨(1 + r3).toNat, by omega⟩
    show gName 2 (V.int (1 + r3)) _ H3 _
    rw [hn]
    have n1 : 1 ≤ n := by omega
    have n2 : n ≤ 12 := by omega
    have t1 := tabs.ext s1
    have t3 := tabs_kp (tabs_kp t1 D1 K2) D2 K3
    clear hm hn b0 b1
    refine ⟨_, rfl, _, rfl, _, rfl, by show 3 ≤ sizeLine; exact z30 (by decide), fun l hl => ?_⟩
    obtain ⟨lp, lc⟩ := D3.inp hl
    refine ⟨p, c, l, _, rfl, D3.new hl, upd_same, lp, lc, by decide, by decide, fun i v H4 e D4 K4 => ?_⟩
    obtain ⟨m, hm, rfl⟩ : ∃ m : Nat, m ≤ 40 ∧ v = .int m := by
      have hv := List.mem_of_getElem? e
      simp only [List.mem_cons, List.not_mem_nil, or_false] at hv
      rcases hv with rfl | rfl | rfl
      · exact ⟨6, by decide, rfl⟩
      · exact ⟨12, by decide, rfl⟩
      · exact ⟨40, by decide, rfl⟩
    refine ⟨p, c, n, m, rfl, n1, n2, hm, D4, fun w L H5 _ W hB hs hL D5 K5 => ?_⟩
    have gw : GW H5 w n L := ⟨W, n1, n2, hB, hs, by omega⟩
    have t5 : Tabs T H5 := tabs_kp (tabs_kp (t3.ext (same_new hl)) (D3.new hl) K4) D4 K5
    have S5 : LS T p c w n L H5 := ⟨gw, D5, t5⟩
    obtain ⟨ta, vs, e1, e2, e3⟩ := gw.web.ex
    have len := e3.len
    refine ⟨_, rfl, w, _, _, _, rfl, rfl, SqT.of e1, atI_nat (j := 1) rfl, ta, _, rfl, .inr (SqT.of e2), ?_⟩
    rw [len]
    clear t5 t3 t1 e D4 K4 K5 K3 K2 D1 D2 D3 hl lp lc
    refine ⟨_, rfl, w, n, L, rfl, gw, fun q1 M1 H6 s6 _ W1 p1 => ⟨_, rfl, w, n, L, rfl, gw.same s6, fun q2 M2 H7 s7 _ W2 p2 => ⟨q2, n, M2, rfl, (gw.same (s6.trans s7)).pl W2 p2, fun q3 M3 H8 s8 _ W3 p3 => ?_⟩⟩⟩
    have e21 : M2 = M1 := pl_uniq (by omega) hB p2 p1
    subst e21
    have e31 : M3 = M2 := pl_uniq (by omega) hB (pl_two p2 p3) p2
    subst e31
    have s58 := (s6.trans s7).trans s8
    have g8 := gw.same s58
    have few := gw.few
    refine ⟨_, rfl, _, rfl, by omega, by omega, fun Da hD => ?_⟩
    refine lc_range (lo := 0) (n := ((L.length : Nat) : Int).toNat) (fun i N => (∃ ws, N Da = some (.lst ws) ∧ Prs N ws (L.take i)) ∧ Same H8 N) ⟨⟨[], upd_same, .nil⟩, same_new hD⟩ ?_ ?_
    · rintro i N hi ⟨⟨ws, f1, f2⟩, f3⟩
      have hi' : i < L.length := by omega
      have hq := List.getElem?_eq_getElem hi'
      refine ⟨rfl, ?_⟩
      unfold tYes
      refine iteT ⟨_, rfl, _, rfl, w, n, L, _, "int", rfl, g8.same f3, .int _, fun j q ej hj b N2 sb hb => ?_, fun no => ?_⟩
      · have : j = i := by
          have := V.int.inj ej
          omega
        subst this
        rw [hq] at hj
        cases hj
        have e := sb _ _ f1
        refine ⟨ws, e, by rw [f2.len, List.length_take, sizeLine_eq]; omega, ⟨_, upd_same, ?_⟩, fun x o ex => by rw [upd_ne (ne_of_none ex hD)]; exact (f3.trans sb) _ _ ex⟩
        rw [take_snoc hq]
        exact ((f2.mono (same_tup sb)).app (.cons hb .nil)).mono (upd_tup e)
      · have := below_at hq
        rw [Int.zero_add] at no
        rw [this] at no
        cases no
    rintro N ⟨⟨ws, f1, f2⟩, f3⟩
    rw [show ((L.length : Nat) : Int).toNat = L.length by omega, List.take_length] at f2
    refine ⟨Da, ws, rfl, .inl ⟨SqL.of f1, fun tE hE => ⟨by show 3 ≤ sizeLine; exact z30 (by decide), fun tt htt => ?_⟩⟩⟩
    have sN : Same N (upd (upd N tE (.tup ws)) tt (.tup [.ref q1, .ref q3, .ref tE])) := (same_new hE).trans (same_new htt)
    have s5N := s58.trans (f3.trans sN)
    have xtt : (upd (upd N tE (.tup ws)) tt (.tup [.ref q1, .ref q3, .ref tE])) tt = some (.tup [.ref q1, .ref q3, .ref tE]) := upd_same
    have xE : (upd (upd N tE (.tup ws)) tt (.tup [.ref q1, .ref q3, .ref tE])) tE = some (.tup ws) := same_new htt _ _ upd_same
    have d1 : DV (upd (upd N tE (.tup ws)) tt (.tup [.ref q1, .ref q3, .ref tE])) Any (.ref q1) (webD n M3) := (W1.same (s7.trans (s8.trans (f3.trans sN)))).dv
    have d3 : DV (upd (upd N tE (.tup ws)) tt (.tup [.ref q1, .ref q3, .ref tE])) Any (.ref q3) (webD n M3) := (W3.same (f3.trans sN)).dv
    have dE : DV (upd (upd N tE (.tup ws)) tt (.tup [.ref q1, .ref q3, .ref tE])) Any (.ref tE) (.tuple (L.map pd)) := .tup trivial (.inl xE) (by rw [List.length_map, f2.len]) (f2.mono (same_tup sN)).dv
    have G3 : GW H8 q3 n M3 := g8.pl W3 p2
    clear f1 f2 f3 hD hE htt
    generalize upd (upd N tE (HO.tup ws)) tt (HO.tup [.ref q1, .ref q3, .ref tE]) = HA at s5N xtt xE d1 d3 dE ⊢
    have gA := gw.same s5N
    obtain ⟨ua, us, u1, u2, u3⟩ := gA.web.ex
    obtain ⟨ks, k1, k2, k3, k4⟩ := u3.ks
    refine ⟨_, rfl, _, rfl, w, _, _, _, rfl, rfl, SqT.of u1, atI_nat (j := 1) rfl, ua, ks, rfl, SqT.of (k1 ▸ u2), fun e he => ?_, by omega, fun b Ls hb y1 y2 => ?_⟩
    · obtain ⟨q, _, h1, h2⟩ := k2 e he
      rw [h1]
      exact SqT.of h2
    have sb : Same HA (upd HA b (SetTO P w0 b Ls)) := same_new hb
    refine ⟨b, Ls, 2, 64, rfl, upd_same, fun e he => ?_, by decide, fun e he => ?_, fun Lt q pm nd lt pw hq => ?_⟩
    · obtain ⟨r, _, h1, h2⟩ := k2 e (y1 e he)
      rw [h1]
      exact SqT.of (sb _ _ h2)
    · obtain ⟨r, hr', h1, _⟩ := k2 e (y1 e he)
      have := hB r hr'
      rw [h1]
      refine ⟨rfl, fun m hm => ?_⟩
      rcases List.mem_cons.mp hm with rfl | hm
      · omega
      · rw [List.mem_singleton.mp hm]; omega
    have sp := sb.trans (same_new (o := .lst (Lt.map fun q => V.ref q.1)) hq)
    have mt : ∀ e ∈ Lt, ∃ r ∈ L, e.2 = [r.1, r.2] ∧ (upd (upd HA b (SetTO P w0 b Ls)) q (.lst (Lt.map fun z => V.ref z.1))) e.1 = some (.tup [.int r.1, .int r.2]) := fun e he => by
      obtain ⟨r, hr', h1, h2⟩ := k2 e (y1 e (pm.mem_iff.mp he))
      exact ⟨r, hr', h1, sp _ _ h2⟩
    obtain ⟨M, m1, m2⟩ := ks_prs mt
    have pl : IsPl L M := by
      refine ⟨?_, ?_, fun r => ⟨fun hr' => ?_, fun hr' => ?_⟩⟩
      · rw [m2] at nd
        exact nodup_of_map nd
      · have : (Lt.map (·.2)).Pairwise fun a b => TS.code 64 a ≤ TS.code 64 b := List.pairwise_map.mpr pw
        rw [m2] at this
        exact (List.pairwise_map.mp this).imp fun {a b} z => by rw [code_pair, code_pair] at z; exact z
      · have : [r.1, r.2] ∈ Lt.map (·.2) := by rw [m2]; exact List.mem_map.mpr ⟨r, hr', rfl⟩
        obtain ⟨e, he, e1⟩ := List.mem_map.mp this
        obtain ⟨r', hr2, h1, _⟩ := mt e he
        rw [pr_inj (e1.symm.trans h1)]
        exact hr2
      · obtain ⟨e, he, h1⟩ := k3 r hr'
        have h2 := y2 e he
        rw [h1] at h2
        obtain ⟨e', he', h3⟩ := List.mem_map.mp h2
        have : [r.1, r.2] ∈ Lt.map (·.2) := List.mem_map.mpr ⟨e', pm.mem_iff.mpr he', h3⟩
        rw [m2] at this
        obtain ⟨r', hr2, h4⟩ := List.mem_map.mp this
        rw [← pr_inj h4]
        exact hr2
    have e32 : M = M3 := pl_uniq (by omega) hB pl p2
    subst e32
    refine ⟨q, _, rfl, .inl ⟨SqL.of upd_same, fun t ht => ⟨by show 2 ≤ sizeLine; decide, fun w' hw => ?_⟩⟩⟩
    have sW : Same HA (upd (upd (upd (upd HA b (SetTO P w0 b Ls)) q (.lst (Lt.map fun (q : Addr × List Int) => V.ref q.1))) t (.tup (Lt.map fun (q : Addr × List Int) => V.ref q.1))) w' (.tup [.int n, .ref t])) := (sp.trans (same_new ht)).trans (same_new hw)
    have dW : DV (upd (upd (upd (upd HA b (SetTO P w0 b Ls)) q (.lst (Lt.map fun (q : Addr × List Int) => V.ref q.1))) t (.tup (Lt.map fun (q : Addr × List Int) => V.ref q.1))) w' (.tup [.int n, .ref t])) Any (.ref w') (webD n M) := Web.dv ⟨t, _, upd_same, by rw [upd_ne (ne_of_none upd_same hw)]; exact upd_same, (m1.mono (new_tup ht)).mono (new_tup hw)⟩
    have fe : ∀ {a b : PyData}, Tame 4 a → Tame 4 b → Fit (.tuple [a, a, b]) := fun ha hb => (tame_tuple (k := 4) (fun d hd => by
      rcases List.mem_cons.mp hd with rfl | hd
      · exact ha
      rcases List.mem_cons.mp hd with rfl | hd
      · exact ha
      · rw [List.mem_singleton.mp hd]; exact hb) (by simp)).fit (by decide)
    have sm : ∀ {X : List (Int × Int)}, Bel n X → ∀ r ∈ X, (0 ≤ r.1 ∧ r.1 < 64) ∧ (0 ≤ r.2 ∧ r.2 < 64) := fun h r hr' => by have := h r hr'; omega
    have tW : Tame 4 (webD n M) := tame_web n2 (sm G3.bel) G3.few
    have tL : Tame 4 (.tuple (L.map pd)) := ((tame_big (fun e he => by
      obtain ⟨r, hr', rfl⟩ := List.mem_map.mp he
      exact tame_pd (sm hB r hr').1 (sm hB r hr').2) (by rw [List.length_map]; exact few)).1).up
    have nK : ∀ {ds : List PyData} (kvs), PyData.tuple ds ≠ .dict kvs := fun _ z => nomatch z
    rw [show SetTO (cxOf CX0 P w0 K mg base nLaw "law" (defScope lLaw) fa (.ref c0) callerA [] s H (fun _ _ _ => False)).nox.prog (cxOf CX0 P w0 K mg base nLaw "law" (defScope lLaw) fa (.ref c0) callerA [] s H (fun _ _ _ => False)).nox.w b Ls = SetTO P w0 b Ls from rfl]
    generalize upd (upd (upd (upd HA b (SetTO P w0 b Ls)) q (HO.lst (Lt.map fun (q : Addr × List Int) => V.ref q.1))) t (HO.tup (Lt.map fun (q : Addr × List Int) => V.ref q.1))) w' (HO.tup [.int n, .ref t]) = HB at sW dW ⊢
    clear m1 m2 mt pl pm nd lt pw hq sp sb y1 y2 hb k1 k2 k3 k4 hw ht
    refine ⟨_, rfl, tt, .tuple [webD n M, webD n M, .tuple (L.map pd)], rfl, .tup trivial (.inl (sW _ _ xtt)) rfl (its3 (d1.same sW) (d3.same sW) (dE.same sW)), fe tW tL, nK, ?_⟩
    have gB := gA.same sW
    obtain ⟨xa, xs, x1, x2, x3⟩ := gB.web.ex
    refine ⟨_, rfl, _, rfl, _, rfl, w, _, _, _, rfl, rfl, SqT.of x1, atI_nat (j := 1) rfl, by show 3 ≤ sizeLine; exact z30 (by decide), fun pp hpp => ?_⟩
    have sP := same_new (o := .tup [.ref w', .ref w', .ref xa]) hpp
    refine ⟨pp, .tuple [webD n M, webD n M, .tuple (L.map pd)], rfl, .tup trivial (.inl upd_same) rfl (its3 (dW.same sP) (dW.same sP) (.tup trivial (.inl (sP _ _ x2)) (by rw [List.length_map, x3.len]) (x3.mono (same_tup sP)).dv)), fe tW tL, nK, ?_⟩
    refine ⟨rfl, _, rfl, ?_⟩
    rw [ne_self]
    refine iteF ?_
    have SB := ((S5.same s5N).same sW).same sP
    clear gB gA
    generalize upd HB pp (HO.tup [.ref w', .ref w', .ref xa]) = HC at SB ⊢
    refine ⟨a, p, c, w, n, L.length, .ref tt, .ref w', rfl, n1, n2, SB.D, fun l xs M1 el hxs lp lc D1' K1' => ?_⟩
    have SC := SB.kp D1' K1'
    clear x1 x2 x3
    refine ⟨_, rfl, l, rfl, ⟨_, SqL.of el⟩, for_list (K := K) (a := l) (xs := xs) (fun i σ N => ∃ o8 : Option V, σ = [some (.ref a), some (.ref p), some (.int n), some (.ref w), some (.int (L.length : Nat)), some (.ref tt), some (.ref w'), some (.ref l), o8, none, none, none, none] ∧ N l = some (.lst xs) ∧ LS T p c w n L N) ⟨none, rfl, el, SC⟩ (fun i σ N _ ⟨_, _, h, _⟩ => SqL.of h) ?_ ?_⟩
    · rintro i x σ N hx ⟨o8, rfl, f1, f2⟩
      obtain ⟨y, rfl, hy⟩ := hxs x (List.mem_of_getElem? hx)
      refine ⟨_, rfl, _, rfl, y, rfl, fun t N1 s1' _ tx => ⟨w, t, n, L, bitsN y 12, rfl, f2.G.same s1', tx, bits_lot hy n2, f2.T.ext s1', fun N2 e2' T2' => ⟨_, rfl, iteF ⟨_, rfl, ?_, ?_⟩⟩⟩⟩
      · exact e2' _ _ (s1' _ _ f1) fun _ z => nomatch z
      · exact (f2.same s1').ext e2' T2'
    rintro σ N ⟨o8, rfl, _, f2⟩
    refine ⟨_, rfl, by decide, by decide, ?_⟩
    refine for_range (lo := 0) (n := 8) (fun i σ N => ∃ (v5 : V) (o9 o10 o11 : Option V), σ = [some (.ref a), some (.ref p), some (.int n), some (.ref w), some (.int (L.length : Nat)), some v5, some (.ref w'), some (.ref l), o8, o9, o10, o11, none] ∧ LS T p c w n L N) ⟨_, none, none, none, rfl, f2⟩ ?_ ?_
    · rintro i σ N hi ⟨v5, o9, o10, o11, rfl, S⟩
      have ep : (2 : Int) ^ n = ((2 ^ n : Nat) : Int) := by simp
      obtain ⟨w1, w2⟩ := pow12 n2
      refine ⟨_, rfl, _, rfl, _, rfl, _, rfl, _, rfl, n, rfl, rfl, by omega, p, c, _, rfl, S.D, by omega, by omega, fun r N1 r0 r1 D1 K1 => ?_⟩
      obtain ⟨x, rfl⟩ : ∃ x : Nat, r = x := ⟨r.toNat, by omega⟩
      have hx : x < 2 ^ n := by omega
      refine ⟨x, rfl, fun t N2 s2 _ tx => ⟨p, c, t, n, bitsN x 12, rfl, n1, n2, D1.same s2, tx, bits_lot hx n2, fun v N3 bn D3 K3 => ?_⟩⟩
      have S3 : LS T p c w n L N3 := ((S.kp D1 K1).same s2).kp D3 K3
      refine ⟨w, v, n, L, rfl, S3.G, bn, S3.T, fun N4 x4 T4 => ⟨_, rfl, iteF ?_⟩⟩
      have S4 : LS T p c w n L N4 := S3.ext x4 T4
      clear S3 bn D3 K3 tx s2 D1 K1 S T4 x4
      -- a number that may be none of a tie
      refine ⟨_, rfl, _, rfl, _, rfl, by show 1 ≤ sizeLine; exact z30 (by decide), fun t1 ht1 => ⟨by show 1 ≤ sizeLine; exact z30 (by decide), fun l1 hl1 => ⟨_, _, rfl, rfl, ⟨by decide, by decide, by decide⟩, ?_⟩⟩⟩
      have e1 : (upd N4 t1 (.tup [V.int 0])) t1 = some (.tup [.int 0]) := upd_same
      have e2 : (upd (upd N4 t1 (.tup [V.int 0])) l1 (.lst [.int 0])) t1 = some (.tup [.int 0]) := by rw [upd_ne (ne_of_none e1 hl1)]; exact e1
      have e3 : (upd (upd N4 t1 (.tup [V.int 0])) l1 (.lst [.int 0])) l1 = some (.lst [.int 0]) := upd_same
      obtain ⟨tp, tc⟩ := S4.D.inp ht1
      obtain ⟨lp1, lc1⟩ := (S4.same (same_new (o := .tup [V.int 0]) ht1)).D.inp hl1
      have S5 : LS T p c w n L (upd (upd N4 t1 (.tup [V.int 0])) l1 (.lst [.int 0])) := S4.same ((same_new ht1).trans (same_new hl1))
      clear S4 ht1 hl1 e1
      generalize upd (upd N4 t1 (HO.tup [V.int 0])) l1 (HO.lst [V.int 0]) = Hm at e2 e3 S5 ⊢
      refine ⟨_, rfl, p, c, 2, rfl, by decide, S5.D, fun va ea N5 tm dva nt D6 K6 => ⟨_, rfl, _, _, rfl, rfl, by show 11 ≤ sizeLine; exact z30 (by decide), fun lm hlm => ?_⟩⟩
      have S6 := S5.kp D6 K6
      obtain ⟨lmp, lmc⟩ := D6.inp hlm
      refine ⟨p, c, lm, _, rfl, D6.new hlm, upd_same, lmp, lmc, by show 1 ≤ 11; decide, by show 11 < 1000; decide, fun j u N6 eu D8 K8 => ?_⟩
      have sm := same_new (o := .lst [.int (L.length : Nat), .int (-1), .bl true, .bl false, .non, .str "0", .ref t1, .ref l1, .int (10 ^ (39 : Int).toNat), va, .int ((L.length : Nat) - 1)]) hlm
      have k8 : Kp p c Hm N6 := (K6.trans (kp_same sm)).trans K8
      have S8 : LS T p c w n L N6 := (S6.same sm).kp D8 K8
      have mt : N6 t1 = some (.tup [.int 0]) := k8 _ _ tp tc e2
      have ml : N6 l1 = some (.lst [.int 0]) := k8 _ _ lp1 lc1 e3
      have one : ∀ (i : Nat) (v : V) (d : PyData), ([V.int 0] : List V)[i]? = some v → ([PyData.int 0] : List PyData)[i]? = some d → DV N6 Any v d := its1 (.int 0)
      have odd : ∃ d, DV N6 Any u d ∧ Tame 3 d := by
        have hv := List.mem_of_getElem? eu
        simp only [List.mem_cons, List.not_mem_nil, or_false] at hv
        rcases hv with rfl | rfl | rfl | rfl | rfl | rfl | rfl | rfl | rfl | rfl | rfl
        · exact ⟨_, .int _, tame_small (by omega) 3⟩
        · exact ⟨_, .int (-1), ⟨by decide +kernel, by decide +kernel, by decide +kernel, by decide +kernel, by decide +kernel⟩⟩
        · exact ⟨_, .bl true, tame_plain (.inl ⟨_, rfl⟩) _⟩
        · exact ⟨_, .bl false, tame_plain (.inl ⟨_, rfl⟩) _⟩
        · exact ⟨_, .non, tame_plain (.inr rfl) _⟩
        · exact ⟨_, .str "0", ⟨by simp only [PyData.showable], by decide +kernel, by decide +kernel, by decide +kernel, by decide +kernel⟩⟩
        · exact ⟨.tuple [.int 0], .tup trivial (.inl mt) rfl one, ⟨by decide +kernel, by decide +kernel, by decide +kernel, by decide +kernel, by decide +kernel⟩⟩
        · exact ⟨.list [.int 0], .lst trivial ml rfl one, ⟨by decide +kernel, by decide +kernel, by decide +kernel, by decide +kernel, by decide +kernel⟩⟩
        · exact ⟨_, .int _, ⟨by decide +kernel, by decide +kernel, by simp only [PyData.depth]; omega, by simp only [PyData.bulk]; omega, by simp only [slimD]⟩⟩
        · exact ⟨ea, dva.mono fun b o z q => ⟨trivial, K8 b o (S5.D.inp z).1 (S5.D.inp z).2 (sm _ _ q)⟩, tm.up⟩
        · by_cases z : L.length = 0
          · have e0 : ((L.length : Nat) : Int) - 1 = -1 := by omega
            exact ⟨.int (((L.length : Nat) : Int) - 1), .int _, by rw [e0]; exact ⟨by decide +kernel, by decide +kernel, by decide +kernel, by decide +kernel, by decide +kernel⟩⟩
          · exact ⟨_, .int _, tame_small (by omega) 3⟩
      obtain ⟨eo, deo, teo⟩ := odd
      obtain ⟨ty, hty⟩ := deo.vt
      obtain ⟨d, td⟩ := tie_ex L u eo
      have tD : Tame 5 d := tie_tame td S8.G.bel n2 teo
      clear mt ml one eu k8 sm S6 S5 e2 e3 dva nt tm K6 K8 D6 D8
      refine ⟨w, n, L, u, ty, eo, d, rfl, rfl, rfl, S8.G, hty, deo, td, fun q7 N7 s7 dq7 => ?_⟩
      refine ⟨S8.T.ext s7, fun M1 x1 T1 => ⟨_, rfl, _, rfl, ends_run td ((S8.G.same s7).ext x1) ((hty.mono s7).ext x1) ((deo.same s7).ext x1) fun q1 M2 u1 dq1 => ⟨T1.ext u1, fun M3 x3 T3 => ?_⟩⟩⟩
      have y3 : ExtN N6 M3 := (((ext_same s7).trans x1).trans (ext_same u1)).trans x3
      refine ⟨_, rfl, _, rfl, ends_run td (S8.G.ext y3) (hty.ext y3) (deo.ext y3) fun q2 M4 u2 dq2 => ⟨by show 2 ≤ sizeLine; exact z30 (by decide), fun l2 hl2 => ?_⟩⟩
      have sE : Same M4 (upd M4 l2 (.lst [.ref q1, .ref q2])) := same_new hl2
      have y5 : ExtN M2 (upd M4 l2 (.lst [.ref q1, .ref q2])) := (x3.trans (ext_same u2)).trans (ext_same sE)
      have d1 := dq1.ext y5
      have d2 := dq2.same sE
      have d7 := dq7.ext ((x1.trans (ext_same u1)).trans y5)
      have T5 : Tabs T (upd M4 l2 (.lst [.ref q1, .ref q2])) := (T3.ext u2).ext sE
      have y6 : ExtN N6 (upd M4 l2 (.lst [.ref q1, .ref q2])) := (y3.trans (ext_same u2)).trans (ext_same sE)
      have el : (upd M4 l2 (.lst [.ref q1, .ref q2])) l2 = some (.lst [.ref q1, .ref q2]) := upd_same
      clear y5 sE hl2 dq2 dq1 dq7
      generalize upd M4 l2 (HO.lst [V.ref q1, V.ref q2]) = M5 at d1 d2 d7 T5 y6 el ⊢
      refine ⟨_, rfl, l2, .list [d, d], rfl, .lst trivial el rfl (its2 d1 d2), fit2 tD tD, (fun _ z => nomatch z), ?_⟩
      refine ⟨_, rfl, _, rfl, by show 2 ≤ sizeLine; exact z30 (by decide), fun l3 hl3 => ⟨l3, .list [d, d], rfl, .lst trivial upd_same rfl (its2 (d7.same (same_new hl3)) (d7.same (same_new hl3))), fit2 tD tD, (fun _ z => nomatch z), ?_⟩⟩
      refine ⟨rfl, _, rfl, ?_⟩
      rw [ne_self]
      refine iteF ?_
      exact ⟨_, _, _, _, rfl, (S8.ext y6 T5).same (same_new hl3)⟩
    · rintro σ N ⟨v5, o9, o10, o11, rfl, S⟩
      exact rfl
end
end K0

set_option Elab.async false
set_option linter.all false
set_option maxRecDepth 100000
set_option maxHeartbeats 4000000
/-! The law at the place from which it is called, with the tables of its lambdas. -/
namespace K0
open PySem PySem.Spec L2
open PyProof.Rows hiding St
open PySem.W (Frag)
open LamX (ExtN Tabs TabB TabS)

section
variable {P : Program} {w : World} {K : Frag} {mg mb : Str → Option Value} {k : Nat} {fa a c0 : Addr} {fd : FuncData} {x name qual : Str} {st : Stmt} {N : List Str} {s₁ : Shared} {vs : List Value} {ns : List Int} {cs : List (Addr × Addr)}
/-- a code object and its empty table -/
def Tbl (K : Frag) (h : Heap) (p : Addr × Addr) : Prop := K.lookup p.2 = none ∧ PySem.W.CodeHd h p.1 p.2 ∧ h.get? p.2 = some (PySem.W.tabObj #[])
def HasMain (mg : Str → Option Value) (h : Heap) : Prop := ∃ (bm : Addr) (ob : Obj), mg "__builtins__" = some (.ref bm) ∧ bm ≠ builtinsNs ∧ h.get? bm = some ob ∧ ob.cls = .type "module" ∧ ob.dict = some builtinsNs ∧ ob.data = .plain
theorem law_outT (F : FunC K name qual st fa fd c0) (S : FnScope N [x] (defScope st)) (KX : K.In s₁.heap) (hns : s₁.heap.Ns mainGlobals mg) (hb : s₁.heap.Ns builtinsNs mb) (hbb : ∀ x : Str, x ≠ "__name__" → mb x = bootBuiltins x) (hlim : s₁.heap.NoLimit) (hg : s₁.gens = #[]) (hm : HasMain mg s₁.heap)
    (tabs : ∀ p ∈ cs, Tbl K s₁.heap p) (ha : s₁.heap.get? a = some { cls := .type "list", data := .seq vs.toArray }) (hi : IntsAre vs ns) (hl : ns.length ≤ sizeLine) (hr : Room (k + 1) callerA) (hbind : ∀ (s : Shared) (u : Value), BindsTo s fd ⟨[u], []⟩ [(x, u)])
    (body : ∀ (base : Heap) (H : Hp) (s : Shared), K.In base → base.Ns mainGlobals mg → (∀ p ∈ cs, TabB base mg p.1 p.2) → (∀ p ∈ cs, H p.2 = some (.tbl #[])) → SqL K H a (ns.map V.int) → Room k (callerA.deeper (envOfC qual (defScope st) s.heap.objs.size fa (.ref c0))) →
      ∃ t, PSs (cxOf CX0 P w K mg base N qual (defScope st) fa (.ref c0) callerA [] s H (fun _ _ _ => False)).nox (defBody st) t ∧ t { nx := fun _ H' => (V.non = .bl true : Prop), rt := fun v _ => v = .bl true } (start N [.ref a]) H) :
    codeAny (model P w) callerA (.call (.ref fa) ⟨[.ref a], []⟩) (fun r s' => r = .ok (.ret (.bool true)) ∧ OldK s₁.heap s'.heap ∧ s'.os = s₁.os ∧ AllBare s'.gens) s₁ := by
  -- over any abstract heap that tracks the script at most, and the tables
  have go : ∀ H : Hp, SqL K H a (ns.map V.int) → (∀ p ∈ cs, H p.2 = some (.tbl #[])) → HOk P w H s₁.heap → (∀ b u, H b = some u → (b = a ∧ K.lookup a = none ∧ ∃ o ys, u = .frz o (.lst ys)) ∨ ∃ p ∈ cs, b = p.2 ∧ u = .tbl #[]) →
      codeAny (model P w) callerA (.call (.ref fa) ⟨[.ref a], []⟩) (fun r s' => r = .ok (.ret (.bool true)) ∧ OldK s₁.heap s'.heap ∧ s'.os = s₁.os ∧ AllBare s'.gens) s₁ := by
    intro H hS hT hok only
    have free : ∀ {b : Addr} {o : Obj}, s₁.heap.get? b = some o → (∀ ys n, o.data ≠ .seq ys n) → o.data ≠ .fields #[] → H b = none := fun {b o} e n1 n2 => by
      cases q : H b with
      | none => rfl
      | some u =>
        rcases only b u q with ⟨z, _⟩ | ⟨p, hp, z, _⟩
        · rw [z, ha] at e
          cases e
          exact (n1 _ _ rfl).elim
        · rw [z, (tabs p hp).2.2] at e
          cases e
          exact (n2 rfl).elim
    have low : ∀ {b : Addr} {m : Str → Option Value}, s₁.heap.Ns b m → (hidT s₁.heap H).Ns b m := fun {b m} ⟨o, es, ep, e, d, r⟩ => ⟨o, es, ep, hidT_get e (free e (fun _ _ z => by rw [d] at z; cases z) fun z => by rw [d] at z; cases z), d, r⟩
    have KB : K.In (hidT s₁.heap H) := fun b o e => hidT_get (KX b o e) (by
      cases q : H b with
      | none => rfl
      | some u =>
        rcases only b u q with ⟨z, n, _⟩ | ⟨p, hp, z, _⟩
        · rw [z, n] at e
          cases e
        · rw [z, (tabs p hp).1] at e
          cases e)
    have TB : ∀ p ∈ cs, TabB (hidT s₁.heap H) mg p.1 p.2 := fun p hp => by
      obtain ⟨_, hC, hP⟩ := tabs p hp
      refine ⟨?_, ?_, fun z => ?_⟩
      · obtain ⟨o, us, i1, i2, i3, i4, i5, i6, i7, g1, g2, g3, g4, gs⟩ := hC
        refine ⟨o, us, i1, i2, i3, i4, i5, i6, i7, hidT_get g1 (free g1 (fun _ _ z => by rw [g3] at z; cases z) fun z => ?_), g2, g3, g4, gs⟩
        rw [g3] at z
        cases z
        simp at g4
      · obtain ⟨bm, ob, y1, y2, y3, y4, y5, y6⟩ := hm
        refine ⟨bm, ob, y1, y2, fun z => ?_, fun z => ?_, hidT_get y3 (free y3 (fun _ _ z => by rw [y6] at z; cases z) fun z => by rw [y6] at z; cases z), y4, y5, y6⟩
        · obtain ⟨o, es, ep, e, hd, _⟩ := hns
          rw [z, e] at y3
          cases y3
          rw [hd] at y6
          cases y6
        · rw [z, hP] at y3
          cases y3
          cases y6
      · obtain ⟨o, es, ep, e, hd, _⟩ := hns
        rw [z, hP] at e
        cases e
        cases hd
    have e0 : Env0 P w K mg (hidT s₁.heap H) callerA [] s₁ H := ⟨rfl, ⟨KB, low hns, ⟨mb, low hb, hbb⟩, hlim.imp fun mc z => ⟨low z.1, z.2⟩⟩, fun b o e => of_hidT e, Nat.le_of_eq (hidT_size _ _), trivial, fun b z => absurd z List.not_mem_nil, hok, .of_eq hg⟩
    refine codeAny_mono (F.run1 (Q := fun v _ => v = .bl true) (E := fun _ _ _ => False) (us := [.ref a]) (vs := [.ref a]) S hr e0 (hbind s₁ (.ref a)) (.cons rfl .nil) rfl fun hr' => body _ H s₁ KB (low hns) TB hT hS hr') fun r s' z => ?_
    match r, z with
    | .ok (.ret u), z =>
      obtain ⟨v, H', os, bare, un, ok', r', q⟩ := z
      have q' : v = .bl true := q
      subst q'
      obtain rfl : u = Value.bool true := r'
      have stays : ∀ b o, s₁.heap.get? b = some o → s'.heap.get? b = some o ∨ ∃ p ∈ cs, b = p.2 := fun b o e => by
        cases q : H b with
        | none => exact .inl (un.keep b o e q (fun y => absurd y List.not_mem_nil) (fun y => absurd y List.not_mem_nil))
        | some u =>
          rcases only b u q with ⟨_, _, ob, ys, rfl⟩ | ⟨p, hp, z, _⟩
          · have y1 := (hok b _ q).1
            rw [e] at y1
            cases y1
            exact .inl (ok' b _ (un.frzs b o _ q)).1
          · exact .inr ⟨p, hp, z⟩
      have grown : ∀ p ∈ cs, ∃ more : Array Value, s'.heap.get? p.2 = some (PySem.W.tabObj more) := fun p hp => (un.tbls p.2 #[] (hT p hp)).elim fun _ z => ⟨_, ok' p.2 _ z⟩
      refine ⟨rfl, ⟨fun b o e => ?_, fun b o e => ?_⟩, os, bare⟩
      · rcases stays b o e with z | ⟨p, hp, rfl⟩
        · exact .inl z
        · obtain ⟨_, hC, hP⟩ := tabs p hp
          rw [hP] at e
          cases e
          obtain ⟨more, hmore⟩ := grown p hp
          exact .inr (.inl ⟨(hC.tab hP).isCodeTable, rfl, #[], more, rfl, hmore.trans (by rw [Array.empty_append])⟩)
      · rcases stays b o e with z | ⟨p, hp, rfl⟩
        · exact ⟨o, z⟩
        · exact (grown p hp).imp' _ fun _ z => z
    | .ok .next, z => exact z.elim
    | .ok .brk, z => exact z.elim
    | .ok .cont, z => exact z.elim
    | .error _, z => exact False.elim z
  have rv := vals_ints hi
  have isT : ∀ p ∈ cs, ¬ a = p.2 := fun p hp z => by
    have e := (tabs p hp).2.2
    rw [← z, ha] at e
    cases e
  let isTab : Addr → Bool := fun b => cs.any fun p => p.2 == b
  have tabY : ∀ p ∈ cs, isTab p.2 = true := fun p hp => List.any_eq_true.mpr ⟨p, hp, beq_self_eq_true _⟩
  have tabN : ∀ b, isTab b = true → ∃ p ∈ cs, b = p.2 := fun b z => by
    obtain ⟨p, hp, e⟩ := List.any_eq_true.mp z
    exact ⟨p, hp, (beq_iff_eq.mp e).symm⟩
  cases hk : K.lookup a with
  | some o =>
    have e := KX a o hk
    rw [ha] at e
    cases e
    have look : ∀ {b : Addr} {u : HO}, (if isTab b = true then some (HO.tbl #[]) else none) = some u → ∃ p ∈ cs, b = p.2 ∧ u = .tbl #[] := fun {b u} z => by
      by_cases h : isTab b = true
      · rw [if_pos h] at z
        obtain ⟨p, hp, q⟩ := tabN b h
        exact ⟨p, hp, q, (Option.some.inj z).symm⟩
      · rw [if_neg h] at z
        cases z
    refine go (fun b => if isTab b = true then some (.tbl #[]) else none) (.inr ⟨_, vs.toArray, _, hk, rfl, rfl, rfl, by rw [List.size_toArray, hi.length]; exact hl, by simpa using rv⟩) (fun p hp => if_pos (tabY p hp)) (fun b u z => ?_) fun b u z => .inr (look z)
    obtain ⟨p, hp, rfl, rfl⟩ := look z
    exact (tabs p hp).2.2
  | none =>
    have look : ∀ {b : Addr} {u : HO}, (if b = a then some (HO.frz { cls := .type "list", data := .seq vs.toArray } (.lst (ns.map V.int))) else if isTab b = true then some (HO.tbl #[]) else none) = some u → (b = a ∧ u = .frz { cls := .type "list", data := .seq vs.toArray } (.lst (ns.map V.int))) ∨ ∃ p ∈ cs, b = p.2 ∧ u = .tbl #[] := fun {b u} z => by
      by_cases h : b = a
      · rw [if_pos h] at z
        exact .inl ⟨h, (Option.some.inj z).symm⟩
      · rw [if_neg h] at z
        by_cases h2 : isTab b = true
        · rw [if_pos h2] at z
          obtain ⟨p, hp, q⟩ := tabN b h2
          exact .inr ⟨p, hp, q, (Option.some.inj z).symm⟩
        · rw [if_neg h2] at z
          cases z
    refine go (fun b => if b = a then some (.frz { cls := .type "list", data := .seq vs.toArray } (.lst (ns.map V.int))) else if isTab b = true then some (.tbl #[]) else none) (.inl (.inr ⟨_, if_pos rfl⟩)) (fun p hp => (if_neg fun z => isT p hp z.symm).trans (if_pos (tabY p hp))) (fun b u z => ?_) fun b u z => (look z).imp (fun y => ⟨y.1, hk, _, _, y.2⟩) id
    rcases look z with ⟨rfl, rfl⟩ | ⟨p, hp, rfl, rfl⟩
    · exact ⟨ha, by rw [List.length_map]; exact hl, vs, _, rv, ha⟩
    · exact (tabs p hp).2.2
end
end K0

set_option Elab.async false
set_option linter.all false
set_option maxRecDepth 100000
set_option maxHeartbeats 4000000
/-! What the top has written, read by checks, and put together. -/
namespace K0
open PySem PySem.Spec L2
open PyProof.Rows hiding St
open PySem.W (Frag)
open LamX (ExtN Tabs TabB TabS)
def clsB (P : Program) (K : Frag) (C : Addr) : Bool :=
  (PySem.W.excInitIn K C PySem.EX.tailE "Exception.__new__" && PySem.W.excOver K C PySem.EX.tailE && decide (PySem.W.findIn K (.ref C) "__setattr__" = some (some (.builtin "object.__setattr__"))) && PySem.W.hasDictIn K C &&
    decide (PySem.W.ks_superIn K C C "__init__" = some (some (.builtin "Exception.__init__"))) && decide (PySem.W.subIn K (.ref C) (.type "Exception") = some true) && decide (PySem.W.mroIn K C (.ref C) = some true) && PySem.W.keepIn K (.ref C)) &&
  (decide (PySem.W.findIn K (.ref C) "__getattribute__" = some (some (.builtin "BaseException.__getattribute__"))) && decide (PySem.W.findIn K (.ref C) "__getattr__" = some none) && decide (PySem.W.subIn K (.ref C) (.type "BaseException") = some true) &&
    decide (PySem.W.typeIn K (.ref C) = some (.type "type")) && decide (PySem.W.findIn K (.ref C) "__class__" = some (some (.builtin "object.__class__"))) && decide (PySem.W.mroIn K C (.type "object") = some true))
theorem er_mk {P : Program} {K : Frag} {C : Addr} (h : clsB P K C = true) (op : PySem.W.nsIn K cStatics "thirdparty.any" = some none) (file : (P.main.scope.names.lookup ("super" : Str)).isSome = false)
    (hn : PySem.W.specialIn K (.builtin "object.__class__") "__get__" = some (some (.builtin "getset_descriptor.__get__"))) (ht : PySem.W.takesIn K (.builtin "object.__class__") = some true) : ErrC P K C := by
  unfold clsB at h
  simp only [Bool.and_eq_true, decide_eq_true_eq] at h
  obtain ⟨⟨⟨⟨⟨⟨⟨⟨h1, h2⟩, h3⟩, h4⟩, h5⟩, h6⟩, h7⟩, h8⟩, ⟨⟨⟨⟨g1, g2⟩, g3⟩, g4⟩, g5⟩, g6⟩ := h
  exact ⟨⟨h1, h2, h3, h4, h5, h6, h7, op, h8, file⟩, g1, g2, g3, g4, g5, hn, ht, g6⟩

def codeB (P : Program) (K : Frag) (cda : Addr) : Bool := match K.lookup cda with
  | some ⟨_, _, .fields vs, _⟩ => (match (vs[2]? : Option Value) with | some (Value.str file _) => ((P.main.file : Str) == file) | _ => false)
  | _ => false
def cellB (K : Frag) (cc C : Addr) : Bool := match K.lookup cc with
  | some ⟨_, _, .cell (some (.ref D)), _⟩ => D == C
  | _ => false
theorem code_mk {P : Program} {K : Frag} {cda : Addr} (h : codeB P K cda = true) : ∃ ccl cdd vs ccs file tf, K.lookup cda = some ⟨ccl, cdd, .fields vs, ccs⟩ ∧ vs[2]? = some (.str file tf) ∧ ((P.main.file : Str) == file) = true := by
  unfold codeB at h
  split at h
  · rename_i a b vs c e
    split at h
    · rename_i file tf e2
      exact ⟨a, b, vs, c, file, tf, e, e2, h⟩
    · cases h
  · cases h
theorem cell_mk {K : Frag} {cc C : Addr} (h : cellB K cc C = true) : ∃ cl cld csl, K.lookup cc = some ⟨cl, cld, .cell (some (.ref C)), csl⟩ := by
  unfold cellB at h
  split at h
  · rename_i a b D c e
    obtain rfl : D = C := by simpa using h
    exact ⟨a, b, c, e⟩
  · cases h
def fnB (P : Program) (K : Frag) (C fI cda cc : Addr) (qual : Str) (fs : List Str) : Bool :=
  decide (PySem.W.findIn K (.ref C) "__init__" = some (some (.ref fI))) && decide (PySem.W.typeIn K (.ref fI) = some (.type "function")) && fs.all (fun f => decide (PySem.W.findIn K (.ref C) f = some none)) && PySem.W.codeIn K (.ref cda) qual && codeB P K cda && cellB K cc C
theorem f1_mk {P : Program} {K : Frag} {C fI cda cc : Addr} {f qual txt : Str} {oc doc pm ct : Value} {od an : Option Addr} {osl : Array (Option Value)} {p1 p2 q1 q2 q3 q4 q5 q6 r1 r2 r3 r4 : Pos}
    (l : K.lookup fI = some ⟨oc, od, .func (PySem.W.ksFn "__init__" qual (PySem.EX.aA f p1 p2) [PySem.EX.sSay txt 0 q1 q2 q3 q4 q5 q6, PySem.EX.sKeep f r1 r2 r3 r4] (PySem.EX.scp (PySem.EX.ns1 f)) .none .none doc pm an (.ref cda) ct cc), osl⟩)
    (b : fnB P K C fI cda cc qual [f] = true) (hp : (q3.endLine == q5.line) = true) : PySem.EX.Fn1 P K C fI f := by
  unfold fnB at b
  simp only [Bool.and_eq_true, decide_eq_true_eq, List.all_cons, List.all_nil, and_true] at b
  obtain ⟨⟨⟨⟨⟨h1, h2⟩, h3⟩, h4⟩, h5⟩, h6⟩ := b
  exact ⟨h1, h2, h3, oc, od, qual, txt, doc, pm, an, cda, ct, osl, cc, p1, p2, q1, q2, q3, q4, q5, q6, r1, r2, r3, r4, l, h4, hp, code_mk h5, cell_mk h6⟩
/-- a kind of error with a field, as the top has written it -/
def Cl1 (P : Program) (K : Frag) (mg : Str → Option Value) (nm : Str) (C fI : Addr) (f : Str) : Prop := mg nm = some (.ref C) ∧ clsB P K C = true ∧ PySem.EX.Fn1 P K C fI f
/-- a def of the row -/
def Df (K : Frag) (mg : Str → Option Value) (n : Str) (st : Stmt) (f : Addr) (fd : FuncData) : Prop := mg n = some (.ref f) ∧ PySem.W.keepIn K (.ref f) = true ∧ Fun K n n st f fd
theorem cl1_mk {P : Program} {K : Frag} {h : Heap} {mg : Str → Option Value} {nm : Str} {C fI cda cc : Addr} {f qual txt : Str} {oc doc pm ct : Value} {od an : Option Addr} {osl : Array (Option Value)} {p1 p2 q1 q2 q3 q4 q5 q6 r1 r2 r3 r4 : Pos} (X : K.In h) (G : h.Ns mainGlobals mg)
    (a : PySem.W.nsIn K mainGlobals nm = some (some (.ref C))) (i : PySem.W.findIn K (.ref C) "__init__" = some (some (.ref fI)))
    (l : K.lookup fI = some ⟨oc, od, .func (PySem.W.ksFn "__init__" qual (PySem.EX.aA f p1 p2) [PySem.EX.sSay txt 0 q1 q2 q3 q4 q5 q6, PySem.EX.sKeep f r1 r2 r3 r4] (PySem.EX.scp (PySem.EX.ns1 f)) .none .none doc pm an (.ref cda) ct cc), osl⟩)
    (b : fnB P K C fI cda cc qual [f] = true) (hp : (q3.endLine == q5.line) = true) (z : clsB P K C = true) : Cl1 P K mg nm C fI f := ⟨PySem.W.mg_of X G a, z, f1_mk l b hp⟩
theorem df_mk {K : Frag} {h : Heap} {mg : Str → Option Value} {n : Str} {st : Stmt} {f : Addr} {oc : Value} {od an : Option Addr} {osl : Array (Option Value)} {kV doc pm cdv ct : Value} (X : K.In h) (G : h.Ns mainGlobals mg)
    (a : PySem.W.nsIn K mainGlobals n = some (some (.ref f))) (l : K.lookup f = some ⟨oc, od, .func (PySem.W.fnOf n n (defArgs st) (defBody st) (defScope st) .none kV doc pm an cdv ct), osl⟩)
    (c : PySem.W.codeIn K cdv n = true) (k : PySem.W.keepIn K (.ref f) = true) : Df K mg n st f (PySem.W.fnOf n n (defArgs st) (defBody st) (defScope st) .none kV doc pm an cdv ct) := ⟨PySem.W.mg_of X G a, k, fun_mk l c k⟩

/-- a def of the row that makes lambdas -/
def DfC (K : Frag) (mg : Str → Option Value) (n : Str) (st : Stmt) (f c : Addr) (fd : FuncData) : Prop := mg n = some (.ref f) ∧ PySem.W.keepIn K (.ref f) = true ∧ FunC K n n st f fd c
theorem dfc_mk {K : Frag} {h : Heap} {mg : Str → Option Value} {n : Str} {st : Stmt} {f c : Addr} {oc : Value} {od an : Option Addr} {osl : Array (Option Value)} {kV doc pm ct : Value} (X : K.In h) (G : h.Ns mainGlobals mg)
    (a : PySem.W.nsIn K mainGlobals n = some (some (.ref f))) (l : K.lookup f = some ⟨oc, od, .func (PySem.W.fnOf n n (defArgs st) (defBody st) (defScope st) .none kV doc pm an (.ref c) ct), osl⟩)
    (z : PySem.W.codeIn K (.ref c) n = true) (k : PySem.W.keepIn K (.ref f) = true) : DfC K mg n st f c (PySem.W.fnOf n n (defArgs st) (defBody st) (defScope st) .none kV doc pm an (.ref c) ct) := ⟨PySem.W.mg_of X G a, k, ⟨_, _, _, _, _, _, _, _, rfl, l, z⟩, k⟩
/-- its table stands empty -/
theorem tbl_mk {K : Frag} {h : Heap} {n : Str} {f c Pt : Addr} {oc kc : Value} {od kd : Option Addr} {osl ks : Array (Option Value)} {fd : FuncData} {vs : Array Value} (tb : ∀ c P, PySem.W.tabIn K n = some (c, P) → PySem.W.CodeHd h c P ∧ h.get? P = some (PySem.W.tabObj #[]))
    (a : PySem.W.nsIn K mainGlobals n = some (some (.ref f))) (l : K.lookup f = some ⟨oc, od, .func fd, osl⟩) (e : fd.code = .ref c) (k : K.lookup c = some ⟨kc, kd, .fields vs, ks⟩) (p : (vs[11]? : Option Value) = some (.ref Pt)) (z : K.lookup Pt = none) : Tbl K h (c, Pt) :=
  ⟨z, tb c Pt (by unfold PySem.W.tabIn; rw [a]; simp only [l, e, k, p])⟩
theorem kw1_mk {K : Frag} {x qual : Str} {st : Stmt} {f : Addr} {fd : FuncData} {k1 : Str} (F : Fun K x qual st f fd) (h : ∀ (kV doc pm : Value) (an : Option Addr) (cdv ct a : Value), bindArgs (PySem.W.fnOf x qual (defArgs st) (defBody st) (defScope st) .none kV doc pm an cdv ct) ⟨[], [(k1, a)]⟩ = pure [(k1, a)]) : Kw1 fd k1 := by
  obtain ⟨oc, od, kV, doc, pm, an, cdv, ct, osl, rfl, _, _⟩ := F.ex
  exact fun s a => .of_eq (h ..)
theorem kw2_mk {K : Frag} {x qual : Str} {st : Stmt} {f : Addr} {fd : FuncData} {k1 k2 : Str} (F : Fun K x qual st f fd)
    (h : ∀ (kV doc pm : Value) (an : Option Addr) (cdv ct a b : Value), bindArgs (PySem.W.fnOf x qual (defArgs st) (defBody st) (defScope st) .none kV doc pm an cdv ct) ⟨[], [(k1, a), (k2, b)]⟩ = pure [(k1, a), (k2, b)] ∧
      bindArgs (PySem.W.fnOf x qual (defArgs st) (defBody st) (defScope st) .none kV doc pm an cdv ct) ⟨[], [(k2, b), (k1, a)]⟩ = pure [(k1, a), (k2, b)]) : Kw2 fd k1 k2 := by
  obtain ⟨oc, od, kV, doc, pm, an, cdv, ct, osl, rfl, _, _⟩ := F.ex
  exact fun s a b => ⟨.of_eq (h ..).1, .of_eq (h ..).2⟩
/-- the names that are nobody's own -/
def free : List Str := ["int", "max", "len", "list", "range", "tuple", "min", "sorted", "set", "all", "isinstance", "enumerate", "bool", "repr", "super"]
def freeB (K : Frag) : Bool := free.all fun x => decide (PySem.W.nsIn K mainGlobals x = some none)
theorem free_mk {K : Frag} {h : Heap} {mg : Str → Option Value} (X : K.In h) (G : h.Ns mainGlobals mg) (e : freeB K = true) : ∀ x ∈ free, mg x = none := fun x hx => PySem.W.mg_none_of X G (of_decide_eq_true (List.all_eq_true.mp e x hx))
/-- what the end asks of the law -/
def LawEnd (P : Program) (w : World) (K : Frag) (mg : Str → Option Value) (fa : Addr) (h : Heap) : Prop := ∃ (fd : FuncData) (c0 : Addr) (cs : List (Addr × Addr)), FunC K "law" "law" lLaw fa fd c0 ∧ (∀ (s : Shared) (u : Value), BindsTo s fd ⟨[u], []⟩ [("_law_script", u)]) ∧ (∀ p ∈ cs, Tbl K h p) ∧
  ∀ base : Heap, K.In base → base.Ns mainGlobals mg → (∀ p ∈ cs, TabB base mg p.1 p.2) → ∃ (T : List (Addr × Str)) (CL CT lI tI g Pt : Addr) (fg : FuncData), Lw P w K mg base T CL CT lI tI g fg ∧ Tb T base mg c0 Pt "law.<locals>.<lambda>" ∧ ∀ p ∈ T, ∃ q ∈ cs, p.1 = q.2
def TabsOf (q : Program) (K : Frag) (h : Heap) : Prop := ∀ x : Str, ((recsOf q).any fun e => e.name == x) = true → ∀ c P, PySem.W.tabIn K x = some (c, P) → PySem.W.CodeHd h c P ∧ h.get? P = some (PySem.W.tabObj #[])
theorem walk_out {l : PySem.W.OpenLaw} {q : Program} {loose : List Str} {XP : (Str → Option Value) → Heap → Prop} {YP : World → Heap → Prop} {d : DefRec} {K : Params → Frag} (hn : l.most = some 63) (hdf : d.params.defaults = []) (hY : ∀ (w : World) (h : Heap), YP w h → (K w.params).In h)
    (F : ∀ (w : World) (mg : Str → Option Value) (fa : Addr) (h : Heap), (K w.params).In h → h.Ns mainGlobals mg → mg d.name = some (.ref fa) → TabsOf q (K w.params) h → LawEnd l.prog w (K w.params) mg fa h) :
    PySem.W.WalkO q loose XP YP l.row.toRowW d [] (fun f vs => PySem.call f vs) := by
  refine Att.attach_callB hn hdf fun w s₀ s₁ mg mb fa o pm cd doc a vs ns G Y ho hd hcd hmg hobj hints hlen _ hg => ?_
  have KX := hY w _ Y
  have tb : TabsOf q (K w.params) s₁.heap := fun x hx c Pt e => by
    cases hf : (recsOf q).find? fun e => e.name == x with
    | none =>
      obtain ⟨r, hr, hr2⟩ := List.any_eq_true.mp hx
      exact absurd hr2 (List.find?_eq_none.mp hf r hr)
    | some d => exact PySem.W.tab_of G.T KX hf e
  obtain ⟨fd, c0, cs, FL, hb, tabs, rest⟩ := F w mg fa _ KX G.T.g hmg tb
  refine law_outT (k := 10) FL scLaw KX G.T.g G.T.b G.T.builtins G.T.nolimit hg G.T.bmain tabs hobj hints (Nat.le_trans hlen (by rw [sizeLine_eq]; decide)) ⟨rfl, by decide, by decide⟩ hb fun base H s KB GB TB hT hS hr => ?_
  obtain ⟨T, CL, CT, lI, tI, g, Pt, fg, Z, B, cov⟩ := rest base KB GB TB
  exact law_body Z B hS (fun p hp => let ⟨q, hq, e⟩ := cov p hp; TabS.nil (by rw [e]; exact hT q hq)) hr
set_option maxHeartbeats 16000000 in
theorem all_mk {P : Program} {w : World} {K : Frag} {h : Heap} {mg : Str → Option Value} {fa CL CT lI tI f_v_is_whole f_v_is_below f_v_is_pair f_v_is_tie f_v_is_web f_v_check_web f_v_is_lot_of f_v_check_lot f_v_is_tie_number f_v_check_tie f_v_is_lot f_v_plain_of f_v_plain_web f_v_places_but f_v_rest_of f_v_cut_ties f_v_cut_of f_v_web_of f_v_within f_v_without f_v_ends_of f_v_law_deck f_v_law_draw f_v_law_pick f_v_law_order f_v_law_pair f_v_law_pairs f_v_law_drawn_ties f_v_law_web f_v_law_lot f_v_law_rest f_v_law_cut f_v_law_within f_v_law_is_whole f_v_law_is_lot f_v_law_any f_v_law_bent_lot f_v_law_told f_v_law_are_lots c_v_law_are_lots t_v_law_are_lots f_v_law_are_strange c_v_law_are_strange t_v_law_are_strange f_v_law c_v_law t_v_law : Addr} {d_v_is_whole d_v_is_below d_v_is_pair d_v_is_tie d_v_is_web d_v_check_web d_v_is_lot_of d_v_check_lot d_v_is_tie_number d_v_check_tie d_v_is_lot d_v_plain_of d_v_plain_web d_v_places_but d_v_rest_of d_v_cut_ties d_v_cut_of d_v_web_of d_v_within d_v_without d_v_ends_of d_v_law_deck d_v_law_draw d_v_law_pick d_v_law_order d_v_law_pair d_v_law_pairs d_v_law_drawn_ties d_v_law_web d_v_law_lot d_v_law_rest d_v_law_cut d_v_law_within d_v_law_is_whole d_v_law_is_lot d_v_law_any d_v_law_bent_lot d_v_law_told d_v_law_are_lots d_v_law_are_strange d_v_law : FuncData} {tM : Tok} (X : K.In h) (G : h.Ns mainGlobals mg) (hfa : mg "law" = some (.ref fa))
    (e0 : Cl1 P K mg "BadLot" CL lI "thing") (e1 : Cl1 P K mg "BadTie" CT tI "number") (ll : PySem.W.subIn K (.ref CL) (.ref CL) = some true) (tl : PySem.W.subIn K (.ref CT) (.ref CL) = some false) (tt : PySem.W.subIn K (.ref CT) (.ref CT) = some true)
    (aM : PySem.W.nsIn K mainGlobals "MOST_PLACES" = some (some (.int 12 tM))) (op : PySem.W.nsIn K cStatics "thirdparty.any" = some none) (hn : PySem.W.specialIn K (.builtin "object.__class__") "__get__" = some (some (.builtin "getset_descriptor.__get__"))) (ht : PySem.W.takesIn K (.builtin "object.__class__") = some true)
    (file : (P.main.scope.names.lookup ("super" : Str)).isSome = false) (fr : freeB K = true)
    (g_v_is_whole : Df K mg "is_whole" pWhole f_v_is_whole d_v_is_whole)
    (g_v_is_below : Df K mg "is_below" pBelow f_v_is_below d_v_is_below)
    (g_v_is_pair : Df K mg "is_pair" pPair2 f_v_is_pair d_v_is_pair)
    (g_v_is_tie : Df K mg "is_tie" pTie f_v_is_tie d_v_is_tie)
    (g_v_is_web : Df K mg "is_web" pWeb f_v_is_web d_v_is_web)
    (g_v_check_web : Df K mg "check_web" pCheckWeb f_v_check_web d_v_check_web)
    (g_v_is_lot_of : Df K mg "is_lot_of" pIsLotOf f_v_is_lot_of d_v_is_lot_of)
    (g_v_check_lot : Df K mg "check_lot" pCheckLot f_v_check_lot d_v_check_lot)
    (g_v_is_tie_number : Df K mg "is_tie_number" pIsTieNo f_v_is_tie_number d_v_is_tie_number)
    (g_v_check_tie : Df K mg "check_tie" pCheckTie f_v_check_tie d_v_check_tie)
    (g_v_is_lot : Df K mg "is_lot" pIsLot f_v_is_lot d_v_is_lot)
    (g_v_plain_of : Df K mg "plain_of" pPlainOf f_v_plain_of d_v_plain_of)
    (g_v_plain_web : Df K mg "plain_web" pPlainWeb f_v_plain_web d_v_plain_web)
    (g_v_places_but : Df K mg "places_but" pPlacesBut f_v_places_but d_v_places_but)
    (g_v_rest_of : Df K mg "rest_of" pRestOf f_v_rest_of d_v_rest_of)
    (g_v_cut_ties : Df K mg "cut_ties" pCutTies f_v_cut_ties d_v_cut_ties)
    (g_v_cut_of : Df K mg "cut_of" pCutOf f_v_cut_of d_v_cut_of)
    (g_v_web_of : Df K mg "web_of" pWebOf f_v_web_of d_v_web_of)
    (g_v_within : Df K mg "within" pWithin f_v_within d_v_within)
    (g_v_without : Df K mg "without" pWithout f_v_without d_v_without)
    (g_v_ends_of : Df K mg "ends_of" pEndsOf f_v_ends_of d_v_ends_of)
    (g_v_law_deck : Df K mg "_law_deck" sDeck f_v_law_deck d_v_law_deck)
    (g_v_law_draw : Df K mg "_law_draw" sDraw f_v_law_draw d_v_law_draw)
    (g_v_law_pick : Df K mg "_law_pick" sPick f_v_law_pick d_v_law_pick)
    (g_v_law_order : Df K mg "_law_order" sOrder f_v_law_order d_v_law_order)
    (g_v_law_pair : Df K mg "_law_pair" sPair f_v_law_pair d_v_law_pair)
    (g_v_law_pairs : Df K mg "_law_pairs" sPairs f_v_law_pairs d_v_law_pairs)
    (g_v_law_drawn_ties : Df K mg "_law_drawn_ties" sTies f_v_law_drawn_ties d_v_law_drawn_ties)
    (g_v_law_web : Df K mg "_law_web" sWeb f_v_law_web d_v_law_web)
    (g_v_law_lot : Df K mg "_law_lot" lLot f_v_law_lot d_v_law_lot)
    (g_v_law_rest : Df K mg "_law_rest" lRest f_v_law_rest d_v_law_rest)
    (g_v_law_cut : Df K mg "_law_cut" lCut f_v_law_cut d_v_law_cut)
    (g_v_law_within : Df K mg "_law_within" lWithin f_v_law_within d_v_law_within)
    (g_v_law_is_whole : Df K mg "_law_is_whole" lWhole f_v_law_is_whole d_v_law_is_whole)
    (g_v_law_is_lot : Df K mg "_law_is_lot" lIsLot f_v_law_is_lot d_v_law_is_lot)
    (g_v_law_any : Df K mg "_law_any" sAny f_v_law_any d_v_law_any)
    (g_v_law_bent_lot : Df K mg "_law_bent_lot" lBent f_v_law_bent_lot d_v_law_bent_lot)
    (g_v_law_told : Df K mg "_law_told" lTold f_v_law_told d_v_law_told)
    (g_v_law_are_lots : DfC K mg "_law_are_lots" lAreLots f_v_law_are_lots c_v_law_are_lots d_v_law_are_lots) (h_v_law_are_lots : Tbl K h (c_v_law_are_lots, t_v_law_are_lots))
    (g_v_law_are_strange : DfC K mg "_law_are_strange" lStrange f_v_law_are_strange c_v_law_are_strange d_v_law_are_strange) (h_v_law_are_strange : Tbl K h (c_v_law_are_strange, t_v_law_are_strange))
    (g_v_law : DfC K mg "law" lLaw f_v_law c_v_law d_v_law) (h_v_law : Tbl K h (c_v_law, t_v_law))
    (n01 : (t_v_law_are_lots == t_v_law_are_strange) = false) (n02 : (t_v_law_are_lots == t_v_law) = false) (n12 : (t_v_law_are_strange == t_v_law) = false) : LawEnd P w K mg fa h := by
  have eL := hfa.symm.trans g_v_law.1
  cases eL
  have n := free_mk X G fr
  have B : Bk mg := { int := n _ (by decide), max := n _ (by decide), len := n _ (by decide), list := n _ (by decide), range := n _ (by decide), tuple := n _ (by decide), min := n _ (by decide), sorted := n _ (by decide), set := n _ (by decide), all := n _ (by decide), isi := n _ (by decide), enu := n _ (by decide), bool := n _ (by decide), repr := n _ (by decide), sup := n _ (by decide), most := ⟨_, PySem.W.mg_of X G aM⟩ }
  have EL : ErX P K mg "BadLot" CL lI "thing" := ⟨er_mk e0.2.1 op file hn ht, e0.2.2, e0.1⟩
  have ET : ErX P K mg "BadTie" CT tI "number" := ⟨er_mk e1.2.1 op file hn ht, e1.2.2, e1.1⟩
  have b_v_is_whole := g_v_is_whole.2.2.binds (ps := ["thing"]) fun _ _ _ _ _ _ us hl => match us, hl with | [_], _ => rfl
  have b_v_is_below := g_v_is_below.2.2.binds (ps := ["thing", "bound"]) fun _ _ _ _ _ _ us hl => match us, hl with | [_, _], _ => rfl
  have b_v_is_pair := g_v_is_pair.2.2.binds (ps := ["thing"]) fun _ _ _ _ _ _ us hl => match us, hl with | [_], _ => rfl
  have b_v_is_tie := g_v_is_tie.2.2.binds (ps := ["thing", "places"]) fun _ _ _ _ _ _ us hl => match us, hl with | [_, _], _ => rfl
  have b_v_is_web := g_v_is_web.2.2.binds (ps := ["thing"]) fun _ _ _ _ _ _ us hl => match us, hl with | [_], _ => rfl
  have b_v_check_web := g_v_check_web.2.2.binds (ps := ["thing"]) fun _ _ _ _ _ _ us hl => match us, hl with | [_], _ => rfl
  have b_v_is_lot_of := g_v_is_lot_of.2.2.binds (ps := ["web", "thing"]) fun _ _ _ _ _ _ us hl => match us, hl with | [_, _], _ => rfl
  have b_v_check_lot := g_v_check_lot.2.2.binds (ps := ["web", "thing"]) fun _ _ _ _ _ _ us hl => match us, hl with | [_, _], _ => rfl
  have b_v_is_tie_number := g_v_is_tie_number.2.2.binds (ps := ["web", "thing"]) fun _ _ _ _ _ _ us hl => match us, hl with | [_, _], _ => rfl
  have b_v_check_tie := g_v_check_tie.2.2.binds (ps := ["web", "thing"]) fun _ _ _ _ _ _ us hl => match us, hl with | [_, _], _ => rfl
  have b_v_is_lot := g_v_is_lot.2.2.binds (ps := ["web", "thing"]) fun _ _ _ _ _ _ us hl => match us, hl with | [_, _], _ => rfl
  have b_v_plain_of := g_v_plain_of.2.2.binds (ps := ["web"]) fun _ _ _ _ _ _ us hl => match us, hl with | [_], _ => rfl
  have b_v_plain_web := g_v_plain_web.2.2.binds (ps := ["web"]) fun _ _ _ _ _ _ us hl => match us, hl with | [_], _ => rfl
  have b_v_places_but := g_v_places_but.2.2.binds (ps := ["web", "lot"]) fun _ _ _ _ _ _ us hl => match us, hl with | [_, _], _ => rfl
  have b_v_rest_of := g_v_rest_of.2.2.binds (ps := ["web", "lot"]) fun _ _ _ _ _ _ us hl => match us, hl with | [_, _], _ => rfl
  have b_v_cut_ties := g_v_cut_ties.2.2.binds (ps := ["web", "lot"]) fun _ _ _ _ _ _ us hl => match us, hl with | [_, _], _ => rfl
  have b_v_cut_of := g_v_cut_of.2.2.binds (ps := ["web", "lot"]) fun _ _ _ _ _ _ us hl => match us, hl with | [_, _], _ => rfl
  have b_v_web_of := g_v_web_of.2.2.binds (ps := ["web", "lot"]) fun _ _ _ _ _ _ us hl => match us, hl with | [_, _], _ => rfl
  have b_v_within := g_v_within.2.2.binds (ps := ["web", "lot"]) fun _ _ _ _ _ _ us hl => match us, hl with | [_, _], _ => rfl
  have b_v_without := g_v_without.2.2.binds (ps := ["web", "lot"]) fun _ _ _ _ _ _ us hl => match us, hl with | [_, _], _ => rfl
  have b_v_ends_of := g_v_ends_of.2.2.binds (ps := ["web", "number"]) fun _ _ _ _ _ _ us hl => match us, hl with | [_, _], _ => rfl
  have b_v_law_deck := g_v_law_deck.2.2.binds (ps := ["_law_script"]) fun _ _ _ _ _ _ us hl => match us, hl with | [_], _ => rfl
  have b_v_law_draw := g_v_law_draw.2.2.binds (ps := ["_law_deck_here", "_law_many"]) fun _ _ _ _ _ _ us hl => match us, hl with | [_, _], _ => rfl
  have b_v_law_pick := g_v_law_pick.2.2.binds (ps := ["_law_deck_here", "_law_some"]) fun _ _ _ _ _ _ us hl => match us, hl with | [_, _], _ => rfl
  have b_v_law_order := g_v_law_order.2.2.binds (ps := ["_law_deck_here", "_law_n"]) fun _ _ _ _ _ _ us hl => match us, hl with | [_, _], _ => rfl
  have b_v_law_pair := g_v_law_pair.2.2.binds (ps := ["_law_one", "_law_other"]) fun _ _ _ _ _ _ us hl => match us, hl with | [_, _], _ => rfl
  have b_v_law_pairs := g_v_law_pairs.2.2.binds (ps := ["_law_n"]) fun _ _ _ _ _ _ us hl => match us, hl with | [_], _ => rfl
  have b_v_law_drawn_ties := g_v_law_drawn_ties.2.2.binds (ps := ["_law_deck_here", "_law_n"]) fun _ _ _ _ _ _ us hl => match us, hl with | [_, _], _ => rfl
  have b_v_law_web := g_v_law_web.2.2.binds (ps := ["_law_deck_here", "_law_n", "_law_most"]) fun _ _ _ _ _ _ us hl => match us, hl with | [_, _, _], _ => rfl
  have b_v_law_lot := g_v_law_lot.2.2.binds (ps := ["_law_number"]) fun _ _ _ _ _ _ us hl => match us, hl with | [_], _ => rfl
  have b_v_law_rest := g_v_law_rest.2.2.binds (ps := ["_law_web_here", "_law_lot_here"]) fun _ _ _ _ _ _ us hl => match us, hl with | [_, _], _ => rfl
  have b_v_law_cut := g_v_law_cut.2.2.binds (ps := ["_law_web_here", "_law_lot_here"]) fun _ _ _ _ _ _ us hl => match us, hl with | [_, _], _ => rfl
  have b_v_law_within := g_v_law_within.2.2.binds (ps := ["_law_web_here", "_law_lot_here"]) fun _ _ _ _ _ _ us hl => match us, hl with | [_, _], _ => rfl
  have b_v_law_is_whole := g_v_law_is_whole.2.2.binds (ps := ["_law_thing"]) fun _ _ _ _ _ _ us hl => match us, hl with | [_], _ => rfl
  have b_v_law_is_lot := g_v_law_is_lot.2.2.binds (ps := ["_law_n", "_law_thing"]) fun _ _ _ _ _ _ us hl => match us, hl with | [_, _], _ => rfl
  have b_v_law_any := g_v_law_any.2.2.binds (ps := ["_law_deck_here", "_law_deep"]) fun _ _ _ _ _ _ us hl => match us, hl with | [_, _], _ => rfl
  have b_v_law_bent_lot := g_v_law_bent_lot.2.2.binds (ps := ["_law_deck_here", "_law_n", "_law_lot_here"]) fun _ _ _ _ _ _ us hl => match us, hl with | [_, _, _], _ => rfl
  have b_v_law_told := g_v_law_told.2.2.binds (ps := ["_law_deed"]) fun _ _ _ _ _ _ us hl => match us, hl with | [_], _ => rfl
  have b_v_law_are_lots := g_v_law_are_lots.2.2.fun.binds (ps := ["_law_web_here", "_law_lot_here"]) fun _ _ _ _ _ _ us hl => match us, hl with | [_, _], _ => rfl
  have b_v_law_are_strange := g_v_law_are_strange.2.2.fun.binds (ps := ["_law_web_here", "_law_thing"]) fun _ _ _ _ _ _ us hl => match us, hl with | [_, _], _ => rfl
  have b_v_law := g_v_law.2.2.fun.binds (ps := ["_law_script"]) fun _ _ _ _ _ _ us hl => match us, hl with | [_], _ => rfl
  have k_v_rest_of : Kw2 d_v_rest_of "web" "lot" := kw2_mk g_v_rest_of.2.2 fun _ _ _ _ _ _ _ _ => ⟨rfl, rfl⟩
  have k_v_cut_of : Kw2 d_v_cut_of "web" "lot" := kw2_mk g_v_cut_of.2.2 fun _ _ _ _ _ _ _ _ => ⟨rfl, rfl⟩
  have k_v_within : Kw2 d_v_within "web" "lot" := kw2_mk g_v_within.2.2 fun _ _ _ _ _ _ _ _ => ⟨rfl, rfl⟩
  have k_v_ends_of : Kw2 d_v_ends_of "web" "number" := kw2_mk g_v_ends_of.2.2 fun _ _ _ _ _ _ _ _ => ⟨rfl, rfl⟩
  have k_v_is_lot : Kw2 d_v_is_lot "web" "thing" := kw2_mk g_v_is_lot.2.2 fun _ _ _ _ _ _ _ _ => ⟨rfl, rfl⟩
  have k_v_plain_web : Kw1 d_v_plain_web "web" := kw1_mk g_v_plain_web.2.2 fun _ _ _ _ _ _ _ => rfl
  refine ⟨d_v_law, c_v_law, [(c_v_law, t_v_law), (c_v_law_are_lots, t_v_law_are_lots), (c_v_law_are_strange, t_v_law_are_strange)], g_v_law.2.2, fun s u => ?_, fun p hp => ?_, fun base KB GB TB => ?_⟩
  · obtain ⟨oc, od, kV, doc, pm, an, ct, osl, rfl, _, _⟩ := g_v_law.2.2.ex
    exact .of_eq rfl
  · rcases List.mem_cons.mp hp with rfl | hp
    · exact h_v_law
    rcases List.mem_cons.mp hp with rfl | hp
    · exact h_v_law_are_lots
    · rw [List.mem_singleton.mp hp]; exact h_v_law_are_strange
  have G_v_law_draw : Dn P w K mg base "_law_draw" 1 ["_law_deck_here", "_law_many"] spDraw f_v_law_draw d_v_law_draw := ⟨g_v_law_draw.1, g_v_law_draw.2.1, b_v_law_draw, ok_draw g_v_law_draw.2.2 B.toBj.toBi⟩
  have G_v_law_pick : Dn P w K mg base "_law_pick" 2 ["_law_deck_here", "_law_some"] spPick f_v_law_pick d_v_law_pick := ⟨g_v_law_pick.1, g_v_law_pick.2.1, b_v_law_pick, ok_pick g_v_law_pick.2.2 B.toBj.toBi G_v_law_draw⟩
  have G_v_law_deck : Dn P w K mg base "_law_deck" 1 ["_law_script"] (spDeck K) f_v_law_deck d_v_law_deck := ⟨g_v_law_deck.1, g_v_law_deck.2.1, b_v_law_deck, ok_deck g_v_law_deck.2.2 B.toBj.toBi⟩
  have G_any := ok_any (P := P) (w := w) (base := base) g_v_law_any.2.2 g_v_law_any.1 b_v_law_any B.toBj.toBi G_v_law_draw G_v_law_pick
  have G_v_law_any : Dn P w K mg base "_law_any" 5 ["_law_deck_here", "_law_deep"] (spAny 3) f_v_law_any d_v_law_any := ⟨g_v_law_any.1, g_v_law_any.2.1, b_v_law_any, G_any 3⟩
  have G_v_law_order : Dn P w K mg base "_law_order" 2 ["_law_deck_here", "_law_n"] spOrder f_v_law_order d_v_law_order := ⟨g_v_law_order.1, g_v_law_order.2.1, b_v_law_order, ok_order g_v_law_order.2.2 B.toBj G_v_law_draw⟩
  have G_v_law_pair : Dn P w K mg base "_law_pair" 1 ["_law_one", "_law_other"] spPair f_v_law_pair d_v_law_pair := ⟨g_v_law_pair.1, g_v_law_pair.2.1, b_v_law_pair, ok_pair g_v_law_pair.2.2 B.toBj⟩
  have G_v_law_pairs : Dn P w K mg base "_law_pairs" 1 ["_law_n"] spPairs f_v_law_pairs d_v_law_pairs := ⟨g_v_law_pairs.1, g_v_law_pairs.2.1, b_v_law_pairs, ok_pairs g_v_law_pairs.2.2 B.toBj⟩
  have G_v_law_drawn_ties : Dn P w K mg base "_law_drawn_ties" 3 ["_law_deck_here", "_law_n"] spTies f_v_law_drawn_ties d_v_law_drawn_ties := ⟨g_v_law_drawn_ties.1, g_v_law_drawn_ties.2.1, b_v_law_drawn_ties, ok_ties g_v_law_drawn_ties.2.2 B.toBj G_v_law_draw G_v_law_order G_v_law_pair G_v_law_pairs⟩
  have G_v_law_web : Dn P w K mg base "_law_web" 4 ["_law_deck_here", "_law_n", "_law_most"] spWeb f_v_law_web d_v_law_web := ⟨g_v_law_web.1, g_v_law_web.2.1, b_v_law_web, ok_web g_v_law_web.2.2 B.toBj G_v_law_draw G_v_law_order G_v_law_pair G_v_law_drawn_ties G_v_law_pick⟩
  have G_v_is_whole : Dn P w K mg base "is_whole" 1 ["thing"] spWhole f_v_is_whole d_v_is_whole := ⟨g_v_is_whole.1, g_v_is_whole.2.1, b_v_is_whole, ok_whole g_v_is_whole.2.2 B.toBj⟩
  have G_v_is_below : Dn P w K mg base "is_below" 2 ["thing", "bound"] spBelow f_v_is_below d_v_is_below := ⟨g_v_is_below.1, g_v_is_below.2.1, b_v_is_below, ok_below g_v_is_below.2.2 G_v_is_whole⟩
  have G_v_is_pair : Dn P w K mg base "is_pair" 1 ["thing"] spIsPair f_v_is_pair d_v_is_pair := ⟨g_v_is_pair.1, g_v_is_pair.2.1, b_v_is_pair, ok_isPair g_v_is_pair.2.2 B.toBj⟩
  have G_v_is_tie : Dn P w K mg base "is_tie" 3 ["thing", "places"] spIsTie f_v_is_tie d_v_is_tie := ⟨g_v_is_tie.1, g_v_is_tie.2.1, b_v_is_tie, ok_isTie g_v_is_tie.2.2 G_v_is_pair G_v_is_below⟩
  have G_v_is_web : Dn P w K mg base "is_web" 4 ["thing"] spIsWeb f_v_is_web d_v_is_web := ⟨g_v_is_web.1, g_v_is_web.2.1, b_v_is_web, ok_isWeb g_v_is_web.2.2 B G_v_is_pair G_v_is_whole G_v_is_tie⟩
  have G_v_check_web : Dn P w K mg base "check_web" 5 ["thing"] spCheckWeb f_v_check_web d_v_check_web := ⟨g_v_check_web.1, g_v_check_web.2.1, b_v_check_web, ok_checkWeb g_v_check_web.2.2 G_v_is_web⟩
  have G_v_is_lot_of : Dn P w K mg base "is_lot_of" 3 ["web", "thing"] spIsLotOf f_v_is_lot_of d_v_is_lot_of := ⟨g_v_is_lot_of.1, g_v_is_lot_of.2.1, b_v_is_lot_of, ok_isLotOf g_v_is_lot_of.2.2 B G_v_is_below⟩
  have X_lot := ok_checkLot (w0 := w) (base := base) g_v_check_lot.2.2 B EL G_v_is_lot_of
  have G_v_is_tie_number : Dn P w K mg base "is_tie_number" 3 ["web", "thing"] spIsTieNo f_v_is_tie_number d_v_is_tie_number := ⟨g_v_is_tie_number.1, g_v_is_tie_number.2.1, b_v_is_tie_number, ok_isTieNo g_v_is_tie_number.2.2 B G_v_is_below⟩
  have X_tie := ok_checkTie (w0 := w) (base := base) g_v_check_tie.2.2 B ET G_v_is_tie_number
  have G_v_is_lot : Dn P w K mg base "is_lot" 6 ["web", "thing"] spIsLot f_v_is_lot d_v_is_lot := ⟨g_v_is_lot.1, g_v_is_lot.2.1, b_v_is_lot, ok_isLot g_v_is_lot.2.2 G_v_check_web G_v_is_lot_of⟩
  have G_v_plain_of : Dn P w K mg base "plain_of" 1 ["web"] spPlainOf f_v_plain_of d_v_plain_of := ⟨g_v_plain_of.1, g_v_plain_of.2.1, b_v_plain_of, ok_plainOf g_v_plain_of.2.2 B⟩
  have G_v_plain_web : Dn P w K mg base "plain_web" 6 ["web"] spPlainOf f_v_plain_web d_v_plain_web := ⟨g_v_plain_web.1, g_v_plain_web.2.1, b_v_plain_web, ok_plainWeb g_v_plain_web.2.2 G_v_check_web G_v_plain_of⟩
  have G_v_places_but : Dn P w K mg base "places_but" 1 ["web", "lot"] spPlacesBut f_v_places_but d_v_places_but := ⟨g_v_places_but.1, g_v_places_but.2.1, b_v_places_but, ok_placesBut g_v_places_but.2.2 B⟩
  have G_v_web_of : Dn P w K mg base "web_of" 1 ["web", "lot"] spWebOf f_v_web_of d_v_web_of := ⟨g_v_web_of.1, g_v_web_of.2.1, b_v_web_of, ok_webOf g_v_web_of.2.2 B⟩
  have x_rest := ok_restOf g_v_rest_of.2.2 G_v_check_web X_lot g_v_check_lot.1 g_v_check_lot.2.1 b_v_check_lot G_v_places_but
  have G_v_cut_ties : Dn P w K mg base "cut_ties" 1 ["web", "lot"] spCutTies f_v_cut_ties d_v_cut_ties := ⟨g_v_cut_ties.1, g_v_cut_ties.2.1, b_v_cut_ties, ok_cutTies g_v_cut_ties.2.2 B⟩
  have x_cut := ok_cutOf g_v_cut_of.2.2 G_v_check_web X_lot g_v_check_lot.1 g_v_check_lot.2.1 b_v_check_lot G_v_cut_ties
  have x_within := ok_within g_v_within.2.2 B EL G_v_check_web X_lot g_v_check_lot.1 g_v_check_lot.2.1 b_v_check_lot G_v_web_of
  have x_without := ok_without g_v_without.2.2 B EL G_v_check_web X_lot g_v_check_lot.1 g_v_check_lot.2.1 b_v_check_lot G_v_web_of G_v_places_but
  have x_ends := ok_endsOf g_v_ends_of.2.2 G_v_check_web X_tie g_v_check_tie.1 g_v_check_tie.2.1 b_v_check_tie
  have G_v_law_lot : Dn P w K mg base "_law_lot" 1 ["_law_number"] spLLot f_v_law_lot d_v_law_lot := ⟨g_v_law_lot.1, g_v_law_lot.2.1, b_v_law_lot, ok_lLot g_v_law_lot.2.2 B⟩
  have G_v_law_rest : Dn P w K mg base "_law_rest" 1 ["_law_web_here", "_law_lot_here"] spLRest f_v_law_rest d_v_law_rest := ⟨g_v_law_rest.1, g_v_law_rest.2.1, b_v_law_rest, ok_lRest g_v_law_rest.2.2 B⟩
  have G_v_law_cut : Dn P w K mg base "_law_cut" 1 ["_law_web_here", "_law_lot_here"] spLCut f_v_law_cut d_v_law_cut := ⟨g_v_law_cut.1, g_v_law_cut.2.1, b_v_law_cut, ok_lCut g_v_law_cut.2.2 B⟩
  have G_v_law_within : Dn P w K mg base "_law_within" 1 ["_law_web_here", "_law_lot_here"] spLWithin f_v_law_within d_v_law_within := ⟨g_v_law_within.1, g_v_law_within.2.1, b_v_law_within, ok_lWithin g_v_law_within.2.2 B⟩
  have G_v_law_is_whole : Dn P w K mg base "_law_is_whole" 1 ["_law_thing"] spWhole f_v_law_is_whole d_v_law_is_whole := ⟨g_v_law_is_whole.1, g_v_law_is_whole.2.1, b_v_law_is_whole, ok_lWhole g_v_law_is_whole.2.2 B.toBj⟩
  have G_v_law_is_lot : Dn P w K mg base "_law_is_lot" 2 ["_law_n", "_law_thing"] spLIsLot f_v_law_is_lot d_v_law_is_lot := ⟨g_v_law_is_lot.1, g_v_law_is_lot.2.1, b_v_law_is_lot, ok_lIsLot g_v_law_is_lot.2.2 B G_v_law_is_whole⟩
  have G_v_law_bent_lot : Dn P w K mg base "_law_bent_lot" 6 ["_law_deck_here", "_law_n", "_law_lot_here"] spBent f_v_law_bent_lot d_v_law_bent_lot := ⟨g_v_law_bent_lot.1, g_v_law_bent_lot.2.1, b_v_law_bent_lot, ok_bent g_v_law_bent_lot.2.2 B G_v_law_draw G_v_law_pick G_v_law_any⟩
  have TD : ToldT P K mg CL CT lI tI f_v_law_told d_v_law_told := ⟨EL, ET, ll, tl, tt, g_v_law_told.2.2, b_v_law_told, g_v_law_told.1⟩
  have PG : Pg P w K mg base CL CT lI tI f_v_law_told d_v_law_told := { bk := B, told := TD, rest := ⟨_, _, ⟨g_v_rest_of.1, g_v_rest_of.2.1, b_v_rest_of, x_rest⟩, k_v_rest_of⟩, cut := ⟨_, _, ⟨g_v_cut_of.1, g_v_cut_of.2.1, b_v_cut_of, x_cut⟩, k_v_cut_of⟩, win := ⟨_, _, ⟨g_v_within.1, g_v_within.2.1, b_v_within, x_within⟩, k_v_within⟩, wout := ⟨_, _, ⟨g_v_without.1, g_v_without.2.1, b_v_without, x_without⟩⟩, ends := ⟨_, _, ⟨g_v_ends_of.1, g_v_ends_of.2.1, b_v_ends_of, x_ends⟩, k_v_ends_of⟩, isl := ⟨_, _, G_v_is_lot, k_v_is_lot⟩, pln := ⟨_, _, G_v_plain_web, k_v_plain_web⟩, lRest := ⟨_, _, G_v_law_rest⟩, lCut := ⟨_, _, G_v_law_cut⟩, lWin := ⟨_, _, G_v_law_within⟩, lIsl := ⟨_, _, G_v_law_is_lot⟩ }
  have m01 : t_v_law_are_lots ≠ t_v_law_are_strange := ne_of_beq_false n01
  have m02 : t_v_law_are_lots ≠ t_v_law := ne_of_beq_false n02
  have m12 : t_v_law_are_strange ≠ t_v_law := ne_of_beq_false n12
  let T : List (Addr × Str) := [(t_v_law, "law.<locals>.<lambda>"), (t_v_law_are_lots, "_law_are_lots.<locals>.<lambda>"), (t_v_law_are_strange, "_law_are_strange.<locals>.<lambda>")]
  have tL : Tb T base mg c_v_law t_v_law "law.<locals>.<lambda>" := ⟨TB _ (List.mem_cons_self ..), List.mem_cons_self .., fun p hp e => by
    rcases List.mem_cons.mp hp with rfl | hp
    · rfl
    rcases List.mem_cons.mp hp with rfl | hp
    · exact (m02 e).elim
    · rw [List.mem_singleton.mp hp] at e; exact (m12 e).elim⟩
  have tA : Tb T base mg c_v_law_are_lots t_v_law_are_lots "_law_are_lots.<locals>.<lambda>" := ⟨TB _ (List.mem_cons_of_mem _ (List.mem_cons_self ..)), List.mem_cons_of_mem _ (List.mem_cons_self ..), fun p hp e => by
    rcases List.mem_cons.mp hp with rfl | hp
    · exact (m02 e.symm).elim
    rcases List.mem_cons.mp hp with rfl | hp
    · rfl
    · rw [List.mem_singleton.mp hp] at e; exact (m01 e.symm).elim⟩
  have tS : Tb T base mg c_v_law_are_strange t_v_law_are_strange "_law_are_strange.<locals>.<lambda>" := ⟨TB _ (List.mem_cons_of_mem _ (List.mem_cons_of_mem _ (List.mem_cons_self ..))), List.mem_cons_of_mem _ (List.mem_cons_of_mem _ (List.mem_cons_self ..)), fun p hp e => by
    rcases List.mem_cons.mp hp with rfl | hp
    · exact (m12 e.symm).elim
    rcases List.mem_cons.mp hp with rfl | hp
    · exact (m01 e).elim
    · rw [List.mem_singleton.mp hp]⟩
  have AL := ok_areLots g_v_law_are_lots.2.2 PG tA
  have AS := ok_strange g_v_law_are_strange.2.2 PG tS AL g_v_law_are_lots.1 g_v_law_are_lots.2.1 b_v_law_are_lots
  refine ⟨T, CL, CT, lI, tI, f_v_law_told, t_v_law, d_v_law_told, { G := PG, deck := ⟨_, _, G_v_law_deck⟩, draw := ⟨_, _, G_v_law_draw⟩, pick := ⟨_, _, G_v_law_pick⟩, any := ⟨_, _, G_v_law_any⟩, web := ⟨_, _, G_v_law_web⟩, lot := ⟨_, _, G_v_law_lot⟩, bent := ⟨_, _, G_v_law_bent_lot⟩, whole := ⟨_, _, G_v_law_is_whole⟩, lots := ⟨_, _, ⟨g_v_law_are_lots.1, g_v_law_are_lots.2.1, b_v_law_are_lots, AL⟩⟩, odd := ⟨_, _, ⟨g_v_law_are_strange.1, g_v_law_are_strange.2.1, b_v_law_are_strange, AS⟩⟩ }, tL, fun p hp => ?_⟩
  rcases List.mem_cons.mp hp with rfl | hp
  · exact ⟨_, List.mem_cons_self .., rfl⟩
  rcases List.mem_cons.mp hp with rfl | hp
  · exact ⟨_, List.mem_cons_of_mem _ (List.mem_cons_self ..), rfl⟩
  · rw [List.mem_singleton.mp hp]; exact ⟨_, List.mem_cons_of_mem _ (List.mem_cons_of_mem _ (List.mem_cons_self ..)), rfl⟩
end K0

set_option Elab.async false
set_option maxRecDepth 100000
open PySem PySem.W PyProof.Rows
set_option maxRecDepth 100000 in
set_option maxHeartbeats 0 in
theorem PySem.Challenge.cw_oncecrossed_k04_lots_and_cuts_holds : PySem.Challenge.rw_oncecrossed_k04_lots_and_cuts.Holds := by
  w_on; o_law; k_head; (case hw => w_witness2)
  k_fill
  refine K0.walk_out (l := PySem.Challenge.rw_oncecrossed_k04_lots_and_cuts) rfl rfl (fun w h Y => PySem.W.km_in_of Y) ?F
  case F =>
    intro w mg fa h KX G hmg TB
    refine' K0.all_mk KX G hmg ?ye0 ?ye1 ?yll ?ytl ?ytt ?yaM ?yop ?yhn ?yht ?yfile ?yfr ?yg0 ?yg1 ?yg2 ?yg3 ?yg4 ?yg5 ?yg6 ?yg7 ?yg8 ?yg9 ?yg10 ?yg11 ?yg12 ?yg13 ?yg14 ?yg15 ?yg16 ?yg17 ?yg18 ?yg19 ?yg20 ?yg21 ?yg22 ?yg23 ?yg24 ?yg25 ?yg26 ?yg27 ?yg28 ?yg29 ?yg30 ?yg31 ?yg32 ?yg33 ?yg34 ?yg35 ?yg36 ?yg37 ?yh0 ?yt0 ?yh1 ?yt1 ?yh2 ?yt2 ?yn01 ?yn02 ?yn12
    (case ye0 => (refine' K0.cl1_mk KX G ?ya0 ?yi0 ?yl0 ?yb0 ?yp0 ?yz0; (case ya0 => k_is); (case yi0 => k_is); (case yl0 => k_is); (case yb0 => kernel_rfl); (case yp0 => exact rfl); (case yz0 => kernel_rfl)))
    (case ye1 => (refine' K0.cl1_mk KX G ?ya1 ?yi1 ?yl1 ?yb1 ?yp1 ?yz1; (case ya1 => k_is); (case yi1 => k_is); (case yl1 => k_is); (case yb1 => kernel_rfl); (case yp1 => exact rfl); (case yz1 => kernel_rfl)))
    (case yll => k_is); (case ytl => k_is); (case ytt => k_is); (case yaM => k_is); (case yop => k_is); (case yhn => k_is); (case yht => k_is); (case yfile => kernel_rfl); (case yfr => kernel_rfl)
    (case yg0 => (refine' K0.df_mk KX G ?yga0 ?ygl0 ?ygc0 ?ygk0; (case yga0 => k_is); (case ygl0 => k_is); (case ygc0 => k_is); (case ygk0 => k_is)))
    (case yg1 => (refine' K0.df_mk KX G ?yga1 ?ygl1 ?ygc1 ?ygk1; (case yga1 => k_is); (case ygl1 => k_is); (case ygc1 => k_is); (case ygk1 => k_is)))
    (case yg2 => (refine' K0.df_mk KX G ?yga2 ?ygl2 ?ygc2 ?ygk2; (case yga2 => k_is); (case ygl2 => k_is); (case ygc2 => k_is); (case ygk2 => k_is)))
    (case yg3 => (refine' K0.df_mk KX G ?yga3 ?ygl3 ?ygc3 ?ygk3; (case yga3 => k_is); (case ygl3 => k_is); (case ygc3 => k_is); (case ygk3 => k_is)))
    (case yg4 => (refine' K0.df_mk KX G ?yga4 ?ygl4 ?ygc4 ?ygk4; (case yga4 => k_is); (case ygl4 => k_is); (case ygc4 => k_is); (case ygk4 => k_is)))
    (case yg5 => (refine' K0.df_mk KX G ?yga5 ?ygl5 ?ygc5 ?ygk5; (case yga5 => k_is); (case ygl5 => k_is); (case ygc5 => k_is); (case ygk5 => k_is)))
    (case yg6 => (refine' K0.df_mk KX G ?yga6 ?ygl6 ?ygc6 ?ygk6; (case yga6 => k_is); (case ygl6 => k_is); (case ygc6 => k_is); (case ygk6 => k_is)))
    (case yg7 => (refine' K0.df_mk KX G ?yga7 ?ygl7 ?ygc7 ?ygk7; (case yga7 => k_is); (case ygl7 => k_is); (case ygc7 => k_is); (case ygk7 => k_is)))
    (case yg8 => (refine' K0.df_mk KX G ?yga8 ?ygl8 ?ygc8 ?ygk8; (case yga8 => k_is); (case ygl8 => k_is); (case ygc8 => k_is); (case ygk8 => k_is)))
    (case yg9 => (refine' K0.df_mk KX G ?yga9 ?ygl9 ?ygc9 ?ygk9; (case yga9 => k_is); (case ygl9 => k_is); (case ygc9 => k_is); (case ygk9 => k_is)))
    (case yg10 => (refine' K0.df_mk KX G ?yga10 ?ygl10 ?ygc10 ?ygk10; (case yga10 => k_is); (case ygl10 => k_is); (case ygc10 => k_is); (case ygk10 => k_is)))
    (case yg11 => (refine' K0.df_mk KX G ?yga11 ?ygl11 ?ygc11 ?ygk11; (case yga11 => k_is); (case ygl11 => k_is); (case ygc11 => k_is); (case ygk11 => k_is)))
    (case yg12 => (refine' K0.df_mk KX G ?yga12 ?ygl12 ?ygc12 ?ygk12; (case yga12 => k_is); (case ygl12 => k_is); (case ygc12 => k_is); (case ygk12 => k_is)))
    (case yg13 => (refine' K0.df_mk KX G ?yga13 ?ygl13 ?ygc13 ?ygk13; (case yga13 => k_is); (case ygl13 => k_is); (case ygc13 => k_is); (case ygk13 => k_is)))
    (case yg14 => (refine' K0.df_mk KX G ?yga14 ?ygl14 ?ygc14 ?ygk14; (case yga14 => k_is); (case ygl14 => k_is); (case ygc14 => k_is); (case ygk14 => k_is)))
    (case yg15 => (refine' K0.df_mk KX G ?yga15 ?ygl15 ?ygc15 ?ygk15; (case yga15 => k_is); (case ygl15 => k_is); (case ygc15 => k_is); (case ygk15 => k_is)))
    (case yg16 => (refine' K0.df_mk KX G ?yga16 ?ygl16 ?ygc16 ?ygk16; (case yga16 => k_is); (case ygl16 => k_is); (case ygc16 => k_is); (case ygk16 => k_is)))
    (case yg17 => (refine' K0.df_mk KX G ?yga17 ?ygl17 ?ygc17 ?ygk17; (case yga17 => k_is); (case ygl17 => k_is); (case ygc17 => k_is); (case ygk17 => k_is)))
    (case yg18 => (refine' K0.df_mk KX G ?yga18 ?ygl18 ?ygc18 ?ygk18; (case yga18 => k_is); (case ygl18 => k_is); (case ygc18 => k_is); (case ygk18 => k_is)))
    (case yg19 => (refine' K0.df_mk KX G ?yga19 ?ygl19 ?ygc19 ?ygk19; (case yga19 => k_is); (case ygl19 => k_is); (case ygc19 => k_is); (case ygk19 => k_is)))
    (case yg20 => (refine' K0.df_mk KX G ?yga20 ?ygl20 ?ygc20 ?ygk20; (case yga20 => k_is); (case ygl20 => k_is); (case ygc20 => k_is); (case ygk20 => k_is)))
    (case yg21 => (refine' K0.df_mk KX G ?yga21 ?ygl21 ?ygc21 ?ygk21; (case yga21 => k_is); (case ygl21 => k_is); (case ygc21 => k_is); (case ygk21 => k_is)))
    (case yg22 => (refine' K0.df_mk KX G ?yga22 ?ygl22 ?ygc22 ?ygk22; (case yga22 => k_is); (case ygl22 => k_is); (case ygc22 => k_is); (case ygk22 => k_is)))
    (case yg23 => (refine' K0.df_mk KX G ?yga23 ?ygl23 ?ygc23 ?ygk23; (case yga23 => k_is); (case ygl23 => k_is); (case ygc23 => k_is); (case ygk23 => k_is)))
    (case yg24 => (refine' K0.df_mk KX G ?yga24 ?ygl24 ?ygc24 ?ygk24; (case yga24 => k_is); (case ygl24 => k_is); (case ygc24 => k_is); (case ygk24 => k_is)))
    (case yg25 => (refine' K0.df_mk KX G ?yga25 ?ygl25 ?ygc25 ?ygk25; (case yga25 => k_is); (case ygl25 => k_is); (case ygc25 => k_is); (case ygk25 => k_is)))
    (case yg26 => (refine' K0.df_mk KX G ?yga26 ?ygl26 ?ygc26 ?ygk26; (case yga26 => k_is); (case ygl26 => k_is); (case ygc26 => k_is); (case ygk26 => k_is)))
    (case yg27 => (refine' K0.df_mk KX G ?yga27 ?ygl27 ?ygc27 ?ygk27; (case yga27 => k_is); (case ygl27 => k_is); (case ygc27 => k_is); (case ygk27 => k_is)))
    (case yg28 => (refine' K0.df_mk KX G ?yga28 ?ygl28 ?ygc28 ?ygk28; (case yga28 => k_is); (case ygl28 => k_is); (case ygc28 => k_is); (case ygk28 => k_is)))
    (case yg29 => (refine' K0.df_mk KX G ?yga29 ?ygl29 ?ygc29 ?ygk29; (case yga29 => k_is); (case ygl29 => k_is); (case ygc29 => k_is); (case ygk29 => k_is)))
    (case yg30 => (refine' K0.df_mk KX G ?yga30 ?ygl30 ?ygc30 ?ygk30; (case yga30 => k_is); (case ygl30 => k_is); (case ygc30 => k_is); (case ygk30 => k_is)))
    (case yg31 => (refine' K0.df_mk KX G ?yga31 ?ygl31 ?ygc31 ?ygk31; (case yga31 => k_is); (case ygl31 => k_is); (case ygc31 => k_is); (case ygk31 => k_is)))
    (case yg32 => (refine' K0.df_mk KX G ?yga32 ?ygl32 ?ygc32 ?ygk32; (case yga32 => k_is); (case ygl32 => k_is); (case ygc32 => k_is); (case ygk32 => k_is)))
    (case yg33 => (refine' K0.df_mk KX G ?yga33 ?ygl33 ?ygc33 ?ygk33; (case yga33 => k_is); (case ygl33 => k_is); (case ygc33 => k_is); (case ygk33 => k_is)))
    (case yg34 => (refine' K0.df_mk KX G ?yga34 ?ygl34 ?ygc34 ?ygk34; (case yga34 => k_is); (case ygl34 => k_is); (case ygc34 => k_is); (case ygk34 => k_is)))
    (case yg35 => (refine' K0.df_mk KX G ?yga35 ?ygl35 ?ygc35 ?ygk35; (case yga35 => k_is); (case ygl35 => k_is); (case ygc35 => k_is); (case ygk35 => k_is)))
    (case yg36 => (refine' K0.df_mk KX G ?yga36 ?ygl36 ?ygc36 ?ygk36; (case yga36 => k_is); (case ygl36 => k_is); (case ygc36 => k_is); (case ygk36 => k_is)))
    (case yg37 => (refine' K0.df_mk KX G ?yga37 ?ygl37 ?ygc37 ?ygk37; (case yga37 => k_is); (case ygl37 => k_is); (case ygc37 => k_is); (case ygk37 => k_is)))
    (case yh0 => (refine' K0.dfc_mk KX G ?yha0 ?yhl0 ?yhc0 ?yhk0; (case yha0 => k_is); (case yhl0 => k_is); (case yhc0 => k_is); (case yhk0 => k_is)))
    (case yt0 => (refine' K0.tbl_mk (TB "_law_are_lots" ?yr0) ?yta0 ?ytl0 ?yte0 ?ytk0 ?ytp0 ?ytz0; (case yta0 => k_is); (case ytl0 => k_is); (case yte0 => exact rfl); (case ytk0 => k_is); (case ytp0 => exact rfl); (case ytz0 => kernel_rfl); (case yr0 => kernel_rfl)))
    (case yh1 => (refine' K0.dfc_mk KX G ?yha1 ?yhl1 ?yhc1 ?yhk1; (case yha1 => k_is); (case yhl1 => k_is); (case yhc1 => k_is); (case yhk1 => k_is)))
    (case yt1 => (refine' K0.tbl_mk (TB "_law_are_strange" ?yr1) ?yta1 ?ytl1 ?yte1 ?ytk1 ?ytp1 ?ytz1; (case yta1 => k_is); (case ytl1 => k_is); (case yte1 => exact rfl); (case ytk1 => k_is); (case ytp1 => exact rfl); (case ytz1 => kernel_rfl); (case yr1 => kernel_rfl)))
    (case yh2 => (refine' K0.dfc_mk KX G ?yha2 ?yhl2 ?yhc2 ?yhk2; (case yha2 => k_is); (case yhl2 => k_is); (case yhc2 => k_is); (case yhk2 => k_is)))
    (case yt2 => (refine' K0.tbl_mk (TB "law" ?yr2) ?yta2 ?ytl2 ?yte2 ?ytk2 ?ytp2 ?ytz2; (case yta2 => k_is); (case ytl2 => k_is); (case yte2 => exact rfl); (case ytk2 => k_is); (case ytp2 => exact rfl); (case ytz2 => kernel_rfl); (case yr2 => kernel_rfl)))
    (case yn01 => exact rfl); (case yn02 => exact rfl); (case yn12 => exact rfl)
