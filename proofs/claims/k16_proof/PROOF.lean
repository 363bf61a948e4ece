import PyProof.Rows.All
import Wide.All
import OpenK.AllK
import Wide.FinOn
import HandS.ForMost
import HandS.TupAny
import HandS.SetFor
import HandS.Strs
import HandS.DictComp
import HandS.IsInst
import HandS.SortInts
import HandS.More
import HandS.Conv
import KE.DataMinMax
import HandS.Evl
import HandS.WordsDict
import HandS.ExcOwn
import HandS.TryOnly
import HandS.WordsExc
import PyProof.CollectIter
import HandS.Flow
import HandS.TupMul
import HandS.MethStar
import HandS.Slots
import PyProof.DictUpdate
import PyProof.FactsAll.dict_3
import PyProof.FactsAll.dict_4
import PyProof.FactsAll.subtypes_4
import PyProof.ListOps
import HandS.Deep
import HandS.Style
import HandS.Iter
import PySem.Challenge.RW_drainhouse_k16_deeds_judged
set_option Elab.async false
set_option linter.all false
set_option maxRecDepth 100000
set_option maxHeartbeats 4000000
namespace L2
open PySem PySem.Spec PyProof.Rows
section
variable {X : Cx}
/-! tuple.count of ints -/
def rCntT (K : PySem.W.Frag) : V → List V → Hp → VK → Prop := fun x xs H Q => ∃ (p : Addr) (ns : List Int) (k : Int), x = .ref p ∧ xs = [.int k] ∧ SqT K H p (ns.map V.int) ∧ Q (.int (ns.count k : Nat)) H
theorem mt_tcount : MtR X "tuple.count" (rCntT X.K) := by
  intro pins s σ H x xs v us Q I rx rxs h
  obtain ⟨p, ns, k, rfl, rfl, hs, q⟩ := h
  cases rx
  obtain ⟨u, rfl, t, rfl⟩ := rxs.one
  obtain ⟨its, rv, ht, hlen⟩ := I.tuple hs
  obtain ⟨⟨cls, dd, data, sl⟩, ho, hc, n, hd⟩ := ht
  simp only at hc hd; subst hc hd
  have hi := ints_of_vals rv
  refine call_meets F.slot_tuple_count ⟨_, ho, rfl⟩ F.entry_tuple_count (F.args_tuple_count_2 _ _) (SeqAt.tuple_countAt p its.toArray n dd sl (.int k t) (eqk k)) ⟨ho, fun y hy => (eqk_gives hi y (by simpa using hy)).at _ _, ?_⟩
  have ec : its.toArray.toList.countP (eqk k) = ns.count k := by simpa using eqk_count hi
  exact ⟨.int (ns.count k : Nat), H, I.tok _, ⟨s.toks, congrArg (fun z : Nat => Value.int (z : Int) s.toks) ec⟩, q⟩
end
end L2
/-! set(l) of a list of ints, as a set whose order sorted can tell -/
namespace PySem
section
variable {P : Program} {w : World} {A : Around} {E : Value → Shared → Prop} {s : Shared}
abbrev emptySetO (w : World) : Obj := { cls := .type "set", dict := none, data := .set #[] 0 (.fresh 0 0 (!w.params.followText "set-order")) }
open L2 PyProof.Rows in
theorem hx_set_list {l : Addr} {items : Array Value} (ns : List Int) {Q : Value → Shared → Prop} (hh : A.handled = none) (hl : s.heap.IsList l items) (hit : IntsAre items.toList ns) (hb : ns.length + 1 < scanBound)
    (h : ∀ (h' : Heap) (tk c : Nat), SetR w h' s.heap.objs.size (fun j => decide (j ∈ ns)) c → c ≤ ns.length → (∀ b o, s.heap.get? b = some o → h'.get? b = some o) → Q (.ref s.heap.objs.size) { s with heap := h', toks := tk }) :
    wpAny (model P w) A (call (.type "set") [.ref l]) Q E s := by
  have hisz : items.size = ns.length := (Array.length_toList ▸ IntsAre.length hit :)
  obtain ⟨c, tl, hmro⟩ := F.called_set.mro; have hmade := F.called_set.made; have hsub := F.called_set.sub
  refine wpAny_call (codeAny_of_tree (show wpAny _ _ (callAny (.type "set") _) _ _ _ from wpAny_pure ⟨Code.quiet_builtin _ (by decide +kernel), codeAny_builtin F.entry_type_call ?_⟩))
  rw [Around.under_plain (weight_type_call_type "set" [.ref l] []) rfl]
  have h1 := F.called_set.notType; have h2 := F.called_set.canCreate; have hct := F.typeCall_set_1 (.ref l)
  repeat (any_goals (first | assumption | wp_step))
  refine codeAny_mono (code_set_led1 (.ref l) (E := E) (Q₁ := fun obj s₁ => obj = .ref s.heap.objs.size ∧ s₁ = { s with heap := s.heap.push (emptySetO w) }) ⟨rfl, rfl⟩) fun r s₁ hr => ?_
  cases r with
  | error e => exact hr
  | ok fl =>
    cases fl with
    | ret obj =>
      obtain ⟨rfl, rfl⟩ := hr
      have hS : (s.heap.push (emptySetO w)).get? s.heap.objs.size = some (emptySetO w) := Heap.get?_push_size _ rfl
      have hT : Shared.TypeIs { s with heap := s.heap.push (emptySetO w) } (.ref s.heap.objs.size) "set" := ⟨_, hS, rfl⟩
      have hli := F.called_set.init.lookup; have hbi := F.called_set.init.bind (.ref s.heap.objs.size)
      repeat (any_goals (first | assumption | wp_step))
      refine codeAny_mono (codeAny_call_builtin (R := wants (fun r s₂ => r = .none ∧ ∃ h' tk c, s₂ = { s with heap := h', toks := tk } ∧ SetR w h' s.heap.objs.size (fun j => decide (j ∈ ns)) c ∧ c ≤ ns.length ∧ (∀ b o, s.heap.get? b = some o → h'.get? b = some o)) E)
        F.called_set.init.plain F.entry_set_init (check_set_init_1 hT ?_)) fun r₂ s₂ hr₂ => ?_
      · obtain ⟨⟨ocls, odict, odata, oslots⟩, hol, hcl, nl, hdl⟩ := hl
        simp only at hcl hdl; subst hcl; subst hdl
        have hol' : (s.heap.push (emptySetO w)).get? l = some { cls := .type "list", dict := odict, data := .seq items nl, slots := oslots } := Heap.get?_push_of_some _ hol
        have hsls := F.sub_list_set; have hslf := F.sub_list_frozenset; have hne : (Value.type "list" == Value.type "dict") = false := by decide
        have hl1 : (s.heap.push (emptySetO w)).IsList l items := ⟨_, hol', rfl, nl, rfl⟩
        unfold Builtin.«set.__init__» noKeywords Builtin.Frozenset.updateFrom; generalize hPI : pyIter = PI
        wp_walk
        subst hPI
        refine wpAny_pyIter_list hl1 (wpAny_bind (wpAny_runValue ?_))
        have hlS : l < s.heap.objs.size := Heap.lt_size hol
        have hneI : l ≠ (s.heap.push (emptySetO w)).objs.size := by rw [Heap.size_push]; exact Nat.ne_of_lt (Nat.lt_succ_of_lt hlS)
        have hSf : s.heap.objs.size ∉ [(s.heap.push (emptySetO w)).objs.size, l] := by
          rw [Heap.size_push]; intro z; simp only [List.mem_cons, List.not_mem_nil, or_false] at z
          exact z.elim (fun e => Nat.ne_of_lt (Nat.lt_succ_self _) e) (fun e => Nat.ne_of_gt hlS e)
        refine set_update_ints ((Walks.list (by simp [hh]) _ l hneI items).toS) s.heap.objs.size hSf ns hisz hb (fun i v hv => ?_) (items.size - 0) 0 _ (by omega) (Nat.zero_le _)
          ⟨⟨_, Heap.get?_push_size _ rfl, rfl, rfl⟩, (hl1.push _)⟩ ⟨0, Nat.le_refl 0, setR_new_at (Heap.get?_push_of_some _ hS)⟩ (fun s' c' hm hc' hS' => ?_)
        · have hi : i < ns.length := by rw [← hisz]; exact (Array.getElem?_eq_some_iff.mp hv).1
          obtain ⟨t, e⟩ := PyProof.Rows.IntsAre.int_at hit i v (by rw [Array.getElem?_toList]; exact hv)
          exact ⟨ns[i], t, List.getElem?_eq_getElem hi, by rw [e, List.getD_eq_getElem?_getD, List.getElem?_eq_getElem hi] <;> rfl⟩
        · obtain ⟨h', g2, d', tk', os'⟩ := s'
          have eg : g2 = s.gens := hm.gens; have ed : d' = s.drawn := hm.drawn; have eo : os' = s.os := hm.os
          subst eg; subst ed; subst eo
          show wpAny _ _ _ _ _ _
          refine wpAny_pure (show wpAny _ _ (ret Value.none) _ _ _ from ?_)
          rw [hisz] at hc'
          refine wpAny_pure ⟨rfl, h', tk', c', rfl, hS', hc', fun b o e => hm.heap b o ?_ (Heap.get?_push_of_some _ (Heap.get?_push_of_some _ e))⟩
          have hb0 : b < s.heap.objs.size := Heap.lt_size e
          intro z; rw [Heap.size_push] at z; simp only [List.mem_cons, List.not_mem_nil, or_false] at z
          exact z.elim (fun e => Nat.ne_of_lt hb0 e) (fun e => Nat.ne_of_lt (Nat.lt_succ_of_lt hb0) e)
      · cases r₂ with
        | error e => exact hr₂
        | ok fl₂ =>
          cases fl₂ with
          | ret r =>
            obtain ⟨rfl, h', tk, c', rfl, hS', hc', hk'⟩ := hr₂
            repeat (any_goals (first | assumption | wp_step))
            exact h _ _ _ hS' hc' hk'
          | _ => exact hr₂.elim
    | _ => exact hr.elim
end
end PySem
namespace L2
open PySem PySem.Spec PyProof.Rows
section
variable {X : Cx}
def rSetI (K : PySem.W.Frag) (w : World) : List V → Hp → VK → Prop := fun xs H Q => ∃ (l : Addr) (ns : List Int), xs = [V.ref l] ∧ SqL K H l (ns.map V.int) ∧ ns.length < 64 ∧
  ∀ a c, H a = none → c ≤ ns.length → Q (.ref a) (upd H a (SetO w a (fun j => decide (j ∈ ns)) c))
theorem cr_setI (hc : X.calm = true) : CallR X (.type "set") (rSetI X.K X.w) := by
  intro pins s σ H xs us Q I r h
  obtain ⟨l, ns, rfl, hs, h64, q⟩ := h
  rw [Vals.ref1 r]
  obtain ⟨its, rv, hl, hlen⟩ := I.list hs
  have hi : IntsAre its.toArray.toList ns := by simpa using ints_of_vals rv
  refine PySem.hx_set_list ns (I.ok.hd hc) ?_ hi (by unfold scanBound; omega) fun h' tk c R hc' kp => ?_
  · obtain ⟨o, n, ho, hc2, _, hd⟩ := hl
    exact ⟨o, ho, hc2, n, hd⟩
  · have hn : H s.heap.objs.size = none := I.hok.fresh (Nat.le_refl _)
    exact ⟨.ref _, _, I.laid (t' := tk) (fun b o e => kp b o e) (Nat.le_refl _) (setO_new R), rfl, q _ c hn hc'⟩
end
end L2
namespace L2
open PySem PySem.Spec PyProof.Rows PySem.W PySem.SeqAt
theorem ReadsAll.nth {h : Heap} : ∀ {us : List Value} {ds : List PyData} {as : List Addr} {i : Nat} {u : Value}, ReadsAll h us ds as → us[i]? = some u → ∃ d bs, ds[i]? = some d ∧ Reads h u d bs
  | _, _, _, _, _, .nil, e => by simp at e
  | _, _, _, 0, _, .cons r _, e => by simp at e; subst e; exact ⟨_, _, rfl, r⟩
  | _, _, _, i + 1, u, .cons _ t, e => by
    obtain ⟨d, bs, h1, h2⟩ := ReadsAll.nth (i := i) (u := u) t (by simpa using e)
    exact ⟨d, bs, by simpa using h1, h2⟩
section
variable {X : Cx}
/-- a < b of data at any depth -/
def rLtD (X : Cx) : R2 := fun x y H Q => ∃ d e, Dp X.K H x d ∧ Dp X.K H y e ∧ alike d e = true ∧ d ≠ .none ∧ X.A.units + min d.depth e.depth < cLine ∧ Q (.bl (dataLt d e)) H
theorem op_ltD : OpR X (compareOp .Lt) (rLtD X) := by
  intro pins s σ H x y v u Q I rx ry h
  obtain ⟨d, e, hd, he, sd, se, hu, q⟩ := h
  obtain ⟨as, r1⟩ := Dp.reads I d x v hd rx
  obtain ⟨bs, r2⟩ := Dp.reads I e y u he ry
  exact lt_data r1 r2 sd se hu ⟨.bl _, H, I, rfl, q⟩
/-- min of a list of data alike: one of the items, the data's least -/
def rMinD (X : Cx) : List V → Hp → VK → Prop := fun vs H Q => ∃ (a : Addr) (xs : List V) (d : PyData) (ds : List PyData), vs = [V.ref a] ∧ SqL X.K H a xs ∧ DpAll X.K H xs (d :: ds) ∧ AlikeAll (d :: ds) ∧
  X.A.units + 1 + PyData.depthAll (d :: ds) < cLine ∧ ∀ (i : Nat) (v : V), xs[i]? = some v → (d :: ds)[i]? = some (minD d ds) → Q v H
theorem cr_minD (hc : X.calm = true) : CallR X (.builtin "min") (rMinD X) := by
  intro pins s σ H xs us Q I r h
  obtain ⟨a, vs, d, ds, rfl, hs, hd, ha, hu, q⟩ := h
  rw [Vals.ref1 r]
  obtain ⟨its, rv, ⟨o, n, ho, hcl, _, hdt⟩, hlen⟩ := I.list hs
  obtain ⟨as, ra⟩ := Dp.readsAll I _ _ _ hd rv
  have hl : s.heap.IsList a its.toArray := ⟨o, ho, hcl, n, hdt⟩
  refine min_list_data (I.ok.hd hc) hl (by simpa using ra) ha hu fun i v h' tk bs hi hr kp => ?_
  have hi' : its[i]? = some v := by simpa using hi
  obtain ⟨e, cs, he, hre⟩ := ReadsAll.nth ra hi'
  have hre' := reads_keeps kp hre
  have eq : e = minD d ds := (Reads.unique hre' _ _ hr).1
  subst eq
  have hlt : i < vs.length := by
    have := rv.length
    have := (List.getElem?_eq_some_iff.mp hi').1
    omega
  obtain ⟨u, hu1, hu2⟩ := rv.get (List.getElem?_eq_getElem hlt)
  rw [hi'] at hu1
  cases hu1
  exact ⟨vs[i], H, I.kept (t' := tk) fun b o e => kp b o e, hu2, q i _ (List.getElem?_eq_getElem hlt) he⟩
end
end L2
/-! {**d, k: v}, keys ints and texts -/
namespace PySem
open PyProof.Rows
section
variable {P : Program} {w : World} {K : Type} [DecidableEq K] {knd : KeyKind P w K} {A : Around} {E : Value → Shared → Prop} {s : Shared}
theorem hx_dictPut {d : Addr} {kvs : List (K × Value)} {k : K} {key v : Value} {Q : Unit → Shared → Prop} (hkey : knd.is k key = true) (hm : s.heap.DictOf knd d kvs)
    (hQ : ∀ h', h'.DictOf knd d (stored kvs k v) → Heap.SameBut d s.heap h' → Q () { s with heap := h' }) (hsz : kvs.length ≤ sizeLine) :
    wpAny (model P w) A (dictPut d (knd.hash k) key v) Q E s := by
  obtain ⟨o, es, ep, ho, hc, hd, hk, hp, hn⟩ := hm
  have hes : es.size ≤ sizeLine := by
    have e1 := hp.length; rw [Array.length_toList] at e1; omega
  have hidx : (es.findIdx? fun e => knd.is k e.key) = kvs.findIdx? fun kv => decide (kv.1 = k) := by
    rw [← hp.findIdx k]; cases es; simp
  refine wpAny_bind (wpAny_dictFind_of hkey ho hd hk ?_)
  cases hi : es.findIdx? fun e => knd.is k e.key with
  | none =>
    have hnot : k ∉ kvs.map (·.1) := not_mem_of_findIdx_none (hidx ▸ hi)
    have hany : ¬ (kvs.any fun kv => decide (kv.1 = k)) = true := fun z => by
      obtain ⟨kv, hkv, he⟩ := List.any_eq_true.mp z
      exact hnot (List.mem_map.mpr ⟨kv, hkv, of_decide_eq_true he⟩)
    show wpAny _ _ (updateDictKeys d (·.push ⟨knd.hash k, key, v⟩)) _ _ _
    refine wpAny_updateDictKeys (hz := hes) ho hd (hQ _ ⟨_, _, ep + 1, Heap.get?_update_self _ ho (Obj.isFreed_of_dict (Obj.data_mapDictKeys hd _)), hc.mapDictKeys _, Obj.data_mapDictKeys hd _, hk.push hkey _, ?_, ?_⟩ (Heap.SameBut.update ..))
    · rw [stored, if_neg hany]
      have := hp.append hkey (knd.hash k) v
      cases es; simpa using this
    · rw [stored, if_neg hany, List.map_append, List.nodup_append]
      refine ⟨hn, by simp, fun a ha b hb e => hnot ?_⟩
      have : b = k := by simpa using hb
      rw [← this, ← e]; exact ha
  | some i =>
    show wpAny _ _ (updateDict d (·.modify i fun e => { e with val := v })) _ _ _
    refine wpAny_updateDict ho hd (hQ _ ⟨_, _, ep, Heap.get?_update_self _ ho (Obj.isFreed_of_dict (Obj.data_mapDict hd _)), hc.mapDict _, Obj.data_mapDict hd _, hk.modify _ _, ?_, ?_⟩ (Heap.SameBut.update ..))
    · rw [stored, if_pos (any_of_findIdx_some (hidx ▸ hi))]
      have hl : (es.toList.findIdx? fun e => knd.is k e.key) = some i := by rw [← hi]; cases es; simp
      have := hp.modify hn hl v
      cases es; simpa using this
    · rw [stored, if_pos (any_of_findIdx_some (hidx ▸ hi)), keys_map_store]; exact hn

theorem hx_merge (hval : ∀ k v, knd.is k v = true → ∀ a, v ≠ .ref a) {d o : Addr} {kvs more : List (K × Value)} {Q : Unit → Shared → Prop} (hdo : d ≠ o) (hoS : (o == sysModules) = false) (hd : s.heap.DictOf knd d kvs) (ho : s.heap.DictOf knd o more)
    (hQ : ∀ h', h'.DictOf knd d (merged kvs more) → h'.DictOf knd o more → Heap.SameBut d s.heap h' → Q () { s with heap := h' }) (hsz : kvs.length + more.length ≤ sizeLine) :
    wpAny (model P w) A (mergeMapping d (.ref o) false) Q E s := by
  obtain ⟨od, esd, epd, hod, hcd, hdd, hkd, hpd, hnd⟩ := id hd
  obtain ⟨oo, eso, epo, hoo, hco, hdo', hko, hpo, hno⟩ := id ho
  have hlen : more.length = eso.size := by rw [← hpo.length]; simp
  unfold mergeMapping
  refine wpAny_bind (wpAny_isInstance ho.typeIs isSubtype_dict_dict ?_)
  simp only [if_true]
  refine wpAny_bind (wpAny_specialOf ho.typeIs F.slot_dict_iter.lookup (wpAny_bind (wpAny_pure ?_)))
  simp only [beq_self_eq_true]
  rw [if_neg (by rw [hoS]; exact Bool.false_ne_true)]
  refine wpAny_bind (wpAny_dictEntries hod hdd ?_)
  have loop : wpAny (model P w) A (do
      let l ← dictEntries o
      let epoch ← dictEpoch o
      forIn (List.range l.size) PUnit.unit fun i (_ : PUnit) => (do
          let l' ← dictEntries o
          match l'[i]? with
            | some e => do
              holding [e.key, e.val] (dictPut d e.hash e.key e.val)
              let ep' ← dictEpoch o
              if (ep' != epoch) = true then do
                  (unsupported "dict.changed-during-merge" : Sem PUnit)
                  pure (ForInStep.yield PUnit.unit)
                else pure (ForInStep.yield PUnit.unit)
            | _ => do
              (unsupported "dict.changed-during-merge" : Sem PUnit)
              pure (ForInStep.yield PUnit.unit) : Sem (ForInStep PUnit))
      pure ()) Q E s := by
    refine wpAny_bind (wpAny_dictEntries hoo hdo' ?_)
    refine wpAny_bind (wpAny_dictEpoch hoo hdo' ?_)
    refine wpAny_bind ?_
    rw [List.range_eq_range']
    refine wpAny_forIn_list _
      (fun rest _ s' => ∃ h' i, s' = { s with heap := h' } ∧ rest = List.range' i (eso.size - i) ∧ i ≤ eso.size ∧ h'.DictOf knd d (merged kvs (more.take i)) ∧ h'.get? o = some oo ∧ Heap.SameBut d s.heap h')
      _ ?_ ?_ _ _ ⟨s.heap, 0, rfl, by simp, Nat.zero_le _, by simpa [merged] using hd, hoo, Heap.SameBut.refl _ _⟩
    · rintro x rest b s' ⟨h', i, rfl, hr, hi, hd', hoo', hs'⟩
      have hlt : i < eso.size := Nat.lt_of_not_le fun h => by rw [Nat.sub_eq_zero_of_le h] at hr; simp at hr
      have ek : eso.size - i = (eso.size - (i + 1)) + 1 := by omega
      rw [ek, List.range'_succ] at hr
      injection hr with h1 hrest
      subst h1
      refine wpAny_bind (wpAny_dictEntries hoo' hdo' ?_)
      rw [Array.getElem?_eq_getElem hlt]
      have hkv : more[x]? = some (more[x]'(by rw [hlen]; exact hlt)) := List.getElem?_eq_getElem _
      generalize (more[x]'(by rw [hlen]; exact hlt)) = kv at hkv
      obtain ⟨k, v⟩ := kv
      obtain ⟨hkey, hvl⟩ := hpo.get? (e := eso[x]) (by simp [hlt]) hkv
      obtain ⟨k', hkey', hhash⟩ := hko eso[x] (Array.getElem_mem hlt)
      obtain rfl : k' = k := knd.inj _ _ _ hkey' hkey
      show wpAny _ _ (holding [eso[x].key, eso[x].val] (dictPut d eso[x].hash eso[x].key eso[x].val) >>= _) _ _ _
      rw [hhash, hvl]
      have hmx : (merged kvs (more.take x)).length ≤ sizeLine := by
        have e1 := merged_length_le kvs (more.take x)
        rw [List.length_take] at e1; omega
      refine wpAny_bind (wpAny_holding (hx_dictPut (hsz := hmx) hkey hd' fun h'' hd'' hs'' => ?_))
      have hoo'' : h''.get? o = some oo := (hs''.2 o (Ne.symm hdo)).trans hoo'
      refine wpAny_bind (wpAny_dictEpoch hoo'' hdo' ?_)
      rw [if_neg (by simp)]
      exact wpAny_pure ⟨h'', x + 1, rfl, hrest, hlt, by rw [merged_take_succ kvs more x (k', v) hkv]; exact hd'', hoo'', hs'.trans hs''⟩
    · rintro b s' ⟨h', i, rfl, hr, hi, hd', hoo', hs'⟩
      have hin : i = eso.size := Nat.le_antisymm hi (Nat.le_of_not_lt fun h => by
        have ek : eso.size - i = (eso.size - (i + 1)) + 1 := by omega
        rw [ek, List.range'_succ] at hr; exact nomatch hr)
      rw [hin, ← hlen, List.take_length] at hd'
      exact wpAny_pure (hQ h' hd' ⟨oo, eso, epo, hoo', hco, hdo', hko, hpo, hno⟩ hs')
  split
  · refine wpAny_bind (wpAny_dictEntries hoo hdo' ?_)
    have quiet : (forIn eso PUnit.unit fun e (_ : PUnit) => (match e.key with
        | Value.ref a => do
          let x ← specialOf e.key (Str.ofString "__eq__")
          if (x != some (Value.builtin "object.__eq__")) = true then
              if (Array.filter (fun x => x.hash == e.hash) eso).size > 1 then do
                (unsupported "dict.merge-into-an-empty-dict:keys-of-equal-hash" : Sem PUnit)
                pure (ForInStep.yield PUnit.unit)
              else pure (ForInStep.yield PUnit.unit)
            else pure (ForInStep.yield PUnit.unit)
        | x => pure (ForInStep.yield PUnit.unit) : Sem (ForInStep PUnit))) = pure PUnit.unit := by
      rw [← Array.forIn_toList]
      refine forIn_yield_id _ fun e he c => ?_
      obtain ⟨k, hkey, _⟩ := hko e (Array.mem_toList_iff.mp he)
      have := hval k _ hkey
      split
      · next a ea => exact absurd ea (this a)
      · rfl
    exact wpAny_bind (wpAny_of_eq quiet loop)
  · exact loop

/-- {**v, k: x}: what v and the pair are walked to -/
theorem hx_star {env : Env} {vd vk vx : Expr} {pos : Pos} {Q : Value → Shared → Prop} (hval : ∀ k v, knd.is k v = true → ∀ a, v ≠ .ref a)
    (h : wpAny (model P w) A (eval vd env) (fun u s1 => ∃ o more, u = .ref o ∧ s.heap.objs.size ≠ o ∧ (o == sysModules) = false ∧ s1.heap.DictOf knd o more ∧ s1.heap.DictOf knd s.heap.objs.size [] ∧ more.length < sizeLine ∧
      ∀ h1, h1.DictOf knd s.heap.objs.size (merged [] more) → Heap.SameBut s.heap.objs.size s1.heap h1 →
        wpAny (model P w) A (evalPairs [(eval vk env, do let x ← eval vx env; standAt pos; pure x)]) (fun vs s2 => ∃ k x kvs2, Carries knd vs [(k, x)] ∧ s2.heap.DictOf knd h1.objs.size [] ∧ s2.heap.DictOf knd s.heap.objs.size kvs2 ∧ kvs2.length < sizeLine ∧ h1.objs.size ≠ s.heap.objs.size ∧ (h1.objs.size == sysModules) = false ∧
          ∀ h2 h3 tk, Heap.SameBut h1.objs.size s2.heap h2 → h2.DictOf knd h1.objs.size (merged [] [(k, x)]) → Heap.SameBut s.heap.objs.size h2 h3 → h3.DictOf knd s.heap.objs.size (merged kvs2 [(k, x)]) → Q (.ref s.heap.objs.size) { s2 with heap := h3, toks := tk }) E
          { s1 with heap := h1.push { cls := .type "dict", data := .dict #[] } }) E
      { s with heap := s.heap.push { cls := .type "dict", data := .dict #[] } }) :
    wpAny (model P w) A (eval (.Dict [none, some vk] [vd, vx] pos) env) Q E s := by
  rw [arm_eval_Dict]
  refine wpAny_bind (wpAny_standAt ?_)
  show wpAny _ _ (dictDisplay [(none, do let x ← eval vd env; standAt pos; pure x), (some (eval vk env), do let x ← eval vx env; standAt pos; pure x)]) _ _ _
  unfold dictDisplay
  dsimp only
  simp only [List.forIn_cons, List.forIn_nil, List.isEmpty_nil, if_true, pure_bind, bind_assoc, List.nil_append, List.length_singleton, List.isEmpty_cons, Bool.false_eq_true, if_false, show ((1 : Nat) == 17) = false from rfl]
  refine wpAny_bind (wpAny_alloc ?_)
  refine wpAny_bind (wpAny_holding (wpAny_bind (wpAny_mono h (fun u s1 hu => ?_) fun _ _ e => e)))
  obtain ⟨o, more, rfl, hdo, hoS, ho, hd, hz, rest⟩ := hu
  refine wpAny_bind (wpAny_standAt (wpAny_pure ?_))
  refine wpAny_bind (wpAny_onRaise (wpAny_tryCatch (wpAny_onRaise (wpAny_holding (hx_merge hval hdo hoS hd ho (fun h1 hd1 ho1 sb => ?_) (by rw [List.length_nil]; omega))))))
  refine wpAny_bind (wpAny_holding (wpAny_subDict (knd := knd) (Nat.le_of_ble_eq_true rfl) (wpAny_mono (rest h1 hd1 sb) (fun vs s2 hv => ?_) fun _ _ e => e)))
  obtain ⟨k, x, kvs2, hc, hn, hm, hz2, hne, hns, fin⟩ := hv
  refine ⟨[(k, x)], hc, hn, fun h2 hd2 sb2 => ?_⟩
  refine wpAny_bind (wpAny_onRaise (wpAny_holding (hx_merge hval (Ne.symm hne) hns (hm.sameBut sb2 (Ne.symm hne)) hd2 (fun h3 hd3 _ sb3 => ?_) ?_)))
  · exact wpAny_pure (fin h2 h3 _ sb2 hd2 sb3 hd3)
  · have e2 := merged_length_le [] [(k, x)]
    simp only [List.length_nil, List.length_cons] at e2
    omega
end
end PySem
namespace L2
open PySem PySem.Spec PyProof.Rows
/-- {**d, k: v}: the new dict at p; the pair's own dict lies at q and is dropped -/
def tStar1 (td tk tv : TE) : TE := fun σ H Q => ∀ p, H p = none → td σ (upd H p (.dK [])) fun x H1 => ∃ o more, x = .ref o ∧ o ≠ p ∧ Rd H1 o (.dK more) ∧ H1 p = some (.dK []) ∧ more.length < 1000 ∧
  ∀ q, (upd H1 p (.dK (mergeK [] more))) q = none → tk σ (upd (upd H1 p (.dK (mergeK [] more))) q (.dK [])) fun y H2 => tv σ H2 fun z H3 => H3 q = some (.dK []) ∧ H3 p = some (.dK (mergeK [] more)) ∧
    ∃ k, y = kV k ∧ Q (.ref p) (upd (upd H3 q (.dK (mergeK [] [(k, z)]))) p (.dK (putK (mergeK [] more) k z)))
section
variable {X : Cx} {pos : Pos} {vd vk vx : Expr} {td tk tv : TE}
theorem pe_dstar1 (hd : PE X vd td) (hk : PE X vk tk) (hv : PE X vx tv) : PE X (.Dict [none, some vk] [vd, vx] pos) (tStar1 td tk tv) := by
  refine ⟨fun pins s σ H Q I h => ?_⟩
  have hn := I.hok.fresh (Nat.le_refl s.heap.objs.size)
  have I1 := I.laid (a := s.heap.objs.size) (o := .dK []) (h' := s.heap.push { cls := .type "dict", data := .dict #[] }) (t' := s.toks) (fun _ _ q => Heap.get?_push_of_some _ q) (Nat.le_refl _) (dk_empty s.heap I.big)
  refine hx_star (knd := mixKind X.prog X.w) (fun k v e a => ?_) (thn (hd.run pins _ σ _ _ I1 (h _ hn)) fun u s1 ⟨x, H1, I2, rx, o, more, ex, hop, hr, hp, hz, rest⟩ => ?_)
  · rcases keyIs_shape e with ⟨i, t, _, rfl⟩ | ⟨i, t, _, rfl⟩ <;> exact fun z => nomatch z
  · subst ex
    obtain rfl : u = Value.ref o := rx
    obtain ⟨zo, hoS, vso, relo, ddo⟩ := dk_rd I2.hok hr
    obtain ⟨zp, hpS, vsp, relp, ddp⟩ := dk_of I2.hok hp
    cases relp
    refine ⟨o, vso, rfl, fun e => hop e.symm, hoS, ddo, ddp, ?_, fun h1 dd1 sb1 => ?_⟩
    · rw [← relo.length]; exact small1000 (Nat.le_of_lt hz)
    · have hm : (mergeK [] more).length ≤ sizeLine := by
        have e1 := length_mergeK more []
        have := small1000 (Nat.le_of_lt hz)
        rw [List.length_nil] at e1; omega
      have I3 := d_write (t' := s1.toks) (ob := .dK (mergeK [] more)) I2 (by rw [hp]; exact True.intro) sb1 (let ⟨q, _, _, hq, _⟩ := dd1; ⟨q, hq⟩) (dk_new hm hpS (relo.merge .nil) dd1)
      have hq := I3.hok.fresh (Nat.le_refl h1.objs.size)
      have I4 := I3.laid (a := h1.objs.size) (o := .dK []) (h' := h1.push { cls := .type "dict", data := .dict #[] }) (t' := s1.toks) (fun _ _ q => Heap.get?_push_of_some _ q) (Nat.le_refl _) (dk_empty h1 I3.big)
      refine evalPairs_cons (thn (hk.run pins _ σ _ _ I4 (rest _ hq)) fun u2 s2 ⟨y, H2, I5, ry, q1⟩ => wpAny_bind (thn (hv.run pins s2 σ H2 _ I5 q1) fun u3 s3 ⟨z, H3, I6, rz, eq3, ep3, k, ey, q3⟩ => wpAny_bind (wpAny_standAt (wpAny_pure (evalPairs_nil ?_)))))
      subst ey
      obtain ⟨zq, hqS, vq, rq, ddq⟩ := dk_of I6.hok eq3
      cases rq
      obtain ⟨zp3, hpS3, vp3, rp3, ddp3⟩ := dk_of I6.hok ep3
      have nqp : h1.objs.size ≠ s.heap.objs.size := fun e => by
        rw [e, upd_same] at hq
        cases hq
      have cz : ∃ u, Carries (mixKind X.prog X.w) [(u2, u3)] [(k, u)] ∧ RelV z u := ⟨u3, ⟨kV_is ry, rfl, True.intro⟩, rz⟩
      obtain ⟨u, hc, ru⟩ := cz
      have hz3 : vp3.length < sizeLine := by
        rw [← rp3.length]
        have e1 := length_mergeK more []
        rw [List.length_nil] at e1
        exact small1000 (by omega)
      refine ⟨k, u, vp3, hc, ddq, ddp3, hz3, nqp, hqS, fun h2 h3 tk sb2 dd2 sb3 dd3 => ?_⟩
      have one : KV [(k, z)] [(k, u)] := .cons ⟨rfl, ru⟩ .nil
      have J1 := d_write (t' := s3.toks) (ob := .dK (mergeK [] [(k, z)])) I6 (by rw [eq3]; exact True.intro) sb2 (let ⟨q, _, _, hq, _⟩ := dd2; ⟨q, hq⟩) (dk_new (by
        have e1 := length_mergeK [(k, z)] []
        simp only [List.length_nil, List.length_cons] at e1
        exact Nat.le_of_lt (small1000 (by omega))) hqS (one.merge .nil) dd2)
      have ep4 : upd H3 h1.objs.size (.dK (mergeK [] [(k, z)])) s.heap.objs.size = some (.dK (mergeK [] more)) := by
        rw [upd_ne (Ne.symm nqp)]; exact ep3
      have J2 := d_write (t' := tk) (ob := .dK (putK (mergeK [] more) k z)) J1 (by rw [ep4]; exact True.intro) sb3 (let ⟨q, _, _, hq, _⟩ := dd3; ⟨q, hq⟩) (dk_new (by
        have e1 := length_mergeK more []
        have e2 := length_putK (mergeK [] more) k z
        rw [List.length_nil] at e1
        exact Nat.le_of_lt (small1000 (by omega))) hpS3 (rp3.put k ru) dd3)
      exact ⟨.ref s.heap.objs.size, _, J2, rfl, q3⟩
end
end L2
/-! readings, one step at a time -/
namespace L2
open PySem PySem.Spec PyProof.Rows
section
variable {σ : St} {H : Hp} {Q : VK} {D : Ends} {K : PySem.W.Frag} {v x y z : V} {i : Nat} {a b p : Addr} {xs ys vs : List V} {ta tb tc te tk tv : TE} {t u : TT} {t1 t2 ts : TS} {tr : TA} {sp : Sp} {dvs : List V} {E : XK}
-- statements
theorem rd_seq (h : t1 { D with nx := t2 D } σ H) : tSeq t1 t2 D σ H := h
theorem rd_next (h : D.nx σ H) : tNext D σ H := h
theorem rd_brk (h : D.bk σ H) : tBreak D σ H := h
theorem rd_cont (h : D.ct σ H) : tCont D σ H := h
theorem rd_set (h : te σ H fun x H1 => D.nx (σ.set i (some x)) H1) : tAsg te (gName i) D σ H := h
theorem rd_asg {g : TG} (h : te σ H fun x H1 => g x σ H1 D.nx) : tAsg te g D σ H := h
theorem rd_drop (h : te σ H fun _ H1 => D.nx σ H1) : tDrop te D σ H := h
theorem rd_ret (h : te σ H D.rt) : tRet te D σ H := h
theorem rd_retN (h : D.rt .non H) : tRetN D σ H := h
theorem rd_ifS (h : t σ H fun b H1 => if b = true then t1 D σ H1 else t2 D σ H1) : tIfS t t1 t2 D σ H := h
theorem rd_aug {ti : TIp} (hx : σ[i]? = some (some x)) (h : te σ H fun y H1 => ti x y H1 fun z H2 => D.nx (σ.set i (some z)) H2) : tAug i te ti D σ H := ⟨x, hx, h⟩
-- values
theorem rd_var (hx : σ[i]? = some (some x)) (h : Q x H) : tVar i σ H Q := ⟨x, hx, h⟩
theorem rd_c (h : Q v H) : tC v σ H Q := h
theorem rd_op {r : R2} (h : ta σ H fun x H1 => tb σ H1 fun y H2 => r x y H2 Q) : tOp r ta tb σ H Q := h
theorem rd_un {r : V → Hp → VK → Prop} (h : ta σ H fun x H1 => r x H1 Q) : tUn r ta σ H Q := h
theorem rd_cb {r : List V → Hp → VK → Prop} (h : tr σ H fun vs H1 => r vs H1 Q) : tCB r tr σ H Q := h
theorem rd_call (h : tr σ H fun vs H1 => sp (vs ++ dvs) H1 Q E) : tCall sp dvs E tr σ H Q := h
theorem rd_cons {QA : List V → Hp → Prop} (h : ta σ H fun x H1 => tr σ H1 fun xs H2 => QA (x :: xs) H2) : tCons ta tr σ H QA := h
theorem rd_nil {QA : List V → Hp → Prop} (h : QA [] H) : tNil σ H QA := h
theorem rd_andV (h : ta σ H fun x H1 => ∃ c, x = .bl c ∧ if c = true then tb σ H1 Q else Q (.bl false) H1) : tAndV ta tb σ H Q := h
theorem rd_orV (h : ta σ H fun x H1 => ∃ c, x = .bl c ∧ if c = true then Q (.bl true) H1 else tb σ H1 Q) : tOrV ta tb σ H Q := h
theorem rd_notV (h : ta σ H fun x H1 => ∃ c, x = .bl c ∧ Q (.bl (!c)) H1) : tNotV ta σ H Q := h
theorem rd_chain {r r' : R2} (h : ta σ H fun x H1 => tb σ H1 fun y H2 => r x y H2 fun z H3 => ∃ k, z = .bl k ∧ (if k = true then tc σ H3 fun w' H4 => r' y w' H4 Q else Q (.bl false) H3)) : tChain r r' ta tb tc σ H Q := h
theorem rd_ifE (h : t σ H fun c H1 => if c = true then ta σ H1 Q else tb σ H1 Q) : tIf t ta tb σ H Q := h
theorem rd_tup (h : tr σ H fun xs H1 => xs.length ≤ sizeLine ∧ ∀ p, H1 p = none → Q (.ref p) (upd H1 p (.tup xs))) : tTup tr σ H Q := h
theorem rd_lst (h : tr σ H fun xs H1 => xs.length ≤ sizeLine ∧ ∀ p, H1 p = none → Q (.ref p) (upd H1 p (.lst xs))) : tLst tr σ H Q := h
theorem rd_sl {r : V → Option Int → Option Int → Hp → VK → Prop} {tl th : TO} (h : te σ H fun x H1 => tl σ H1 fun l H2 => th σ H2 fun u H3 => r x l u H3 Q) : tSl r te tl th σ H Q := h
theorem rd_part {QO : Option Int → Hp → Prop} (h : te σ H fun x H1 => ∃ i, x = .int i ∧ QO (some i) H1) : tPart te σ H QO := h
theorem rd_noPart {QO : Option Int → Hp → Prop} (h : QO none H) : tNoPart σ H QO := h
theorem rd_bm {T : String} {r : V → List V → Hp → VK → Prop} (h : ta σ H fun x H1 => tyV K T x H1 ∧ tr σ H1 fun xs H2 => r x xs H2 Q) : tBM K T r ta tr σ H Q := h
theorem rd_bm0 {T : String} {r : V → List V → Hp → VK → Prop} (h : ta σ H fun x H1 => tyV K T x H1 ∧ r x [] H1 Q) : tBM0 K T r ta σ H Q := h
theorem rd_dget (h : ta σ H fun x H1 => tb σ H1 fun y H2 => ∃ a v, x = .ref a ∧ DGet H2 a y (some v) ∧ Q v H2) : tDGet ta tb σ H Q := h
theorem rd_dput (h : tv σ H fun v H1 => ta σ H1 fun x H2 => tk σ H2 fun y H3 => ∃ a H4, x = .ref a ∧ DPut H3 a y v H4 ∧ D.nx σ H4) : sDPut ta tk tv D σ H := h
theorem rd_lstRg {tg : St → Hp → (Int → Int → Hp → Prop) → Prop} (h : tg σ H fun a b H1 => RgOk a b ∧ ∀ q, H1 q = none → Q (.ref q) (upd H1 q (.lst (rgV a b)))) : tLstRg tg σ H Q := h
theorem rd_rg1 {QR : Int → Int → Hp → Prop} (h : ta σ H fun x H1 => ∃ n, x = .int n ∧ QR 0 n H1) : tRg1 ta σ H QR := h
theorem rd_nDict (h : ∀ p, H p = none → Q (.ref p) (upd H p (.dK []))) : tDNewK σ H Q := h
-- tests
variable {QB : Bool → Hp → Prop}
theorem rd_test (h : te σ H fun x H1 => ∃ k, x = .bl k ∧ QB k H1) : tTest te σ H QB := h
theorem rd_tB (h : te σ H fun x H1 => ∃ k, x = .bl k ∧ QB k H1) : tB te σ H QB := h
theorem rd_and (h : t σ H fun c H1 => if c = true then u σ H1 QB else QB false H1) : tAnd t u σ H QB := h
theorem rd_or (h : t σ H fun c H1 => if c = true then QB true H1 else u σ H1 QB) : tOr t u σ H QB := h
theorem rd_not (h : t σ H fun c H1 => QB (!c) H1) : tNot t σ H QB := h
-- targets
variable {QT : St → Hp → Prop}
theorem rd_gname (h : QT (σ.set i (some v)) H) : gName i v σ H QT := h
theorem rd_gtup {n : Nat} {tg : TGs} (hs : SqT K H a xs) (hn : xs.length = n) (h : tg xs σ H QT) : gTup K n tg (.ref a) σ H QT := ⟨a, xs, rfl, hs, hn, h⟩
theorem rd_gcons {g : TG} {tg : TGs} (h : g v σ H fun σ' H' => tg vs σ' H' QT) : gCons g tg (v :: vs) σ H QT := ⟨v, vs, rfl, h⟩
theorem rd_gnil (h : QT σ H) : gNil [] σ H QT := ⟨rfl, h⟩
theorem rd_gsub {to ti : TE} {tset : TSet} (h : to σ H fun o H1 => ti σ H1 fun i H2 => tset o i v H2 fun H3 => QT σ H3) : gSub to ti tset v σ H QT := h
-- answers
theorem rd_blT {A B : Prop} (h : A) : ∃ c, V.bl true = .bl c ∧ (if c = true then A else B) := ⟨true, rfl, iteT h⟩
theorem rd_blF {A B : Prop} (h : B) : ∃ c, V.bl false = .bl c ∧ (if c = true then A else B) := ⟨false, rfl, iteF h⟩
theorem rd_bl2 {A B : Prop} {c0 : Bool} (h1 : c0 = true → A) (h2 : c0 = false → B) : ∃ c, V.bl c0 = .bl c ∧ (if c = true then A else B) := by
  refine ⟨c0, rfl, ?_⟩
  cases c0 with
  | true => exact iteT (h1 rfl)
  | false => exact iteF (h2 rfl)
theorem rd_blA {A : Bool → Prop} {c0 : Bool} (h : A c0) : ∃ c, V.bl c0 = .bl c ∧ A c := ⟨c0, rfl, h⟩
theorem rd_if2 {A B : Prop} {c0 : Bool} (h1 : c0 = true → A) (h2 : c0 = false → B) : if c0 = true then A else B := by
  cases c0 with
  | true => exact iteT (h1 rfl)
  | false => exact iteF (h2 rfl)
theorem rd_ifD {A B : Prop} {c : Prop} [Decidable c] (h1 : c → A) (h2 : ¬ c → B) : if decide c = true then A else B :=
  rd_if2 (fun e => h1 (of_decide_eq_true e)) (fun e => h2 (of_decide_eq_false e))
theorem rd_ifDN {A B : Prop} {c : Prop} [Decidable c] (h1 : ¬ c → A) (h2 : c → B) : if (!decide c) = true then A else B :=
  rd_if2 (fun e => h1 (by simpa using e)) (fun e => h2 (by simpa using e))
-- values' rules
theorem rd_I0 {g : Int → Int → V} {m n : Int} (h : Q (g m n) H) : rI0 g (.int m) (.int n) H Q := ⟨m, n, rfl, rfl, h⟩
theorem rd_I {C : Int → Int → Prop} {g : Int → Int → V} {m n : Int} (hc : C m n) (h : Q (g m n) H) : rI C g (.int m) (.int n) H Q := ⟨m, n, rfl, rfl, hc, h⟩
theorem rd_U {g : Int → V} {m : Int} (h : Q (g m) H) : rU g (.int m) H Q := ⟨m, rfl, h⟩
theorem rd_ipI {f : Int → Int → Int} {m n : Int} (h : Q (.int (f m n)) H) : ipI f (.int m) (.int n) H Q := ⟨m, n, rfl, rfl, h⟩
theorem rd_eq (hs : scal x y = true) (h : Q (.bl (decide (x = y))) H) : rEq x y H Q := ⟨hs, h⟩
theorem rd_eqI {m n : Int} (h : Q (.bl (decide (m = n))) H) : rEq (.int m) (.int n) H Q := ⟨rfl, by
  have : decide (V.int m = V.int n) = decide (m = n) := by by_cases e : m = n <;> simp [e]
  rw [this]; exact h⟩
theorem rd_neI {m n : Int} (h : Q (.bl (!decide (m = n))) H) : rNe (.int m) (.int n) H Q := ⟨rfl, by
  have : decide (V.int m = V.int n) = decide (m = n) := by by_cases e : m = n <;> simp [e]
  rw [this]; exact h⟩
theorem rd_isi {t c : String} {r : Bool} (ht : TyX K H x (.type t)) (hk : kitB t c = some r) (h : Q (.bl r) H) : rIsi K [x, .ty c] H Q := ⟨x, .ty c, .type t, .type c, r, rfl, .ty c, ht, kit_ty hk, h⟩
theorem rd_ixL (hs : SqL K H p xs) {n : Int} (ha : atI xs n = some v) (h : Q v H) : rIxL K (.ref p) (.int n) H Q := ⟨p, xs, n, v, rfl, rfl, hs, ha, h⟩
theorem rd_ixT (hs : SqT K H p xs) {n : Int} (ha : atI xs n = some v) (h : Q v H) : rIxT K (.ref p) (.int n) H Q := ⟨p, xs, n, v, rfl, rfl, hs, ha, h⟩
theorem rd_isN (h : Q (.bl (decide (x = .non))) H) : (fun x y H Q => y = V.non ∧ Q (.bl (decide (x = V.non))) H : R2) x .non H Q := ⟨rfl, h⟩
end
end L2
/-! tuples of which it is known that they have no dict of their own: tuple(list), t[a:b], t.count(k) -/
namespace L2
open PySem PySem.Spec PyProof.Rows
section
variable {X : Cx}
def rTupF (K : PySem.W.Frag) : List V → Hp → VK → Prop := fun vs H Q => ∃ (l : Addr) (ys : List V), vs = [V.ref l] ∧ SqL K H l ys ∧ ∀ (q : Addr) (ob : Obj), H q = none → ob.dict = none → Q (.ref q) (upd H q (.frz ob (.tup ys)))
theorem cr_tupF : CallR X (.type "tuple") (rTupF X.K) := by
  intro pins s σ H vs us Q I r h
  obtain ⟨l, ys, rfl, hl, k⟩ := h
  rw [Vals.ref1 r]
  obtain ⟨its, rv, il, zl⟩ := I.list hl
  have n := rv.length
  refine call_tuple_list il.isList (fun h2 kp => ?_) (by simp only [List.size_toArray]; omega)
  have J : Inv X pins σ H { s with heap := h2 } := I.kept (t' := s.toks) kp
  have e := Heap.get?_push_size h2 (o := { cls := .type "tuple", data := .seq its.toArray }) rfl
  exact ⟨.ref h2.objs.size, upd H h2.objs.size (.frz { cls := .type "tuple", data := .seq its.toArray } (.tup ys)), J.laid (t' := s.toks) (fun _ _ w => Heap.get?_push_of_some _ w) (Nat.le_refl _) ⟨e, zl, its, rv, IsTup.new _ _⟩, rfl,
    k _ _ (J.hok.fresh (Nat.le_refl _)) rfl⟩
/-- a tuple without a dict -/
def TupQ (K : PySem.W.Frag) (H : Hp) (a : Addr) (xs : List V) : Prop := (∃ ob : Obj, H a = some (.frz ob (.tup xs)) ∧ ob.dict = none) ∨
  ∃ (o : Obj) (its : Array Value) (n : Nat), K.lookup a = some o ∧ o.cls = .type "tuple" ∧ o.dict = none ∧ o.data = .seq its n ∧ its.size ≤ sizeLine ∧ Vals xs its.toList
theorem TupQ.sq {H : Hp} {a : Addr} {xs : List V} {K : PySem.W.Frag} (t : TupQ K H a xs) : SqT K H a xs := by
  rcases t with ⟨_, e, _⟩ | ⟨o, its, n, h1, h2, _, h3, h4, h5⟩
  · exact .inl (.inr ⟨_, e⟩)
  · exact .inr ⟨o, its, n, h1, h2, h3, h4, h5⟩
theorem TupQ.mono {F F' : Hp} {a : Addr} {xs : List V} {K : PySem.W.Frag} (k : ∀ b o, F b = some o → F' b = some o) (h : TupQ K F a xs) : TupQ K F' a xs := h.imp (fun ⟨ob, e, d⟩ => ⟨ob, k _ _ e, d⟩) id
def wholeI (n : Nat) (lo hi : Option Int) : Prop := HT.sIx n 0 lo = 0 ∧ HT.sIx n n hi = n
def rSlF (K : PySem.W.Frag) : V → Option Int → Option Int → Hp → VK → Prop := fun x lo hi H Q => ∃ (a : Addr) (xs : List V), x = .ref a ∧ SqT K H a xs ∧
  (wholeI xs.length lo hi → Q (.ref a) H) ∧ (¬ wholeI xs.length lo hi → ∀ (q : Addr) (ob : Obj), H q = none → ob.dict = none → Q (.ref q) (upd H q (.frz ob (.tup (cutV xs lo hi)))))
theorem sl_tupF : SlR X (rSlF X.K) := by
  intro pins s σ H x v w1 w2 lo hi sl Q I rx hsl p1 p2 h
  obtain ⟨a, xs, rfl, ht, k1, k2⟩ := h
  cases rx
  obtain ⟨its, rv, it, zt⟩ := I.tuple ht
  have n : its.toArray.size = xs.length := by rw [List.size_toArray]; exact rv.length.symm
  refine ⟨"tuple", _, PyProof.Rows.slot_tuple_getitem.lookup, it.typeIs, ?_⟩
  by_cases hw : wholeI xs.length lo hi
  · exact getItem_tuple_whole it hsl p1 p2 (by rw [n]; exact hw) ⟨.ref a, H, I, rfl, k1 hw⟩
  · refine HT.getItem_tuple_cut it hsl p1 p2 (by rw [n]; exact hw) ?_ (by rw [n]; exact zt)
    rw [n]
    have rc := (rv.drop (HT.sIx xs.length 0 lo)).take (HT.sIx xs.length xs.length hi - HT.sIx xs.length 0 lo)
    exact ⟨.ref s.heap.objs.size, upd H s.heap.objs.size (.frz _ (.tup (cutV xs lo hi))), I.laid (t' := s.toks) (fun _ _ w => Heap.get?_push_of_some _ w) (Nat.le_refl _) ⟨Heap.get?_push_size s.heap rfl, Nat.le_trans (cutV_length xs lo hi) zt, _, rc, IsTup.new _ _⟩, rfl,
      k2 hw _ _ (I.hok.fresh (Nat.le_refl _)) rfl⟩
/-- tuple(list), tuple(tuple) -/
def rTupQ (K : PySem.W.Frag) : List V → Hp → VK → Prop := fun vs H Q => ∃ (l : Addr) (ys : List V), vs = [V.ref l] ∧ ((SqL K H l ys ∧ ∀ (q : Addr) (ob : Obj), H q = none → ob.dict = none → Q (.ref q) (upd H q (.frz ob (.tup ys)))) ∨ (SqT K H l ys ∧ Q (.ref l) H))
theorem cr_tupQ : CallR X (.type "tuple") (rTupQ X.K) := by
  intro pins s σ H vs us Q I r h
  obtain ⟨l, ys, rfl, h | ⟨h1, h2⟩⟩ := h
  · exact cr_tupF pins s σ H _ us Q I r ⟨l, ys, rfl, h.1, h.2⟩
  · exact call_tupleT pins s σ H _ us Q I r ⟨l, ys, rfl, h1, h2⟩
/-- t + u -/
def rCatF (K : PySem.W.Frag) : R2 := fun x y H Q => ∃ a b xs ys, x = .ref a ∧ y = .ref b ∧ SqT K H a xs ∧ SqT K H b ys ∧ xs.length + ys.length ≤ sizeLine ∧
  (xs = [] → Q (.ref b) H) ∧ (xs ≠ [] → ys = [] → Q (.ref a) H) ∧ (xs ≠ [] → ys ≠ [] → ∀ (p : Addr) (ob : Obj), H p = none → ob.dict = none → Q (.ref p) (upd H p (.frz ob (.tup (xs ++ ys)))))
theorem op_catF : OpR X (binaryOp .Add) (rCatF X.K) := by
  intro pins s σ H x y v u Q I rx ry h
  obtain ⟨a, b, xs, ys, rfl, rfl, ha, hb, hz, q0, q1, q2⟩ := h
  cases rx
  cases ry
  obtain ⟨its, r1, p1, _⟩ := I.tuple ha
  obtain ⟨its2, r2, p2, _⟩ := I.tuple hb
  by_cases hx : xs = []
  · subst hx
    cases r1
    exact cat_tup0 p1 p2 ⟨.ref b, H, I, rfl, q0 rfl⟩
  · refine HT.cat_tup p1 p2 (fun z => hx (r1.nil_iff.mp z)) (fun z => ⟨.ref a, H, I, rfl, q1 hx (r2.nil_iff.mp z)⟩) (fun z => ?_) (by rw [← r1.length, ← r2.length]; exact hz)
    exact ⟨.ref s.heap.objs.size, upd H s.heap.objs.size (.frz _ (.tup (xs ++ ys))), I.laid (t' := s.toks) (fun b ob q => Heap.get?_push_of_some _ q) (Nat.le_refl _) ⟨Heap.get?_push_size s.heap rfl, by rw [List.length_append]; exact hz, _, r1.append r2, IsTup.new _ _⟩, rfl,
      q2 hx (fun w => z (r2.nil_iff.mpr w)) _ _ (I.hok.fresh (Nat.le_refl _)) rfl⟩
theorem call_divmodF : CallR X (.builtin "divmod") (fun xs H Q => ∃ i j, xs = [.int i, .int j] ∧ CDiv i j ∧ ∀ (p : Addr) (ob : Obj), H p = none → ob.dict = none → Q (.ref p) (upd H p (.frz ob (.tup [.int (i / j), .int (i % j)])))) := by
  intro pins s σ H xs us Q I r h
  obtain ⟨i, j, rfl, ⟨h1, h2⟩, q⟩ := h
  obtain ⟨u, w', rfl, ⟨t, rfl⟩, ⟨t', rfl⟩⟩ := vals2 r
  refine divmod_int (by omega) ?_ (.inl (PyProof.noPylong_small (by omega)))
  rw [Int.fdiv_eq_ediv_of_nonneg i (by omega), Int.fmod_eq_emod_of_nonneg i (by omega)]
  have hn : H s.heap.objs.size = none := I.hok.fresh (Nat.le_refl _)
  refine ⟨.ref s.heap.objs.size, upd H s.heap.objs.size (.frz _ (.tup [.int (i / j), .int (i % j)])), I.laid (fun b o e => Heap.get?_push_of_some _ e) (Nat.le_refl _) ⟨Heap.get?_push_size s.heap rfl, by simp only [List.length_cons, List.length_nil]; rw [sizeLine_eq]; decide, [.int (i / j) s.toks, .int (i % j) (s.toks + 1)], .cons ⟨_, rfl⟩ (.cons ⟨_, rfl⟩ .nil), ⟨_, Heap.get?_push_size s.heap rfl, rfl, 0, rfl⟩⟩, rfl, q _ _ hn rfl⟩
/-- (a, b) -/
def tTupF (t : TA) : TE := fun σ H Q => t σ H fun xs H1 => xs.length ≤ sizeLine ∧ ∀ (p : Addr) (ob : Obj), H1 p = none → ob.dict = none → Q (.ref p) (upd H1 p (.frz ob (.tup xs)))
variable {o e : Expr} {es : List Expr} {to : TE} {t : TA} {apos cpos pos : Pos} {name : Str} {id : String} {r : V → List V → Hp → VK → Prop}
theorem pe_tupF {x1} (h : PA X es t) : PE X (.Tuple es x1 pos) (tTupF t) := by
  refine ⟨fun pins s σ H Q I hq => ?_⟩
  refine wpAny_Tuple_spliced (thn (h.run pos pins s σ H _ I hq) fun us s1 ⟨xs, H1, I1, r, z, q⟩ => ⟨by rw [← r.length]; exact z, ?_⟩)
  have hf : H1 s1.heap.objs.size = none := I1.hok.fresh (Nat.le_refl _)
  exact ⟨.ref s1.heap.objs.size, upd H1 s1.heap.objs.size (.frz _ (.tup xs)), I1.laid (t' := s1.toks) (fun b u e => Heap.get?_push_of_some _ e) (Nat.le_refl _) ⟨Heap.get?_push_size _ rfl, z, us, r, ⟨_, Heap.get?_push_size _ rfl, rfl, _, rfl⟩⟩, rfl, q _ _ hf rfl⟩
/-- t.count(k) -/
def tTM (K : PySem.W.Frag) (r : V → List V → Hp → VK → Prop) (to : TE) (t : TA) : TE := fun σ H Q => to σ H fun x H1 => (∃ a xs, x = .ref a ∧ TupQ K H1 a xs) ∧ t σ H1 fun ys H2 => r x ys H2 Q
theorem pe_tm (slot : Slot "tuple" name id) (hty : typeOf (.builtin id) = pure (.type "method_descriptor")) (hm : MtR X id r) (ho : PE X o to) (ha : PA X (e :: es) t)
    (hb : attributeBase o name X.env (eval o X.env) = eval o X.env := by rfl)
    (hf : ((backTo cpos (starEach (e :: es) X.env)).all (fun x => !x.1)
      && (backToKw cpos (keywordEach [] X.env)).all (fun x => x.1.isSome) && decide ((e :: es).length + ([] : List Keyword).length + (if ([] : List Keyword).isEmpty then 0 else 1) < 30)) = true := by rfl)
    (hl : (apos.endLine == cpos.line) = true := by rfl)
    (hs : starEach (e :: es) X.env = (false, eval e X.env) :: starEach es X.env := by rfl)
    (hp : (backTo cpos (starEach es X.env)).any (·.1) = false := by rfl) : PE X (.Call (.Attribute o name apos) (e :: es) [] cpos) (tTM X.K r to t) := by
  refine ⟨fun pins s σ H Q I h => ?_⟩
  refine wpAny_Call_method_late hb hf hl rfl (thn (ho.run pins s σ H _ I h) fun v s1 ⟨x, H1, I1, r1, tf, q1⟩ => ?_)
  obtain ⟨a, xs, rfl, tq⟩ := tf
  cases r1
  have key : (∃ ob, s1.heap.get? a = some ob ∧ ob.dict = none) ∧ s1.TypeIs (.ref a) "tuple" := by
    rcases tq with ⟨ob, hH, nd⟩ | ⟨o, its, n, h1, h2, h3, h4, h5, h6⟩
    · obtain ⟨he, _, its, _, it⟩ := I1.hok a _ hH
      exact ⟨⟨ob, he, nd⟩, it.typeIs⟩
    · exact ⟨⟨o, I1.kIn _ o h1, h3⟩, ⟨o, I1.kIn _ o h1, h2⟩⟩
  refine ⟨"tuple", id, PySem.F.plainAttrs_tuple, slot, hty, key.2, fun b eb => by cases eb; exact key.1, ?_⟩
  have A := ha.run cpos pins s1 σ H1 _ I1 q1
  rw [hs] at A ⊢
  refine Calls.callWith_builtin (by show (false || (backTo cpos (starEach es X.env)).any (·.1)) = false; rw [hp]; rfl) (Calls.evalArgs_plain ?_)
  exact thn A fun us s2 ⟨vs, H2, I2, r2, q2⟩ => hm pins s2 σ H2 (.ref a) vs (.ref a) us Q I2 rfl r2 q2
end
end L2
/-! Values without addresses: what is owned is a tree, what is shared is data. S: such a value; Own: it is laid so at v, the addresses fp are its own -/
namespace Mv
open PySem PySem.Spec PyProof.Rows L2

inductive S where
  | dat (d : PyData)
  | con (v : V)
  | lst (xs : List S)
  | dct (l : Bool) (kvs : List (Key × S))
  | ins (C : Nat) (ss : List S)

def setSnd {α β : Type} (l : List (α × β)) (i : Nat) (b : β) : List (α × β) :=
  match l, i with
  | [], _ => []
  | (a, _) :: r, 0 => (a, b) :: r
  | p :: r, i + 1 => p :: setSnd r i b
theorem setSnd_fst {α β : Type} (b : β) : ∀ (l : List (α × β)) (i : Nat), (setSnd l i b).map (·.1) = l.map (·.1)
  | [], _ => rfl
  | _ :: _, 0 => rfl
  | p :: r, i + 1 => by simp only [setSnd, List.map_cons, setSnd_fst b r i]
theorem setSnd_snd {α β : Type} (b : β) : ∀ (l : List (α × β)) (i : Nat), (setSnd l i b).map (·.2) = (l.map (·.2)).set i b
  | [], _ => rfl
  | _ :: _, 0 => rfl
  | p :: r, i + 1 => by simp only [setSnd, List.map_cons, setSnd_snd b r i, List.set_cons_succ]
def S.kids : S → List S
  | .lst xs => xs
  | .dct _ kvs => kvs.map (·.2)
  | .ins _ ss => ss
  | _ => []
def S.setKid (s : S) (i : Nat) (t : S) : S :=
  match s with
  | .lst xs => .lst (xs.set i t)
  | .dct l kvs => .dct l (setSnd kvs i t)
  | .ins C ss => .ins C (ss.set i t)
  | s => s
theorem S.kids_setKid (s t : S) (i : Nat) : (s.setKid i t).kids = s.kids.set i t := by
  cases s with
  | dat d => simp [S.setKid, S.kids]
  | con v => simp [S.setKid, S.kids]
  | lst xs => rfl
  | dct l kvs => exact setSnd_snd t kvs i
  | ins C ss => rfl
def S.get : S → List Nat → Option S
  | s, [] => some s
  | s, i :: p => match s.kids[i]? with
    | some t => S.get t p
    | none => none
def S.put : S → List Nat → S → S
  | _, [], t => t
  | s, i :: p, t => match s.kids[i]? with
    | some u => s.setKid i (S.put u p t)
    | none => s

/-- classes by numbers, the errors' too -/
def clsNm : Nat → Str
  | 0 => "Board" | 1 => "House" | 2 => "Asker" | 3 => "World" | 4 => "Tally"
  | 10 => "DrainError" | 11 => "BadHouse" | 12 => "Known" | 13 => "NoHouse" | 14 => "TooMany" | 15 => "LastHouse" | 16 => "BadAsker" | 17 => "BadEdition" | 18 => "BadAsk" | 19 => "Busy" | 20 => "NoLetter" | 21 => "BadCount" | 22 => "BadText"
  | _ => "?"
def clsFld : Nat → List Str
  | 0 => ["now", "lacking", "planned", "known"]
  | 1 => ["name", "now", "owned", "held", "giving", "takings", "newest", "last_answers", "done"]
  | 2 => ["name", "now", "number", "under_way", "last"]
  | 3 => ["board", "first_book", "house_named", "asker_named", "road", "all_deeds", "all_answers"]
  | 4 => ["grown", "numbers", "make"]
  | _ => []
def clsOf (K : PySem.W.Frag) (c : Nat) (C : Addr) : Prop := PySem.W.nsIn K mainGlobals (clsNm c) = some (some (.ref C))
theorem clsOf.one {K : PySem.W.Frag} {c : Nat} {C D : Addr} (h : clsOf K c C) (g : clsOf K c D) : C = D := by
  unfold clsOf at h g
  rw [h] at g
  cases g
  rfl

/-- an object's parts -/
def kidsV : HO → List V
  | .lst vs => vs
  | .dK kvs => kvs.map (·.2)
  | .frz _ (.dK kvs) => kvs.map (·.2)
  | .ins _ _ fs => fs.map (·.2)
  | _ => []
def Head (K : PySem.W.Frag) (H : Hp) (a : Addr) : HO → S → List Addr → Prop
  | .lst _, .lst _, ex => ex = []
  | .dK kvs, .dct false kss, ex => ex = [] ∧ kvs.map (·.1) = kss.map (·.1)
  | .ins C dx fs, .ins c ss, ex => clsOf K c C ∧ ex = [dx] ∧ H dx = some (.own a) ∧ fs.map (·.1) = (clsFld c).take ss.length ∧ ss.length ≤ (clsFld c).length
  | _, _, _ => False
theorem Head.setKid {K : PySem.W.Frag} {H : Hp} {a : Addr} {o : HO} {s : S} {ex : List Addr} (h : Head K H a o s ex) (i : Nat) (t : S) : Head K H a o (s.setKid i t) ex := by
  unfold S.setKid
  cases s with
  | dat d => exact h
  | con v => exact h
  | lst xs => cases o with
    | lst vs => exact h
    | frz o u => cases u <;> exact h.elim
    | _ => exact h.elim
  | dct l kvs => cases o with
    | dK k => cases l with
      | false => exact ⟨h.1, h.2.trans (setSnd_fst t kvs i).symm⟩
      | true => exact h.elim
    | frz o u => cases u <;> exact h.elim
    | _ => exact h.elim
  | ins C fs => cases o with
    | ins C' dx gs => exact ⟨h.1, h.2.1, h.2.2.1, by rw [List.length_set]; exact h.2.2.2⟩
    | frz o u => cases u <;> exact h.elim
    | _ => exact h.elim
theorem Head.keep {K : PySem.W.Frag} {H H' : Hp} {a : Addr} {o : HO} {s : S} {ex : List Addr} (h : Head K H a o s ex) (k : ∀ b ∈ ex, ∀ u, H b = some u → H' b = some u) : Head K H' a o s ex := by
  cases s with
  | dat d => cases o <;> first | exact h.elim | (rename_i u; cases u <;> exact h.elim)
  | con v => cases o <;> first | exact h.elim | (rename_i u; cases u <;> exact h.elim)
  | lst xs => cases o with
    | lst vs => exact h
    | frz o u => cases u <;> exact h.elim
    | _ => exact h.elim
  | dct l kvs => cases o with
    | dK k => cases l <;> exact h
    | frz o u => cases u <;> exact h.elim
    | _ => exact h.elim
  | ins C fs => cases o with
    | ins C' dx gs =>
      obtain ⟨h1, h2, h3, h4⟩ := h
      exact ⟨h1, h2, k dx (by rw [h2]; exact List.mem_cons_self) _ h3, h4⟩
    | frz o u => cases u <;> exact h.elim
    | _ => exact h.elim

/-! data laid somewhere: no tuple with a dict of its own -/
mutual
inductive Dq (K : PySem.W.Frag) (H : Hp) : V → PyData → Prop
  | non : Dq K H .non .none
  | bl (b : Bool) : Dq K H (.bl b) (.bool b)
  | int (i : Int) : Dq K H (.int i) (.int i)
  | str (x : Str) : Dq K H (.str x) (.str x)
  | lst {a : Addr} {xs : List V} {ds : List PyData} : SqL K H a xs → DqAll K H xs ds → Dq K H (.ref a) (.list ds)
  | tup {a : Addr} {xs : List V} {ds : List PyData} : TupQ K H a xs → DqAll K H xs ds → Dq K H (.ref a) (.tuple ds)
inductive DqAll (K : PySem.W.Frag) (H : Hp) : List V → List PyData → Prop
  | nil : DqAll K H [] []
  | cons {v : V} {vs : List V} {d : PyData} {ds : List PyData} : Dq K H v d → DqAll K H vs ds → DqAll K H (v :: vs) (d :: ds)
end
mutual
theorem Dq.dp {K : PySem.W.Frag} {H : Hp} : ∀ {v : V} {d : PyData}, Dq K H v d → Dp K H v d
  | _, _, .non => .non
  | _, _, .bl b => .bl b
  | _, _, .int i => .int i
  | _, _, .str x => .str x
  | _, _, .lst h t => .lst h (DqAll.dp t)
  | _, _, .tup h t => .tup h.sq (DqAll.dp t)
theorem DqAll.dp {K : PySem.W.Frag} {H : Hp} : ∀ {vs : List V} {ds : List PyData}, DqAll K H vs ds → DpAll K H vs ds
  | _, _, .nil => .nil
  | _, _, .cons h t => .cons (Dq.dp h) (DqAll.dp t)
end
mutual
inductive Own (K : PySem.W.Frag) (F H : Hp) : V → S → List Addr → Prop
  | dat {v : V} {d : PyData} : Dq K F v d → Own K F H v (.dat d) []
  | con {v : V} : Own K F H v (.con v) []
  | node {a : Addr} {o : HO} {s : S} {ex fp : List Addr} : H a = some o → Head K H a o s ex → OwnL K F H (kidsV o) s.kids fp → Own K F H (.ref a) s (a :: (ex ++ fp))
  | lck {a : Addr} {o : Obj} {kvs : List (Key × V)} {kss : List (Key × S)} {fp : List Addr} : F a = some (.frz o (.dK kvs)) → H a = some (.frz o (.dK kvs)) → kvs.map (·.1) = kss.map (·.1) → OwnL K F H (kvs.map (·.2)) (kss.map (·.2)) fp → Own K F H (.ref a) (.dct true kss) fp
inductive OwnL (K : PySem.W.Frag) (F H : Hp) : List V → List S → List Addr → Prop
  | nil : OwnL K F H [] [] []
  | cons {v : V} {vs : List V} {s : S} {ss : List S} {fp fq : List Addr} : Own K F H v s fp → OwnL K F H vs ss fq → OwnL K F H (v :: vs) (s :: ss) (fp ++ fq)
end
variable {K : PySem.W.Frag} {F F' H H' : Hp} {v : V} {vs : List V} {s t : S} {ss : List S} {fp fq : List Addr}

theorem Rd.mono {a : Addr} {u : HO} (k : ∀ b o, F b = some o → F' b = some o) (h : Rd F a u) : Rd F' a u := by
  rcases h with h | ⟨o, h⟩
  · exact .inl (k _ _ h)
  · exact .inr ⟨o, k _ _ h⟩
theorem SqL.mono {a : Addr} {xs : List V} (k : ∀ b o, F b = some o → F' b = some o) (h : SqL K F a xs) : SqL K F' a xs := h.imp (Rd.mono k) id
theorem SqT.mono {a : Addr} {xs : List V} (k : ∀ b o, F b = some o → F' b = some o) (h : SqT K F a xs) : SqT K F' a xs := h.imp (Rd.mono k) id
mutual
theorem Dq.mono (k : ∀ b o, F b = some o → F' b = some o) : ∀ {v : V} {d : PyData}, Dq K F v d → Dq K F' v d
  | _, _, .non => .non
  | _, _, .bl b => .bl b
  | _, _, .int i => .int i
  | _, _, .str x => .str x
  | _, _, .lst h t => .lst (SqL.mono k h) (DqAll.mono k t)
  | _, _, .tup h t => .tup (TupQ.mono k h) (DqAll.mono k t)
theorem DqAll.mono (k : ∀ b o, F b = some o → F' b = some o) : ∀ {vs : List V} {ds : List PyData}, DqAll K F vs ds → DqAll K F' vs ds
  | _, _, .nil => .nil
  | _, _, .cons h t => .cons (Dq.mono k h) (DqAll.mono k t)
end
mutual
theorem Own.frame (kF : ∀ b o, F b = some o → F' b = some o) (sub : ∀ b o, F' b = some o → H' b = some o) : ∀ {v : V} {s : S} {fp : List Addr}, Own K F H v s fp → (∀ a ∈ fp, ∀ o, H a = some o → H' a = some o) → Own K F' H' v s fp
  | _, _, _, .dat d, _ => .dat (Dq.mono kF d)
  | _, _, _, .con, _ => .con
  | _, _, _, .node h hd t, k => .node (k _ List.mem_cons_self _ h) (hd.keep fun b m u e => k b (List.mem_cons_of_mem _ (List.mem_append_left _ m)) u e)
      (OwnL.frame kF sub t fun b m o e => k b (List.mem_cons_of_mem _ (List.mem_append_right _ m)) o e)
  | _, _, _, .lck hf hh hk t, k => .lck (kF _ _ hf) (sub _ _ (kF _ _ hf)) hk (OwnL.frame kF sub t k)
theorem OwnL.frame (kF : ∀ b o, F b = some o → F' b = some o) (sub : ∀ b o, F' b = some o → H' b = some o) : ∀ {vs : List V} {ss : List S} {fp : List Addr}, OwnL K F H vs ss fp → (∀ a ∈ fp, ∀ o, H a = some o → H' a = some o) → OwnL K F' H' vs ss fp
  | _, _, _, .nil, _ => .nil
  | _, _, _, .cons h t, k => .cons (Own.frame kF sub h fun a m => k a (List.mem_append_left _ m)) (OwnL.frame kF sub t fun a m => k a (List.mem_append_right _ m))
end
theorem Head.ex_there {a : Addr} {o : HO} {ex : List Addr} (h : Head K H a o s ex) : ∀ b ∈ ex, ∃ u, H b = some u := by
  intro b m
  cases s with
  | dat d => cases o <;> first | exact h.elim | (rename_i u; cases u <;> exact h.elim)
  | con v => cases o <;> first | exact h.elim | (rename_i u; cases u <;> exact h.elim)
  | lst xs => cases o <;> first | exact h.elim | (rw [show ex = [] from h] at m; cases m) | (rename_i u; cases u <;> exact h.elim)
  | dct l kvs => cases o with
    | dK k => cases l with
      | false => rw [h.1] at m; cases m
      | true => exact h.elim
    | frz o u => cases u <;> exact h.elim
    | _ => exact h.elim
  | ins C fs => cases o with
    | ins C' dx gs =>
      rw [h.2.1] at m
      rw [List.mem_singleton.mp m]
      exact ⟨_, h.2.2.1⟩
    | frz o u => cases u <;> exact h.elim
    | _ => exact h.elim
mutual
theorem Own.there : ∀ {v : V} {s : S} {fp : List Addr}, Own K F H v s fp → ∀ a ∈ fp, ∃ o, H a = some o
  | _, _, _, .dat d, _, m => nomatch m
  | _, _, _, .con, _, m => nomatch m
  | _, _, _, .node h hd t, b, m => by
    rcases List.mem_cons.mp m with rfl | m
    · exact ⟨_, h⟩
    · rcases List.mem_append.mp m with m | m
      · exact hd.ex_there b m
      · exact OwnL.there t b m
  | _, _, _, .lck hf hh hk t, b, m => OwnL.there t b m
theorem OwnL.there : ∀ {vs : List V} {ss : List S} {fp : List Addr}, OwnL K F H vs ss fp → ∀ a ∈ fp, ∃ o, H a = some o
  | _, _, _, .nil, _, m => nomatch m
  | _, _, _, .cons h t, b, m => by
    rcases List.mem_append.mp m with m | m
    · exact Own.there h b m
    · exact OwnL.there t b m
end
theorem Head.con_no {a : Addr} {o : HO} {ex : List Addr} (h : Head K H a o (.con v) ex) : False := by
  cases o <;> first | exact h | (rename_i u; cases u <;> exact h)
theorem Head.dat_no {d : PyData} {a : Addr} {o : HO} {ex : List Addr} (h : Head K H a o (.dat d) ex) : False := by
  cases o <;> first | exact h | (rename_i u; cases u <;> exact h)
theorem Own.con_inv {w : V} (h : Own K F H w s fp) (e : s = .con v) : w = v ∧ fp = [] := by
  cases h with
  | dat _ => cases e
  | con => cases e; exact ⟨rfl, rfl⟩
  | node h hd t => subst e; exact hd.con_no.elim
  | lck => cases e
theorem Own.dat_inv {d : PyData} (h : Own K F H v s fp) (e : s = .dat d) : Dq K F v d ∧ fp = [] := by
  cases h with
  | dat q => cases e; exact ⟨q, rfl⟩
  | con => cases e
  | node h hd t => subst e; exact hd.dat_no.elim
  | lck => cases e
theorem OwnL.length : ∀ {vs : List V} {ss : List S} {fp : List Addr}, OwnL K F H vs ss fp → vs.length = ss.length
  | _, _, _, .nil => rfl
  | _, _, _, .cons _ t => by simp only [List.length_cons, OwnL.length t]
theorem OwnL.append : ∀ {vs ws : List V} {ss ts : List S} {fp fq : List Addr}, OwnL K F H vs ss fp → OwnL K F H ws ts fq → OwnL K F H (vs ++ ws) (ss ++ ts) (fp ++ fq)
  | _, _, _, _, _, _, .nil, h => h
  | _, _, _, _, _, _, .cons a t, h => by
    rw [List.append_assoc]
    exact .cons a (OwnL.append t h)
/-- one of them taken out: its place holds its root alone -/
theorem OwnL.take : ∀ {vs : List V} {ss : List S} {fp : List Addr} {i : Nat} {s : S}, OwnL K F H vs ss fp → ss[i]? = some s →
    ∃ v fp1 fp2, vs[i]? = some v ∧ Own K F H v s fp1 ∧ OwnL K F H vs (ss.set i (.con v)) fp2 ∧ fp.Perm (fp1 ++ fp2)
  | _, _, _, i, _, .nil, e => by simp at e
  | _, _, _, 0, s, .cons (v := v) (fp := fp1) (fq := fp2) h t, e => by
    simp only [List.getElem?_cons_zero, Option.some.injEq] at e
    subst e
    exact ⟨v, fp1, fp2, rfl, h, .cons (fp := []) .con t, List.Perm.refl _⟩
  | _, _, _, i + 1, s, .cons (fp := fpa) h t, e => by
    obtain ⟨v, fp1, fp2, e1, o, l, p⟩ := OwnL.take (i := i) (s := s) t (by simpa using e)
    refine ⟨v, fp1, fpa ++ fp2, by simpa using e1, o, .cons h l, ?_⟩
    refine (List.Perm.append_left fpa p).trans ?_
    rw [← List.append_assoc, ← List.append_assoc]
    exact List.Perm.append_right fp2 List.perm_append_comm
theorem OwnL.put : ∀ {vs : List V} {ss : List S} {fp : List Addr} {i : Nat} {v : V} {s : S} {fq : List Addr}, OwnL K F H vs ss fp → ss[i]? = some (.con v) → Own K F H v s fq →
    ∃ fr, OwnL K F H vs (ss.set i s) fr ∧ fr.Perm (fq ++ fp)
  | _, _, _, i, _, _, _, .nil, e, _ => by simp at e
  | _, _, _, 0, v, s, fq, .cons h t, e, o => by
    simp only [List.getElem?_cons_zero, Option.some.injEq] at e
    subst e
    obtain ⟨rfl, rfl⟩ := h.con_inv rfl
    exact ⟨_, .cons o t, List.Perm.refl _⟩
  | _, _, _, i + 1, v, s, fq, .cons (fp := fpa) h t, e, o => by
    obtain ⟨fr, l, p⟩ := OwnL.put (i := i) t (by simpa using e) o
    refine ⟨fpa ++ fr, .cons h l, ?_⟩
    refine (List.Perm.append_left fpa p).trans ?_
    rw [← List.append_assoc, ← List.append_assoc]
    exact List.Perm.append_right _ List.perm_append_comm
end Mv
/-! Paths, places, environments -/
namespace Mv
open PySem PySem.Spec PyProof.Rows L2
variable {K : PySem.W.Frag} {F F' H H' : Hp} {v u : V} {vs : List V} {s t : S} {ss : List S} {fp fq : List Addr}

/-! ### paths within a value -/
theorem S.get_nil (s : S) : s.get [] = some s := by cases s <;> rfl
theorem S.get_cons (s : S) (i : Nat) (p : List Nat) : s.get (i :: p) = (match s.kids[i]? with | some t => t.get p | none => none) := by cases s <;> rfl
theorem S.put_nil (s t : S) : s.put [] t = t := by cases s <;> rfl
theorem S.put_cons (s t : S) (i : Nat) (p : List Nat) : s.put (i :: p) t = (match s.kids[i]? with | some u => s.setKid i (u.put p t) | none => s) := by cases s <;> rfl
theorem S.get_put : ∀ (p : List Nat) (s t u : S), s.get p = some u → (s.put p t).get p = some t
  | [], s, t, u, _ => by rw [S.put_nil, S.get_nil]
  | i :: p, s, t, u, h => by
    rw [S.get_cons] at h
    rw [S.put_cons, S.get_cons]
    cases e : s.kids[i]? with
    | none => rw [e] at h; cases h
    | some w =>
      rw [e] at h
      have hi := (List.getElem?_eq_some_iff.mp e).1
      simp only [S.kids_setKid, List.getElem?_set_self hi]
      exact S.get_put p w t u h
theorem setSnd_set {α β : Type} (b c : β) : ∀ (l : List (α × β)) (i : Nat), setSnd (setSnd l i b) i c = setSnd l i c
  | [], _ => rfl
  | _ :: _, 0 => rfl
  | p :: r, i + 1 => by simp only [setSnd, setSnd_set b c r i]
theorem setSnd_comm {α β : Type} (b c : β) : ∀ (l : List (α × β)) (i j : Nat), i ≠ j → setSnd (setSnd l i b) j c = setSnd (setSnd l j c) i b
  | [], _, _, _ => rfl
  | _ :: _, 0, 0, h => absurd rfl h
  | _ :: _, 0, _ + 1, _ => rfl
  | _ :: _, _ + 1, 0, _ => rfl
  | p :: r, i + 1, j + 1, h => by simp only [setSnd, setSnd_comm b c r i j (fun e => h (by rw [e]))]
theorem S.setKid_set (s t u : S) (i : Nat) : (s.setKid i t).setKid i u = s.setKid i u := by
  cases s with
  | dat d => rfl
  | con v => rfl
  | lst xs => simp [S.setKid]
  | dct l kvs => simp only [S.setKid, setSnd_set]
  | ins C fs => simp [S.setKid]
theorem S.setKid_comm (s t u : S) {i j : Nat} (h : i ≠ j) : (s.setKid i t).setKid j u = (s.setKid j u).setKid i t := by
  cases s with
  | dat d => rfl
  | con v => rfl
  | lst xs => simp only [S.setKid, List.set_comm _ _ h]
  | dct l kvs => simp only [S.setKid, setSnd_comm _ _ _ _ _ h]
  | ins C fs => simp only [S.setKid, List.set_comm _ _ h]
theorem S.put_put : ∀ (p : List Nat) (s t u : S), (s.put p t).put p u = s.put p u
  | [], s, t, u => by rw [S.put_nil, S.put_nil]
  | i :: p, s, t, u => by
    cases e : s.kids[i]? with
    | none => simp only [S.put_cons, e]
    | some w =>
      have hi := (List.getElem?_eq_some_iff.mp e).1
      simp only [S.put_cons, e, S.kids_setKid, List.getElem?_set_self hi, S.setKid_set, S.put_put p w t u]
/-- neither lies in the other -/
def apart : List Nat → List Nat → Bool
  | i :: p, j :: q => i != j || apart p q
  | _, _ => false
theorem apart_symm : ∀ (p q : List Nat), apart p q = apart q p
  | [], [] => rfl
  | [], _ :: _ => rfl
  | _ :: _, [] => rfl
  | i :: p, j :: q => by
    simp only [apart, apart_symm p q]
    rw [show (i != j) = (j != i) from bne_comm]
theorem S.get_put_apart : ∀ (p q : List Nat) (s t : S), apart p q = true → (s.put p t).get q = s.get q
  | [], _, _, _, h => by simp [apart] at h
  | _ :: _, [], _, _, h => by simp [apart] at h
  | i :: p, j :: q, s, t, h => by
    rw [S.put_cons, S.get_cons, S.get_cons]
    cases e : s.kids[i]? with
    | none => rfl
    | some w =>
      have hi := (List.getElem?_eq_some_iff.mp e).1
      simp only [S.kids_setKid]
      by_cases ij : i = j
      · subst ij
        simp only [List.getElem?_set_self hi, e]
        simp only [apart, bne_self_eq_false, Bool.false_or] at h
        exact S.get_put_apart p q w t h
      · rw [List.getElem?_set_ne ij]
theorem S.put_comm : ∀ (p q : List Nat) (s t u : S), apart p q = true → (s.put p t).put q u = (s.put q u).put p t
  | [], _, _, _, _, h => by simp [apart] at h
  | _ :: _, [], _, _, _, h => by simp [apart] at h
  | i :: p, j :: q, s, t, u, h => by
    by_cases ij : i = j
    · subst ij
      simp only [apart, bne_self_eq_false, Bool.false_or] at h
      cases e : s.kids[i]? with
      | none => simp only [S.put_cons, e]
      | some w =>
        have hi := (List.getElem?_eq_some_iff.mp e).1
        simp only [S.put_cons, e, S.kids_setKid, List.getElem?_set_self hi, S.setKid_set, S.put_comm p q w t u h]
    · have ji : j ≠ i := fun z => ij z.symm
      cases e : s.kids[i]? with
      | none =>
        cases e2 : s.kids[j]? with
        | none => simp only [S.put_cons, e, e2]
        | some w => simp only [S.put_cons, e, e2, S.kids_setKid, List.getElem?_set_ne ji]
      | some w =>
        cases e2 : s.kids[j]? with
        | none => simp only [S.put_cons, e, e2, S.kids_setKid, List.getElem?_set_ne ij]
        | some x => simp only [S.put_cons, e, e2, S.kids_setKid, List.getElem?_set_ne ij, List.getElem?_set_ne ji, S.setKid_comm _ _ _ ij]

/-! ### paths in a heap -/
def follow (H : Hp) : V → List Nat → Option V
  | v, [] => some v
  | .ref a, i :: p => match H a with
    | some o => match (kidsV o)[i]? with
      | some w => follow H w p
      | none => none
    | none => none
  | _, _ => none
theorem follow_nil (H : Hp) (v : V) : follow H v [] = some v := by cases v <;> rfl
theorem follow_node {a : Addr} {o : HO} {w : V} {i : Nat} {p : List Nat} (h : H a = some o) (e : (kidsV o)[i]? = some w) : follow H (.ref a) (i :: p) = follow H w p := by
  simp only [follow, h, e]
theorem Own.takeP : ∀ (p : List Nat) {v : V} {s t : S} {fp : List Addr}, Own K F H v s fp → s.get p = some t →
    ∃ u fp1 fp2, follow H v p = some u ∧ Own K F H u t fp1 ∧ Own K F H v (s.put p (.con u)) fp2 ∧ fp.Perm (fp1 ++ fp2)
  | [], v, s, t, fp, o, e => by
    rw [S.get_nil] at e
    cases e
    exact ⟨v, fp, [], follow_nil H v, o, by rw [S.put_nil]; exact .con, by simp⟩
  | i :: p, v, s, t, fp, o, e => by
    rw [S.get_cons] at e
    cases o with
    | dat d => simp [S.kids] at e
    | con => simp [S.kids] at e
    | @node a ob _ ex fp h hd l =>
      cases ek : s.kids[i]? with
      | none => rw [ek] at e; cases e
      | some w =>
        rw [ek] at e
        obtain ⟨x, f1, f2, e1, o1, l2, pm⟩ := l.take ek
        obtain ⟨u, g1, g2, e2, o2, o3, pm2⟩ := Own.takeP p o1 e
        have hi := (List.getElem?_eq_some_iff.mp ek).1
        obtain ⟨fr, l3, pm3⟩ := l2.put (i := i) (v := x) (by rw [List.getElem?_set_self hi]) o3
        rw [List.set_set] at l3
        refine ⟨u, g1, a :: (ex ++ fr), by rw [follow_node h e1]; exact e2, o2, ?_, ?_⟩
        · rw [S.put_cons, ek]
          exact .node h (hd.setKid i _) (by rw [S.kids_setKid]; exact l3)
        · -- a :: (ex ++ fp) ~ g1 ++ a :: (ex ++ fr)
          have p1 : fp.Perm (g1 ++ fr) := (pm.trans (List.Perm.append_right f2 pm2)).trans (by rw [List.append_assoc]; exact List.Perm.append_left g1 pm3.symm)
          have p2 : (ex ++ fp).Perm (g1 ++ (ex ++ fr)) := by
            refine (List.Perm.append_left ex p1).trans ?_
            rw [← List.append_assoc, ← List.append_assoc]
            exact List.Perm.append_right fr List.perm_append_comm
          exact (List.Perm.cons a p2).trans List.perm_middle.symm
    | @lck a ob kvs kss _ hf h hk l =>
      cases ek : (kss.map (·.2))[i]? with
      | none => rw [show (S.dct true kss).kids = kss.map (·.2) from rfl, ek] at e; cases e
      | some w =>
        rw [show (S.dct true kss).kids = kss.map (·.2) from rfl, ek] at e
        obtain ⟨x, f1, f2, e1, o1, l2, pm⟩ := l.take ek
        obtain ⟨u, g1, g2, e2, o2, o3, pm2⟩ := Own.takeP p o1 e
        have hi := (List.getElem?_eq_some_iff.mp ek).1
        obtain ⟨fr, l3, pm3⟩ := l2.put (i := i) (v := x) (by rw [List.getElem?_set_self hi]) o3
        rw [List.set_set, ← setSnd_snd] at l3
        refine ⟨u, g1, fr, by rw [follow_node h e1]; exact e2, o2, ?_, ?_⟩
        · rw [S.put_cons, show (S.dct true kss).kids = kss.map (·.2) from rfl, ek]
          exact .lck hf h (by rw [hk]; exact (setSnd_fst _ kss i).symm) l3
        · exact (pm.trans (List.Perm.append_right f2 pm2)).trans (by rw [List.append_assoc]; exact List.Perm.append_left g1 pm3.symm)
theorem Own.putP : ∀ (p : List Nat) {v u : V} {s t : S} {fp fq : List Addr}, Own K F H v s fp → s.get p = some (.con u) → Own K F H u t fq →
    ∃ fr, Own K F H v (s.put p t) fr ∧ fr.Perm (fq ++ fp)
  | [], v, u, s, t, fp, fq, o, e, q => by
    rw [S.get_nil] at e
    have e := Option.some.inj e
    obtain ⟨rfl, rfl⟩ := o.con_inv e
    exact ⟨fq, by rw [S.put_nil]; exact q, by simp⟩
  | i :: p, v, u, s, t, fp, fq, o, e, q => by
    rw [S.get_cons] at e
    cases o with
    | dat d => simp [S.kids] at e
    | con => simp [S.kids] at e
    | @node a ob _ ex fp h hd l =>
      cases ek : s.kids[i]? with
      | none => rw [ek] at e; cases e
      | some w =>
        rw [ek] at e
        obtain ⟨x, f1, f2, e1, o1, l2, pm⟩ := l.take ek
        obtain ⟨g, o2, pm2⟩ := Own.putP p o1 e q
        have hi := (List.getElem?_eq_some_iff.mp ek).1
        obtain ⟨fr, l3, pm3⟩ := l2.put (i := i) (v := x) (by rw [List.getElem?_set_self hi]) o2
        rw [List.set_set] at l3
        refine ⟨a :: (ex ++ fr), ?_, ?_⟩
        · rw [S.put_cons, ek]
          exact .node h (hd.setKid i _) (by rw [S.kids_setKid]; exact l3)
        · have p1 : fr.Perm (fq ++ fp) := pm3.trans ((List.Perm.append_right f2 pm2).trans (by rw [List.append_assoc]; exact List.Perm.append_left fq pm.symm))
          have p2 : (ex ++ fr).Perm (fq ++ (ex ++ fp)) := by
            refine (List.Perm.append_left ex p1).trans ?_
            rw [← List.append_assoc, ← List.append_assoc]
            exact List.Perm.append_right fp List.perm_append_comm
          exact (List.Perm.cons a p2).trans List.perm_middle.symm
    | @lck a ob kvs kss _ hf h hk l =>
      cases ek : (kss.map (·.2))[i]? with
      | none => rw [show (S.dct true kss).kids = kss.map (·.2) from rfl, ek] at e; cases e
      | some w =>
        rw [show (S.dct true kss).kids = kss.map (·.2) from rfl, ek] at e
        obtain ⟨x, f1, f2, e1, o1, l2, pm⟩ := l.take ek
        obtain ⟨g, o2, pm2⟩ := Own.putP p o1 e q
        have hi := (List.getElem?_eq_some_iff.mp ek).1
        obtain ⟨fr, l3, pm3⟩ := l2.put (i := i) (v := x) (by rw [List.getElem?_set_self hi]) o2
        rw [List.set_set, ← setSnd_snd] at l3
        refine ⟨fr, ?_, ?_⟩
        · rw [S.put_cons, show (S.dct true kss).kids = kss.map (·.2) from rfl, ek]
          exact .lck hf h (by rw [hk]; exact (setSnd_fst _ kss i).symm) l3
        · exact pm3.trans ((List.Perm.append_right f2 pm2).trans (by rw [List.append_assoc]; exact List.Perm.append_left fq pm.symm))
/-- a path within what is owned stays while that stays -/
theorem Own.follow_keep (kf : ∀ b o, F b = some o → H' b = some o) : ∀ (p : List Nat) {v : V} {s t : S} {fp : List Addr}, Own K F H v s fp → s.get p = some t → (∀ a ∈ fp, ∀ o, H a = some o → H' a = some o) → follow H' v p = follow H v p
  | [], v, _, _, _, _, _, _ => by rw [follow_nil, follow_nil]
  | i :: p, v, s, t, fp, o, e, k => by
    rw [S.get_cons] at e
    cases o with
    | dat d => simp [S.kids] at e
    | con => simp [S.kids] at e
    | @node a ob _ ex fp h hd l =>
      cases ek : s.kids[i]? with
      | none => rw [ek] at e; cases e
      | some w =>
        rw [ek] at e
        obtain ⟨x, f1, f2, e1, o1, l2, pm⟩ := l.take ek
        rw [follow_node h e1, follow_node (k a List.mem_cons_self _ h) e1]
        exact Own.follow_keep kf p o1 e fun b m => k b (List.mem_cons_of_mem _ (List.mem_append_right _ (pm.mem_iff.mpr (List.mem_append_left _ m))))
    | @lck a ob kvs kss _ hf h hk l =>
      cases ek : (kss.map (·.2))[i]? with
      | none => rw [show (S.dct true kss).kids = kss.map (·.2) from rfl, ek] at e; cases e
      | some w =>
        rw [show (S.dct true kss).kids = kss.map (·.2) from rfl, ek] at e
        obtain ⟨x, f1, f2, e1, o1, l2, pm⟩ := l.take ek
        rw [follow_node h e1, follow_node (kf a _ hf) e1]
        exact Own.follow_keep kf p o1 e fun b m => k b (pm.mem_iff.mpr (List.mem_append_left _ m))
end Mv
/-! Environments: what stands in the slots of a def, and behind them the arguments as they were handed in -/
namespace Mv
open PySem PySem.Spec PyProof.Rows L2
variable {K : PySem.W.Frag} {F F' H H' : Hp} {v u : V} {vs : List V} {s t : S} {ss : List S} {fp fq : List Addr}

inductive Sl where
  | no
  | own (s : S)
  | bor (p : List Nat)
abbrev En := List Sl
abbrev Ro := List (Option V)
def slS : Option V → Sl → S
  | _, .own s => s
  | v, _ => .con (v.getD .non)
def rootV (ρ : Ro) : List V := ρ.map fun v => v.getD .non
def rootS : Ro → En → List S
  | v :: ρ, e :: E => slS v e :: rootS ρ E
  | _, _ => []
def eget (E : En) : List Nat → Option S
  | i :: p => match E[i]? with
    | some (Sl.own s) => s.get p
    | _ => none
  | [] => none
def eput (E : En) (p : List Nat) (t : S) : En :=
  match p with
  | i :: p => match E[i]? with
    | some (Sl.own s) => E.set i (.own (s.put p t))
    | _ => E
  | [] => E
def within (p q : List Nat) : Bool := p.isPrefixOf q && p.length != q.length
def kill1 (p : List Nat) : Sl → Sl
  | .bor q => if within p q then .no else .bor q
  | e => e
def ekill (E : En) (p : List Nat) : En := E.map (kill1 p)
def followE (H : Hp) (ρ : Ro) : List Nat → Option V
  | i :: p => match ρ[i]? with
    | some (some v) => follow H v p
    | _ => none
  | [] => none

theorem rootS_get : ∀ {ρ : Ro} {E : En} {i : Nat} {s : S}, E.length = ρ.length → E[i]? = some (Sl.own s) → (rootS ρ E)[i]? = some s
  | [], [], _, _, _, h => by simp at h
  | _ :: _, [], _, _, l, _ => by simp at l
  | [], _ :: _, _, _, l, _ => by simp at l
  | v :: ρ, e :: E, 0, s, l, h => by
    simp only [List.getElem?_cons_zero, Option.some.injEq] at h
    subst h; rfl
  | v :: ρ, e :: E, i + 1, s, l, h => by
    simp only [rootS, List.getElem?_cons_succ]
    exact rootS_get (by simpa using l) (by simpa using h)
theorem rootS_set : ∀ {ρ : Ro} {E : En} {i : Nat} {s : S}, E.length = ρ.length → rootS ρ (E.set i (.own s)) = (rootS ρ E).set i s
  | [], [], _, _, _ => by simp [rootS]
  | _ :: _, [], _, _, l => by simp at l
  | [], _ :: _, _, _, l => by simp at l
  | v :: ρ, e :: E, 0, s, l => rfl
  | v :: ρ, e :: E, i + 1, s, l => by
    simp only [rootS, List.set_cons_succ]
    rw [rootS_set (by simpa using l)]

structure Core (K : PySem.W.Frag) (F H : Hp) (ρ : Ro) (E : En) (fp : List Addr) : Prop where
  len : E.length = ρ.length
  own : ∃ fq, OwnL K F H (rootV ρ) (rootS ρ E) fq ∧ fp.Perm fq
  set : ∀ (i : Nat) (s : S), E[i]? = some (Sl.own s) → ∃ v, ρ[i]? = some (some v)
variable {ρ : Ro} {E : En}
theorem Core.perm (c : Core K F H ρ E fp) (p : fp.Perm fq) : Core K F H ρ E fq := ⟨c.len, let ⟨f, o, q⟩ := c.own; ⟨f, o, p.symm.trans q⟩, c.set⟩
theorem Core.frame (c : Core K F H ρ E fp) (kF : ∀ b o, F b = some o → F' b = some o) (sub : ∀ b o, F' b = some o → H' b = some o) (k : ∀ a ∈ fp, ∀ o, H a = some o → H' a = some o) : Core K F' H' ρ E fp :=
  ⟨c.len, let ⟨f, o, q⟩ := c.own; ⟨f, o.frame kF sub fun a m => k a (q.mem_iff.mpr m), q⟩, c.set⟩
theorem Core.there (c : Core K F H ρ E fp) : ∀ a ∈ fp, ∃ o, H a = some o := fun a m => let ⟨f, o, q⟩ := c.own; o.there a (q.mem_iff.mp m)
theorem eput_len (E : En) (p : List Nat) (t : S) : (eput E p t).length = E.length := by
  unfold eput
  split
  · split <;> simp
  · rfl
theorem eget_some {p : List Nat} (h : eget E p = some t) : ∃ i q s, p = i :: q ∧ E[i]? = some (Sl.own s) ∧ s.get q = some t := by
  cases p with
  | nil => cases h
  | cons i q =>
    unfold eget at h
    cases e : E[i]? with
    | none => simp only [e] at h; cases h
    | some sl => cases sl with
      | own s => simp only [e] at h; exact ⟨i, q, s, rfl, e, h⟩
      | no => simp only [e] at h; cases h
      | bor r => simp only [e] at h; cases h
theorem Core.take {p : List Nat} (c : Core K F H ρ E fp) (h : eget E p = some t) :
    ∃ u fp1 fp2, followE H ρ p = some u ∧ Own K F H u t fp1 ∧ Core K F H ρ (eput E p (.con u)) fp2 ∧ fp.Perm (fp1 ++ fp2) := by
  obtain ⟨i, q, s, rfl, ei, hq⟩ := eget_some h
  obtain ⟨f, o, pm⟩ := c.own
  obtain ⟨x, f1, f2, e1, o1, l2, pm1⟩ := o.take (rootS_get c.len ei)
  obtain ⟨u, g1, g2, e2, o2, o3, pm2⟩ := Own.takeP q o1 hq
  obtain ⟨y, ey⟩ := c.set i s ei
  have hx : x = y := by
    unfold rootV at e1
    rw [List.getElem?_map, ey] at e1
    simpa using e1.symm
  subst hx
  have hi : i < (rootS ρ E).length := (List.getElem?_eq_some_iff.mp (rootS_get c.len ei)).1
  obtain ⟨fr, l3, pm3⟩ := l2.put (i := i) (v := x) (by rw [List.getElem?_set_self hi]) o3
  rw [List.set_set] at l3
  refine ⟨u, g1, fr, by simp only [followE, ey]; exact e2, o2, ⟨by rw [eput_len]; exact c.len, ⟨fr, ?_, List.Perm.refl _⟩, fun j w hj => ?_⟩, ?_⟩
  · simp only [eput, ei]
    rw [rootS_set c.len]
    exact l3
  · simp only [eput, ei] at hj
    by_cases ij : i = j
    · subst ij; exact ⟨x, ey⟩
    · rw [List.getElem?_set_ne ij] at hj
      exact c.set j w hj
  · exact pm.trans ((pm1.trans (List.Perm.append_right f2 pm2)).trans (by rw [List.append_assoc]; exact List.Perm.append_left g1 pm3.symm))
theorem Core.put {p : List Nat} (c : Core K F H ρ E fp) (h : eget E p = some (.con u)) (q : Own K F H u t fq) : Core K F H ρ (eput E p t) (fq ++ fp) := by
  obtain ⟨i, r, s, rfl, ei, hq⟩ := eget_some h
  obtain ⟨f, o, pm⟩ := c.own
  obtain ⟨x, f1, f2, e1, o1, l2, pm1⟩ := o.take (rootS_get c.len ei)
  obtain ⟨g, o2, pm2⟩ := Own.putP r o1 hq q
  have hi : i < (rootS ρ E).length := (List.getElem?_eq_some_iff.mp (rootS_get c.len ei)).1
  obtain ⟨fr, l3, pm3⟩ := l2.put (i := i) (v := x) (by rw [List.getElem?_set_self hi]) o2
  rw [List.set_set] at l3
  refine ⟨by rw [eput_len]; exact c.len, ⟨fr, ?_, ?_⟩, fun j w hj => ?_⟩
  · simp only [eput, ei]
    rw [rootS_set c.len]
    exact l3
  · refine (List.Perm.append_left fq (pm.trans pm1)).trans ?_
    rw [← List.append_assoc]
    exact (List.Perm.append_right f2 pm2.symm).trans pm3.symm
  · simp only [eput, ei] at hj
    by_cases ij : i = j
    · subst ij; exact c.set i s ei
    · rw [List.getElem?_set_ne ij] at hj
      exact c.set j w hj
theorem Core.follow_keep {p : List Nat} (c : Core K F H ρ E fp) (kf : ∀ b o, F b = some o → H' b = some o) (h : eget E p = some t) (k : ∀ a ∈ fp, ∀ o, H a = some o → H' a = some o) : followE H' ρ p = followE H ρ p := by
  obtain ⟨i, q, s, rfl, ei, hq⟩ := eget_some h
  obtain ⟨f, o, pm⟩ := c.own
  obtain ⟨x, f1, f2, e1, o1, l2, pm1⟩ := o.take (rootS_get c.len ei)
  obtain ⟨y, ey⟩ := c.set i s ei
  have hx : x = y := by
    unfold rootV at e1
    rw [List.getElem?_map, ey] at e1
    simpa using e1.symm
  subst hx
  simp only [followE, ey]
  exact o1.follow_keep kf q hq fun a m => k a (pm.mem_iff.mpr (pm1.mem_iff.mpr (List.mem_append_left _ m)))
/-! laws of the places -/
theorem eget_eput {p : List Nat} (h : eget E p = some s) : eget (eput E p t) p = some t := by
  obtain ⟨i, q, w, rfl, ei, hq⟩ := eget_some h
  have hi : i < E.length := (List.getElem?_eq_some_iff.mp ei).1
  simp only [eput, ei, eget, List.getElem?_set_self hi]
  exact S.get_put q w t s hq
theorem eput_eput {p : List Nat} {a b : S} : eput (eput E p a) p b = eput E p b := by
  cases p with
  | nil => rfl
  | cons i q =>
    cases e : E[i]? with
    | none => simp only [eput, e]
    | some sl => cases sl with
      | own s =>
        have hi : i < E.length := (List.getElem?_eq_some_iff.mp e).1
        simp only [eput, e, List.getElem?_set_self hi, List.set_set, S.put_put]
      | no => simp only [eput, e]
      | bor r => simp only [eput, e]
theorem eget_apart {p q : List Nat} (h : apart p q = true) : eget (eput E p t) q = eget E q := by
  cases p with
  | nil => simp [apart] at h
  | cons i p => cases q with
    | nil => simp [apart] at h
    | cons j q =>
      simp only [eput]
      split
      · next s hs =>
        have hi : i < E.length := (List.getElem?_eq_some_iff.mp hs).1
        by_cases ij : i = j
        · subst ij
          simp only [apart, bne_self_eq_false, Bool.false_or] at h
          simp only [eget, List.getElem?_set_self hi, hs]
          exact S.get_put_apart p q s t h
        · simp only [eget, List.getElem?_set_ne ij]
      · rfl
theorem eput_comm {p q : List Nat} {a b : S} (h : apart p q = true) : eput (eput E p a) q b = eput (eput E q b) p a := by
  cases p with
  | nil => simp [apart] at h
  | cons i p => cases q with
    | nil => simp [apart] at h
    | cons j q =>
      by_cases ij : i = j
      · subst ij
        simp only [apart, bne_self_eq_false, Bool.false_or] at h
        cases e : E[i]? with
        | none => simp only [eput, e]
        | some sl => cases sl with
          | own s =>
            have hi : i < E.length := (List.getElem?_eq_some_iff.mp e).1
            simp only [eput, e, List.getElem?_set_self hi, List.set_set, S.put_comm p q s a b h]
          | no => simp only [eput, e]
          | bor r => simp only [eput, e]
      · have ji : j ≠ i := fun z => ij z.symm
        cases e : E[i]? with
        | none => cases e2 : E[j]? with
          | none => simp only [eput, e, e2]
          | some sl => cases sl <;> simp only [eput, e, e2, List.getElem?_set_ne ij, List.getElem?_set_ne ji]
        | some sl => cases sl with
          | own s => cases e2 : E[j]? with
            | none => simp only [eput, e, e2, List.getElem?_set_ne ij, List.getElem?_set_ne ji]
            | some sl2 => cases sl2 <;> simp only [eput, e, e2, List.getElem?_set_ne ij, List.getElem?_set_ne ji] <;> rw [List.set_comm _ _ ij]
          | no => cases e2 : E[j]? with
            | none => simp only [eput, e, e2]
            | some sl2 => cases sl2 <;> simp only [eput, e, e2, List.getElem?_set_ne ij, List.getElem?_set_ne ji]
          | bor r => cases e2 : E[j]? with
            | none => simp only [eput, e, e2]
            | some sl2 => cases sl2 <;> simp only [eput, e, e2, List.getElem?_set_ne ij, List.getElem?_set_ne ji]
theorem ekill_get (p q : List Nat) : eget (ekill E p) q = eget E q := by
  cases q with
  | nil => rfl
  | cons i q =>
    simp only [eget, ekill, List.getElem?_map]
    cases e : E[i]? with
    | none => rfl
    | some sl => cases sl with
      | no => rfl
      | own s => rfl
      | bor r =>
        simp only [Option.map_some, kill1]
        split <;> first | rfl | (split at * <;> simp_all)
theorem rootS_kill (p : List Nat) : ∀ (ρ : Ro) (E : En), rootS ρ (ekill E p) = rootS ρ E
  | [], _ => by simp [rootS]
  | _ :: _, [] => rfl
  | v :: ρ, e :: E => by
    have ih := rootS_kill p ρ E
    unfold ekill at ih
    simp only [ekill, List.map_cons, rootS, ih]
    congr 1
    cases e with
    | no => rfl
    | own s => rfl
    | bor r => simp only [kill1]; split <;> rfl
theorem Core.kill (c : Core K F H ρ E fp) (p : List Nat) : Core K F H ρ (ekill E p) fp := by
  refine ⟨by unfold ekill; rw [List.length_map]; exact c.len, by rw [rootS_kill]; exact c.own, fun i s h => ?_⟩
  unfold ekill at h
  rw [List.getElem?_map] at h
  cases e : E[i]? with
  | none => rw [e] at h; cases h
  | some sl =>
    rw [e] at h
    cases sl with
    | no => cases h
    | own w => cases h; exact c.set i _ e
    | bor r =>
      simp only [Option.map_some, kill1, Option.some.injEq] at h
      split at h <;> cases h
end Mv
/-! What an environment is in a heap; what grows; what an expression, a statement comes to -/
namespace Mv
open PySem PySem.Spec PyProof.Rows L2
variable {K : PySem.W.Frag} {F F' F1 F2 H H' H1 H2 : Hp} {v u : V} {vs : List V} {s t : S} {ss : List S} {fp fq fr fp' fp1 fp2 : List Addr} {ρ : Ro} {E E' : En}

theorem apart_or : ∀ (p q : List Nat), within p q = false → p = q ∨ apart p q = true ∨ within q p = true
  | [], [], _ => .inl rfl
  | [], j :: q, h => by simp [within] at h
  | i :: p, [], _ => .inr (.inr (by simp [within]))
  | i :: p, j :: q, h => by
    by_cases ij : i = j
    · subst ij
      have h' : within p q = false := by simpa [within] using h
      rcases apart_or p q h' with e | e | e
      · exact .inl (by rw [e])
      · exact .inr (.inl (by simp [apart, e]))
      · exact .inr (.inr (by simpa [within] using e))
    · exact .inr (.inl (by simp [apart, ij]))
theorem S.get_put_above : ∀ (q p : List Nat) (s t u : S), within q p = true → s.get p = some u → ((s.put p t).get q).isSome = true
  | [], p, s, t, u, _, _ => by rw [S.get_nil]; rfl
  | j :: q, [], s, t, u, h, _ => by simp [within] at h
  | j :: q, i :: p, s, t, u, h, hg => by
    rw [S.get_cons] at hg
    cases e : s.kids[i]? with
    | none => rw [e] at hg; cases hg
    | some w =>
      rw [e] at hg
      have hi := (List.getElem?_eq_some_iff.mp e).1
      have ij : j = i := by
        simp only [within, List.isPrefixOf, Bool.and_eq_true, beq_iff_eq] at h
        exact h.1.1
      subst ij
      have h' : within q p = true := by simpa [within] using h
      rw [S.put_cons, S.get_cons]
      simp only [e, S.kids_setKid, List.getElem?_set_self hi]
      exact S.get_put_above q p w t u h' hg
theorem eget_above {u : S} {q p : List Nat} (q0 : q ≠ []) (h : within q p = true) (hg : eget E p = some u) : (eget (eput E p t) q).isSome = true := by
  obtain ⟨i, r, s, rfl, ei, hr⟩ := eget_some hg
  cases q with
  | nil => exact absurd rfl q0
  | cons j q =>
    have ij : j = i := by
      simp only [within, List.isPrefixOf, Bool.and_eq_true, beq_iff_eq] at h
      exact h.1.1
    subst ij
    have h' : within q r = true := by simpa [within] using h
    have hi : j < E.length := (List.getElem?_eq_some_iff.mp ei).1
    simp only [eput, ei, eget, List.getElem?_set_self hi]
    exact S.get_put_above q r s t u h' hr

structure Rep (K : PySem.W.Frag) (F H : Hp) (ρ : Ro) (E : En) (fp : List Addr) : Prop where
  core : Core K F H ρ E fp
  sub : ∀ a o, F a = some o → H a = some o
  nd : fp.Nodup
  off : ∀ a ∈ fp, F a = none
  bor : ∀ (i : Nat) (p : List Nat), E[i]? = some (Sl.bor p) → ∃ v, ρ[i]? = some (some v) ∧ followE H ρ p = some v ∧ (eget E p).isSome = true

/-- from (F, H), of which fp is ours, to (F', H'), of which fp' is ours -/
structure Grow (F H : Hp) (fp : List Addr) (F' H' : Hp) (fp' : List Addr) : Prop where
  f : ∀ a o, F a = some o → F' a = some o
  sub : ∀ a o, F' a = some o → H' a = some o
  keep : ∀ a o, H a = some o → a ∉ fp → H' a = some o
  new : ∀ a ∈ fp', a ∈ fp ∨ H a = none
  off : ∀ a, H a ≠ none → a ∉ fp → F a = none → F' a = none
theorem Grow.refl (sub : ∀ a o, F a = some o → H a = some o) (fp : List Addr) : Grow F H fp F H fp := ⟨fun _ _ h => h, sub, fun _ _ h _ => h, fun _ m => .inl m, fun _ _ _ h => h⟩
theorem Grow.trans (g : Grow F H fp F1 H1 fp1) (h : Grow F1 H1 fp1 F2 H2 fp2) : Grow F H fp F2 H2 fp2 := by
  have out : ∀ a, H a ≠ none → a ∉ fp → a ∉ fp1 := fun a h0 n m => (g.new a m).elim n h0
  refine ⟨fun a o e => h.f a o (g.f a o e), h.sub, fun a o e n => h.keep a o (g.keep a o e n) (out a (by rw [e]; exact fun z => nomatch z) n), fun a m => ?_, fun a h0 n e => ?_⟩
  · rcases h.new a m with q | q
    · exact g.new a q
    · by_cases n : a ∈ fp
      · exact .inl n
      · refine .inr ?_
        cases e : H a with
        | none => rfl
        | some o => rw [g.keep a o e n] at q; cases q
  · obtain ⟨o, eo⟩ := Option.ne_none_iff_exists'.mp h0
    exact h.off a (by rw [g.keep a o eo n]; exact fun z => nomatch z) (out a h0 n) (g.off a h0 n e)
/-- more is ours -/
theorem Grow.wide (g : Grow F H fp F' H' fp') (h1 : ∀ a ∈ fp, a ∈ fq) (h2 : ∀ a ∈ fr, a ∈ fq ∨ H a = none) : Grow F H fq F' H' fr :=
  ⟨g.f, g.sub, fun a o e n => g.keep a o e fun m => n (h1 a m), h2, fun a h0 n e => g.off a h0 (fun m => n (h1 a m)) e⟩
theorem Grow.less (g : Grow F H fp F' H' fp') (h2 : ∀ a ∈ fr, a ∈ fp') : Grow F H fp F' H' fr := ⟨g.f, g.sub, g.keep, fun a m => g.new a (h2 a m), g.off⟩
/-- one new object -/
theorem Grow.alloc (sub : ∀ a o, F a = some o → H a = some o) {p : Addr} {o : HO} (hp : H p = none) : Grow F H [] F (upd H p o) [p] := by
  refine ⟨fun _ _ h => h, fun a u e => ?_, fun a u e _ => ?_, fun a m => .inr (by rw [List.mem_singleton.mp m]; exact hp), fun _ _ _ h => h⟩
  · rw [upd_ne (ne_of_none (sub a u e) hp)]; exact sub a u e
  · rw [upd_ne (ne_of_none e hp)]; exact e
/-- one new object, shared from the start -/
theorem Grow.share (sub : ∀ a o, F a = some o → H a = some o) {p : Addr} {o : HO} (hp : H p = none) : Grow F H [] (upd F p o) (upd H p o) [] := by
  have hf : F p = none := by
    cases e : F p with
    | none => rfl
    | some u => rw [sub p u e] at hp; cases hp
  refine ⟨fun a u e => ?_, fun a u e => ?_, fun a u e _ => ?_, (fun _ m => nomatch m), fun a h0 _ e => ?_⟩
  · rw [upd_ne (ne_of_none e hf)]; exact e
  · by_cases ap : a = p
    · subst ap; rw [upd_same] at e ⊢; exact e
    · rw [upd_ne ap] at e ⊢; exact sub a u e
  · rw [upd_ne (ne_of_none e hp)]; exact e
  · rw [upd_ne (fun z => h0 (by rw [z]; exact hp))]; exact e

theorem Rep.there (r : Rep K F H ρ E fp) : ∀ a ∈ fp, ∃ o, H a = some o := r.core.there
/-- all that was goes on while none of ours is touched -/
theorem Rep.grow (r : Rep K F H ρ E fp) (g : Grow F H [] F' H' fr) : Rep K F' H' ρ E fp := by
  have k : ∀ a ∈ fp, ∀ o, H a = some o → H' a = some o := fun a _ o e => g.keep a o e (fun m => nomatch m)
  refine ⟨r.core.frame g.f g.sub k, g.sub, r.nd, fun a m => ?_, fun i p h => ?_⟩
  · obtain ⟨o, e⟩ := r.there a m
    exact g.off a (by rw [e]; exact fun z => nomatch z) (fun m => nomatch m) (r.off a m)
  · obtain ⟨v, h1, h2, h3⟩ := r.bor i p h
    obtain ⟨t, ht⟩ := Option.isSome_iff_exists.mp h3
    exact ⟨v, h1, by rw [r.core.follow_keep (fun b o e => g.sub b o (g.f b o e)) ht k]; exact h2, h3⟩
/-- the like, where something else of ours changed -/
theorem Own.grow (o : Own K F H v s fq) (g : Grow F H fp F' H' fp') (d : ∀ a ∈ fq, a ∉ fp) : Own K F' H' v s fq := o.frame g.f g.sub fun a m u e => g.keep a u e (d a m)

/-- THE PLACE p, apart from all else; what is put there goes with all else (X: what else of ours may change, Y: what else becomes ours) -/
theorem Rep.focus2 {p : List Nat} (r : Rep K F H ρ E fp) (h : eget E p = some t) :
    ∃ u fp1 fp2, followE H ρ p = some u ∧ Own K F H u t fp1 ∧ fp.Perm (fp1 ++ fp2) ∧
      ∀ F' H' t' fq X Y, Grow F H (X ++ fp1) F' H' (Y ++ fq) → (∀ a ∈ X, a ∉ fp) → Own K F' H' u t' fq → (Y ++ fq).Nodup → (∀ a ∈ fq, F' a = none) →
        Rep K F' H' ρ (ekill (eput E p t') p) (fq ++ fp2) ∧ (Y ++ (fq ++ fp2)).Nodup ∧ Grow F H (X ++ fp) F' H' (Y ++ (fq ++ fp2)) := by
  obtain ⟨u, fp1, fp2, h1, h2, c, pm⟩ := r.core.take h
  have nd : (fp1 ++ fp2).Nodup := pm.nodup_iff.mp r.nd
  have in1 : ∀ a ∈ fp1, a ∈ fp := fun a m => pm.mem_iff.mpr (List.mem_append_left _ m)
  have in2 : ∀ a ∈ fp2, a ∈ fp := fun a m => pm.mem_iff.mpr (List.mem_append_right _ m)
  refine ⟨u, fp1, fp2, h1, h2, pm, fun F' H' t' fq X Y g dX o n off => ?_⟩
  have dj : ∀ a ∈ fp2, a ∉ X ++ fp1 := fun a m2 m1 => by
    rcases List.mem_append.mp m1 with m | m
    · exact dX a m (in2 a m2)
    · exact (List.nodup_append.mp nd).2.2 a m a m2 rfl
  have k : ∀ a ∈ fp2, ∀ o, H a = some o → H' a = some o := fun a m o e => g.keep a o e (dj a m)
  have c1 : Core K F' H' ρ (eput E p (.con u)) fp2 := c.frame g.f g.sub k
  have c2 : Core K F' H' ρ (eput E p t') (fq ++ fp2) := by
    have := c1.put (eget_eput h) o
    rw [eput_eput] at this
    exact this
  have there2 : ∀ a ∈ fp2, ∃ o, H a = some o := fun a m => r.there a (in2 a m)
  have notnew : ∀ a ∈ fp2, a ∉ Y ++ fq := fun a m m2 => by
    obtain ⟨o, eo⟩ := there2 a m
    rcases g.new a m2 with z | z
    · exact dj a m z
    · rw [eo] at z; cases z
  have ndq : (fq ++ fp2).Nodup := List.nodup_append.mpr ⟨(List.nodup_append.mp n).2.1, (List.nodup_append.mp nd).2.1, fun a m b m2 e => by
    subst e; exact notnew a m2 (List.mem_append_right _ m)⟩
  refine ⟨⟨c2.kill p, g.sub, ndq, fun a m => ?_, fun i q hb => ?_⟩, ?_, ?_⟩
  · rcases List.mem_append.mp m with m | m
    · exact off a m
    · obtain ⟨o, eo⟩ := there2 a m
      exact g.off a (by rw [eo]; exact fun z => nomatch z) (dj a m) (r.off a (in2 a m))
  · -- what is borrowed
    have hb' : E[i]? = some (Sl.bor q) ∧ within p q = false := by
      unfold ekill at hb
      rw [List.getElem?_map] at hb
      cases e : (eput E p t')[i]? with
      | none => rw [e] at hb; cases hb
      | some sl =>
        rw [e] at hb
        cases sl with
        | no => cases hb
        | own w => cases hb
        | bor w =>
          simp only [Option.map_some, kill1, Option.some.injEq] at hb
          have hw : within p w = false ∧ w = q := by
            cases hh : within p w with
            | true => rw [hh] at hb; simp at hb
            | false => rw [hh] at hb; simp at hb; exact ⟨rfl, hb⟩
          obtain ⟨hw1, rfl⟩ := hw
          refine ⟨?_, hw1⟩
          obtain ⟨j, r', s', rfl, ej, _⟩ := eget_some h
          simp only [eput, ej] at e
          by_cases ij : j = i
          · subst ij
            have hj := (List.getElem?_eq_some_iff.mp ej).1
            rw [List.getElem?_set_self hj] at e
            cases e
          · rw [List.getElem?_set_ne ij] at e
            exact e
    obtain ⟨hb', hw⟩ := hb'
    obtain ⟨v, e1, e2, e3⟩ := r.bor i q hb'
    obtain ⟨w, ew⟩ := Option.isSome_iff_exists.mp e3
    refine ⟨v, e1, ?_, ?_⟩
    · have : ∃ w', eget (eput E p (.con u)) q = some w' := by
        rcases apart_or p q hw with e | e | e
        · subst e; exact ⟨_, eget_eput h⟩
        · exact ⟨w, by rw [eget_apart e]; exact ew⟩
        · have q0 : q ≠ [] := fun z => by rw [z] at ew; cases ew
          exact Option.isSome_iff_exists.mp (eget_above q0 e h)
      obtain ⟨w', ew'⟩ := this
      rw [c.follow_keep (fun b o e => g.sub b o (g.f b o e)) ew' k]; exact e2
    · rw [ekill_get]
      rcases apart_or p q hw with e | e | e
      · subst e; rw [eget_eput h]; rfl
      · rw [eget_apart e]; exact e3
      · have q0 : q ≠ [] := fun z => by rw [z] at ew; cases ew
        exact eget_above q0 e h
  · exact List.nodup_append.mpr ⟨(List.nodup_append.mp n).1, ndq, fun a m b m2 e => by
      subst e
      rcases List.mem_append.mp m2 with m2 | m2
      · exact (List.nodup_append.mp n).2.2 a m a m2 rfl
      · exact notnew a m2 (List.mem_append_left _ m)⟩
  · refine g.wide (fun a m => ?_) fun a m => ?_
    · rcases List.mem_append.mp m with m | m
      · exact List.mem_append_left _ m
      · exact List.mem_append_right _ (in1 a m)
    · rcases List.mem_append.mp m with m | m
      · rcases g.new a (List.mem_append_left _ m) with z | z
        · exact .inl (List.mem_append.mpr ((List.mem_append.mp z).imp id (in1 a)))
        · exact .inr z
      · rcases List.mem_append.mp m with m | m
        · rcases g.new a (List.mem_append_right _ m) with z | z
          · exact .inl (List.mem_append.mpr ((List.mem_append.mp z).imp id (in1 a)))
          · exact .inr z
        · exact .inl (List.mem_append_right _ (in2 a m))
end Mv
/-! Expressions that change nothing -/
namespace Mv
open PySem PySem.Spec PyProof.Rows L2
variable {K : PySem.W.Frag} {F F' F1 F2 H H' H1 H2 : Hp} {v u x y : V} {vs : List V} {s t : S} {ss : List S} {fp fq fr fp' fp1 fp2 f1 f2 : List Addr} {ρ as : Ro} {E E' : En} {n : Nat}

mutual
def S.toD : S → Option PyData
  | .dat d => some d
  | .lst xs => (S.toDs xs).map .list
  | _ => none
def S.toDs : List S → Option (List PyData)
  | [] => some []
  | s :: ss => match S.toD s, S.toDs ss with
    | some d, some ds => some (d :: ds)
    | _, _ => none
end
mutual
theorem Own.dp (sub : ∀ a o, F a = some o → H a = some o) : ∀ (s : S) {v : V} {fp : List Addr} {d : PyData}, Own K F H v s fp → s.toD = some d → Dq K H v d
  | .dat d, v, fp, d', o, e => by
    simp only [S.toD, Option.some.injEq] at e
    subst e
    exact Dq.mono sub (o.dat_inv rfl).1
  | .lst xs, v, fp, d', o, e => by
    simp only [S.toD, Option.map_eq_some_iff] at e
    obtain ⟨ds, e, rfl⟩ := e
    cases o with
    | @node a ob _ ex fq h hd l =>
      cases ob with
      | lst vs => exact .lst (.inl (.inl h)) (Own.dps sub xs l e)
      | frz o u => cases u <;> exact hd.elim
      | _ => exact hd.elim
  | .con _, _, _, _, _, e => by simp [S.toD] at e
  | .dct _ _, _, _, _, _, e => by simp [S.toD] at e
  | .ins _ _, _, _, _, _, e => by simp [S.toD] at e
theorem Own.dps (sub : ∀ a o, F a = some o → H a = some o) : ∀ (ss : List S) {vs : List V} {fp : List Addr} {ds : List PyData}, OwnL K F H vs ss fp → S.toDs ss = some ds → DqAll K H vs ds
  | [], vs, fp, ds, o, e => by
    simp only [S.toDs, Option.some.injEq] at e
    subst e
    cases o
    exact .nil
  | s :: ss, vs, fp, ds, o, e => by
    cases o with
    | cons a l =>
      simp only [S.toDs] at e
      split at e
      · next d ds' e1 e2 =>
        cases e
        exact .cons (Own.dp sub s a e1) (Own.dps sub ss l e2)
      · cases e
end

inductive Rs where
  | val (s : S)
  | pl (p : List Nat)
def RsAt (K : PySem.W.Frag) (F H : Hp) (ρ : Ro) (E : En) (v : V) : Rs → List Addr → Prop
  | .val s, fr => Own K F H v s fr
  | .pl p, fr => fr = [] ∧ followE H ρ p = some v ∧ (eget E p).isSome = true
def Rs.full (E : En) : Rs → Option PyData
  | .val s => s.toD
  | .pl p => (eget E p).bind S.toD
/-- what it is, whole -/
def Rs.at (E : En) : Rs → Option S
  | .val s => some s
  | .pl p => eget E p
theorem Rs.full_at {r : Rs} : r.full E = (r.at E).bind S.toD := by cases r <;> rfl
theorem Grow.seq0 (g : Grow F H [] F1 H1 f1) (h : Grow F1 H1 [] F2 H2 f2) : Grow F H [] F2 H2 (f1 ++ f2) := by
  have g' := g.less (fr := []) (fun _ m => nomatch m)
  have gh := g'.trans h
  refine ⟨gh.f, gh.sub, gh.keep, fun a m => ?_, gh.off⟩
  rcases List.mem_append.mp m with m | m
  · exact g.new a m
  · exact gh.new a m
theorem Grow.drop (g : Grow F H [] F1 H1 f1) : Grow F H [] F1 H1 [] := g.less fun _ m => nomatch m
theorem RsAt.grow {r : Rs} (R : Rep K F H ρ E fp) (a : RsAt K F H ρ E v r fr) (g : Grow F H [] F' H' f1) : RsAt K F' H' ρ E v r fr := by
  cases r with
  | val s => exact Own.grow (show Own K F H v s fr from a) g (fun _ _ m => nomatch m)
  | pl p =>
    obtain ⟨a1, a2, a3⟩ := a
    obtain ⟨t, ht⟩ := Option.isSome_iff_exists.mp a3
    exact ⟨a1, by rw [R.core.follow_keep (fun b o e => g.sub b o (g.f b o e)) ht fun a _ o e => g.keep a o e (fun m => nomatch m)]; exact a2, a3⟩
/-- the whole of it, laid somewhere -/
theorem RsAt.own {r : Rs} (R : Rep K F H ρ E fp) (a : RsAt K F H ρ E v r fr) (h : r.at E = some s) : ∃ fq, Own K F H v s fq := by
  cases r with
  | val t =>
    cases h
    exact ⟨fr, a⟩
  | pl p =>
    obtain ⟨a1, a2, a3⟩ := a
    obtain ⟨u, f1, f2, e1, o, _⟩ := R.core.take (show eget E p = some s from h)
    rw [a2] at e1
    cases e1
    exact ⟨f1, o⟩
theorem RsAt.dp {r : Rs} {d : PyData} (R : Rep K F H ρ E fp) (a : RsAt K F H ρ E v r fr) (h : r.full E = some d) : Dq K H v d := by
  rw [Rs.full_at] at h
  obtain ⟨s, hs, hd⟩ := Option.bind_eq_some_iff.mp h
  obtain ⟨fq, o⟩ := a.own R hs
  exact Own.dp R.sub s o hd

/-- what an expression comes to, nothing of ours changed -/
def EvP (K : PySem.W.Frag) (n : Nat) (as : Ro) (te : TE) (d : En → Option Rs) : Prop :=
  ∀ {F H : Hp} {σ : L2.St} {E : En} {fp : List Addr}, σ.length = n → Rep K F H (σ ++ as) E fp → ∀ {r : Rs}, d E = some r → ∀ {Q : VK},
    (∀ v F' H' fr, Grow F H [] F' H' fr → RsAt K F' H' (σ ++ as) E v r fr → fr.Nodup → (∀ a ∈ fr, F' a = none) → Q v H') → te σ H Q
def EvT (K : PySem.W.Frag) (n : Nat) (as : Ro) (tt : TT) (d : En → Option Bool) : Prop :=
  ∀ {F H : Hp} {σ : L2.St} {E : En} {fp : List Addr}, σ.length = n → Rep K F H (σ ++ as) E fp → ∀ {b : Bool}, d E = some b → ∀ {Q : Bool → Hp → Prop},
    (∀ F' H', Grow F H [] F' H' [] → Q b H') → tt σ H Q
/-- several, from the left -/
inductive RsAll (K : PySem.W.Frag) (F H : Hp) (ρ : Ro) (E : En) : List V → List Rs → List Addr → Prop
  | nil : RsAll K F H ρ E [] [] []
  | cons {v : V} {vs : List V} {r : Rs} {rs : List Rs} {f g : List Addr} : RsAt K F H ρ E v r f → RsAll K F H ρ E vs rs g → RsAll K F H ρ E (v :: vs) (r :: rs) (f ++ g)
def EvA (K : PySem.W.Frag) (n : Nat) (as : Ro) (ta : TA) (d : En → Option (List Rs)) : Prop :=
  ∀ {F H : Hp} {σ : L2.St} {E : En} {fp : List Addr}, σ.length = n → Rep K F H (σ ++ as) E fp → ∀ {rs : List Rs}, d E = some rs → ∀ {Q : List V → Hp → Prop},
    (∀ vs F' H' fr, Grow F H [] F' H' fr → RsAll K F' H' (σ ++ as) E vs rs fr → fr.Nodup → (∀ a ∈ fr, F' a = none) → Q vs H') → ta σ H Q
theorem Own.fresh (o : RsAt K F H ρ E v r fr) (g : Grow F H [] F1 H1 f1) (z : ∀ a ∈ fr, ∃ o, H a = some o) : ∀ a ∈ fr, ∀ b ∈ f1, a ≠ b := fun a m b m1 e => by
  subst e
  obtain ⟨o, eo⟩ := z a m
  rcases g.new a m1 with q | q
  · cases q
  · rw [eo] at q; cases q
theorem RsAt.there {r : Rs} (a : RsAt K F H ρ E v r fr) : ∀ b ∈ fr, ∃ o, H b = some o := by
  cases r with
  | val s => exact Own.there (show Own K F H v s fr from a)
  | pl p =>
    obtain ⟨a1, _⟩ := a
    subst a1
    exact fun _ m => nomatch m
theorem nodup_two (n1 : f1.Nodup) (n2 : f2.Nodup) (d : ∀ a ∈ f1, ∀ b ∈ f2, a ≠ b) : (f1 ++ f2).Nodup := List.nodup_append.mpr ⟨n1, n2, d⟩

/-! ### data without parts -/
def isSc : PyData → Bool
  | .none => true | .bool _ => true | .int _ => true | .str _ => true
  | _ => false
def scV : PyData → V
  | .bool b => .bl b | .int i => .int i | .str x => .str x
  | _ => .non
theorem scV_dp {d : PyData} (h : isSc d = true) : Dq K F (scV d) d := by
  cases d with
  | none => exact .non
  | bool b => exact .bl b
  | int i => exact .int i
  | str x => exact .str x
  | _ => cases h
theorem Dq.sc {d : PyData} (h : Dq K F v d) (s : isSc d = true) : v = scV d := by
  cases h <;> first | rfl | cases s


/-! what the parts come to -/
def dVar (i : Nat) (E : En) : Option Rs := match E[i]? with
  | some (.own (.dat d)) => some (.val (.dat d))
  | some (.own (.con v)) => some (.val (.con v))
  | some (.own s) => some (.pl [i])
  | some (.bor p) => some (.pl p)
  | _ => none
def dC (d : PyData) (_ : En) : Option Rs := some (.val (.dat d))
def dCon (v : V) (_ : En) : Option Rs := some (.val (.con v))
def dOp (f : PyData → PyData → Option PyData) (da db : En → Option Rs) (E : En) : Option Rs := match da E, db E with
  | some a, some b => match a.full E, b.full E with
    | some a, some b => (f a b).map fun c => .val (.dat c)
    | _, _ => none
  | _, _ => none
def dTest (d : En → Option Rs) (E : En) : Option Bool := match d E with
  | some (.val (.dat (.bool b))) => some b
  | _ => none
def dAnd (dt du : En → Option Bool) (E : En) : Option Bool := match dt E with
  | some true => du E
  | o => o
def dOr (dt du : En → Option Bool) (E : En) : Option Bool := match dt E with
  | some false => du E
  | o => o
def dNot (dt : En → Option Bool) (E : En) : Option Bool := (dt E).map (!·)
def dIfE (dt : En → Option Bool) (da db : En → Option Rs) (E : En) : Option Rs := match dt E with
  | some true => da E
  | some false => db E
  | none => none
def dNil (_ : En) : Option (List Rs) := some []
def dCons (da : En → Option Rs) (dr : En → Option (List Rs)) (E : En) : Option (List Rs) := match da E, dr E with
  | some a, some r => some (a :: r)
  | _, _ => none

section
variable {te ta tb : TE} {d da db : En → Option Rs}
theorem p_var {i : Nat} (hi : i < n) : EvP K n as (tVar i) (dVar i) := by
  intro F H σ E fp L R r e Q q
  unfold dVar at e
  have main : ∀ v, (σ ++ as)[i]? = some (some v) → σ[i]? = some (some v) := fun v h => by rwa [List.getElem?_append_left (by omega)] at h
  cases he : E[i]? with
  | none => rw [he] at e; cases e
  | some sl =>
    rw [he] at e
    cases sl with
    | no => cases e
    | bor p =>
      cases e
      obtain ⟨v, h1, h2, h3⟩ := R.bor i p he
      exact ⟨v, main v h1, q v F H [] (.refl R.sub []) ⟨rfl, h2, h3⟩ List.nodup_nil (fun _ m => nomatch m)⟩
    | own s =>
      obtain ⟨v, h1⟩ := R.core.set i s he
      have g : eget E [i] = some s := by simp only [eget, he, S.get_nil]
      obtain ⟨u, g1, g2, e1, o, c, _⟩ := R.core.take g
      have eu : u = v := by simp only [followE, h1, follow_nil] at e1; exact (Option.some.inj e1).symm
      subst eu
      have pl : some (Rs.pl [i]) = some r → Q u H := fun e' => by
        have e2 := Option.some.inj e'
        subst e2
        exact q u F H [] (.refl R.sub []) ⟨rfl, e1, by rw [g]; rfl⟩ List.nodup_nil (fun _ m => nomatch m)
      refine ⟨u, main u h1, ?_⟩
      cases s with
      | dat d =>
        cases e
        exact q u F H [] (.refl R.sub []) (.dat (o.dat_inv rfl).1) List.nodup_nil (fun _ m => nomatch m)
      | con w =>
        cases e
        obtain ⟨rfl, _⟩ := o.con_inv rfl
        exact q u F H [] (.refl R.sub []) .con List.nodup_nil (fun _ m => nomatch m)
      | lst _ => exact pl e
      | dct _ _ => exact pl e
      | ins _ _ => exact pl e
theorem p_c {d : PyData} (h : isSc d = true := by rfl) : EvP K n as (tC (scV d)) (dC d) := by
  intro F H σ E fp L R r e Q q
  cases e
  exact q _ F H [] (.refl R.sub []) (.dat (scV_dp h)) List.nodup_nil (fun _ m => nomatch m)
theorem p_con : EvP K n as (tC v) (dCon v) := by
  intro F H σ E fp L R r e Q q
  cases e
  exact q _ F H [] (.refl R.sub []) .con List.nodup_nil (fun _ m => nomatch m)
/-- a rule for two values, the answer without parts -/
def Rv2 (K : PySem.W.Frag) (r : R2) (f : PyData → PyData → Option PyData) : Prop :=
  ∀ {H : Hp} {x y : V} {a b c : PyData}, Dq K H x a → Dq K H y b → f a b = some c → ∀ {Q : VK}, (isSc c = true → Q (scV c) H) → r x y H Q
theorem p_op {r : R2} {f : PyData → PyData → Option PyData} (hr : Rv2 K r f) (ha : EvP K n as ta da) (hb : EvP K n as tb db) :
    EvP K n as (tOp r ta tb) (dOp f da db) := by
  intro F H σ E fp L R r' e Q q
  unfold dOp at e
  split at e
  · next a b ea eb =>
    split at e
    · next a' b' ea' eb' =>
      obtain ⟨c, ec, rfl⟩ := Option.map_eq_some_iff.mp e
      refine ha L R ea fun x F1 H1 f1 g1 r1 n1 o1 => hb L (R.grow g1) eb fun y F2 H2 f2 g2 r2 n2 o2 => ?_
      have R2 := (R.grow g1).grow g2
      refine hr ((r1.grow (R.grow g1) g2).dp R2 ea') (r2.dp R2 eb') ec fun hc => ?_
      exact q _ F2 H2 [] ((g1.seq0 g2).drop) (.dat (scV_dp hc)) List.nodup_nil (fun _ m => nomatch m)
    · cases e
  · cases e
theorem p_test (h : EvP K n as te d) : EvT K n as (tTest te) (dTest d) := by
  intro F H σ E fp L R b e Q q
  unfold dTest at e
  split at e
  · next c ed =>
    cases e
    refine h L R ed fun v F1 H1 f1 g1 r1 n1 o1 => ?_
    have := (Own.dat_inv (show Own K F1 H1 v _ f1 from r1) rfl).1
    cases this
    exact ⟨b, rfl, q F1 H1 g1.drop⟩
  · cases e
theorem p_tB (h : EvP K n as te d) : EvT K n as (tB te) (dTest d) := p_test h
variable {tt uu : TT} {dt du : En → Option Bool}
theorem p_and (ht : EvT K n as tt dt) (hu : EvT K n as uu du) : EvT K n as (tAnd tt uu) (dAnd dt du) := by
  intro F H σ E fp L R b e Q q
  unfold dAnd at e
  cases h : dt E with
  | none => rw [h] at e; cases e
  | some c =>
    rw [h] at e
    refine ht L R h fun F1 H1 g1 => ?_
    cases c with
    | true => exact iteT (hu L (R.grow g1) e fun F2 H2 g2 => q F2 H2 (g1.seq0 g2))
    | false =>
      cases e
      exact iteF (q F1 H1 g1)
theorem p_or (ht : EvT K n as tt dt) (hu : EvT K n as uu du) : EvT K n as (tOr tt uu) (dOr dt du) := by
  intro F H σ E fp L R b e Q q
  unfold dOr at e
  cases h : dt E with
  | none => rw [h] at e; cases e
  | some c =>
    rw [h] at e
    refine ht L R h fun F1 H1 g1 => ?_
    cases c with
    | false => exact iteF (hu L (R.grow g1) e fun F2 H2 g2 => q F2 H2 (g1.seq0 g2))
    | true =>
      cases e
      exact iteT (q F1 H1 g1)
theorem p_not (ht : EvT K n as tt dt) : EvT K n as (tNot tt) (dNot dt) := by
  intro F H σ E fp L R b e Q q
  obtain ⟨c, h, rfl⟩ := Option.map_eq_some_iff.mp e
  exact ht L R h fun F1 H1 g1 => q F1 H1 g1
theorem p_ifE (ht : EvT K n as tt dt) (ha : EvP K n as ta da) (hb : EvP K n as tb db) : EvP K n as (tIf tt ta tb) (dIfE dt da db) := by
  intro F H σ E fp L R r e Q q
  unfold dIfE at e
  cases h : dt E with
  | none => rw [h] at e; cases e
  | some c =>
    rw [h] at e
    refine ht L R h fun F1 H1 g1 => ?_
    cases c with
    | true => exact iteT (ha L (R.grow g1) e fun v F2 H2 f2 g2 a2 n2 o2 => q v F2 H2 f2 (g1.seq0 g2) a2 n2 o2)
    | false => exact iteF (hb L (R.grow g1) e fun v F2 H2 f2 g2 a2 n2 o2 => q v F2 H2 f2 (g1.seq0 g2) a2 n2 o2)
/-- arguments -/
theorem p_nil : EvA K n as tNil dNil := by
  intro F H σ E fp L R r e Q q
  cases e
  exact q [] F H [] (.refl R.sub []) .nil List.nodup_nil (fun _ m => nomatch m)
variable {tr : TA} {dr : En → Option (List Rs)}
theorem p_cons (ha : EvP K n as ta da) (hr : EvA K n as tr dr) : EvA K n as (tCons ta tr) (dCons da dr) := by
  intro F H σ E fp L R r e Q q
  unfold dCons at e
  split at e
  · next a r ea er =>
    cases e
    refine ha L R ea fun x F1 H1 f1 g1 r1 n1 o1 => hr L (R.grow g1) er fun xs F2 H2 f2 g2 r2 n2 o2 => ?_
    refine q _ F2 H2 (f1 ++ f2) (g1.seq0 g2) (.cons (r1.grow (R.grow g1) g2) r2) (nodup_two n1 n2 (Own.fresh r1 g2 r1.there)) fun a m => ?_
    rcases List.mem_append.mp m with m | m
    · obtain ⟨o, eo⟩ := r1.there a m
      exact g2.off a (by rw [eo]; exact fun z => nomatch z) (fun z => nomatch z) (o1 a m)
    · exact o2 a m
  · cases e
end
end Mv
/-! More expressions that change nothing: parts of places, displays, calls of built-ins -/
namespace Mv
open PySem PySem.Spec PyProof.Rows L2
variable {K : PySem.W.Frag} {F F' F1 F2 H H' H1 H2 : Hp} {v u x y : V} {vs : List V} {s t : S} {ss : List S} {fp fq fr fp' fp1 fp2 f1 f2 : List Addr} {ρ as : Ro} {E E' : En} {n : Nat}
variable {te ta tb tc : TE} {d da db dc : En → Option Rs} {tr : TA} {dr : En → Option (List Rs)}

theorem DqAll.nth : ∀ {vs : List V} {ds : List PyData} {i : Nat} {d : PyData}, DqAll K F vs ds → ds[i]? = some d → ∃ v, vs[i]? = some v ∧ Dq K F v d
  | _, _, _, _, .nil, e => by simp at e
  | _, _, 0, d, .cons h _, e => by
    simp only [List.getElem?_cons_zero, Option.some.injEq] at e
    subst e
    exact ⟨_, rfl, h⟩
  | _, _, i + 1, d, .cons _ t, e => by
    obtain ⟨v, h1, h2⟩ := DqAll.nth (i := i) t (by simpa using e)
    exact ⟨v, by simpa using h1, h2⟩
theorem DqAll.len : ∀ {vs : List V} {ds : List PyData}, DqAll K F vs ds → vs.length = ds.length
  | _, _, .nil => rfl
  | _, _, .cons _ t => by simp only [List.length_cons, DqAll.len t]
theorem Dq.list_inv {ds : List PyData} (h : Dq K F v (.list ds)) : ∃ a xs, v = .ref a ∧ SqL K F a xs ∧ DqAll K F xs ds := by
  cases h with
  | lst a b => exact ⟨_, _, rfl, a, b⟩
theorem Dq.tuple_inv {ds : List PyData} (h : Dq K F v (.tuple ds)) : ∃ a xs, v = .ref a ∧ SqT K F a xs ∧ DqAll K F xs ds := by
  cases h with
  | tup a b => exact ⟨_, _, rfl, a.sq, b⟩
theorem Dq.tupleQ_inv {ds : List PyData} (h : Dq K F v (.tuple ds)) : ∃ a xs, v = .ref a ∧ TupQ K F a xs ∧ DqAll K F xs ds := by
  cases h with
  | tup a b => exact ⟨_, _, rfl, a, b⟩
theorem Own.lst_inv (o : Own K F H v s fp) (e : s = .lst ss) : ∃ a vs fq, v = .ref a ∧ H a = some (.lst vs) ∧ OwnL K F H vs ss fq ∧ fp = a :: fq := by
  cases o with
  | dat _ => cases e
  | con => cases e
  | @node a ob _ ex fq h hd l =>
    subst e
    cases ob with
    | lst vs =>
      have : ex = [] := hd
      subst this
      exact ⟨a, vs, fq, rfl, h, l, rfl⟩
    | frz o u => cases u <;> exact hd.elim
    | _ => exact hd.elim
  | lck => cases e
theorem ixN_at {n : Nat} {i : Int} {j : Nat} (h : ixN n i = some j) : j < n := (ixN_seq h).2.1
/-- one part of what stands at a result: data itself, else its place -/
def Rs.kid (r : Rs) (j : Nat) (s : S) : Option Rs := match s, r with
  | .dat d, _ => some (.val (.dat d))
  | _, .pl p => some (.pl (p ++ [j]))
  | _, _ => none
theorem followE_snoc {p : List Nat} {a : Addr} {o : HO} {j : Nat} {w : V} (h : followE H ρ p = some (.ref a)) (e : H a = some o) (k : (kidsV o)[j]? = some w) : followE H ρ (p ++ [j]) = some w := by
  have go : ∀ (p : List Nat) (v : V), follow H v p = some (.ref a) → follow H v (p ++ [j]) = some w := by
    intro p
    induction p with
    | nil =>
      intro v h
      rw [follow_nil] at h
      cases h
      rw [List.nil_append, follow_node e k, follow_nil]
    | cons i p ih =>
      intro v h
      cases v with
      | ref b =>
        rw [List.cons_append]
        simp only [follow] at h
        split at h
        · next ob hb =>
          split at h
          · next x hx => rw [follow_node hb hx]; exact ih _ h
          · cases h
        · cases h
      | _ => cases h
  cases p with
  | nil => cases h
  | cons i p =>
    rw [List.cons_append]
    unfold followE at h ⊢
    dsimp only at h ⊢
    split at h
    · exact go p _ h
    · cases h
theorem S.get_snoc {j : Nat} {k : S} : ∀ (p : List Nat) {s t : S}, s.get p = some t → t.kids[j]? = some k → s.get (p ++ [j]) = some k
  | [], s, t, h, e => by
    rw [S.get_nil] at h
    cases h
    rw [List.nil_append, S.get_cons, e]
    exact S.get_nil k
  | i :: p, s, t, h, e => by
    rw [S.get_cons] at h
    rw [List.cons_append, S.get_cons]
    split at h
    · exact S.get_snoc p h e
    · cases h
theorem eget_snoc {p : List Nat} {j : Nat} {k : S} (h : eget E p = some t) (e : t.kids[j]? = some k) : eget E (p ++ [j]) = some k := by
  obtain ⟨i, q, s, rfl, ei, hq⟩ := eget_some h
  simp only [List.cons_append, eget, ei]
  exact S.get_snoc q hq e
/-- a part of an owned node, as a result -/
theorem RsAt.kid {r r' : Rs} {a : Addr} {o : HO} {j : Nat} {w : V} {f : List Addr} (R : Rep K F H ρ E fp) (h : RsAt K F H ρ E (.ref a) r fr) (ea : r.at E = some t) (ho : H a = some o) (hk : (kidsV o)[j]? = some w) (hs : t.kids[j]? = some s) (ow : Own K F H w s f) (e : r.kid j s = some r') :
    RsAt K F H ρ E w r' [] := by
  cases s with
  | dat d =>
    cases r <;> (cases e; exact .dat (ow.dat_inv rfl).1)
  | _ => cases r with
    | val _ => cases e
    | pl p =>
      cases e
      obtain ⟨_, h2, h3⟩ := h
      exact ⟨rfl, followE_snoc h2 ho hk, by rw [eget_snoc ea hs]; rfl⟩
theorem OwnL.nth : ∀ {vs : List V} {ss : List S} {fp : List Addr} {i : Nat} {s : S}, OwnL K F H vs ss fp → ss[i]? = some s → ∃ v f, vs[i]? = some v ∧ Own K F H v s f
  | _, _, _, _, _, .nil, e => by simp at e
  | _, _, _, 0, s, .cons h _, e => by
    simp only [List.getElem?_cons_zero, Option.some.injEq] at e
    subst e
    exact ⟨_, _, rfl, h⟩
  | _, _, _, i + 1, s, .cons _ t, e => by
    obtain ⟨v, f, h1, h2⟩ := OwnL.nth (i := i) t (by simpa using e)
    exact ⟨v, f, by simpa using h1, h2⟩
/-! xs[i] of a list -/
def dIxL (da db : En → Option Rs) (E : En) : Option Rs := match da E, db E with
  | some r, some (.val (.dat (.int i))) => match r.at E with
    | some (.lst ss) => match ixN ss.length i with
      | some j => match ss[j]? with
        | some s => r.kid j s
        | none => none
      | none => none
    | some (.dat (.list ds)) => match ixN ds.length i with
      | some j => (ds[j]?).map fun d => .val (.dat d)
      | none => none
    | _ => none
  | _, _ => none
theorem p_ixL (ha : EvP K n as ta da) (hb : EvP K n as tb db) : EvP K n as (tOp (rIxL K) ta tb) (dIxL da db) := by
  intro F H σ E fp L R r' e Q q
  unfold dIxL at e
  split at e
  · next r i ea eb =>
    refine ha L R ea fun x F1 H1 f1 g1 r1 n1 o1 => hb L (R.grow g1) eb fun y F2 H2 f2 g2 r2 n2 o2 => ?_
    have R2 := (R.grow g1).grow g2
    have r1' := r1.grow (R.grow g1) g2
    have gg := (g1.seq0 g2).drop
    cases (Own.dat_inv (show Own K F2 H2 y _ f2 from r2) rfl).1
    split at e
    · next ss es =>
      split at e
      · next j ej =>
        split at e
        · next s hs =>
          obtain ⟨fq, o⟩ := r1'.own R2 es
          obtain ⟨a, vs, fq', rfl, hH, l, _⟩ := o.lst_inv rfl
          obtain ⟨w, f, hw, ow⟩ := l.nth hs
          refine ⟨a, vs, i, w, rfl, rfl, .inl (.inl hH), by unfold atI; rw [l.length, ej]; exact hw, ?_⟩
          exact q w F2 H2 [] gg (r1'.kid R2 es hH hw hs ow e) List.nodup_nil (fun _ m => nomatch m)
        · cases e
      · cases e
    · next ds es =>
      split at e
      · next j ej =>
        obtain ⟨d, hd, rfl⟩ := Option.map_eq_some_iff.mp e
        obtain ⟨fq, o⟩ := r1'.own R2 es
        obtain ⟨a, xs, rfl, hq, da⟩ := Mv.Dq.list_inv (o.dat_inv rfl).1
        obtain ⟨w, hw, dw⟩ := Mv.DqAll.nth da hd
        refine ⟨a, xs, i, w, rfl, rfl, SqL.mono R2.sub hq, by unfold atI; rw [Mv.DqAll.len da, ej]; exact hw, ?_⟩
        exact q w F2 H2 [] gg (.dat dw) List.nodup_nil (fun _ m => nomatch m)
      · cases e
    · cases e
  · cases e
/-! t[i] of a tuple -/
def dIxT (da db : En → Option Rs) (E : En) : Option Rs := match da E, db E with
  | some r, some (.val (.dat (.int i))) => match r.at E with
    | some (.dat (.tuple ds)) => match ixN ds.length i with
      | some j => (ds[j]?).map fun d => .val (.dat d)
      | none => none
    | _ => none
  | _, _ => none
theorem p_ixT (ha : EvP K n as ta da) (hb : EvP K n as tb db) : EvP K n as (tOp (rIxT K) ta tb) (dIxT da db) := by
  intro F H σ E fp L R r' e Q q
  unfold dIxT at e
  split at e
  · next r i ea eb =>
    refine ha L R ea fun x F1 H1 f1 g1 r1 n1 o1 => hb L (R.grow g1) eb fun y F2 H2 f2 g2 r2 n2 o2 => ?_
    have R2 := (R.grow g1).grow g2
    have r1' := r1.grow (R.grow g1) g2
    cases (Own.dat_inv (show Own K F2 H2 y _ f2 from r2) rfl).1
    split at e
    · next ds es =>
      split at e
      · next j ej =>
        obtain ⟨d, hd, rfl⟩ := Option.map_eq_some_iff.mp e
        obtain ⟨fq, o⟩ := r1'.own R2 es
        obtain ⟨a, xs, rfl, hq, da⟩ := Mv.Dq.tuple_inv (o.dat_inv rfl).1
        obtain ⟨w, hw, dw⟩ := Mv.DqAll.nth da hd
        refine ⟨a, xs, i, w, rfl, rfl, SqT.mono R2.sub hq, by unfold atI; rw [Mv.DqAll.len da, ej]; exact hw, ?_⟩
        exact q w F2 H2 [] (g1.seq0 g2).drop (.dat dw) List.nodup_nil (fun _ m => nomatch m)
      · cases e
    · cases e
  · cases e
/-! a and b, a or b, not a, a < b < c as values -/
def dAndV (da db : En → Option Rs) (E : En) : Option Rs := match da E with
  | some (.val (.dat (.bool true))) => db E
  | some (.val (.dat (.bool false))) => some (.val (.dat (.bool false)))
  | _ => none
def dOrV (da db : En → Option Rs) (E : En) : Option Rs := match da E with
  | some (.val (.dat (.bool false))) => db E
  | some (.val (.dat (.bool true))) => some (.val (.dat (.bool true)))
  | _ => none
def dNotV (da : En → Option Rs) (E : En) : Option Rs := match da E with
  | some (.val (.dat (.bool b))) => some (.val (.dat (.bool (!b))))
  | _ => none
theorem p_andV (ha : EvP K n as ta da) (hb : EvP K n as tb db) : EvP K n as (tAndV ta tb) (dAndV da db) := by
  intro F H σ E fp L R r e Q q
  unfold dAndV at e
  split at e
  · next ea =>
    refine ha L R ea fun x F1 H1 f1 g1 r1 n1 o1 => ?_
    cases (Own.dat_inv (show Own K F1 H1 x _ f1 from r1) rfl).1
    exact ⟨true, rfl, iteT (hb L (R.grow g1) e fun v F2 H2 f2 g2 a2 n2 o2 => q v F2 H2 f2 (g1.drop.seq0 g2) a2 n2 o2)⟩
  · next ea =>
    cases e
    refine ha L R ea fun x F1 H1 f1 g1 r1 n1 o1 => ?_
    cases (Own.dat_inv (show Own K F1 H1 x _ f1 from r1) rfl).1
    exact ⟨false, rfl, iteF (q _ F1 H1 [] g1.drop (.dat (.bl false)) List.nodup_nil (fun _ m => nomatch m))⟩
  · cases e
theorem p_orV (ha : EvP K n as ta da) (hb : EvP K n as tb db) : EvP K n as (tOrV ta tb) (dOrV da db) := by
  intro F H σ E fp L R r e Q q
  unfold dOrV at e
  split at e
  · next ea =>
    refine ha L R ea fun x F1 H1 f1 g1 r1 n1 o1 => ?_
    cases (Own.dat_inv (show Own K F1 H1 x _ f1 from r1) rfl).1
    exact ⟨false, rfl, iteF (hb L (R.grow g1) e fun v F2 H2 f2 g2 a2 n2 o2 => q v F2 H2 f2 (g1.drop.seq0 g2) a2 n2 o2)⟩
  · next ea =>
    cases e
    refine ha L R ea fun x F1 H1 f1 g1 r1 n1 o1 => ?_
    cases (Own.dat_inv (show Own K F1 H1 x _ f1 from r1) rfl).1
    exact ⟨true, rfl, iteT (q _ F1 H1 [] g1.drop (.dat (.bl true)) List.nodup_nil (fun _ m => nomatch m))⟩
  · cases e
theorem p_notV (ha : EvP K n as ta da) : EvP K n as (tNotV ta) (dNotV da) := by
  intro F H σ E fp L R r e Q q
  unfold dNotV at e
  split at e
  · next b ea =>
    cases e
    refine ha L R ea fun x F1 H1 f1 g1 r1 n1 o1 => ?_
    cases (Own.dat_inv (show Own K F1 H1 x _ f1 from r1) rfl).1
    exact ⟨b, rfl, q _ F1 H1 [] g1.drop (.dat (.bl _)) List.nodup_nil (fun _ m => nomatch m)⟩
  · cases e
def dChain (f g : PyData → PyData → Option PyData) (da db dc : En → Option Rs) (E : En) : Option Rs := match da E, db E, dc E with
  | some a, some b, some c => match a.full E, b.full E, c.full E with
    | some a, some b, some c => match f a b, g b c with
      | some (.bool k), some (.bool l) => some (.val (.dat (.bool (k && l))))
      | _, _ => none
    | _, _, _ => none
  | _, _, _ => none
theorem p_chain {r r' : R2} {f g : PyData → PyData → Option PyData} (hr : Rv2 K r f) (hr' : Rv2 K r' g) (ha : EvP K n as ta da) (hb : EvP K n as tb db) (hc : EvP K n as tc dc) : EvP K n as (tChain r r' ta tb tc) (dChain f g da db dc) := by
  intro F H σ E fp L R r0 e Q q
  unfold dChain at e
  split at e
  · next a b c ea eb ec =>
    split at e
    · next a' b' c' ea' eb' ec' =>
      split at e
      · next k l ek el =>
        cases e
        refine ha L R ea fun x F1 H1 f1 g1 r1 n1 o1 => hb L (R.grow g1) eb fun y F2 H2 f2 g2 r2 n2 o2 => ?_
        have R2 := (R.grow g1).grow g2
        refine hr ((r1.grow (R.grow g1) g2).dp R2 ea') (r2.dp R2 eb') ek fun _ => ?_
        refine ⟨k, rfl, ?_⟩
        cases k with
        | true =>
          refine iteT (hc L R2 ec fun z F3 H3 f3 g3 r3 n3 o3 => ?_)
          have R3 := R2.grow g3
          refine hr' ((r2.grow R2 g3).dp R3 eb') (r3.dp R3 ec') el fun _ => ?_
          exact q _ F3 H3 [] ((g1.seq0 g2).drop.seq0 g3).drop (.dat (.bl _)) List.nodup_nil (fun _ m => nomatch m)
        | false => exact iteF (q _ F2 H2 [] (g1.seq0 g2).drop (.dat (.bl false)) List.nodup_nil (fun _ m => nomatch m))
      · cases e
    · cases e
  · cases e
end Mv
/-! Expressions with effects; statements; a def by its body -/
namespace Mv
open PySem PySem.Spec PyProof.Rows L2
variable {K : PySem.W.Frag} {F F' F1 F2 H H' H1 H2 : Hp} {v u x y : V} {vs : List V} {s t : S} {ss : List S} {fp fq fr fp' fp1 fp2 f1 f2 : List Addr} {ρ as : Ro} {E E' : En} {n : Nat}
variable {W : Value → Option Addr → L2.St → Hp → Prop} {te ta tb tc : TE} {d da db dc : En → Option Rs} {tr : TA} {dr : En → Option (List Rs)} {tt : TT} {dt : En → Option Bool}

def EvE (K : PySem.W.Frag) (n : Nat) (as : Ro) (te : TE) (d : En → Option (S × En)) : Prop :=
  ∀ {F H : Hp} {σ : L2.St} {E : En} {fp : List Addr}, σ.length = n → Rep K F H (σ ++ as) E fp → ∀ {s : S} {E' : En}, d E = some (s, E') → ∀ {Q : VK},
    (∀ v F' H' fr fp', Grow F H fp F' H' (fr ++ fp') → Rep K F' H' (σ ++ as) E' fp' → Own K F' H' v s fr → (fr ++ fp').Nodup → (∀ a ∈ fr, F' a = none) → Q v H') → te σ H Q
def EvTE (K : PySem.W.Frag) (n : Nat) (as : Ro) (tt : TT) (d : En → Option (Bool × En)) : Prop :=
  ∀ {F H : Hp} {σ : L2.St} {E : En} {fp : List Addr}, σ.length = n → Rep K F H (σ ++ as) E fp → ∀ {b : Bool} {E' : En}, d E = some (b, E') → ∀ {Q : Bool → Hp → Prop},
    (∀ F' H' fp', Grow F H fp F' H' fp' → Rep K F' H' (σ ++ as) E' fp' → Q b H') → tt σ H Q
abbrev WXm := Value → Option Addr → L2.St → Hp → Prop
inductive Out where
  | nx (E : En)
  | rt (s : S) (E : En)
  | bk (E : En)
  | ct (E : En)
  | ex (c : Nat) (E : En)
def Out.go (K : PySem.W.Frag) (n : Nat) (as : Ro) (W : WXm) (F H : Hp) (fp : List Addr) (D : Ends) : Out → Prop
  | .nx E' => ∀ (σ' : L2.St) F' H' fp', σ'.length = n → Grow F H fp F' H' fp' → Rep K F' H' (σ' ++ as) E' fp' → D.nx σ' H'
  | .bk E' => ∀ (σ' : L2.St) F' H' fp', σ'.length = n → Grow F H fp F' H' fp' → Rep K F' H' (σ' ++ as) E' fp' → D.bk σ' H'
  | .ct E' => ∀ (σ' : L2.St) F' H' fp', σ'.length = n → Grow F H fp F' H' fp' → Rep K F' H' (σ' ++ as) E' fp' → D.ct σ' H'
  | .ex c E' => ∀ (C : Addr) (σ' : L2.St) F' H' fp', clsOf K c C → σ'.length = n → Grow F H fp F' H' fp' → Rep K F' H' (σ' ++ as) E' fp' → W (.ref C) none σ' H'
  | .rt s E' => ∀ v (σ' : L2.St) F' H' fr fp', σ'.length = n → Grow F H fp F' H' (fr ++ fp') → Rep K F' H' (σ' ++ as) E' fp' → Own K F' H' v s fr → (fr ++ fp').Nodup → (∀ a ∈ fr, F' a = none) → D.rt v H'
theorem Out.go.grow {o : Out} {D : Ends} (h : o.go K n as W F H fp D) (g : Grow F H fp F1 H1 fp1) : o.go K n as W F1 H1 fp1 D := by
  cases o with
  | rt s E' => exact fun v σ' F' H' fr fp' L g' R o nd of => h v σ' F' H' fr fp' L (g.trans g') R o nd of
  | ex c E' => exact fun C σ' F' H' fp' hC L g' R => h C σ' F' H' fp' hC L (g.trans g') R
  | _ => exact fun σ' F' H' fp' L g' R => h σ' F' H' fp' L (g.trans g') R
def EvS (K : PySem.W.Frag) (n : Nat) (as : Ro) (W : WXm) (ts : TS) (d : En → Option Out) : Prop :=
  ∀ {F H : Hp} {σ : L2.St} {E : En} {fp : List Addr}, σ.length = n → Rep K F H (σ ++ as) E fp → ∀ {o : Out}, d E = some o → ∀ {D : Ends}, o.go K n as W F H fp D → ts D σ H

/-! ### from the ones that change nothing -/
theorem Rep.apart_new (R : Rep K F H ρ E fp) (g : Grow F H [] F' H' fr) (nd : fr.Nodup) : (fr ++ fp).Nodup :=
  nodup_two nd R.nd fun a m b m2 e => by
    subst e
    obtain ⟨o, eo⟩ := R.there a m2
    rcases g.new a m with q | q
    · cases q
    · rw [eo] at q; cases q
theorem Grow.ours (g : Grow F H [] F' H' fr) (fp : List Addr) : Grow F H fp F' H' (fr ++ fp) :=
  g.wide (fun _ m => nomatch m) fun a m => by
    rcases List.mem_append.mp m with m | m
    · exact .inr ((g.new a m).elim (fun z => nomatch z) id)
    · exact .inl m
def ePure (d : En → Option Rs) (E : En) : Option (S × En) := match d E with
  | some (.val s) => some (s, E)
  | _ => none
theorem e_pure (h : EvP K n as te d) : EvE K n as te (ePure d) := by
  intro F H σ E fp L R s E' e Q q
  unfold ePure at e
  split at e
  · next t ed =>
    cases e
    exact h L R ed fun v F1 H1 fr g a nd of => q v F1 H1 fr fp (g.ours fp) (R.grow g) a (R.apart_new g nd) of
  · cases e
def ePureT (d : En → Option Bool) (E : En) : Option (Bool × En) := (d E).map (·, E)
theorem e_pureT (h : EvT K n as tt dt) : EvTE K n as tt (ePureT dt) := by
  intro F H σ E fp L R b E' e Q q
  obtain ⟨c, ec, e2⟩ := Option.map_eq_some_iff.mp e
  cases e2
  exact h L R ec fun F1 H1 g => q F1 H1 fp ((g.ours fp).less fun a m => List.mem_append_right _ m) (R.grow g)
variable {de df : En → Option (S × En)} {dte dtf : En → Option (Bool × En)} {uu : TT}
def eTest (d : En → Option (S × En)) (E : En) : Option (Bool × En) := match d E with
  | some (.dat (.bool b), E') => some (b, E')
  | _ => none
theorem e_test (h : EvE K n as te de) : EvTE K n as (tTest te) (eTest de) := by
  intro F H σ E fp L R b E' e Q q
  unfold eTest at e
  split at e
  · next c E2 ed =>
    cases e
    refine h L R ed fun v F1 H1 fr fp1 g R1 o nd of => ?_
    cases (o.dat_inv rfl).1
    exact ⟨b, rfl, q F1 H1 fp1 (g.less fun a m => List.mem_append_right _ m) R1⟩
  · cases e
theorem e_tB (h : EvE K n as te de) : EvTE K n as (tB te) (eTest de) := e_test h
def eAnd (dt du : En → Option (Bool × En)) (E : En) : Option (Bool × En) := match dt E with
  | some (true, E') => du E'
  | o => o
theorem e_and (ht : EvTE K n as tt dte) (hu : EvTE K n as uu dtf) : EvTE K n as (tAnd tt uu) (eAnd dte dtf) := by
  intro F H σ E fp L R b E' e Q q
  unfold eAnd at e
  cases h : dte E with
  | none => rw [h] at e; cases e
  | some c =>
    obtain ⟨c, E1⟩ := c
    rw [h] at e
    refine ht L R h fun F1 H1 fp1 g1 R1 => ?_
    cases c with
    | true => exact iteT (hu L R1 e fun F2 H2 fp2 g2 R2 => q F2 H2 fp2 (g1.trans g2) R2)
    | false =>
      cases e
      exact iteF (q F1 H1 fp1 g1 R1)
def eOr (dt du : En → Option (Bool × En)) (E : En) : Option (Bool × En) := match dt E with
  | some (false, E') => du E'
  | o => o
theorem e_or (ht : EvTE K n as tt dte) (hu : EvTE K n as uu dtf) : EvTE K n as (tOr tt uu) (eOr dte dtf) := by
  intro F H σ E fp L R b E' e Q q
  unfold eOr at e
  cases h : dte E with
  | none => rw [h] at e; cases e
  | some c =>
    obtain ⟨c, E1⟩ := c
    rw [h] at e
    refine ht L R h fun F1 H1 fp1 g1 R1 => ?_
    cases c with
    | false => exact iteF (hu L R1 e fun F2 H2 fp2 g2 R2 => q F2 H2 fp2 (g1.trans g2) R2)
    | true =>
      cases e
      exact iteT (q F1 H1 fp1 g1 R1)
def eNot (dt : En → Option (Bool × En)) (E : En) : Option (Bool × En) := (dt E).map fun p => (!p.1, p.2)
theorem e_not (ht : EvTE K n as tt dte) : EvTE K n as (tNot tt) (eNot dte) := by
  intro F H σ E fp L R b E' e Q q
  obtain ⟨c, h, e2⟩ := Option.map_eq_some_iff.mp e
  obtain ⟨c, E1⟩ := c
  cases e2
  exact ht L R h fun F1 H1 fp1 g1 R1 => q F1 H1 fp1 g1 R1

/-! ### a slot gets a value -/
def killHead (i : Nat) : Sl → Sl
  | .bor q => if q.head? = some i then .no else .bor q
  | e => e
def slotSet (E : En) (i : Nat) (e : Sl) : En := (E.map (killHead i)).set i e
theorem killHead_get {i : Nat} (E : En) (j : Nat) : (∀ s, (E.map (killHead i))[j]? = some (Sl.own s) ↔ E[j]? = some (Sl.own s)) := by
  intro s
  rw [List.getElem?_map]
  cases h : E[j]? with
  | none => simp
  | some sl => cases sl with
    | no => simp [killHead]
    | own t => simp [killHead]
    | bor q =>
      simp only [Option.map_some, killHead]
      split <;> simp
theorem rootS_killHead (i : Nat) : ∀ (ρ : Ro) (E : En), rootS ρ (E.map (killHead i)) = rootS ρ E
  | [], _ => by simp [rootS]
  | _ :: _, [] => rfl
  | v :: ρ, e :: E => by
    simp only [List.map_cons, rootS, rootS_killHead i ρ E]
    congr 1
    cases e with
    | no => rfl
    | own s => rfl
    | bor r => simp only [killHead]; split <;> rfl
theorem OwnL.replace : ∀ {vs : List V} {ss : List S} {fp : List Addr} {i : Nat} {v : V} {s : S} {fr : List Addr}, OwnL K F H vs ss fp → i < ss.length → Own K F H v s fr →
    ∃ fq f1 f2, OwnL K F H (vs.set i v) (ss.set i s) fq ∧ fq.Perm (fr ++ f2) ∧ fp.Perm (f1 ++ f2)
  | _, _, _, i, _, _, _, .nil, h, _ => by simp at h
  | _, _, _, 0, v, s, fr, .cons (fp := fpa) (fq := fpb) _ t, _, o => ⟨fr ++ fpb, fpa, fpb, .cons o t, List.Perm.refl _, List.Perm.refl _⟩
  | _, _, _, i + 1, v, s, fr, .cons (fp := fpa) h t, l, o => by
    obtain ⟨fq, f1, f2, a, b, c⟩ := OwnL.replace (i := i) t (by simpa using l) o
    refine ⟨fpa ++ fq, f1, fpa ++ f2, .cons h a, ?_, ?_⟩
    · refine (List.Perm.append_left fpa b).trans ?_
      rw [← List.append_assoc, ← List.append_assoc]
      exact List.Perm.append_right _ List.perm_append_comm
    · refine (List.Perm.append_left fpa c).trans ?_
      rw [← List.append_assoc, ← List.append_assoc]
      exact List.Perm.append_right _ List.perm_append_comm
theorem rootS_len : ∀ {ρ : Ro} {E : En}, E.length = ρ.length → (rootS ρ E).length = ρ.length
  | [], [], _ => rfl
  | [], _ :: _, h => by simp at h
  | _ :: _, [], h => by simp at h
  | _ :: ρ, _ :: E, h => by simp only [rootS, List.length_cons, rootS_len (ρ := ρ) (E := E) (by simpa using h)]
theorem rootS_set2 : ∀ {ρ : Ro} {E : En} {i : Nat} {v : Option V} {e : Sl}, E.length = ρ.length → rootS (ρ.set i v) (E.set i e) = (rootS ρ E).set i (slS v e)
  | [], [], _, _, _, _ => by simp [rootS]
  | [], _ :: _, _, _, _, h => by simp at h
  | _ :: _, [], _, _, _, h => by simp at h
  | _ :: ρ, _ :: E, 0, _, _, _ => rfl
  | _ :: ρ, _ :: E, i + 1, v, e, h => by simp only [rootS, List.set_cons_succ, rootS_set2 (ρ := ρ) (E := E) (by simpa using h)]
theorem followE_set {i : Nat} {w : Option V} {q : List Nat} (h : q.head? ≠ some i) : followE H (ρ.set i w) q = followE H ρ q := by
  cases q with
  | nil => rfl
  | cons j q =>
    have : i ≠ j := fun e => h (by rw [e]; rfl)
    simp only [followE, List.getElem?_set_ne this]
theorem eget_set {i : Nat} {e : Sl} {q : List Nat} (h : q.head? ≠ some i) : eget (slotSet E i e) q = eget E q := by
  cases q with
  | nil => rfl
  | cons j q =>
    have ij : i ≠ j := fun e => h (by rw [e]; rfl)
    unfold slotSet
    simp only [eget, List.getElem?_set_ne ij]
    cases hE : E[j]? with
    | none => simp [List.getElem?_map, hE]
    | some sl => cases sl with
      | no => simp [List.getElem?_map, hE, killHead]
      | own s => simp [List.getElem?_map, hE, killHead]
      | bor r =>
        by_cases hr : r.head? = some i
        · simp [List.getElem?_map, hE, killHead, hr]
        · simp [List.getElem?_map, hE, killHead, hr]
/-- what a slot may get: a value of its own, or a place that isn't its own one -/
def SlOk (K : PySem.W.Frag) (F H : Hp) (ρ : Ro) (E : En) (i : Nat) (v : V) : Sl → List Addr → Prop
  | .own s, fr => Own K F H v s fr
  | .bor p, fr => fr = [] ∧ p.head? ≠ some i ∧ followE H ρ p = some v ∧ (eget E p).isSome = true
  | .no, fr => fr = []
theorem Rep.setSlot {i : Nat} {e : Sl} (R : Rep K F H ρ E fp) (hi : i < ρ.length) (o : SlOk K F H ρ E i v e fr) (nd : (fr ++ fp).Nodup) (of : ∀ a ∈ fr, F a = none) :
    ∃ fq, Rep K F H (ρ.set i (some v)) (slotSet E i e) fq ∧ ∀ a ∈ fq, a ∈ fr ++ fp := by
  obtain ⟨f, l, pm⟩ := R.core.own
  have hl : i < (rootS ρ E).length := by rw [rootS_len R.core.len]; exact hi
  have oo : Own K F H v (slS (some v) e) fr := by
    cases e with
    | own s => exact o
    | bor p => rw [show fr = [] from o.1]; exact .con
    | no => rw [show fr = [] from o]; exact .con
  obtain ⟨fq, g1, g2, l2, p1, p2⟩ := l.replace hl oo
  have sub : ∀ a ∈ fq, a ∈ fr ++ fp := fun a m => by
    rcases List.mem_append.mp (p1.mem_iff.mp m) with m | m
    · exact List.mem_append_left _ m
    · exact List.mem_append_right _ (pm.mem_iff.mpr (p2.mem_iff.mpr (List.mem_append_right _ m)))
  have ndq : fq.Nodup := by
    refine p1.nodup_iff.mpr ?_
    have n1 : (fr ++ (g1 ++ g2)).Nodup := ((List.Perm.append_left fr (pm.trans p2)).nodup_iff).mp nd
    refine List.nodup_append.mpr ⟨(List.nodup_append.mp n1).1, (List.nodup_append.mp (List.nodup_append.mp n1).2.1).2.1, fun a m b m2 => (List.nodup_append.mp n1).2.2 a m b (List.mem_append_right _ m2)⟩
  have hE : i < E.length := by rw [R.core.len]; exact hi
  refine ⟨fq, ⟨⟨by unfold slotSet; rw [List.length_set, List.length_map, List.length_set]; exact R.core.len, ⟨fq, ?_, List.Perm.refl _⟩, fun j w hj => ?_⟩, R.sub, ndq, fun a m => ?_, fun j p hb => ?_⟩, sub⟩
  · unfold slotSet
    rw [rootS_set2 (by rw [List.length_map]; exact R.core.len), rootS_killHead]
    have : rootV (ρ.set i (some v)) = (rootV ρ).set i v := by unfold rootV; rw [List.map_set]; rfl
    rw [this]
    exact l2
  · by_cases ij : i = j
    · subst ij; exact ⟨v, by rw [List.getElem?_set_self hi]⟩
    · unfold slotSet at hj
      rw [List.getElem?_set_ne ij] at hj
      rw [List.getElem?_set_ne ij]
      exact R.core.set j w ((killHead_get E j w).mp hj)
  · rcases List.mem_append.mp (sub a m) with m | m
    · exact of a m
    · exact R.off a m
  · by_cases ij : i = j
    · subst ij
      unfold slotSet at hb
      rw [List.getElem?_set_self (by rw [List.length_map]; exact hE)] at hb
      cases hb
      obtain ⟨_, h1, h2, h3⟩ := o
      exact ⟨v, by rw [List.getElem?_set_self hi], by rw [followE_set h1]; exact h2, by rw [eget_set h1]; exact h3⟩
    · unfold slotSet at hb
      rw [List.getElem?_set_ne ij, List.getElem?_map] at hb
      cases hE2 : E[j]? with
      | none => rw [hE2] at hb; cases hb
      | some sl =>
        rw [hE2] at hb
        cases sl with
        | no => cases hb
        | own w => cases hb
        | bor q =>
          simp only [Option.map_some, killHead, Option.some.injEq] at hb
          by_cases hq : q.head? = some i
          · rw [if_pos hq] at hb; cases hb
          · rw [if_neg hq] at hb
            cases hb
            obtain ⟨w, e1, e2, e3⟩ := R.bor j _ hE2
            exact ⟨w, by rw [List.getElem?_set_ne ij]; exact e1, by rw [followE_set hq]; exact e2, by rw [eget_set hq]; exact e3⟩

/-! ### statements -/
variable {t1 t2 : TS} {d1 d2 : En → Option Out} {i : Nat}
def dSeq (d1 d2 : En → Option Out) (E : En) : Option Out := match d1 E with
  | some (.nx E1) => d2 E1
  | o => o
theorem s_seq (h1 : EvS K n as W t1 d1) (h2 : EvS K n as W t2 d2) : EvS K n as W (tSeq t1 t2) (dSeq d1 d2) := by
  intro F H σ E fp L R o e D g
  unfold dSeq at e
  cases h : d1 E with
  | none => rw [h] at e; cases e
  | some o1 =>
    rw [h] at e
    refine h1 L R h ?_
    cases o1 with
    | nx E1 => exact fun σ' F' H' fp' L' g' R' => h2 L' R' e (g.grow g')
    | rt s E1 => cases e; exact g
    | bk E1 => cases e; exact g
    | ct E1 => cases e; exact g
    | ex c E1 => cases e; exact g
def dNext (E : En) : Option Out := some (.nx E)
theorem s_next : EvS K n as W tNext dNext := by
  intro F H σ E fp L R o e D g
  cases e
  exact g σ F H fp L (.refl R.sub fp) R
def dBrk (E : En) : Option Out := some (.bk E)
theorem s_brk : EvS K n as W tBreak dBrk := by
  intro F H σ E fp L R o e D g
  cases e
  exact g σ F H fp L (.refl R.sub fp) R
def dCnt (E : En) : Option Out := some (.ct E)
theorem s_cont : EvS K n as W tCont dCnt := by
  intro F H σ E fp L R o e D g
  cases e
  exact g σ F H fp L (.refl R.sub fp) R
def dNever (_ : En) : Option Out := none
theorem s_never : EvS K n as W tNever dNever := by
  intro F H σ E fp L R o e D g
  cases e
def dSet (i : Nat) (d : En → Option (S × En)) (E : En) : Option Out := match d E with
  | some (s, E') => some (.nx (slotSet E' i (.own s)))
  | none => none
theorem set_app {σ : L2.St} {w : Option V} (h : i < σ.length) : (σ.set i w) ++ as = (σ ++ as).set i w := by
  rw [List.set_append_left _ _ h]
theorem s_set (hi : i < n) (h : EvE K n as te de) : EvS K n as W (tAsg te (gName i)) (dSet i de) := by
  intro F H σ E fp L R o e D g
  unfold dSet at e
  split at e
  · next s E' ed =>
    cases e
    refine h L R ed fun v F1 H1 fr fp1 g1 R1 ow nd of => ?_
    have hl : i < (σ ++ as).length := by rw [List.length_append]; omega
    obtain ⟨fq, R2, sb⟩ := R1.setSlot (e := .own s) hl ow nd of
    exact g (σ.set i (some v)) F1 H1 fq (by rw [List.length_set]; exact L) (g1.less sb) (by rw [set_app (by omega)]; exact R2)
  · cases e
/-- x = (a place): the slot tells it from then on -/
def dAlias (i : Nat) (d : En → Option Rs) (E : En) : Option Out := match d E with
  | some (.val s) => some (.nx (slotSet E i (.own s)))
  | some (.pl p) => if p.head? = some i then none else some (.nx (slotSet E i (.bor p)))
  | none => none
theorem s_alias (hi : i < n) (h : EvP K n as te d) : EvS K n as W (tAsg te (gName i)) (dAlias i d) := by
  intro F H σ E fp L R o e D g
  unfold dAlias at e
  have hl : i < (σ ++ as).length := by rw [List.length_append]; omega
  split at e
  · next s ed =>
    cases e
    refine h L R ed fun v F1 H1 fr g1 a nd of => ?_
    obtain ⟨fq, R2, sb⟩ := (R.grow g1).setSlot (e := .own s) hl a (R.apart_new g1 nd) of
    exact g (σ.set i (some v)) F1 H1 fq (by rw [List.length_set]; exact L) ((g1.ours fp).less sb) (by rw [set_app (by omega)]; exact R2)
  · next p ed =>
    split at e
    · cases e
    · next hp =>
      cases e
      refine h L R ed fun v F1 H1 fr g1 a nd of => ?_
      obtain ⟨a1, a2, a3⟩ := a
      subst a1
      obtain ⟨fq, R2, sb⟩ := (R.grow g1).setSlot (e := .bor p) (fr := []) hl ⟨rfl, hp, a2, a3⟩ (R.apart_new g1 nd) (fun _ m => nomatch m)
      exact g (σ.set i (some v)) F1 H1 fq (by rw [List.length_set]; exact L) ((g1.ours fp).less sb) (by rw [set_app (by omega)]; exact R2)
  · cases e
def dRet (d : En → Option (S × En)) (E : En) : Option Out := match d E with
  | some (s, E') => some (.rt s E')
  | none => none
theorem s_ret (h : EvE K n as te de) : EvS K n as W (tRet te) (dRet de) := by
  intro F H σ E fp L R o e D g
  unfold dRet at e
  split at e
  · next s E' ed =>
    cases e
    exact h L R ed fun v F1 H1 fr fp1 g1 R1 ow nd of => g v σ F1 H1 fr fp1 L g1 R1 ow nd of
  · cases e
def dRetN (E : En) : Option Out := some (.rt (.dat .none) E)
theorem s_retN : EvS K n as W tRetN dRetN := by
  intro F H σ E fp L R o e D g
  cases e
  exact g .non σ F H [] fp L (.refl R.sub fp) R (.dat .non) R.nd (fun _ m => nomatch m)
def dDrop (d : En → Option (S × En)) (E : En) : Option Out := match d E with
  | some (_, E') => some (.nx E')
  | none => none
theorem s_drop (h : EvE K n as te de) : EvS K n as W (tDrop te) (dDrop de) := by
  intro F H σ E fp L R o e D g
  unfold dDrop at e
  split at e
  · next s E' ed =>
    cases e
    exact h L R ed fun v F1 H1 fr fp1 g1 R1 ow nd of => g σ F1 H1 fp1 L (g1.less fun a m => List.mem_append_right _ m) R1
  · cases e
def dIf (dt : En → Option (Bool × En)) (d1 d2 : En → Option Out) (E : En) : Option Out := match dt E with
  | some (true, E') => d1 E'
  | some (false, E') => d2 E'
  | none => none
theorem s_if (ht : EvTE K n as tt dte) (h1 : EvS K n as W t1 d1) (h2 : EvS K n as W t2 d2) : EvS K n as W (tIfS tt t1 t2) (dIf dte d1 d2) := by
  intro F H σ E fp L R o e D g
  unfold dIf at e
  split at e
  · next E' et => exact ht L R et fun F1 H1 fp1 g1 R1 => iteT (h1 L R1 e (g.grow g1))
  · next E' et => exact ht L R et fun F1 H1 fp1 g1 R1 => iteF (h2 L R1 e (g.grow g1))
  · cases e
def dAug (i : Nat) (f : PyData → PyData → Option PyData) (d : En → Option Rs) (E : En) : Option Out := match E[i]?, d E with
  | some (.own (.dat a)), some r => match r.full E with
    | some b => match f a b with
      | some c => some (.nx (slotSet E i (.own (.dat c))))
      | none => none
    | none => none
  | _, _ => none
theorem s_aug {ti : TIp} {f : PyData → PyData → Option PyData} (hi : i < n) (ht : Rv2 K ti f) (h : EvP K n as te d) : EvS K n as W (tAug i te ti) (dAug i f d) := by
  intro F H σ E fp L R o e D g
  unfold dAug at e
  have hl : i < (σ ++ as).length := by rw [List.length_append]; omega
  split at e
  · next a r ea er =>
    split at e
    · next b eb =>
      split at e
      · next c ec =>
        cases e
        obtain ⟨w, hw⟩ := R.core.set i _ ea
        have hw' : σ[i]? = some (some w) := by rwa [List.getElem?_append_left (by omega)] at hw
        refine ⟨w, hw', h L R er fun v F1 H1 fr g1 rr nd of => ?_⟩
        have R1 := R.grow g1
        have ge : eget E [i] = some (.dat a) := by simp only [eget, ea, S.get_nil]
        obtain ⟨u, k1, k2, e1, ow, _⟩ := R1.core.take ge
        have eu : u = w := by simp only [followE, hw, follow_nil] at e1; exact (Option.some.inj e1).symm
        subst eu
        refine ht (Dq.mono R1.sub (ow.dat_inv rfl).1) (rr.dp R1 eb) ec fun hc => ?_
        obtain ⟨fq, R2, sb⟩ := R1.setSlot (e := .own (.dat c)) (v := scV c) (fr := []) hl (.dat (scV_dp hc)) R1.nd (fun _ m => nomatch m)
        exact g (σ.set i (some (scV c))) F1 H1 fq (by rw [List.length_set]; exact L) ((g1.ours fp).less fun a m => List.mem_append_right _ (by simpa using sb a m)) (by rw [set_app (by omega)]; exact R2)
      · cases e
    · cases e
  · cases e
end Mv
/-! A def by its body, its call -/
namespace Mv
open PySem PySem.Spec PyProof.Rows L2
variable {K : PySem.W.Frag} {F F' F1 F2 H H' H1 H2 : Hp} {v u x y : V} {vs ws : List V} {s t : S} {ss tts : List S} {fp fq fr fp' fp1 fp2 f1 f2 : List Addr} {ρ as : Ro} {E E' : En} {n : Nat}
variable {te ta tb tc : TE} {d da db dc : En → Option Rs} {tr : TA} {dr : En → Option (List Rs)} {tt : TT} {dt : En → Option Bool}

/-- what a def promises: g tells its answer and what its arguments are then -/
def spMv (K : PySem.W.Frag) (m : Nat) (g : List S → Option (S × List S)) : Sp := fun vs H Q _ => vs.length = m ∧ ∃ F ss fp s ss', (∀ a o, F a = some o → H a = some o) ∧ OwnL K F H vs ss fp ∧ fp.Nodup ∧ (∀ a ∈ fp, F a = none) ∧ g ss = some (s, ss') ∧
  ∀ v F' H' fr fp', Grow F H fp F' H' (fr ++ fp') → OwnL K F' H' vs ss' fp' → Own K F' H' v s fr → (fr ++ fp').Nodup → (∀ a ∈ fr ++ fp', F' a = none) → Q v H'

def parSl (n j : Nat) : S → Sl
  | .dat d => .own (.dat d)
  | .con v => .own (.con v)
  | _ => .bor [n + j]
def parSls (n : Nat) : Nat → List S → En
  | _, [] => []
  | j, s :: ss => parSl n j s :: parSls n (j + 1) ss
/-- the environment at a def's entry: n names, the parameters first -/
def entry (n : Nat) (ss : List S) : En := parSls n 0 ss ++ List.replicate (n - ss.length) .no ++ ss.map Sl.own
def ownSs : En → Option (List S)
  | [] => some []
  | .own s :: E => (ownSs E).map (s :: ·)
  | _ :: _ => none
/-- a def's worth, by what its body comes to -/
def fnG (n : Nat) (d : En → Option Out) (ss : List S) : Option (S × List S) := match d (entry n ss) with
  | some (.rt s E) => (ownSs (E.drop n)).map (s, ·)
  | some (.nx E) => (ownSs (E.drop n)).map (.dat .none, ·)
  | _ => none

theorem OwnL.split : ∀ {vs ws : List V} {ss tts : List S} {fp : List Addr}, vs.length = ss.length → OwnL K F H (vs ++ ws) (ss ++ tts) fp → ∃ f1 f2, fp = f1 ++ f2 ∧ OwnL K F H vs ss f1 ∧ OwnL K F H ws tts f2
  | [], ws, [], tts, fp, _, o => ⟨[], fp, rfl, .nil, o⟩
  | [], _, _ :: _, _, _, h, _ => by simp at h
  | _ :: _, _, [], _, _, h, _ => by simp at h
  | v :: vs, ws, s :: ss, tts, fp, h, o => by
    rw [List.cons_append, List.cons_append] at o
    cases o with
    | @cons _ _ _ _ fa fb a l =>
      obtain ⟨f1, f2, rfl, l1, l2⟩ := OwnL.split (by simpa using h) l
      exact ⟨fa ++ f1, f2, by rw [List.append_assoc], .cons a l1, l2⟩
theorem parSls_len (n : Nat) : ∀ (j : Nat) (ss : List S), (parSls n j ss).length = ss.length
  | _, [] => rfl
  | j, s :: ss => by simp only [parSls, List.length_cons, parSls_len n (j + 1) ss]
theorem parSls_get (n : Nat) : ∀ (j : Nat) (ss : List S) (i : Nat), (parSls n j ss)[i]? = (ss[i]?).map (parSl n (j + i))
  | _, [], _ => by simp [parSls]
  | j, s :: ss, 0 => by simp [parSls]
  | j, s :: ss, i + 1 => by
    simp only [parSls, List.getElem?_cons_succ, parSls_get n (j + 1) ss i]
    rw [show j + 1 + i = j + (i + 1) by omega]
theorem rootS_app : ∀ {ρ ρ2 : Ro} {E E2 : En}, E.length = ρ.length → rootS (ρ ++ ρ2) (E ++ E2) = rootS ρ E ++ rootS ρ2 E2
  | [], _, [], _, _ => rfl
  | [], _, _ :: _, _, h => by simp at h
  | _ :: _, _, [], _, h => by simp at h
  | v :: ρ, ρ2, e :: E, E2, h => by simp only [List.cons_append, rootS, rootS_app (ρ := ρ) (E := E) (by simpa using h)]
theorem rootS_own : ∀ {vs : List V} {ss : List S}, vs.length = ss.length → rootS (vs.map some) (ss.map Sl.own) = ss
  | [], [], _ => rfl
  | [], _ :: _, h => by simp at h
  | _ :: _, [], h => by simp at h
  | v :: vs, s :: ss, h => by simp only [List.map_cons, rootS, slS, rootS_own (vs := vs) (ss := ss) (by simpa using h)]
theorem rootS_no : ∀ (k : Nat), OwnL K F H (rootV (List.replicate k none)) (rootS (List.replicate k none) (List.replicate k .no)) []
  | 0 => .nil
  | k + 1 => by
    simp only [List.replicate_succ, rootV, List.map_cons, rootS, slS]
    exact .cons (fp := []) .con (rootS_no k)
theorem rootS_par (n : Nat) : ∀ {vs : List V} {ss : List S} {fp : List Addr} (j : Nat), OwnL K F H vs ss fp → OwnL K F H (rootV (vs.map some)) (rootS (vs.map some) (parSls n j ss)) []
  | _, _, _, _, .nil => .nil
  | v :: vs, s :: ss, _, j, .cons a l => by
    simp only [List.map_cons, parSls, rootS, rootV]
    refine .cons (fp := []) ?_ (rootS_par n (j + 1) l)
    cases s with
    | dat d => exact .dat (a.dat_inv rfl).1
    | con w =>
      obtain ⟨rfl, _⟩ := a.con_inv rfl
      exact .con
    | _ => exact .con
theorem rootV_app (ρ ρ2 : Ro) : rootV (ρ ++ ρ2) = rootV ρ ++ rootV ρ2 := by unfold rootV; exact List.map_append
theorem rootV_some (vs : List V) : rootV (vs.map some) = vs := by
  unfold rootV
  rw [List.map_map]
  exact List.map_id _
theorem start_eq (N : List Str) (vs : List V) : start N vs = vs.map some ++ List.replicate (N.length - vs.length) none := rfl

theorem Rep.entry {N : List Str} (sub : ∀ a o, F a = some o → H a = some o) (l : OwnL K F H vs ss fp) (nd : fp.Nodup) (of : ∀ a ∈ fp, F a = none) (hn : vs.length ≤ N.length) :
    Rep K F H (start N vs ++ vs.map some) (Mv.entry N.length ss) fp := by
  have len := l.length
  have hL : (parSls N.length 0 ss ++ List.replicate (N.length - ss.length) Sl.no).length = (vs.map some ++ List.replicate (N.length - vs.length) (none : Option V)).length := by
    rw [List.length_append, List.length_append, parSls_len, List.length_replicate, List.length_map, List.length_replicate, len]
  have hall : (Mv.entry N.length ss).length = (start N vs ++ vs.map some).length := by
    unfold Mv.entry
    rw [List.length_append, hL, start_eq, List.length_append (as := _ ++ _), List.length_map, List.length_map, len]
  have own : OwnL K F H (rootV (start N vs ++ vs.map some)) (rootS (start N vs ++ vs.map some) (Mv.entry N.length ss)) fp := by
    unfold Mv.entry
    rw [← len] at hL ⊢
    rw [start_eq, rootS_app hL, rootS_app (by rw [parSls_len, List.length_map, len]), rootV_app, rootV_app, rootS_own len, rootV_some vs]
    have h1 := rootS_par N.length 0 l
    rw [rootV_some] at h1
    have h2 := rootS_no (K := K) (F := F) (H := H) (N.length - vs.length)
    have := (h1.append h2).append l
    simpa using this
  have hp : ∀ (i : Nat) (e : Sl), (Mv.entry N.length ss)[i]? = some e → (∃ s, ss[i]? = some s ∧ e = parSl N.length i s ∧ i < ss.length) ∨ (e = .no) ∨ (∃ j s, i = N.length + j ∧ ss[j]? = some s ∧ e = .own s) := by
    intro i e h
    unfold Mv.entry at h
    by_cases h1 : i < ss.length
    · rw [List.append_assoc, List.getElem?_append_left (by rw [parSls_len]; exact h1), parSls_get] at h
      obtain ⟨s, hs, rfl⟩ := Option.map_eq_some_iff.mp h
      exact .inl ⟨s, hs, by rw [Nat.zero_add], h1⟩
    · by_cases h2 : i < N.length
      · rw [List.getElem?_append_left (by rw [List.length_append, parSls_len, List.length_replicate]; omega), List.getElem?_append_right (by rw [parSls_len]; omega), List.getElem?_replicate] at h
        split at h
        · cases h; exact .inr (.inl rfl)
        · cases h
      · rw [List.getElem?_append_right (by rw [List.length_append, parSls_len, List.length_replicate]; omega), List.length_append, parSls_len, List.length_replicate] at h
        rw [List.getElem?_map] at h
        obtain ⟨s, hs, rfl⟩ := Option.map_eq_some_iff.mp h
        exact .inr (.inr ⟨_, s, by omega, hs, rfl⟩)
  have argv : ∀ (j : Nat) (w : V), vs[j]? = some w → (start N vs ++ vs.map some)[N.length + j]? = some (some w) := by
    intro j w h
    rw [start_eq, List.getElem?_append_right (by rw [List.length_append, List.length_map, List.length_replicate]; omega), List.length_append, List.length_map, List.length_replicate, List.getElem?_map]
    rw [show N.length + j - (vs.length + (N.length - vs.length)) = j by omega, h]; rfl
  have parv : ∀ (i : Nat) (w : V), vs[i]? = some w → (start N vs ++ vs.map some)[i]? = some (some w) := by
    intro i w h
    have hi := (List.getElem?_eq_some_iff.mp h).1
    rw [start_eq, List.append_assoc, List.getElem?_append_left (by rw [List.length_map]; exact hi), List.getElem?_map, h]; rfl
  refine ⟨⟨hall, ⟨fp, own, List.Perm.refl _⟩, fun i s h => ?_⟩, sub, nd, of, fun i p h => ?_⟩
  · rcases hp i _ h with ⟨t, ht, _, hi⟩ | e | ⟨j, t, rfl, ht, _⟩
    · exact ⟨vs[i], parv i _ (List.getElem?_eq_getElem (by rw [len]; exact hi))⟩
    · cases e
    · have hj := (List.getElem?_eq_some_iff.mp ht).1
      exact ⟨vs[j], argv j _ (List.getElem?_eq_getElem (by rw [len]; exact hj))⟩
  · rcases hp i _ h with ⟨t, ht, e, hi⟩ | e | ⟨j, t, rfl, ht, e⟩
    · have hv : vs[i]? = some vs[i] := List.getElem?_eq_getElem (by rw [len]; exact hi)
      have hq : p = [N.length + i] := by
        cases t <;> first | cases e; rfl | cases e
      subst hq
      have g : (Mv.entry N.length ss)[N.length + i]? = some (Sl.own t) := by
        unfold Mv.entry
        rw [List.getElem?_append_right (by rw [List.length_append, parSls_len, List.length_replicate]; omega), List.length_append, parSls_len, List.length_replicate, List.getElem?_map]
        rw [show N.length + i - (ss.length + (N.length - ss.length)) = i by omega, ht]; rfl
      exact ⟨vs[i], parv i _ hv, by simp only [followE, argv i _ hv, follow_nil], by simp only [eget, g, S.get_nil]; rfl⟩
    · cases e
    · cases e
theorem ownSs_eq : ∀ {E : En} {ss : List S}, ownSs E = some ss → E = ss.map Sl.own
  | [], ss, h => by cases h; rfl
  | .own s :: E, ss, h => by
    simp only [ownSs] at h
    obtain ⟨r, hr, rfl⟩ := Option.map_eq_some_iff.mp h
    rw [List.map_cons, ← ownSs_eq hr]
  | .no :: E, ss, h => by cases h
  | .bor p :: E, ss, h => by cases h
/-- the arguments, as they are at the end -/
theorem Rep.args {σ : L2.St} (R : Rep K F H (σ ++ vs.map some) E fp) (L : σ.length = n) (h : ownSs (E.drop n) = some ss) : ∃ fq, OwnL K F H vs ss fq ∧ fq.Nodup ∧ ∀ a ∈ fq, a ∈ fp := by
  obtain ⟨f, l, pm⟩ := R.core.own
  have e := ownSs_eq h
  have hlen : E.length = n + vs.length := by rw [R.core.len, List.length_append, L, List.length_map]
  have hE : E = E.take n ++ ss.map Sl.own := by rw [← e, List.take_append_drop]
  have hl2 : vs.length = ss.length := by
    have := congrArg List.length e
    rw [List.length_drop, List.length_map] at this
    omega
  have ht : (E.take n).length = σ.length := by rw [List.length_take]; omega
  rw [hE, rootS_app ht, rootV_app, rootS_own hl2, rootV_some] at l
  obtain ⟨g1, g2, rfl, l1, l2⟩ := l.split (by rw [rootS_len ht]; unfold rootV; rw [List.length_map])
  refine ⟨g2, l2, ?_, fun a m => pm.mem_iff.mpr (List.mem_append_right _ m)⟩
  exact (List.nodup_append.mp (pm.nodup_iff.mp R.nd)).2.1
section
variable {P : Program} {w : World} {mg : Str → Option Value} {base : Heap}
/-- A DEF OF THE TEXT keeps what its body comes to -/
theorem fn_mv {x qual : Str} {st : Stmt} {f : Addr} {fd : FuncData} {N ps : List Str} {k : Nat} {dd : En → Option Out} (Fn : Fun K x qual st f fd) (Sc : FnScope N ps (defScope st))
    (body : ∀ (cdv : Value) (A : Around) (outer : List Env) (s : Shared) (H : Hp) (E : XK) (as : Ro), Room k (A.deeper (envOfC qual (defScope st) s.heap.objs.size f cdv)) →
      ∃ t, PSs (cxOf CX0 P w K mg base N qual (defScope st) f cdv A outer s H E).nox (defBody st) t ∧ ∀ W, EvS K N.length as W t dd) :
    FnOk P w K mg base CX0 (k + 1) f fd ps (spMv K ps.length (fnG N.length dd)) := by
  have hps : ps.length ≤ N.length := by have := congrArg List.length Sc.pre; rw [List.length_take] at this; omega
  refine Fn.ok Sc (fun vs H Q E h => h.1) (fun cdv A outer s H vs Q E hr h => ?_)
  obtain ⟨hl, F, ss, fp, r, ss', sub, l, nd, of, hg, q⟩ := h
  obtain ⟨t, h1, h2⟩ := body cdv A outer s H E (vs.map some) hr
  refine ⟨t, h1, ?_⟩
  have R := Rep.entry (N := N) sub l nd of (by omega)
  have L : (start N vs).length = N.length := by rw [start_eq, List.length_append, List.length_map, List.length_replicate]; omega
  unfold fnG at hg
  split at hg
  · next r' E' hd =>
    obtain ⟨s2, e1, e2⟩ := Option.map_eq_some_iff.mp hg
    cases e2
    refine h2 (fun _ _ _ _ => True) L R hd fun v σ' F' H' fr fp' L' g R' ow nd' of' => ?_
    obtain ⟨fq, l2, n2, sb⟩ := R'.args L' e1
    have nd2 : (fr ++ fq).Nodup := nodup_two (List.nodup_append.mp nd').1 n2 fun a m b m2 => (List.nodup_append.mp nd').2.2 a m b (sb b m2)
    refine q v F' H' fr fq (g.less fun a m => ?_) l2 ow nd2 fun a m => ?_
    · rcases List.mem_append.mp m with m | m
      · exact List.mem_append_left _ m
      · exact List.mem_append_right _ (sb a m)
    · rcases List.mem_append.mp m with m | m
      · exact of' a m
      · exact R'.off a (sb a m)
  · next E' hd =>
    obtain ⟨s2, e1, e2⟩ := Option.map_eq_some_iff.mp hg
    cases e2
    refine h2 (fun _ _ _ _ => True) L R hd fun σ' F' H' fp' L' g R' => ?_
    obtain ⟨fq, l2, n2, sb⟩ := R'.args L' e1
    exact q .non F' H' [] fq (g.less fun a m => sb a (by simpa using m)) l2 (.dat .non) (by simpa using n2) fun a m => R'.off a (sb a (by simpa using m))
  · cases hg
end
end Mv
/-! The call of a def: places are handed out, and come back -/
namespace Mv
open PySem PySem.Spec PyProof.Rows L2
variable {K : PySem.W.Frag} {F F' F1 F2 H H' H1 H2 : Hp} {v u x y : V} {vs ws : List V} {s t : S} {ss tts : List S} {fp fq fr fp' fp1 fp2 f1 f2 : List Addr} {ρ as : Ro} {E E' : En} {n : Nat}
variable {te ta tb tc : TE} {d da db dc : En → Option Rs} {tr : TA} {dr : En → Option (List Rs)}

def apartAll (p : List Nat) : List Rs → Bool
  | [] => true
  | .pl q :: rs => apart p q && apartAll p rs
  | .val _ :: rs => apartAll p rs
def placesOk : List Rs → Bool
  | [] => true
  | .pl p :: rs => apartAll p rs && placesOk rs
  | .val _ :: rs => placesOk rs
def argS (E : En) : List Rs → Option (List S)
  | [] => some []
  | r :: rs => match r.at E, argS E rs with
    | some s, some ss => some (s :: ss)
    | _, _ => none
def putAll (E : En) : List Rs → List S → En
  | .pl p :: rs, s :: ss => putAll (eput E p s) rs ss
  | .val _ :: rs, _ :: ss => putAll E rs ss
  | _, _ => E
def killAll (E : En) : List Rs → En
  | .pl p :: rs => killAll (ekill E p) rs
  | .val _ :: rs => killAll E rs
  | [] => E
theorem argS_put {p : List Nat} : ∀ {rs : List Rs}, apartAll p rs = true → argS (eput E p t) rs = argS E rs
  | [], _ => rfl
  | .pl q :: rs, h => by
    simp only [apartAll, Bool.and_eq_true] at h
    simp only [argS, Rs.at, eget_apart h.1, argS_put h.2]
  | .val _ :: rs, h => by
    simp only [apartAll] at h
    simp only [argS, Rs.at, argS_put h]
theorem putAll_comm {p : List Nat} : ∀ {rs : List Rs} {ss : List S} {E : En}, apartAll p rs = true → eput (putAll E rs ss) p t = putAll (eput E p t) rs ss
  | [], _, _, _ => by simp [putAll]
  | .pl q :: rs, [], _, _ => by simp [putAll]
  | .val _ :: rs, [], _, _ => by simp [putAll]
  | .pl q :: rs, s :: ss, E, h => by
    simp only [apartAll, Bool.and_eq_true] at h
    simp only [putAll]
    rw [putAll_comm h.2, eput_comm (by rw [apart_symm]; exact h.1)]
  | .val _ :: rs, s :: ss, E, h => by
    simp only [apartAll] at h
    simp only [putAll]
    exact putAll_comm h
theorem eget_putAll {p : List Nat} : ∀ {rs : List Rs} {ss : List S} {E : En}, apartAll p rs = true → eget (putAll E rs ss) p = eget E p
  | [], _, _, _ => by simp [putAll]
  | .pl q :: rs, [], _, _ => by simp [putAll]
  | .val _ :: rs, [], _, _ => by simp [putAll]
  | .pl q :: rs, s :: ss, E, h => by
    simp only [apartAll, Bool.and_eq_true] at h
    simp only [putAll]
    rw [eget_putAll h.2, eget_apart (by rw [apart_symm]; exact h.1)]
  | .val _ :: rs, s :: ss, E, h => by
    simp only [apartAll] at h
    simp only [putAll]
    exact eget_putAll h
theorem eget_ok {p q : List Nat} (hp : eget E p = some s) (hq : (eget E q).isSome = true) (w : within p q = false) : (eget (eput E p t) q).isSome = true := by
  rcases apart_or p q w with e | e | e
  · subst e; rw [eget_eput hp]; rfl
  · rw [eget_apart e]; exact hq
  · have q0 : q ≠ [] := fun z => by rw [z] at hq; cases hq
    exact eget_above q0 e hp
theorem RsAll.there {rs : List Rs} (a : RsAll K F H ρ E vs rs fr) : ∀ b ∈ fr, ∃ o, H b = some o := by
  induction a with
  | nil => exact fun _ m => nomatch m
  | cons h t ih =>
    intro b m
    rcases List.mem_append.mp m with m | m
    · exact h.there b m
    · exact ih b m
theorem RsAll.env {rs : List Rs} (a : RsAll K F H ρ E vs rs fr) (k : ∀ q, Rs.pl q ∈ rs → (eget E' q).isSome = true) : RsAll K F H ρ E' vs rs fr := by
  induction a with
  | nil => exact .nil
  | @cons v vs r rs f g h t ih =>
    refine .cons ?_ (ih fun q m => k q (List.mem_cons_of_mem _ m))
    cases r with
    | val s => exact h
    | pl p => exact ⟨h.1, h.2.1, k p List.mem_cons_self⟩
theorem apartAll_mem {p q : List Nat} : ∀ {rs : List Rs}, apartAll p rs = true → Rs.pl q ∈ rs → apart p q = true
  | .pl r :: rs, h, m => by
    simp only [apartAll, Bool.and_eq_true] at h
    rcases List.mem_cons.mp m with e | m
    · cases e; exact h.1
    · exact apartAll_mem h.2 m
  | .val _ :: rs, h, m => by
    simp only [apartAll] at h
    rcases List.mem_cons.mp m with e | m
    · cases e
    · exact apartAll_mem h m
theorem RsAll.places {rs : List Rs} (a : RsAll K F H ρ E vs rs fr) : ∀ q, Rs.pl q ∈ rs → (eget E q).isSome = true := by
  induction a with
  | nil => exact fun _ m => nomatch m
  | @cons v vs r rs f g h t ih =>
    intro q m
    rcases List.mem_cons.mp m with e | m
    · subst e; exact h.2.2
    · exact ih q m
theorem takeAll : ∀ {rs : List Rs} {vs : List V} {fr : List Addr} {E : En} {fp : List Addr} {ss : List S}, RsAll K F H ρ E vs rs fr → Core K F H ρ E fp → placesOk rs = true → argS E rs = some ss →
    ∃ fa fh E1, OwnL K F H vs ss fa ∧ Core K F H ρ E1 fh ∧ (fr ++ fp).Perm (fa ++ fh) ∧ (∀ q, (eget E q).isSome = true → (∀ p, Rs.pl p ∈ rs → within p q = false) → (eget E1 q).isSome = true) ∧
      ∀ F' H' ss' fa', Core K F' H' ρ E1 fh → OwnL K F' H' vs ss' fa' → ∃ fz fd, Core K F' H' ρ (putAll E rs ss') (fz ++ fh) ∧ fa'.Perm (fz ++ fd)
  | _, _, _, E, fp, _, .nil, c, _, e => by
    cases e
    refine ⟨[], fp, E, .nil, c, by simp, fun q h _ => h, fun F' H' ss' fa' c' l => ?_⟩
    cases l
    exact ⟨[], [], by simpa [putAll] using c', by simp⟩
  | r :: rs, v :: vs, _, E, fp, ss0, .cons (f := f) (g := g) a l, c, ok, e => by
    simp only [argS] at e
    split at e
    · next s ss es ess =>
      cases e
      cases r with
      | val s' =>
        cases es
        simp only [placesOk] at ok
        obtain ⟨fa, fh, E1, o1, c1, pm, keep, close⟩ := takeAll l c ok ess
        refine ⟨f ++ fa, fh, E1, .cons a o1, c1, ?_, fun q h k => keep q h fun p m => k p (List.mem_cons_of_mem _ m), fun F' H' ss' fa' c' l' => ?_⟩
        · rw [List.append_assoc, List.append_assoc]
          exact List.Perm.append_left f pm
        · cases l' with
          | @cons _ _ s2 ss2 k1 k2 a2 l2 =>
            obtain ⟨fz, fd, c2, p2⟩ := close F' H' ss2 k2 c' l2
            refine ⟨fz, k1 ++ fd, by simpa only [putAll] using c2, ?_⟩
            refine (List.Perm.append_left k1 p2).trans ?_
            rw [← List.append_assoc, ← List.append_assoc]
            exact List.Perm.append_right fd List.perm_append_comm
      | pl p =>
        simp only [placesOk, Bool.and_eq_true] at ok
        obtain ⟨a1, a2, a3⟩ := a
        subst a1
        obtain ⟨u, fp1, fp2, e1, o, c1, pm1⟩ := c.take (show eget E p = some s from es)
        rw [a2] at e1
        cases e1
        have l' : RsAll K F H ρ (eput E p (.con v)) vs rs g := l.env fun q m => by
          rw [eget_apart (apartAll_mem ok.1 m)]
          exact l.places q m
        obtain ⟨fa, fh, E1, o1, c2, pm, keep, close⟩ := takeAll l' c1 ok.2 (by rw [argS_put ok.1]; exact ess)
        refine ⟨fp1 ++ fa, fh, E1, .cons o o1, c2, ?_, fun q h k => keep q (eget_ok es h (k p List.mem_cons_self)) fun p m => k p (List.mem_cons_of_mem _ m), fun F' H' ss' fa' c' l2 => ?_⟩
        · -- [] ++ g ++ fp ~ fp1 ++ fa ++ fh
          rw [List.nil_append, List.append_assoc]
          refine (List.Perm.append_left g pm1).trans ?_
          rw [← List.append_assoc]
          refine (List.Perm.append_right fp2 List.perm_append_comm).trans ?_
          rw [List.append_assoc]
          exact List.Perm.append_left fp1 pm
        · cases l2 with
          | @cons _ _ s2 ss2 k1 k2 b2 l2 =>
            obtain ⟨fz, fd, c3, p2⟩ := close F' H' ss2 k2 c' l2
            have hole : eget (putAll (eput E p (.con v)) rs ss2) p = some (.con v) := by
              rw [eget_putAll ok.1, eget_eput es]
            have c4 := c3.put hole b2
            rw [putAll_comm ok.1, eput_eput] at c4
            refine ⟨k1 ++ fz, fd, by rw [List.append_assoc]; simpa only [putAll] using c4, ?_⟩
            rw [List.append_assoc]
            exact List.Perm.append_left k1 p2
    · cases e
theorem killAll_core : ∀ {rs : List Rs} {E : En}, Core K F H ρ E fp → Core K F H ρ (killAll E rs) fp
  | [], _, c => c
  | .pl p :: rs, _, c => killAll_core (rs := rs) (c.kill p)
  | .val _ :: rs, _, c => killAll_core (rs := rs) c
theorem killAll_get : ∀ {rs : List Rs} {E : En} (q : List Nat), eget (killAll E rs) q = eget E q
  | [], _, _ => rfl
  | .pl p :: rs, E, q => by simp only [killAll]; rw [killAll_get q, ekill_get]
  | .val _ :: rs, E, q => by simp only [killAll]; exact killAll_get q
theorem killAll_bor : ∀ {rs : List Rs} {E : En} {i : Nat} {q : List Nat}, (killAll E rs)[i]? = some (Sl.bor q) → E[i]? = some (Sl.bor q) ∧ ∀ p, Rs.pl p ∈ rs → within p q = false
  | [], _, _, _, h => ⟨h, fun _ m => nomatch m⟩
  | .val _ :: rs, E, i, q, h => by
    obtain ⟨h1, h2⟩ := killAll_bor (rs := rs) h
    exact ⟨h1, fun p m => (List.mem_cons.mp m).elim (fun e => nomatch e) (h2 p)⟩
  | .pl p :: rs, E, i, q, h => by
    obtain ⟨h1, h2⟩ := killAll_bor (rs := rs) h
    unfold ekill at h1
    rw [List.getElem?_map] at h1
    cases e : E[i]? with
    | none => rw [e] at h1; cases h1
    | some sl =>
      rw [e] at h1
      cases sl with
      | no => cases h1
      | own w => cases h1
      | bor r =>
        simp only [Option.map_some, kill1, Option.some.injEq] at h1
        cases hw : within p r with
        | true => rw [hw] at h1; simp at h1
        | false =>
          rw [hw] at h1
          simp only [Bool.false_eq_true, if_false, Sl.bor.injEq] at h1
          subst h1
          exact ⟨rfl, fun p' m => (List.mem_cons.mp m).elim (fun e => by cases e; exact hw) (h2 p')⟩
theorem putAll_bor : ∀ {rs : List Rs} {ss : List S} {E : En} {i : Nat} {q : List Nat}, (putAll E rs ss)[i]? = some (Sl.bor q) → E[i]? = some (Sl.bor q)
  | [], _, _, _, _, h => by simpa [putAll] using h
  | .pl _ :: _, [], _, _, _, h => by simpa [putAll] using h
  | .val _ :: _, [], _, _, _, h => by simpa [putAll] using h
  | .val _ :: rs, s :: ss, E, i, q, h => putAll_bor (rs := rs) (ss := ss) (by simpa only [putAll] using h)
  | .pl p :: rs, s :: ss, E, i, q, h => by
    have h1 := putAll_bor (rs := rs) (ss := ss) (by simpa only [putAll] using h)
    cases p with
    | nil => exact h1
    | cons j p =>
      simp only [eput] at h1
      cases e : E[j]? with
      | none => rw [e] at h1; exact h1
      | some sl =>
        rw [e] at h1
        cases sl with
        | own w =>
          dsimp only at h1
          by_cases ij : j = i
          · subst ij
            have hj := (List.getElem?_eq_some_iff.mp e).1
            rw [List.getElem?_set_self hj] at h1
            cases h1
          · rwa [List.getElem?_set_ne ij] at h1
        | no => exact h1
        | bor r => exact h1
def eCall (g : List S → Option (S × List S)) (dr : En → Option (List Rs)) (E : En) : Option (S × En) := match dr E with
  | some rs => if placesOk rs = true then match argS E rs with
      | some ss => match g ss with
        | some (s, ss') => some (s, killAll (putAll E rs ss') rs)
        | none => none
      | none => none
    else none
  | none => none
theorem argS_len : ∀ {rs : List Rs} {ss : List S}, argS E rs = some ss → ss.length = rs.length
  | [], ss, h => by cases h; rfl
  | r :: rs, ss, h => by
    simp only [argS] at h
    split at h
    · next s ss' e1 e2 => cases h; simp only [List.length_cons, argS_len e2]
    · cases h
theorem e_call {m : Nat} {g : List S → Option (S × List S)} {EX : XK} (hr : EvA K n as tr dr) (hm : ∀ E rs, dr E = some rs → rs.length = m) : EvE K n as (tCall (spMv K m g) [] EX tr) (eCall g dr) := by
  intro F H σ E fp L R s E' e Q q
  unfold eCall at e
  split at e
  · next rs ers =>
    split at e
    · next ok =>
      split at e
      · next ss ess =>
        split at e
        · next s' ss' eg =>
          cases e
          refine hr L R ers fun vs F1 H1 fr g1 a nd of => ?_
          have R1 := R.grow g1
          obtain ⟨fa, fh, E1, l, c1, pm, keep, close⟩ := takeAll a R1.core ok ess
          have ndall : (fa ++ fh).Nodup := pm.nodup_iff.mp (R.apart_new g1 nd)
          have memA : ∀ b ∈ fa, b ∈ fr ++ fp := fun b m => pm.mem_iff.mpr (List.mem_append_left _ m)
          have memH : ∀ b ∈ fh, b ∈ fr ++ fp := fun b m => pm.mem_iff.mpr (List.mem_append_right _ m)
          have offAll : ∀ b ∈ fr ++ fp, F1 b = none := fun b m => (List.mem_append.mp m).elim (of b) (R1.off b)
          have dj : ∀ b ∈ fh, b ∉ fa := fun b m1 m2 => (List.nodup_append.mp ndall).2.2 b m2 b m1 rfl
          refine ⟨by rw [List.append_nil, l.length, argS_len ess, hm E rs ers], F1, ss, fa, s, ss', g1.sub, by rw [List.append_nil]; exact l, (List.nodup_append.mp ndall).1, fun b m => offAll b (memA b m), eg, fun v F2 H2 fr2 fa2 g2 l2 ow nd2 of2 => ?_⟩
          rw [List.append_nil] at l2
          have keepH : ∀ b ∈ fh, ∀ o, H1 b = some o → H2 b = some o := fun b m o e => g2.keep b o e (dj b m)
          have c2 := c1.frame g2.f g2.sub keepH
          obtain ⟨fz, fd, c3, pz⟩ := close F2 H2 ss' fa2 c2 l2
          have subz : ∀ b ∈ fz, b ∈ fa2 := fun b m => pz.mem_iff.mpr (List.mem_append_left _ m)
          have thereH : ∀ b ∈ fh, ∃ o, H1 b = some o := c1.there
          have notnew : ∀ b ∈ fh, b ∉ fr2 ++ fa2 := fun b m m2 => by
            obtain ⟨o, eo⟩ := thereH b m
            rcases g2.new b m2 with z | z
            · exact dj b m z
            · rw [eo] at z; cases z
          have ndz : (fz ++ fh).Nodup := by
            have n1 := (List.nodup_append.mp nd2).2.1
            exact nodup_two (List.nodup_append.mp (pz.nodup_iff.mp n1)).1 (List.nodup_append.mp ndall).2.1 fun b m c mc e => by
              subst e
              exact notnew b mc (List.mem_append_right _ (subz b m))
          have R2 : Rep K F2 H2 (σ ++ as) (killAll (putAll E rs ss') rs) (fz ++ fh) := by
            refine ⟨killAll_core c3, g2.sub, ndz, fun b m => ?_, fun i p hb => ?_⟩
            · rcases List.mem_append.mp m with m | m
              · exact of2 b (List.mem_append_right _ (subz b m))
              · obtain ⟨o, eo⟩ := thereH b m
                exact g2.off b (by rw [eo]; exact fun z => nomatch z) (dj b m) (offAll b (memH b m))
            · obtain ⟨hb1, hb2⟩ := killAll_bor hb
              have hb3 := putAll_bor hb1
              obtain ⟨w, k1, k2, k3⟩ := R1.bor i p hb3
              have k4 := keep p k3 hb2
              obtain ⟨t4, ht4⟩ := Option.isSome_iff_exists.mp k4
              refine ⟨w, k1, by rw [c1.follow_keep (fun b o e => g2.sub b o (g2.f b o e)) ht4 keepH]; exact k2, ?_⟩
              rw [killAll_get]
              have go : ∀ (rs : List Rs) (ss : List S) (E : En), (eget E p).isSome = true → (∀ q, Rs.pl q ∈ rs → (eget E q).isSome = true) → placesOk rs = true → (∀ q, Rs.pl q ∈ rs → within q p = false) → (eget (putAll E rs ss) p).isSome = true := by
                intro rs
                induction rs with
                | nil => intro ss E h _ _ _; simpa [putAll] using h
                | cons r rs ih =>
                  intro ss E h hp ok hw
                  cases ss with
                  | nil => cases r <;> simpa [putAll] using h
                  | cons s ss =>
                    cases r with
                    | val _ =>
                      simp only [putAll]
                      exact ih ss E h (fun q m => hp q (List.mem_cons_of_mem _ m)) (by simpa only [placesOk] using ok) fun q m => hw q (List.mem_cons_of_mem _ m)
                    | pl q0 =>
                      simp only [placesOk, Bool.and_eq_true] at ok
                      simp only [putAll]
                      obtain ⟨t0, ht0⟩ := Option.isSome_iff_exists.mp (hp q0 List.mem_cons_self)
                      exact ih ss (eput E q0 s) (eget_ok ht0 h (hw q0 List.mem_cons_self)) (fun q m => by rw [eget_apart (apartAll_mem ok.1 m)]; exact hp q (List.mem_cons_of_mem _ m)) ok.2 fun q m => hw q (List.mem_cons_of_mem _ m)
              exact go rs ss' E k3 a.places ok hb2
          have gg : Grow F H fp F2 H2 (fr2 ++ (fz ++ fh)) := by
            have g1' : Grow F H fp F1 H1 (fa ++ fh) := (g1.ours fp).less fun b m => pm.mem_iff.mpr m
            refine g1'.trans (g2.wide (fun b m => List.mem_append_left _ m) fun b m => ?_)
            rcases List.mem_append.mp m with m | m
            · exact (g2.new b (List.mem_append_left _ m)).imp (fun z => List.mem_append_left _ z) id
            · rcases List.mem_append.mp m with m | m
              · exact (g2.new b (List.mem_append_right _ (subz b m))).imp (fun z => List.mem_append_left _ z) id
              · exact .inl (List.mem_append_right _ m)
          refine q v F2 H2 fr2 (fz ++ fh) gg R2 ow ?_ fun b m => of2 b (List.mem_append_left _ m)
          refine nodup_two (List.nodup_append.mp nd2).1 ndz fun b m c mc e => ?_
          subst e
          rcases List.mem_append.mp mc with mc | mc
          · exact (List.nodup_append.mp nd2).2.2 b m b (subz b mc) rfl
          · exact notnew b mc (List.mem_append_left _ m)
        · cases e
      · cases e
    · cases e
  · cases e
end Mv
/-! Rules for values; expressions with effects *)-/
namespace Mv
open PySem PySem.Spec PyProof.Rows L2
variable {K : PySem.W.Frag} {F F' F1 F2 H H' H1 H2 : Hp} {v u x y : V} {vs ws : List V} {s t : S} {ss tts : List S} {fp fq fr fp' fp1 fp2 f1 f2 : List Addr} {ρ as : Ro} {E E' : En} {n : Nat}
variable {te ta tb tc : TE} {d da db dc : En → Option Rs} {tr : TA} {dr : En → Option (List Rs)} {de df : En → Option (S × En)}

/-! ### two values -/
def fAdd : PyData → PyData → Option PyData | .int i, .int j => some (.int (i + j)) | _, _ => none
def fSub : PyData → PyData → Option PyData | .int i, .int j => some (.int (i - j)) | _, _ => none
def fMul : PyData → PyData → Option PyData | .int i, .int j => if (-(2 ^ 64) < i ∧ i < 2 ^ 64) ∨ (-(2 ^ 64) < j ∧ j < 2 ^ 64) then some (.int (i * j)) else none | _, _ => none
def fDiv : PyData → PyData → Option PyData | .int i, .int j => if 0 < j ∧ j < 1073741824 then some (.int (i / j)) else none | _, _ => none
def fMod : PyData → PyData → Option PyData | .int i, .int j => if 0 < j then some (.int (i % j)) else none | _, _ => none
def fLt : PyData → PyData → Option PyData | .int i, .int j => some (.bool (decide (i < j))) | _, _ => none
def fLe : PyData → PyData → Option PyData | .int i, .int j => some (.bool (decide (i ≤ j))) | _, _ => none
def fGt : PyData → PyData → Option PyData | .int i, .int j => some (.bool (decide (j < i))) | _, _ => none
def fGe : PyData → PyData → Option PyData | .int i, .int j => some (.bool (decide (j ≤ i))) | _, _ => none
theorem rv_int {g : Int → Int → PyData} (h : ∀ i j, isSc (g i j) = true) {f : PyData → PyData → Option PyData} (hf : ∀ a b c, f a b = some c → ∃ i j, a = .int i ∧ b = .int j ∧ c = g i j) {gv : Int → Int → V} (hg : ∀ i j, gv i j = scV (g i j)) : Rv2 K (rI0 gv) f := by
  intro H x y a b c ha hb e Q q
  obtain ⟨i, j, rfl, rfl, rfl⟩ := hf a b c e
  cases ha; cases hb
  exact ⟨i, j, rfl, rfl, by rw [hg]; exact q (h i j)⟩
theorem rv_add : Rv2 K (rI0 fun i j => .int (i + j)) fAdd := rv_int (g := fun i j => .int (i + j)) (fun _ _ => rfl) (fun a b c e => by unfold fAdd at e; split at e <;> cases e; exact ⟨_, _, rfl, rfl, rfl⟩) fun _ _ => rfl
theorem rv_sub : Rv2 K (rI0 fun i j => .int (i - j)) fSub := rv_int (g := fun i j => .int (i - j)) (fun _ _ => rfl) (fun a b c e => by unfold fSub at e; split at e <;> cases e; exact ⟨_, _, rfl, rfl, rfl⟩) fun _ _ => rfl
theorem rv_lt : Rv2 K (rI0 fun i j => .bl (decide (i < j))) fLt := rv_int (g := fun i j => .bool (decide (i < j))) (fun _ _ => rfl) (fun a b c e => by unfold fLt at e; split at e <;> cases e; exact ⟨_, _, rfl, rfl, rfl⟩) fun _ _ => rfl
theorem rv_le : Rv2 K (rI0 fun i j => .bl (decide (i ≤ j))) fLe := rv_int (g := fun i j => .bool (decide (i ≤ j))) (fun _ _ => rfl) (fun a b c e => by unfold fLe at e; split at e <;> cases e; exact ⟨_, _, rfl, rfl, rfl⟩) fun _ _ => rfl
theorem rv_gt : Rv2 K (rI0 fun i j => .bl (decide (j < i))) fGt := rv_int (g := fun i j => .bool (decide (j < i))) (fun _ _ => rfl) (fun a b c e => by unfold fGt at e; split at e <;> cases e; exact ⟨_, _, rfl, rfl, rfl⟩) fun _ _ => rfl
theorem rv_ge : Rv2 K (rI0 fun i j => .bl (decide (j ≤ i))) fGe := rv_int (g := fun i j => .bool (decide (j ≤ i))) (fun _ _ => rfl) (fun a b c e => by unfold fGe at e; split at e <;> cases e; exact ⟨_, _, rfl, rfl, rfl⟩) fun _ _ => rfl
theorem rv_ipadd : Rv2 K (ipI fun i j => i + j) fAdd := by
  intro H x y a b c ha hb e Q q
  unfold fAdd at e
  split at e <;> cases e
  cases ha; cases hb
  exact ⟨_, _, rfl, rfl, q rfl⟩
theorem rv_ipsub : Rv2 K (ipI fun i j => i - j) fSub := by
  intro H x y a b c ha hb e Q q
  unfold fSub at e
  split at e <;> cases e
  cases ha; cases hb
  exact ⟨_, _, rfl, rfl, q rfl⟩
theorem rv_mul : Rv2 K (rI CMul fun i j => .int (i * j)) fMul := by
  intro H x y a b c ha hb e Q q
  unfold fMul at e
  split at e
  · next i j =>
    split at e
    · next h =>
      cases e
      cases ha; cases hb
      exact ⟨i, j, rfl, rfl, h, q rfl⟩
    · cases e
  · cases e
theorem rv_div : Rv2 K (rI CDiv fun i j => .int (i / j)) fDiv := by
  intro H x y a b c ha hb e Q q
  unfold fDiv at e
  split at e
  · next i j =>
    split at e
    · next h =>
      cases e
      cases ha; cases hb
      exact ⟨i, j, rfl, rfl, h, q rfl⟩
    · cases e
  · cases e
theorem rv_mod : Rv2 K (rI (fun _ j => 0 < j) fun i j => .int (i % j)) fMod := by
  intro H x y a b c ha hb e Q q
  unfold fMod at e
  split at e
  · next i j =>
    split at e
    · next h =>
      cases e
      cases ha; cases hb
      exact ⟨i, j, rfl, rfl, h, q rfl⟩
    · cases e
  · cases e
/-- x == y without parts: of which kinds -/
def fEqS : PyData → PyData → Option PyData
  | .none, .none => some (.bool true)
  | .none, .int _ => some (.bool false) | .int _, .none => some (.bool false)
  | .none, .bool _ => some (.bool false) | .bool _, .none => some (.bool false)
  | .none, .str _ => some (.bool false) | .str _, .none => some (.bool false)
  | .int i, .int j => some (.bool (decide (i = j)))
  | .bool i, .bool j => some (.bool (decide (i = j)))
  | .str i, .str j => some (.bool (decide (i = j)))
  | _, _ => none
def fNeS (a b : PyData) : Option PyData := match fEqS a b with
  | some (.bool k) => some (.bool (!k))
  | _ => none
theorem eqS_of {a b c : PyData} {x y : V} (ha : Dq K H x a) (hb : Dq K H y b) (e : fEqS a b = some c) : scal x y = true ∧ c = .bool (decide (x = y)) := by
  unfold fEqS at e
  split at e <;> cases e <;> cases ha <;> cases hb <;> first | (exact ⟨rfl, rfl⟩) | (refine ⟨rfl, ?_⟩; simp)
theorem rv_eq : Rv2 K rEq fEqS := by
  intro H x y a b c ha hb e Q q
  obtain ⟨h1, rfl⟩ := eqS_of ha hb e
  exact ⟨h1, q rfl⟩
theorem rv_ne : Rv2 K rNe fNeS := by
  intro H x y a b c ha hb e Q q
  unfold fNeS at e
  split at e
  · next k ek =>
    cases e
    obtain ⟨h1, h2⟩ := eqS_of ha hb ek
    cases h2
    exact ⟨h1, q rfl⟩
  · cases e
def fEqD (a b : PyData) : Option PyData := if SeqAt.shaped a = true ∧ SeqAt.shaped b = true then some (.bool (PyData.eqv a b)) else none
def fNeD (a b : PyData) : Option PyData := if SeqAt.shaped a = true ∧ SeqAt.shaped b = true then some (.bool (!PyData.eqv a b)) else none
theorem rv_eqD : Rv2 K (rEqD K) fEqD := by
  intro H x y a b c ha hb e Q q
  unfold fEqD at e
  split at e
  · next h => cases e; exact ⟨a, b, ha.dp, hb.dp, h.1, h.2, q rfl⟩
  · cases e
theorem rv_neD : Rv2 K (rNeD K) fNeD := by
  intro H x y a b c ha hb e Q q
  unfold fNeD at e
  split at e
  · next h => cases e; exact ⟨a, b, ha.dp, hb.dp, h.1, h.2, q rfl⟩
  · cases e
def isNone : PyData → Bool | .none => true | _ => false
def fIsN (a b : PyData) : Option PyData := if isNone b then some (.bool (isNone a)) else none
def fNotN (a b : PyData) : Option PyData := if isNone b then some (.bool (!isNone a)) else none
theorem none_of {a : PyData} (ha : Dq K H x a) : decide (x = .non) = isNone a := by
  cases ha <;> simp [isNone]
theorem rv_isN : Rv2 K (fun x y H Q => y = V.non ∧ Q (.bl (decide (x = .non))) H) fIsN := by
  intro H x y a b c ha hb e Q q
  unfold fIsN at e
  split at e
  · next h =>
    cases e
    cases b <;> first | (cases hb; exact ⟨rfl, by rw [none_of ha]; exact q rfl⟩) | cases h
  · cases e
theorem rv_notN : Rv2 K (fun x y H Q => y = V.non ∧ Q (.bl (!decide (x = .non))) H) fNotN := by
  intro H x y a b c ha hb e Q q
  unfold fNotN at e
  split at e
  · next h =>
    cases e
    cases b <;> first | (cases hb; exact ⟨rfl, by rw [none_of ha]; exact q rfl⟩) | cases h
  · cases e
def fNeg : PyData → Option PyData | .int i => some (.int (-i)) | _ => none
def dNeg (d : En → Option Rs) (E : En) : Option Rs := match d E with
  | some (.val (.dat (.int i))) => some (.val (.dat (.int (-i))))
  | _ => none
theorem p_neg (h : EvP K n as te d) : EvP K n as (tUn (rU fun i => .int (-i)) te) (dNeg d) := by
  intro F H σ E fp L R r e Q q
  unfold dNeg at e
  split at e
  · next i ed =>
    cases e
    refine h L R ed fun v F1 H1 f1 g1 r1 n1 o1 => ?_
    cases (Own.dat_inv (show Own K F1 H1 v _ f1 from r1) rfl).1
    exact ⟨i, rfl, q _ F1 H1 [] g1.drop (.dat (.int _)) List.nodup_nil (fun _ m => nomatch m)⟩
  · cases e

/-! ### effects -/
theorem Own.after (o : Own K F H v s fr) (g : Grow F H fp F' H' fp') (d : ∀ a ∈ fr, a ∉ fp) : Own K F' H' v s fr := o.grow g d
theorem apartN (nd : (fr ++ fp).Nodup) : ∀ a ∈ fr, a ∉ fp := fun a m m2 => (List.nodup_append.mp nd).2.2 a m a m2 rfl
/-- what is owned aside stays aside while ours grow -/
theorem aside (nd : (fr ++ fp).Nodup) (th : ∀ a ∈ fr, ∃ o, H a = some o) (g : Grow F H fp F' H' fp') : ∀ a ∈ fr, a ∉ fp' := fun a m m2 => by
  rcases g.new a m2 with z | z
  · exact apartN nd a m z
  · obtain ⟨o, eo⟩ := th a m
    rw [eo] at z; cases z
def eOp (f : PyData → PyData → Option PyData) (da db : En → Option (S × En)) (E : En) : Option (S × En) := match da E with
  | some (a, E1) => match db E1 with
    | some (b, E2) => match a.toD, b.toD with
      | some a, some b => (f a b).map fun c => (.dat c, E2)
      | _, _ => none
    | none => none
  | none => none
theorem e_op {r : R2} {f : PyData → PyData → Option PyData} (hr : Rv2 K r f) (ha : EvE K n as ta de) (hb : EvE K n as tb df) : EvE K n as (tOp r ta tb) (eOp f de df) := by
  intro F H σ E fp L R s E' e Q q
  unfold eOp at e
  split at e
  · next a E1 ea =>
    split at e
    · next b E2 eb =>
      split at e
      · next a' b' ea' eb' =>
        obtain ⟨c, ec, e2⟩ := Option.map_eq_some_iff.mp e
        cases e2
        refine ha L R ea fun x F1 H1 fr1 fp1 g1 R1 o1 nd1 of1 => hb L R1 eb fun y F2 H2 fr2 fp2 g2 R2 o2 nd2 of2 => ?_
        have o1' := o1.grow g2 (apartN nd1)
        refine hr (Own.dp R2.sub a o1' ea') (Own.dp R2.sub b o2 eb') ec fun hc => ?_
        have g12 : Grow F H fp F2 H2 fp2 := (g1.less (fun a m => List.mem_append_right _ m)).trans (g2.less fun a m => List.mem_append_right _ m)
        exact q _ F2 H2 [] fp2 g12 R2 (.dat (scV_dp hc)) R2.nd (fun _ m => nomatch m)
      · cases e
    · cases e
  · cases e
def eAndV (da db : En → Option (S × En)) (E : En) : Option (S × En) := match da E with
  | some (.dat (.bool true), E') => db E'
  | some (.dat (.bool false), E') => some (.dat (.bool false), E')
  | _ => none
def eOrV (da db : En → Option (S × En)) (E : En) : Option (S × En) := match da E with
  | some (.dat (.bool false), E') => db E'
  | some (.dat (.bool true), E') => some (.dat (.bool true), E')
  | _ => none
def eNotV (da : En → Option (S × En)) (E : En) : Option (S × En) := match da E with
  | some (.dat (.bool b), E') => some (.dat (.bool (!b)), E')
  | _ => none
theorem e_andV (ha : EvE K n as ta de) (hb : EvE K n as tb df) : EvE K n as (tAndV ta tb) (eAndV de df) := by
  intro F H σ E fp L R s E' e Q q
  unfold eAndV at e
  split at e
  · next E1 ea =>
    refine ha L R ea fun x F1 H1 fr1 fp1 g1 R1 o1 nd1 of1 => ?_
    cases (o1.dat_inv rfl).1
    have g1' := g1.less (fr := fp1) fun a m => List.mem_append_right _ m
    exact ⟨true, rfl, iteT (hb L R1 e fun y F2 H2 fr2 fp2 g2 R2 o2 nd2 of2 => q y F2 H2 fr2 fp2 (g1'.trans g2) R2 o2 nd2 of2)⟩
  · next E1 ea =>
    cases e
    refine ha L R ea fun x F1 H1 fr1 fp1 g1 R1 o1 nd1 of1 => ?_
    cases (o1.dat_inv rfl).1
    exact ⟨false, rfl, iteF (q _ F1 H1 [] fp1 (g1.less fun a m => List.mem_append_right _ m) R1 (.dat (.bl false)) R1.nd (fun _ m => nomatch m))⟩
  · cases e
theorem e_orV (ha : EvE K n as ta de) (hb : EvE K n as tb df) : EvE K n as (tOrV ta tb) (eOrV de df) := by
  intro F H σ E fp L R s E' e Q q
  unfold eOrV at e
  split at e
  · next E1 ea =>
    refine ha L R ea fun x F1 H1 fr1 fp1 g1 R1 o1 nd1 of1 => ?_
    cases (o1.dat_inv rfl).1
    have g1' := g1.less (fr := fp1) fun a m => List.mem_append_right _ m
    exact ⟨false, rfl, iteF (hb L R1 e fun y F2 H2 fr2 fp2 g2 R2 o2 nd2 of2 => q y F2 H2 fr2 fp2 (g1'.trans g2) R2 o2 nd2 of2)⟩
  · next E1 ea =>
    cases e
    refine ha L R ea fun x F1 H1 fr1 fp1 g1 R1 o1 nd1 of1 => ?_
    cases (o1.dat_inv rfl).1
    exact ⟨true, rfl, iteT (q _ F1 H1 [] fp1 (g1.less fun a m => List.mem_append_right _ m) R1 (.dat (.bl true)) R1.nd (fun _ m => nomatch m))⟩
  · cases e
theorem e_notV (ha : EvE K n as ta de) : EvE K n as (tNotV ta) (eNotV de) := by
  intro F H σ E fp L R s E' e Q q
  unfold eNotV at e
  split at e
  · next b E1 ea =>
    cases e
    refine ha L R ea fun x F1 H1 fr1 fp1 g1 R1 o1 nd1 of1 => ?_
    cases (o1.dat_inv rfl).1
    exact ⟨b, rfl, q _ F1 H1 [] fp1 (g1.less fun a m => List.mem_append_right _ m) R1 (.dat (.bl _)) R1.nd (fun _ m => nomatch m)⟩
  · cases e

/-! ### isinstance, len, built-ins -/
inductive Ty where
  | non | bool | int | str | list | tuple | dict
  deriving DecidableEq
def Ty.name : Ty → String
  | .non => "NoneType" | .bool => "bool" | .int => "int" | .str => "str" | .list => "list" | .tuple => "tuple" | .dict => "dict"
def Ty.sub : Ty → Ty → Bool
  | .bool, .int => true
  | a, b => decide (a = b)
theorem Ty.kit : ∀ a b : Ty, kitB a.name b.name = some (a.sub b) := by
  intro a b
  cases a <;> cases b <;> decide +kernel
def tyName : S → Option Ty
  | .dat .none => some .non | .dat (.bool _) => some .bool | .dat (.int _) => some .int | .dat (.str _) => some .str
  | .dat (.list _) => some .list | .dat (.tuple _) => some .tuple
  | .lst _ => some .list | .dct false _ => some .dict
  | _ => none
theorem tyX_of (sub : ∀ a o, F a = some o → H a = some o) (o : Own K F H v s fp) {T : Ty} (h : tyName s = some T) : TyX K H v (.type T.name) := by
  cases s with
  | dat d =>
    have dp := (o.dat_inv rfl).1
    cases d with
    | none => cases h; cases dp; exact .base .non
    | bool b => cases h; cases dp; exact .base (.bl b)
    | int i => cases h; cases dp; exact .base (.int i)
    | str x => cases h; cases dp; exact .base (.str x)
    | list ds =>
      cases h
      obtain ⟨a, xs, rfl, hq, _⟩ := Mv.Dq.list_inv dp
      rcases hq with (hq | ⟨ob, hq⟩) | ⟨ob, its, k, hk, hc, _⟩
      · exact .base (.lst (sub _ _ hq))
      · exact .base (.frz (sub _ _ hq))
      · exact .kList hk hc
    | tuple ds =>
      cases h
      obtain ⟨a, xs, rfl, hq, _⟩ := Mv.Dq.tuple_inv dp
      rcases hq with (hq | ⟨ob, hq⟩) | ⟨ob, its, k, hk, hc, _⟩
      · exact .base (.tup (sub _ _ hq))
      · exact .fTuple (sub _ _ hq)
      · exact .kTuple hk hc
    | dict kvs => cases h
  | con w => cases h
  | lst xs =>
    cases h
    obtain ⟨a, vs, fq, rfl, hH, _⟩ := o.lst_inv rfl
    exact .base (.lst hH)
  | dct l kvs =>
    cases l with
    | true => cases h
    | false =>
      cases h
      cases o with
      | @node a ob _ ex fq hh hd _ =>
        cases ob with
        | dK k => exact .base (.dK hh)
        | frz o u => cases u <;> exact hd.elim
        | _ => exact hd.elim
  | ins C fs => cases h
def dIsi (T : Ty) (d : En → Option Rs) (E : En) : Option Rs := match d E with
  | some r => match (r.at E).bind tyName with
    | some U => some (.val (.dat (.bool (U.sub T))))
    | none => none
  | none => none
theorem p_isi {T : Ty} (h : EvP K n as te d) : EvP K n as (tCB (rIsi K) (tCons te (tCons (tC (.ty T.name)) tNil))) (dIsi T d) := by
  intro F H σ E fp L R r e Q q
  unfold dIsi at e
  split at e
  · next r1 ed =>
    split at e
    · next U eU =>
      cases e
      obtain ⟨s, hs, hT⟩ := Option.bind_eq_some_iff.mp eU
      refine h L R ed fun v F1 H1 f1 g1 a1 n1 o1 => ?_
      obtain ⟨fq, ow⟩ := a1.own (R.grow g1) hs
      exact ⟨v, .ty T.name, .type U.name, .type T.name, U.sub T, rfl, .ty T.name, tyX_of g1.sub ow hT, kit_ty (Ty.kit U T), q _ F1 H1 [] g1.drop (.dat (.bl _)) List.nodup_nil (fun _ m => nomatch m)⟩
    · cases e
  · cases e
def lenS : S → Option Nat
  | .lst ss => some ss.length
  | .dat (.list ds) => some ds.length
  | .dat (.tuple ds) => some ds.length
  | _ => none
def dLen (d : En → Option Rs) (E : En) : Option Rs := match d E with
  | some r => ((r.at E).bind lenS).map fun k => .val (.dat (.int (k : Nat)))
  | none => none
theorem len_of (sub : ∀ a o, F a = some o → H a = some o) (o : Own K F H v s fp) {k : Nat} (h : lenS s = some k) : ∃ a xs, v = .ref a ∧ (SqL K H a xs ∨ SqT K H a xs) ∧ xs.length = k := by
  cases s with
  | lst ss =>
    cases h
    obtain ⟨a, vs, fq, rfl, hH, l, _⟩ := o.lst_inv rfl
    exact ⟨a, vs, rfl, .inl (.inl (.inl hH)), l.length⟩
  | dat d => cases d with
    | list ds =>
      cases h
      obtain ⟨a, xs, rfl, hq, da⟩ := Mv.Dq.list_inv (o.dat_inv rfl).1
      exact ⟨a, xs, rfl, .inl (SqL.mono sub hq), Mv.DqAll.len da⟩
    | tuple ds =>
      cases h
      obtain ⟨a, xs, rfl, hq, da⟩ := Mv.Dq.tuple_inv (o.dat_inv rfl).1
      exact ⟨a, xs, rfl, .inr (SqT.mono sub hq), Mv.DqAll.len da⟩
    | _ => cases h
  | con w => cases h
  | dct l kvs => cases h
  | ins C fs => cases h
theorem p_len (h : EvP K n as te d) : EvP K n as (tCB (fun xs H Q => ∃ p ys, xs = [.ref p] ∧ (SqL K H p ys ∨ SqT K H p ys) ∧ Q (.int ys.length) H) (tCons te tNil)) (dLen d) := by
  intro F H σ E fp L R r e Q q
  unfold dLen at e
  split at e
  · next r1 ed =>
    obtain ⟨k, hk, rfl⟩ := Option.map_eq_some_iff.mp e
    obtain ⟨s, hs, hl⟩ := Option.bind_eq_some_iff.mp hk
    refine h L R ed fun v F1 H1 f1 g1 a1 n1 o1 => ?_
    obtain ⟨fq, ow⟩ := a1.own (R.grow g1) hs
    obtain ⟨a, xs, rfl, hq, hx⟩ := len_of g1.sub ow hl
    exact ⟨a, xs, rfl, hq, by rw [hx]; exact q _ F1 H1 [] g1.drop (.dat (.int _)) List.nodup_nil (fun _ m => nomatch m)⟩
  · cases e
/-- a built-in call upon data, the answer without parts -/
def RvC (K : PySem.W.Frag) (r : List V → Hp → VK → Prop) (f : List PyData → Option PyData) : Prop :=
  ∀ {H : Hp} {vs : List V} {ds : List PyData} {c : PyData}, DqAll K H vs ds → f ds = some c → ∀ {Q : VK}, (isSc c = true → Q (scV c) H) → r vs H Q
def fulls (E : En) : List Rs → Option (List PyData)
  | [] => some []
  | r :: rs => match r.full E, fulls E rs with
    | some d, some ds => some (d :: ds)
    | _, _ => none
theorem RsAll.dps {rs : List Rs} {ds : List PyData} (R : Rep K F H ρ E fp) (a : RsAll K F H ρ E vs rs fr) (h : fulls E rs = some ds) : DqAll K H vs ds := by
  induction a generalizing ds with
  | nil => cases h; exact .nil
  | @cons v vs r rs f g a t ih =>
    simp only [fulls] at h
    split at h
    · next d ds' e1 e2 => cases h; exact .cons (a.dp R e1) (ih e2)
    · cases h
def dCB (f : List PyData → Option PyData) (dr : En → Option (List Rs)) (E : En) : Option Rs := match dr E with
  | some rs => match fulls E rs with
    | some ds => (f ds).map fun c => .val (.dat c)
    | none => none
  | none => none
theorem p_cb {r : List V → Hp → VK → Prop} {f : List PyData → Option PyData} (hr : RvC K r f) (h : EvA K n as tr dr) : EvP K n as (tCB r tr) (dCB f dr) := by
  intro F H σ E fp L R r1 e Q q
  unfold dCB at e
  split at e
  · next rs er =>
    split at e
    · next ds eds =>
      obtain ⟨c, ec, rfl⟩ := Option.map_eq_some_iff.mp e
      refine h L R er fun vs F1 H1 f1 g1 a1 n1 o1 => hr (a1.dps (R.grow g1) eds) ec fun hc => ?_
      exact q _ F1 H1 [] g1.drop (.dat (scV_dp hc)) List.nodup_nil (fun _ m => nomatch m)
    · cases e
  · cases e
def eCB1 (f : List PyData → Option PyData) (d : En → Option (S × En)) (E : En) : Option (S × En) := match d E with
  | some (s, E') => match s.toD with
    | some a => (f [a]).map fun c => (.dat c, E')
    | none => none
  | none => none
theorem e_cb1 {r : List V → Hp → VK → Prop} {f : List PyData → Option PyData} (hr : RvC K r f) (h : EvE K n as te de) : EvE K n as (tCB r (tCons te tNil)) (eCB1 f de) := by
  intro F H σ E fp L R s E' e Q q
  unfold eCB1 at e
  split at e
  · next s1 E1 ed =>
    split at e
    · next a ea =>
      obtain ⟨c, ec, e2⟩ := Option.map_eq_some_iff.mp e
      cases e2
      refine h L R ed fun v F1 H1 fr fp1 g1 R1 o1 nd1 of1 => hr (.cons (Own.dp R1.sub s1 o1 ea) .nil) ec fun hc => ?_
      exact q _ F1 H1 [] fp1 (g1.less fun a m => List.mem_append_right _ m) R1 (.dat (scV_dp hc)) R1.nd (fun _ m => nomatch m)
    · cases e
  · cases e
/-! which -/
def intsD : List PyData → Option (List Int)
  | [] => some []
  | .int i :: ds => (intsD ds).map (i :: ·)
  | _ => none
def boolsD : List PyData → Option (List Bool)
  | [] => some []
  | .bool b :: ds => (boolsD ds).map (b :: ·)
  | _ => none
theorem intsD_dp : ∀ {ds : List PyData} {xs : List V} {ns : List Int}, DqAll K H xs ds → intsD ds = some ns → xs = ns.map V.int
  | [], _, _, .nil, e => by cases e; rfl
  | .int i :: ds, _, _, .cons (.int _) t, e => by
    simp only [intsD] at e
    obtain ⟨r, hr, rfl⟩ := Option.map_eq_some_iff.mp e
    rw [List.map_cons, intsD_dp t hr]
  | .none :: _, _, _, _, e => by simp [intsD] at e
  | .bool _ :: _, _, _, _, e => by simp [intsD] at e
  | .str _ :: _, _, _, _, e => by simp [intsD] at e
  | .list _ :: _, _, _, _, e => by simp [intsD] at e
  | .tuple _ :: _, _, _, _, e => by simp [intsD] at e
  | .dict _ :: _, _, _, _, e => by simp [intsD] at e
theorem boolsD_dp : ∀ {ds : List PyData} {xs : List V} {ns : List Bool}, DqAll K H xs ds → boolsD ds = some ns → xs = ns.map V.bl
  | [], _, _, .nil, e => by cases e; rfl
  | .bool i :: ds, _, _, .cons (.bl _) t, e => by
    simp only [boolsD] at e
    obtain ⟨r, hr, rfl⟩ := Option.map_eq_some_iff.mp e
    rw [List.map_cons, boolsD_dp t hr]
  | .none :: _, _, _, _, e => by simp [boolsD] at e
  | .int _ :: _, _, _, _, e => by simp [boolsD] at e
  | .str _ :: _, _, _, _, e => by simp [boolsD] at e
  | .list _ :: _, _, _, _, e => by simp [boolsD] at e
  | .tuple _ :: _, _, _, _, e => by simp [boolsD] at e
  | .dict _ :: _, _, _, _, e => by simp [boolsD] at e
def fSum : List PyData → Option PyData
  | [.list ds] => (intsD ds).map fun ns => .int ns.sum
  | _ => none
def fAll : List PyData → Option PyData
  | [.list ds] => (boolsD ds).map fun bs => .bool (bs.all id)
  | _ => none
def fAny : List PyData → Option PyData
  | [.list ds] => (boolsD ds).map fun bs => .bool (bs.any id)
  | _ => none
def fMin2 : List PyData → Option PyData
  | [.int i, .int j] => some (.int (if j < i then j else i))
  | _ => none
def fMax2 : List PyData → Option PyData
  | [.int i, .int j] => some (.int (if j > i then j else i))
  | _ => none
def fInt : List PyData → Option PyData
  | [.int i] => some (.int i)
  | [.bool b] => some (.int (if b then 1 else 0))
  | _ => none
end Mv
/-! Built-ins; loops -/
namespace Mv
open PySem PySem.Spec PyProof.Rows L2
variable {K : PySem.W.Frag} {F F' F1 F2 H H' H1 H2 : Hp} {v u x y : V} {vs ws : List V} {s t : S} {ss tts : List S} {fp fq fr fp' fp1 fp2 f1 f2 : List Addr} {ρ as : Ro} {E E' : En} {n : Nat}
variable {te ta tb tc : TE} {d da db dc : En → Option Rs} {tr : TA} {dr : En → Option (List Rs)} {de df : En → Option (S × En)}

theorem rc_sum : RvC K (rSum K) fSum := by
  intro H vs ds c hd e Q q
  unfold fSum at e
  split at e
  · next ds =>
    obtain ⟨ns, hn, rfl⟩ := Option.map_eq_some_iff.mp e
    cases hd with
    | cons h t =>
      cases t
      obtain ⟨a, xs, rfl, hq, da⟩ := Mv.Dq.list_inv h
      exact ⟨a, ns, rfl, by rw [← intsD_dp da hn]; exact hq, q rfl⟩
  · cases e
theorem rc_all : RvC K (rAll K) fAll := by
  intro H vs ds c hd e Q q
  unfold fAll at e
  split at e
  · next ds =>
    obtain ⟨ns, hn, rfl⟩ := Option.map_eq_some_iff.mp e
    cases hd with
    | cons h t =>
      cases t
      obtain ⟨a, xs, rfl, hq, da⟩ := Mv.Dq.list_inv h
      exact ⟨a, ns, rfl, by rw [← boolsD_dp da hn]; exact hq, q rfl⟩
  · cases e
theorem rc_any : RvC K (rAny K) fAny := by
  intro H vs ds c hd e Q q
  unfold fAny at e
  split at e
  · next ds =>
    obtain ⟨ns, hn, rfl⟩ := Option.map_eq_some_iff.mp e
    cases hd with
    | cons h t =>
      cases t
      obtain ⟨a, xs, rfl, hq, da⟩ := Mv.Dq.list_inv h
      exact ⟨a, ns, rfl, by rw [← boolsD_dp da hn]; exact hq, q rfl⟩
  · cases e
theorem rc_min2 : RvC K (fun xs H Q => ∃ i j, xs = [.int i, .int j] ∧ Q (.int (if j < i then j else i)) H) fMin2 := by
  intro H vs ds c hd e Q q
  unfold fMin2 at e
  split at e <;> cases e
  cases hd with
  | cons h t => cases t with
    | cons h2 t => cases t; cases h; cases h2; exact ⟨_, _, rfl, q rfl⟩
theorem rc_max2 : RvC K (fun xs H Q => ∃ i j, xs = [.int i, .int j] ∧ Q (.int (if j > i then j else i)) H) fMax2 := by
  intro H vs ds c hd e Q q
  unfold fMax2 at e
  split at e <;> cases e
  cases hd with
  | cons h t => cases t with
    | cons h2 t => cases t; cases h; cases h2; exact ⟨_, _, rfl, q rfl⟩
theorem rc_int : RvC K (fun xs H Q => (∃ i, xs = [.int i] ∧ Q (.int i) H) ∨ ∃ k, xs = [.bl k] ∧ Q (.int (if k then 1 else 0)) H) fInt := by
  intro H vs ds c hd e Q q
  unfold fInt at e
  split at e <;> cases e
  · cases hd with
    | cons h t => cases t; cases h; exact .inl ⟨_, rfl, q rfl⟩
  · cases hd with
    | cons h t => cases t; cases h; exact .inr ⟨_, rfl, q rfl⟩
end Mv
/-! for -/
namespace Mv
open PySem PySem.Spec PyProof.Rows L2
variable {K : PySem.W.Frag} {F F' F1 F2 H H' H1 H2 : Hp} {v u x y : V} {vs ws : List V} {s t : S} {ss tts : List S} {fp fq fr fp' fp1 fp2 f1 f2 : List Addr} {ρ as : Ro} {E E' : En} {n : Nat}
variable {W : WXm} {te ta tb tc : TE} {d da db dc : En → Option Rs} {tr : TA} {dr : En → Option (List Rs)} {de df : En → Option (S × En)}

/-! ### targets -/
def EvG (K : PySem.W.Frag) (n : Nat) (g : TG) (bd : Rs → En → Option En) : Prop :=
  ∀ {as : Ro} {F H : Hp} {σ : L2.St} {E E' : En} {fp : List Addr} {v : V} {r : Rs}, σ.length = n → Rep K F H (σ ++ as) E fp → RsAt K F H (σ ++ as) E v r [] → bd r E = some E' → ∀ {Q : L2.St → Hp → Prop},
    (∀ (σ' : L2.St) F' H' fp', σ'.length = n → Grow F H fp F' H' fp' → Rep K F' H' (σ' ++ as) E' fp' → Q σ' H') → g v σ H Q
def bName (i : Nat) (r : Rs) (E : En) : Option En := match r with
  | .val s => some (slotSet E i (.own s))
  | .pl p => if p.head? = some i then none else some (slotSet E i (.bor p))
theorem g_name {i : Nat} (hi : i < n) : EvG K n (gName i) (bName i) := by
  intro as F H σ E E' fp v r L R a e Q q
  have hl : i < (σ ++ as).length := by rw [List.length_append]; omega
  cases r with
  | val s =>
    cases e
    obtain ⟨fq, R2, sb⟩ := R.setSlot (e := .own s) (fr := []) hl a R.nd (fun _ m => nomatch m)
    exact q _ F H fq (by rw [List.length_set]; exact L) ((Grow.refl R.sub fp).less fun a m => by simpa using sb a m) (by rw [set_app (by omega)]; exact R2)
  | pl p =>
    unfold bName at e
    dsimp only at e
    split at e
    · cases e
    · next hp =>
      cases e
      obtain ⟨a1, a2, a3⟩ := a
      obtain ⟨fq, R2, sb⟩ := R.setSlot (e := .bor p) (fr := []) hl ⟨rfl, hp, a2, a3⟩ R.nd (fun _ m => nomatch m)
      exact q _ F H fq (by rw [List.length_set]; exact L) ((Grow.refl R.sub fp).less fun a m => by simpa using sb a m) (by rw [set_app (by omega)]; exact R2)
/-- several, of data -/
def EvGs (K : PySem.W.Frag) (n : Nat) (g : TGs) (bd : List PyData → En → Option En) : Prop :=
  ∀ {as : Ro} {F H : Hp} {σ : L2.St} {E E' : En} {fp : List Addr} {vs : List V} {ds : List PyData}, σ.length = n → Rep K F H (σ ++ as) E fp → DqAll K F vs ds → bd ds E = some E' → ∀ {Q : L2.St → Hp → Prop},
    (∀ (σ' : L2.St) F' H' fp', σ'.length = n → Grow F H fp F' H' fp' → Rep K F' H' (σ' ++ as) E' fp' → Q σ' H') → g vs σ H Q
def bNil (ds : List PyData) (E : En) : Option En := match ds with
  | [] => some E
  | _ => none
def bCons (b : Rs → En → Option En) (bs : List PyData → En → Option En) (ds : List PyData) (E : En) : Option En := match ds with
  | d :: ds => match b (.val (.dat d)) E with
    | some E1 => bs ds E1
    | none => none
  | [] => none
def bTup (k : Nat) (bs : List PyData → En → Option En) (r : Rs) (E : En) : Option En := match r with
  | .val (.dat (.tuple ds)) => if ds.length = k then bs ds E else none
  | _ => none
theorem gs_nil : EvGs K n gNil bNil := by
  intro as F H σ E E' fp vs ds L R a e Q q
  cases a with
  | nil => cases e; exact ⟨rfl, q σ F H fp L (.refl R.sub fp) R⟩
  | cons _ _ => cases e
theorem gs_cons {g : TG} {gs : TGs} {b : Rs → En → Option En} {bs : List PyData → En → Option En} (hg : EvG K n g b) (hs : EvGs K n gs bs) : EvGs K n (gCons g gs) (bCons b bs) := by
  intro as F H σ E E' fp vs ds L R a e Q q
  cases a with
  | nil => cases e
  | @cons v vs d ds h t =>
    simp only [bCons] at e
    split at e
    · next E1 e1 =>
      exact ⟨v, vs, rfl, hg L R (r := .val (.dat d)) (Own.dat h) e1 fun σ1 F1 H1 fp1 L1 g1 R1 => hs L1 R1 (DqAll.mono g1.f t) e fun σ2 F2 H2 fp2 L2 g2 R2 => q σ2 F2 H2 fp2 L2 (g1.trans g2) R2⟩
    · cases e
theorem g_tup {gs : TGs} {bs : List PyData → En → Option En} {k : Nat} (hs : EvGs K n gs bs) : EvG K n (gTup K k gs) (bTup k bs) := by
  intro as F H σ E E' fp v r L R a e Q q
  unfold bTup at e
  split at e
  · next ds =>
    split at e
    · next hk =>
      obtain ⟨ad, xs, rfl, hq, da⟩ := Mv.Dq.tuple_inv ((show Own K F H v _ [] from a).dat_inv rfl).1
      exact ⟨ad, xs, rfl, SqT.mono R.sub hq, (Mv.DqAll.len da).trans hk, hs L R da e q⟩
    · cases e
  · cases e
/-- a target gets a value -/
def dAsg (b : Rs → En → Option En) (d : En → Option (S × En)) (E : En) : Option Out := match d E with
  | some (.dat x, E') => (b (.val (.dat x)) E').map .nx
  | _ => none
theorem s_asg {g : TG} {b : Rs → En → Option En} (hg : EvG K n g b) (h : EvE K n as te de) : EvS K n as W (tAsg te g) (dAsg b de) := by
  intro F H σ E fp L R o e D gg
  unfold dAsg at e
  split at e
  · next x E' ed =>
    obtain ⟨E2, e2, rfl⟩ := Option.map_eq_some_iff.mp e
    refine h L R ed fun v F1 H1 fr fp1 g1 R1 ow nd of => ?_
    exact hg L R1 (r := .val (.dat x)) (Own.dat (ow.dat_inv rfl).1) e2 fun σ2 F2 H2 fp2 L2 g2 R2 => gg σ2 F2 H2 fp2 L2 ((g1.less fun a m => List.mem_append_right _ m).trans g2) R2
  · cases e

/-! ### what is walked -/
theorem Grow.mine (g : Grow F H [] F' H' fr) : Grow F H fp F' H' fp := (g.ours fp).less fun a m => List.mem_append_right _ m
structure Src where
  /-- what stands behind it -/
  env : En
  /-- roots more, that hold what is walked -/
  exE : En
  /-- item i, if there is one; none: stuck -/
  rd : En → Nat → Option (Option Rs)
  fuel : Nat
def EvI (K : PySem.W.Frag) (n : Nat) (as : Ro) (wi : TI) (src : En → Option Src) : Prop :=
  ∀ {F H : Hp} {σ : L2.St} {E : En} {fp : List Addr}, σ.length = n → Rep K F H (σ ++ as) E fp → ∀ {c : Src}, src E = some c → ∀ {R : It → Hp → Prop},
    (∀ (J : It) F1 H1 (ex : List V) fp1, Grow F H fp F1 H1 fp1 → Rep K F1 H1 (σ ++ (as ++ ex.map some)) (c.env ++ c.exE) fp1 → ex.length = c.exE.length →
      (∀ F2 H2 (σ2 : L2.St) E2 fp2, σ2.length = n → Grow F1 H1 fp1 F2 H2 fp2 → Rep K F2 H2 (σ2 ++ (as ++ ex.map some)) E2 fp2 → ∀ i,
        (∀ r, c.rd E2 i = some (some r) → J.go i H2 ∧ ∀ x H', J.yld i H2 x H' → H' = H2 ∧ RsAt K F2 H2 (σ2 ++ (as ++ ex.map some)) E2 x r []) ∧ (c.rd E2 i = some none → J.stop i H2)) → R J H1) → wi σ H R
def rdD (ds : List PyData) (_ : En) (i : Nat) : Option (Option Rs) := some ((ds[i]?).map fun d => .val (.dat d))
/-- range(k) -/
def iRange (d : En → Option Rs) (E : En) : Option Src := match d E with
  | some (.val (.dat (.int j))) => if j < 2 ^ 62 ∧ -(2 ^ 62) ≤ j then some ⟨E, [], fun _ i => some (if i < j.toNat then some (.val (.dat (.int (i : Nat)))) else none), j.toNat⟩ else none
  | _ => none
theorem i_range (h : EvP K n as te d) : EvI K n as (iRng1 (tCons te tNil)) (iRange d) := by
  intro F H σ E fp L R c e Rr q
  unfold iRange at e
  split at e
  · next j ed =>
    split at e
    · next hj =>
      cases e
      refine h L R ed fun v F1 H1 f1 g1 a1 n1 o1 => ?_
      cases (Own.dat_inv (show Own K F1 H1 v _ f1 from a1) rfl).1
      refine ⟨j, rfl, hj.2, hj.1, q _ F1 H1 [] fp g1.mine (by simpa using R.grow g1) rfl fun F2 H2 σ2 E2 fp2 L2 g2 R2 i => ⟨fun r hr => ?_, fun hr => ?_⟩⟩
      · have hr := Option.some.inj hr
        by_cases hi : i < j.toNat
        · rw [if_pos hi] at hr
          cases hr
          refine ⟨hi, fun x H' hy => ⟨hy.1, ?_⟩⟩
          rw [hy.2]
          have : (0 : Int) + (i : Int) = ((i : Nat) : Int) := by omega
          rw [this]
          exact .dat (.int _)
        · rw [if_neg hi] at hr; cases hr
      · have hr := Option.some.inj hr
        by_cases hi : i < j.toNat
        · rw [if_pos hi] at hr; cases hr
        · exact Nat.le_of_not_lt hi
    · cases e
  · cases e
def datsS : List S → Option (List PyData)
  | [] => some []
  | .dat d :: ss => (datsS ss).map (d :: ·)
  | _ => none
theorem datsS_dp : ∀ {ss : List S} {vs : List V} {fp : List Addr} {ds : List PyData}, OwnL K F H vs ss fp → datsS ss = some ds → DqAll K F vs ds ∧ fp = []
  | [], _, _, _, .nil, e => by cases e; exact ⟨.nil, rfl⟩
  | .dat d :: ss, _, _, _, .cons a l, e => by
    simp only [datsS] at e
    obtain ⟨r, hr, rfl⟩ := Option.map_eq_some_iff.mp e
    obtain ⟨h1, h2⟩ := a.dat_inv rfl
    obtain ⟨h3, h4⟩ := datsS_dp l hr
    subst h2 h4
    exact ⟨.cons h1 h3, rfl⟩
  | .con _ :: _, _, _, _, _, e => by simp [datsS] at e
  | .lst _ :: _, _, _, _, _, e => by simp [datsS] at e
  | .dct _ _ :: _, _, _, _, _, e => by simp [datsS] at e
  | .ins _ _ :: _, _, _, _, _, e => by simp [datsS] at e
/-- a list: data, one of its own made on the way, or a place -/
def iLst (d : En → Option Rs) (E : En) : Option Src := match d E with
  | some (.val (.dat (.list ds))) => some ⟨E, [], rdD ds, ds.length⟩
  | some (.val (.lst ss)) => (datsS ss).map fun ds => ⟨E, [], rdD ds, ds.length⟩
  | some (.pl p) => match eget E p with
    | some (.lst ss) => some ⟨E, [.bor p], fun E2 i => match E2.getLast? with
      | some (.bor p) => match eget E2 p with
        | some (.lst ss) => match ss[i]? with
          | some s => ((Rs.pl p).kid i s).map some
          | none => some none
        | _ => none
      | _ => none, ss.length⟩
    | _ => none
  | _ => none
theorem rdD_go {ds : List PyData} {xs : List V} {i : Nat} {r : Rs} (da : DqAll K F xs ds) (h : rdD ds E i = some (some r)) : ∃ w, xs[i]? = some w ∧ RsAt K F H ρ E w r [] := by
  have h := Option.some.inj h
  obtain ⟨d, hd, rfl⟩ := Option.map_eq_some_iff.mp h
  obtain ⟨w, h1, h2⟩ := Mv.DqAll.nth da hd
  exact ⟨w, h1, .dat h2⟩
theorem rdD_stop {ds : List PyData} {i : Nat} (h : rdD ds E i = some none) : ds.length ≤ i := by
  have h := Option.some.inj h
  cases e : ds[i]? with
  | none => exact List.getElem?_eq_none_iff.mp e
  | some d => rw [e] at h; cases h
theorem Rep.hold {σ : L2.St} {p : List Nat} (R : Rep K F H (σ ++ as) E fp) (h1 : followE H (σ ++ as) p = some v) (h2 : (eget E p).isSome = true) : Rep K F H (σ ++ (as ++ [some v])) (E ++ [.bor p]) fp := by
  obtain ⟨f, l, pm⟩ := R.core.own
  have p0 : p ≠ [] := fun z => by rw [z] at h2; cases h2
  have eg : ∀ q, (eget E q).isSome = true → eget (E ++ [Sl.bor p]) q = eget E q := by
    intro q hq
    obtain ⟨t, ht⟩ := Option.isSome_iff_exists.mp hq
    obtain ⟨i, r, s, rfl, ei, _⟩ := eget_some ht
    have hi := (List.getElem?_eq_some_iff.mp ei).1
    simp only [eget, List.getElem?_append_left hi]
  have fo : ∀ q, (∃ w, followE H (σ ++ as) q = some w) → followE H (σ ++ (as ++ [some v])) q = followE H (σ ++ as) q := by
    intro q ⟨w, hw⟩
    cases q with
    | nil => rfl
    | cons i q =>
      unfold followE at hw ⊢
      dsimp only at hw ⊢
      cases e : (σ ++ as)[i]? with
      | none => rw [e] at hw; cases hw
      | some z =>
        have hi := (List.getElem?_eq_some_iff.mp e).1
        rw [← List.append_assoc, List.getElem?_append_left hi, e]
  have len := R.core.len
  refine ⟨⟨by rw [← List.append_assoc, List.length_append, List.length_append, len]; rfl, ⟨f, ?_, pm⟩, fun i s h => ?_⟩, R.sub, R.nd, R.off, fun i q h => ?_⟩
  · rw [← List.append_assoc, rootS_app len, rootV_app]
    have := l.append (OwnL.cons (fp := []) (K := K) (F := F) (H := H) (Own.con (v := v)) .nil)
    simp only [List.append_nil] at this
    exact this
  · by_cases hi : i < E.length
    · rw [List.getElem?_append_left hi] at h
      obtain ⟨w, hw⟩ := R.core.set i s h
      exact ⟨w, by rw [← List.append_assoc, List.getElem?_append_left (by rw [← len]; exact hi)]; exact hw⟩
    · rw [List.getElem?_append_right (by omega)] at h
      cases hk : i - E.length with
      | zero => rw [hk] at h; cases h
      | succ k => rw [hk] at h; cases h
  · by_cases hi : i < E.length
    · rw [List.getElem?_append_left hi] at h
      obtain ⟨w, e1, e2, e3⟩ := R.bor i q h
      exact ⟨w, by rw [← List.append_assoc, List.getElem?_append_left (by rw [← len]; exact hi)]; exact e1, by rw [fo q ⟨w, e2⟩]; exact e2, by rw [eg q e3]; exact e3⟩
    · rw [List.getElem?_append_right (by omega)] at h
      cases hk : i - E.length with
      | zero =>
        rw [hk] at h
        cases h
        refine ⟨v, ?_, by rw [fo p ⟨v, h1⟩]; exact h1, by rw [eg p h2]; exact h2⟩
        rw [← List.append_assoc, List.getElem?_append_right (by rw [← len]; omega), ← len, hk]; rfl
      | succ k => rw [hk] at h; cases h
def stripOk (E : En) : Bool := match E.getLast? with
  | some (.own _) => false
  | some _ => true
  | none => false
theorem Rep.strip {σ : L2.St} {w : V} (R : Rep K F H (σ ++ (as ++ [some w])) E fp) (ok : stripOk E = true) : Rep K F H (σ ++ as) E.dropLast fp := by
  have len := R.core.len
  have hE : E ≠ [] := fun z => by rw [z] at len; simp at len
  have hd : E = E.dropLast ++ [E.getLast hE] := (List.dropLast_concat_getLast hE).symm
  have hl : E.dropLast.length = (σ ++ as).length := by rw [List.length_dropLast, len]; simp
  have hlast : ∀ s, E.getLast hE ≠ .own s := fun s z => by
    unfold stripOk at ok
    rw [List.getLast?_eq_some_getLast hE, z] at ok
    cases ok
  obtain ⟨f, l, pm⟩ := R.core.own
  have sl : slS (some w) (E.getLast hE) = .con w := by
    cases e : E.getLast hE with
    | own s => exact absurd e (hlast s)
    | no => rfl
    | bor p => rfl
  have eg : ∀ q, eget E q = eget E.dropLast q := by
    intro q
    cases q with
    | nil => rfl
    | cons i q =>
      by_cases hi : i < E.dropLast.length
      · simp only [eget]
        rw [show E[i]? = E.dropLast[i]? by rw [hd, List.getElem?_append_left (by simpa using hi)]; simp]
      · simp only [eget]
        rw [List.getElem?_eq_none_iff.mpr (Nat.le_of_not_lt hi)]
        cases e : E[i]? with
        | none => rfl
        | some sl =>
          have hi2 := (List.getElem?_eq_some_iff.mp e).1
          have : i = E.length - 1 := by rw [List.length_dropLast] at hi; omega
          have e2 : sl = E.getLast hE := by
            rw [List.getLast_eq_getElem]
            subst this
            exact (List.getElem?_eq_some_iff.mp e).2.symm
          cases sl with
          | own s => exact absurd e2.symm (hlast s)
          | no => rfl
          | bor p => rfl
  have gi : ∀ (i : Nat) (e : Sl), E.dropLast[i]? = some e → E[i]? = some e := fun i e h => by
    have hi := (List.getElem?_eq_some_iff.mp h).1
    rw [hd, List.getElem?_append_left hi]
    exact h
  have rr : ∀ (i : Nat), i < (σ ++ as).length → (σ ++ (as ++ [some w]))[i]? = (σ ++ as)[i]? := fun i h => by rw [← List.append_assoc, List.getElem?_append_left h]
  refine ⟨⟨hl, ?_, fun i s h => ?_⟩, R.sub, R.nd, R.off, fun i q h => ?_⟩
  · rw [hd, ← List.append_assoc, rootS_app hl, rootV_app] at l
    obtain ⟨g1, g2, rfl, l1, l2⟩ := l.split (by rw [rootS_len hl]; unfold rootV; rw [List.length_map])
    have : g2 = [] := by
      simp only [rootV, List.map_cons, List.map_nil, rootS] at l2
      rw [sl] at l2
      cases l2 with
      | cons a t => cases t; rw [(a.con_inv rfl).2]; rfl
    subst this
    exact ⟨g1, l1, by simpa using pm⟩
  · obtain ⟨z, hz⟩ := R.core.set i s (gi i _ h)
    have hi := (List.getElem?_eq_some_iff.mp h).1
    exact ⟨z, by rw [← rr i (by omega)]; exact hz⟩
  · obtain ⟨z, e1, e2, e3⟩ := R.bor i q (gi i _ h)
    have hi := (List.getElem?_eq_some_iff.mp h).1
    refine ⟨z, by rw [← rr i (by omega)]; exact e1, ?_, by rw [← eg q]; exact e3⟩
    rw [eg q] at e3
    obtain ⟨t, ht⟩ := Option.isSome_iff_exists.mp e3
    obtain ⟨j, r, s, rfl, ej, _⟩ := eget_some ht
    have hj := (List.getElem?_eq_some_iff.mp ej).1
    unfold followE at e2 ⊢
    dsimp only at e2 ⊢
    rw [rr j (by omega)] at e2
    exact e2
/-- the last root is given up -/
def strip1 (E : En) : En := (slotSet E (E.length - 1) .no).dropLast
def stripN : Nat → En → En
  | 0, E => E
  | k + 1, E => stripN k (strip1 E)
theorem Rep.strip1 {σ : L2.St} {w : V} (R : Rep K F H (σ ++ (as ++ [some w])) E fp) : ∃ fq, Rep K F H (σ ++ as) (strip1 E) fq ∧ ∀ a ∈ fq, a ∈ fp := by
  have len := R.core.len
  have hi : E.length - 1 < (σ ++ (as ++ [some w])).length := by rw [← len]; simp at len; omega
  obtain ⟨fq, R2, sb⟩ := R.setSlot (e := .no) (v := .non) (fr := []) hi rfl R.nd (fun _ m => nomatch m)
  have e1 : (σ ++ (as ++ [some w])).set (E.length - 1) (some V.non) = σ ++ (as ++ [some V.non]) := by
    rw [← List.append_assoc, ← List.append_assoc]
    have : E.length - 1 = (σ ++ as).length := by rw [len]; simp
    rw [this, List.set_append_right _ _ (Nat.le_refl _)]
    simp
  rw [e1] at R2
  have ok : stripOk (slotSet E (E.length - 1) .no) = true := by
    unfold stripOk
    rw [List.getLast?_eq_getElem?]
    have : (slotSet E (E.length - 1) Sl.no).length = E.length := by unfold slotSet; simp
    rw [this]
    unfold slotSet
    rw [List.getElem?_set_self (by rw [List.length_map]; omega)]
  exact ⟨fq, R2.strip ok, fun a m => by simpa using sb a m⟩
theorem Rep.stripN {σ : L2.St} : ∀ (k : Nat) {ex : List V} {E : En} {fp : List Addr}, ex.length = k → Rep K F H (σ ++ (as ++ ex.map some)) E fp → ∃ fq, Rep K F H (σ ++ as) (stripN k E) fq ∧ ∀ a ∈ fq, a ∈ fp
  | 0, ex, E, fp, h, R => by
    have : ex = [] := List.eq_nil_of_length_eq_zero h
    subst this
    refine ⟨fp, ?_, fun _ m => m⟩
    show Rep K F H (σ ++ as) E fp
    simpa using R
  | k + 1, ex, E, fp, h, R => by
    rcases List.eq_nil_or_concat ex with z | ⟨ys, w, rfl⟩
    · rw [z] at h; cases h
    · rw [List.concat_eq_append] at h
      rw [List.concat_eq_append, List.map_append, ← List.append_assoc as] at R
      obtain ⟨f1, R1, h1⟩ := Rep.strip1 (as := as ++ ys.map some) (w := w) R
      obtain ⟨f2, R2, h2⟩ := Rep.stripN k (ex := ys) (by simpa using h) R1
      exact ⟨f2, R2, fun a m => h1 a (h2 a m)⟩
end Mv
/-! for, comprehensions -/
namespace Mv
open PySem PySem.Spec PyProof.Rows L2
variable {K : PySem.W.Frag} {F F' F1 F2 H H' H1 H2 : Hp} {v u x y : V} {vs ws : List V} {s t : S} {ss tts : List S} {fp fq fr fp' fp1 fp2 f1 f2 : List Addr} {ρ as : Ro} {E E' : En} {n : Nat}
variable {W : WXm} {te ta tb tc : TE} {d da db dc : En → Option Rs} {tr : TA} {dr : En → Option (List Rs)} {de df : En → Option (S × En)}

theorem i_lst (h : EvP K n as te d) : EvI K n as (iList K te) (iLst d) := by
  intro F H σ E fp L R c e Rr q
  unfold iLst at e
  split at e
  · next ds ed =>
    cases e
    refine h L R ed fun v F1 H1 f1 g1 a1 n1 o1 => ?_
    obtain ⟨a, xs, rfl, hq, da⟩ := Mv.Dq.list_inv (Own.dat_inv (show Own K F1 H1 v _ f1 from a1) rfl).1
    refine ⟨a, rfl, ⟨xs, SqL.mono g1.sub hq⟩, q _ F1 H1 [] fp g1.mine (by simpa using R.grow g1) rfl fun F2 H2 σ2 E2 fp2 L2 g2 R2 i => ?_⟩
    have hq2 : SqL K H2 a xs := SqL.mono g2.sub (SqL.mono g2.f hq)
    have da2 := Mv.DqAll.mono g2.f da
    refine ⟨fun r hr => ?_, fun hr => ⟨xs, hq2, by rw [Mv.DqAll.len da]; exact rdD_stop (E := E2) hr⟩⟩
    obtain ⟨w, hw, ar⟩ := rdD_go (K := K) (H := H2) (E := E2) (ρ := σ2 ++ (as ++ ([] : List V).map some)) da2 hr
    exact ⟨⟨xs, w, hq2, hw⟩, fun x H' hy => ⟨hy.1, by rw [Option.some.inj ((hy.2 xs hq2).symm.trans hw)]; exact ar⟩⟩
  · next ss ed =>
    obtain ⟨ds, hd, rfl⟩ := Option.map_eq_some_iff.mp e
    refine h L R ed fun v F1 H1 f1 g1 a1 n1 o1 => ?_
    obtain ⟨a, xs, fq, rfl, hH, l, hf⟩ := Own.lst_inv (show Own K F1 H1 v _ f1 from a1) rfl
    obtain ⟨da, rfl⟩ := datsS_dp l hd
    refine ⟨a, rfl, ⟨xs, .inl (.inl hH)⟩, q _ F1 H1 [] fp g1.mine (by simpa using R.grow g1) rfl fun F2 H2 σ2 E2 fp2 L2 g2 R2 i => ?_⟩
    have na : a ∉ fp := by
      have := R.apart_new g1 n1
      rw [hf] at this
      exact fun m => (List.nodup_append.mp this).2.2 a List.mem_cons_self a m rfl
    have hq2 : SqL K H2 a xs := .inl (.inl (g2.keep a _ hH na))
    have da2 := Mv.DqAll.mono g2.f da
    refine ⟨fun r hr => ?_, fun hr => ⟨xs, hq2, by rw [Mv.DqAll.len da]; exact rdD_stop (E := E2) hr⟩⟩
    obtain ⟨w, hw, ar⟩ := rdD_go (K := K) (H := H2) (E := E2) (ρ := σ2 ++ (as ++ ([] : List V).map some)) da2 hr
    exact ⟨⟨xs, w, hq2, hw⟩, fun x H' hy => ⟨hy.1, by rw [Option.some.inj ((hy.2 xs hq2).symm.trans hw)]; exact ar⟩⟩
  · next p ed =>
    split at e
    · next ss es =>
      cases e
      refine h L R ed fun v F1 H1 f1 g1 a1 n1 o1 => ?_
      have R1 := R.grow g1
      obtain ⟨fq, ow⟩ := a1.own R1 (show (Rs.pl p).at E = some (.lst ss) from es)
      obtain ⟨a, xs, fq', rfl, hH, l, hf⟩ := ow.lst_inv rfl
      obtain ⟨b1, b2, b3⟩ := a1
      refine ⟨a, rfl, ⟨xs, .inl (.inl hH)⟩, q _ F1 H1 [.ref a] fp g1.mine (R1.hold b2 b3) rfl fun F2 H2 σ2 E2 fp2 L2 g2 R2 i => ?_⟩
      have len := R2.core.len
      have lastv : (σ2 ++ (as ++ [V.ref a].map some))[E2.length - 1]? = some (some (.ref a)) := by
        rw [← List.append_assoc, List.getElem?_append_right (by rw [len]; simp), len]
        simp
      have key : ∀ p2 ss2, E2.getLast? = some (Sl.bor p2) → eget E2 p2 = some (.lst ss2) → ∃ xs2 f2, H2 a = some (.lst xs2) ∧ OwnL K F2 H2 xs2 ss2 f2 ∧ RsAt K F2 H2 (σ2 ++ (as ++ [V.ref a].map some)) E2 (.ref a) (.pl p2) [] := by
        intro p2 ss2 hl hg
        rw [List.getLast?_eq_getElem?] at hl
        obtain ⟨w, e1, e2, e3⟩ := R2.bor _ p2 hl
        rw [lastv] at e1
        cases e1
        have at2 : RsAt K F2 H2 (σ2 ++ (as ++ [V.ref a].map some)) E2 (.ref a) (.pl p2) [] := ⟨rfl, e2, e3⟩
        obtain ⟨f2, ow2⟩ := at2.own R2 (show (Rs.pl p2).at E2 = some (.lst ss2) from hg)
        obtain ⟨a', xs2, f3, ea, hH2, l2, _⟩ := ow2.lst_inv rfl
        cases ea
        exact ⟨xs2, f3, hH2, l2, at2⟩
      refine ⟨fun r hr => ?_, fun hr => ?_⟩
      · dsimp only at hr
        split at hr
        · next p2 hl =>
          split at hr
          · next ss2 hg =>
            obtain ⟨xs2, f2, hH2, l2, at2⟩ := key p2 ss2 hl hg
            split at hr
            · next s hs =>
              obtain ⟨r', hr', er⟩ := Option.map_eq_some_iff.mp hr
              cases er
              obtain ⟨w, f, hw, ow⟩ := l2.nth hs
              have hq2 : SqL K H2 a xs2 := .inl (.inl hH2)
              exact ⟨⟨xs2, w, hq2, hw⟩, fun x H' hy => ⟨hy.1, by rw [Option.some.inj ((hy.2 xs2 hq2).symm.trans hw)]; exact at2.kid R2 hg hH2 hw hs ow hr'⟩⟩
            · cases hr
          · cases hr
        · cases hr
      · dsimp only at hr
        split at hr
        · next p2 hl =>
          split at hr
          · next ss2 hg =>
            obtain ⟨xs2, f2, hH2, l2, at2⟩ := key p2 ss2 hl hg
            split at hr
            · next s hs =>
              cases hk : (Rs.pl p2).kid i s with
              | none => rw [hk] at hr; cases hr
              | some r' => rw [hk] at hr; cases hr
            · next hs => exact ⟨xs2, .inl (.inl hH2), by rw [l2.length]; exact List.getElem?_eq_none_iff.mp hs⟩
          · cases hr
        · cases hr
    · cases e
  · cases e
/-! ### for -/
def dLoop (rd : En → Nat → Option (Option Rs)) (bd : Rs → En → Option En) (db : En → Option Out) : Nat → Nat → En → Option Out
  | fuel, i, E => match rd E i with
    | none => none
    | some none => some (.nx E)
    | some (some r) => match fuel with
      | 0 => none
      | fuel + 1 => match bd r E with
        | none => none
        | some E1 => match db E1 with
          | some (.nx E2) => dLoop rd bd db fuel (i + 1) E2
          | some (.ct E2) => dLoop rd bd db fuel (i + 1) E2
          | some (.bk E2) => some (.nx E2)
          | some (.rt s E2) => some (.rt s E2)
          | some (.ex c E2) => some (.ex c E2)
          | none => none
def stripE (c : Src) (E : En) : En := stripN c.exE.length E
def stripO (c : Src) : Option Out → Option Out
  | some (.nx E) => some (.nx (stripE c E))
  | some (.rt s E) => some (.rt s (stripE c E))
  | some (.bk E) => some (.bk (stripE c E))
  | some (.ct E) => some (.ct (stripE c E))
  | some (.ex x E) => some (.ex x (stripE c E))
  | none => none
def dFor (src : En → Option Src) (bd : Rs → En → Option En) (db : En → Option Out) (E : En) : Option Out := match src E with
  | some c => stripO c (dLoop c.rd bd db c.fuel 0 (c.env ++ c.exE))
  | none => none
theorem stripE_rep {σ : L2.St} {c : Src} {ex : List V} (R : Rep K F H (σ ++ (as ++ ex.map some)) E fp) (hl : ex.length = c.exE.length) : ∃ fq, Rep K F H (σ ++ as) (stripE c E) fq ∧ ∀ a ∈ fq, a ∈ fp := R.stripN _ hl
theorem s_for {wi : TI} {g : TG} {tb : TS} {src : En → Option Src} {bd : Rs → En → Option En} {db : En → Option Out} (hi : EvI K n as wi src) (hg : EvG K n g bd) (hb : ∀ as, EvS K n as W tb db) : EvS K n as W (tFor wi g tb) (dFor src bd db) := by
  intro F H σ E fp L R o e D gg
  unfold dFor at e
  split at e
  · next c ec =>
    refine hi L R ec fun J F1 H1 ex fpx g1' R1 hx spec => ?_
    generalize hd : dLoop c.rd bd db c.fuel 0 (c.env ++ c.exE) = o1 at e
    refine ⟨fun i m σ2 H2 => ∃ F2 E2 fp2, σ2.length = n ∧ Grow F1 H1 fpx F2 H2 fp2 ∧ Rep K F2 H2 (σ2 ++ (as ++ ex.map some)) E2 fp2 ∧ dLoop c.rd bd db m i E2 = o1,
      ⟨c.fuel, F1, _, fpx, L, .refl R1.sub fpx, R1, hd⟩, fun i m σ2 H2 hW => ?_⟩
    obtain ⟨F2, E2, fp2, L2, g2, R2, h2⟩ := hW
    obtain ⟨sp1, sp2⟩ := spec F2 H2 σ2 E2 fp2 L2 g2 R2 i
    rw [dLoop.eq_def] at h2
    dsimp only at h2
    cases hr : c.rd E2 i with
    | none => rw [hr] at h2; dsimp only at h2; rw [← h2] at e; cases e
    | some r0 => cases r0 with
      | none =>
        rw [hr] at h2
        dsimp only at h2
        rw [← h2] at e
        cases e
        obtain ⟨fq, R3, sb⟩ := stripE_rep R2 hx
        exact .inl ⟨sp2 hr, gg σ2 F2 H2 fq L2 ((g1'.trans g2).less sb) R3⟩
      | some r =>
        rw [hr] at h2
        dsimp only at h2
        obtain ⟨go, yl⟩ := sp1 r hr
        cases m with
        | zero => dsimp only at h2; rw [← h2] at e; cases e
        | succ m =>
          dsimp only at h2
          refine .inr ⟨go, fun σ' H' => ∃ F2 E2 fp2, σ'.length = n ∧ Grow F1 H1 fpx F2 H' fp2 ∧ Rep K F2 H' (σ' ++ (as ++ ex.map some)) E2 fp2 ∧ dLoop c.rd bd db m (i + 1) E2 = o1, fun σ' H' hN => ⟨m, Nat.lt_succ_self m, hN⟩, fun x H' hy => ?_⟩
          obtain ⟨rfl, ar⟩ := yl x H' hy
          split at h2
          · rw [← h2] at e; cases e
          · next E3 e3 =>
            refine hg L2 R2 ar e3 fun σ3 F3 H3 fp3 L3 g3 R3 => ?_
            have g23 := g2.trans g3
            split at h2
            · next E4 e4 => exact hb _ L3 R3 e4 fun σ' F' H' fp' L' g' R' => ⟨F', E4, fp', L', g23.trans g', R', h2⟩
            · next E4 e4 => exact hb _ L3 R3 e4 fun σ' F' H' fp' L' g' R' => ⟨F', E4, fp', L', g23.trans g', R', h2⟩
            · next E4 e4 =>
              rw [← h2] at e
              cases e
              refine hb _ L3 R3 e4 fun σ' F' H' fp' L' g' R' => ?_
              obtain ⟨fq, R5, sb⟩ := stripE_rep R' hx
              exact gg σ' F' H' fq L' ((g1'.trans (g23.trans g')).less sb) R5
            · next s E4 e4 =>
              rw [← h2] at e
              cases e
              refine hb _ L3 R3 e4 fun v σ' F' H' fr fp' L' g' R' ow nd of => ?_
              obtain ⟨fq, R5, sb⟩ := stripE_rep R' hx
              refine gg v σ' F' H' fr fq L' ((g1'.trans (g23.trans g')).less fun a m => ?_) R5 ow ?_ of
              · exact List.mem_append.mpr ((List.mem_append.mp m).imp id (sb a))
              · exact List.nodup_append.mpr ⟨(List.nodup_append.mp nd).1, R5.nd, fun a m b m2 => (List.nodup_append.mp nd).2.2 a m b (sb b m2)⟩
            · next x E4 e4 =>
              rw [← h2] at e
              cases e
              refine hb _ L3 R3 e4 fun C σ' F' H' fp' hC L' g' R' => ?_
              obtain ⟨fq, R5, sb⟩ := stripE_rep R' hx
              exact gg C σ' F' H' fq hC L' ((g1'.trans (g23.trans g')).less sb) R5
            · rw [← h2] at e; cases e
  · cases e
end Mv
/-! comprehensions -/
namespace Mv
open PySem PySem.Spec PyProof.Rows L2
variable {K : PySem.W.Frag} {F F' F1 F2 H H' H1 H2 : Hp} {v u x y : V} {vs ws : List V} {s t : S} {ss tts : List S} {fp fq fr fp' fp1 fp2 f1 f2 : List Addr} {ρ as : Ro} {E E' : En} {n : Nat}
variable {te ta tb tc : TE} {d da db dc : En → Option Rs} {tr : TA} {dr : En → Option (List Rs)} {de df : En → Option (S × En)} {tt : TT} {dte : En → Option (Bool × En)}

theorem OwnL.recon {w : V} : ∀ {vs : List V} {ss : List S} {fp : List Addr} {j : Nat} {c : V}, OwnL K F H vs ss fp → ss[j]? = some (.con c) → OwnL K F H (vs.set j w) (ss.set j (.con w)) fp
  | _, _, _, j, _, .nil, e => by simp at e
  | _, _, _, 0, c, .cons (fq := fq) h t, e => by
    simp only [List.getElem?_cons_zero, Option.some.injEq] at e
    obtain ⟨_, h2⟩ := h.con_inv e
    subst h2
    exact .cons (fp := []) .con t
  | _, _, _, j + 1, c, .cons h t, e => .cons h (OwnL.recon (j := j) t (by simpa using e))
theorem rootS_no_at : ∀ {ρ : Ro} {E : En} {j : Nat}, E.length = ρ.length → E[j]? = some Sl.no → ∃ c, (rootS ρ E)[j]? = some (.con c)
  | [], [], _, _, h => by simp at h
  | [], _ :: _, _, l, _ => by simp at l
  | _ :: _, [], _, l, _ => by simp at l
  | a :: ρ, b :: E, 0, l, h => by
    simp only [List.getElem?_cons_zero, Option.some.injEq] at h
    subst h
    exact ⟨_, rfl⟩
  | a :: ρ, b :: E, j + 1, l, h => by
    simp only [rootS, List.getElem?_cons_succ]
    exact rootS_no_at (by simpa using l) (by simpa using h)
/-- a slot of which nothing is known may hold anything -/
theorem Rep.forget {j : Nat} (w : Option V) (R : Rep K F H ρ E fp) (h : E[j]? = some Sl.no) : Rep K F H (ρ.set j w) E fp := by
  have hj : j < E.length := (List.getElem?_eq_some_iff.mp h).1
  have len := R.core.len
  obtain ⟨f, l, pm⟩ := R.core.own
  obtain ⟨c, hc⟩ := rootS_no_at len h
  have hn : E.set j Sl.no = E := by
    apply List.ext_getElem?
    intro i
    by_cases ij : j = i
    · subst ij; rw [List.getElem?_set_self hj, h]
    · rw [List.getElem?_set_ne ij]
  have hs : rootS (ρ.set j w) E = (rootS ρ E).set j (.con (w.getD .non)) := by
    have := rootS_set2 (ρ := ρ) (E := E) (i := j) (v := w) (e := Sl.no) len
    rw [hn] at this
    rw [this]
    cases w <;> rfl
  have hv : rootV (ρ.set j w) = (rootV ρ).set j (w.getD .non) := by unfold rootV; rw [List.map_set]
  refine ⟨⟨by rw [List.length_set]; exact len, ⟨f, by rw [hs, hv]; exact l.recon hc, pm⟩, fun i s hi => ?_⟩, R.sub, R.nd, R.off, fun i p hb => ?_⟩
  · have ij : j ≠ i := fun z => by rw [← z, h] at hi; cases hi
    rw [List.getElem?_set_ne ij]
    exact R.core.set i s hi
  · have ij : j ≠ i := fun z => by rw [← z, h] at hb; cases hb
    obtain ⟨z, e1, e2, e3⟩ := R.bor i p hb
    refine ⟨z, by rw [List.getElem?_set_ne ij]; exact e1, ?_, e3⟩
    have hp : p.head? ≠ some j := fun z => by
      obtain ⟨t, ht⟩ := Option.isSome_iff_exists.mp e3
      obtain ⟨k, r, s, rfl, ek, _⟩ := eget_some ht
      simp only [List.head?_cons, Option.some.injEq] at z
      subst z
      rw [h] at ek; cases ek
    rw [followE_set hp]
    exact e2
theorem Rep.grow2 (r : Rep K F H ρ E fp) (g : Grow F H fq F' H' fr) (dj : ∀ a ∈ fp, a ∉ fq) : Rep K F' H' ρ E fp := by
  have k : ∀ a ∈ fp, ∀ o, H a = some o → H' a = some o := fun a m o e => g.keep a o e (dj a m)
  refine ⟨r.core.frame g.f g.sub k, g.sub, r.nd, fun a m => ?_, fun i p h => ?_⟩
  · obtain ⟨o, e⟩ := r.there a m
    exact g.off a (by rw [e]; exact fun z => nomatch z) (dj a m) (r.off a m)
  · obtain ⟨v, h1, h2, h3⟩ := r.bor i p h
    obtain ⟨t, ht⟩ := Option.isSome_iff_exists.mp h3
    exact ⟨v, h1, by rw [r.core.follow_keep (fun b o e => g.sub b o (g.f b o e)) ht k]; exact h2, h3⟩
theorem Grow.beside (g : Grow F H fp F' H' fp') (X : List Addr) : Grow F H (X ++ fp) F' H' (X ++ fp') :=
  g.wide (fun a m => List.mem_append_right _ m) fun a m => by
    rcases List.mem_append.mp m with m | m
    · exact .inl (List.mem_append_left _ m)
    · exact (g.new a m).imp (List.mem_append_right _) id
/-- one object of ours written -/
theorem Grow.write {D : Addr} {o : HO} (sub : ∀ a o, F a = some o → H a = some o) (hF : F D = none) : Grow F H [D] F (upd H D o) [D] := by
  refine ⟨fun _ _ h => h, fun a u e => ?_, fun a u e m => ?_, fun a m => .inl m, fun _ _ _ h => h⟩
  · have : a ≠ D := fun z => by rw [z, hF] at e; cases e
    rw [upd_ne this]; exact sub a u e
  · have : a ≠ D := fun z => m (by rw [z]; exact List.mem_cons_self)
    rw [upd_ne this]; exact e
/-- a slot is forgotten -/
theorem Rep.wipe {j : Nat} (R : Rep K F H ρ E fp) (hj : j < ρ.length) (w : Option V) : ∃ fq, Rep K F H (ρ.set j w) (slotSet E j .no) fq ∧ ∀ a ∈ fq, a ∈ fp := by
  obtain ⟨fq, R2, sb⟩ := R.setSlot (e := .no) (v := .non) (fr := []) hj rfl R.nd (fun _ m => nomatch m)
  have hE : (slotSet E j .no)[j]? = some Sl.no := by
    unfold slotSet
    rw [List.getElem?_set_self (by rw [List.length_map, R.core.len]; exact hj)]
  have := R2.forget w hE
  rw [List.set_set] at this
  exact ⟨fq, this, fun a m => by simpa using sb a m⟩
def dLcLoop (rd : En → Nat → Option (Option Rs)) (j : Nat) (dt : En → Option (Bool × En)) (de : En → Option (S × En)) : Nat → Nat → List S → En → Option (List S × En)
  | fuel, i, acc, E => match rd E i with
    | none => none
    | some none => some (acc, E)
    | some (some r) => match fuel with
      | 0 => none
      | fuel + 1 => match bName j r E with
        | none => none
        | some E1 => match dt E1 with
          | some (true, E2) => match de E2 with
            | some (s, E3) => if acc.length < 100000 then dLcLoop rd j dt de fuel (i + 1) (acc ++ [s]) (slotSet E3 j .no) else none
            | none => none
          | some (false, E2) => dLcLoop rd j dt de fuel (i + 1) acc (slotSet E2 j .no)
          | none => none
def eLc (src : En → Option Src) (j : Nat) (dt : En → Option (Bool × En)) (de : En → Option (S × En)) (E : En) : Option (S × En) := match src E with
  | some c => match dLcLoop c.rd j dt de c.fuel 0 [] (slotSet (c.env ++ c.exE) j .no) with
    | some (acc, E') => some (.lst acc, stripE c E')
    | none => none
  | none => none
def eYes (E : En) : Option (Bool × En) := some (true, E)
theorem e_yes : EvTE K n as tYes eYes := by
  intro F H σ E fp L R b E' e Q q
  cases e
  exact q F H fp (.refl R.sub fp) R
theorem e_lc {wi : TI} {src : En → Option Src} {j : Nat} (hj : j < n) (hi : EvI K n as wi src) (ht : ∀ as, EvTE K n as tt dte) (he : ∀ as, EvE K n as te de) : EvE K n as (tLc wi (gName j) tt te [j]) (eLc src j dte de) := by
  intro F H σ E fp L R s0 E0 e Q q
  unfold eLc at e
  split at e
  · next c ec =>
    split at e
    · next acc0 E9 hd =>
      cases e
      refine hi L R ec fun J F1 H1 ex fpx g1' R1 hx spec => fun D hD => ?_
      have hjl : j < (σ ++ (as ++ ex.map some)).length := by rw [List.length_append]; omega
      have wl : ∀ w, (σ.set j w) ++ (as ++ ex.map some) = (σ ++ (as ++ ex.map some)).set j w := fun w => set_app (by omega)
      have gD : Grow F1 H1 [] F1 (upd H1 D (.lst [])) [D] := Grow.alloc R1.sub hD
      obtain ⟨fw, Rw, sbw⟩ := (R1.grow gD).wipe hjl none
      rw [← wl none] at Rw
      have back : ((σ.set j none) ++ (as ++ ex.map some)).set j (σ[j]?.getD none) = σ ++ (as ++ ex.map some) := by
        rw [wl none, List.set_set]
        apply List.ext_getElem?
        intro i
        by_cases ij : j = i
        · subst ij
          have h1 : j < σ.length := by omega
          rw [List.getElem?_set_self hjl, List.getElem?_append_left h1, List.getElem?_eq_getElem h1]; rfl
        · rw [List.getElem?_set_ne ij]
      -- the invariant
      refine ⟨fun i m Hm => ∃ Fm Em fpm accV accS fa, Grow F1 H1 fpx Fm Hm (D :: (fa ++ fpm)) ∧ Rep K Fm Hm ((σ.set j none) ++ (as ++ ex.map some)) Em fpm ∧ Em[j]? = some Sl.no ∧ Hm D = some (.lst accV) ∧ OwnL K Fm Hm accV accS fa ∧
          (D :: (fa ++ fpm)).Nodup ∧ (∀ a ∈ D :: fa, Fm a = none) ∧ dLcLoop c.rd j dte de m i accS Em = some (acc0, E9),
        ⟨c.fuel, F1, _, fw, [], [], [], ?_, Rw, ?_, upd_same, .nil, ?_, ?_, hd⟩, fun i m Hm hW => ?_⟩
      · have := gD.wide (fq := fpx) (fr := D :: ([] ++ fw)) (fun _ m => nomatch m) fun a m => ?_
        · exact this
        · rcases List.mem_cons.mp m with rfl | m
          · exact .inr hD
          · exact .inl (sbw a (by simpa using m))
      · unfold slotSet
        rw [List.getElem?_set_self]
        rw [List.length_map, R1.core.len]; exact hjl
      · refine List.nodup_cons.mpr ⟨fun m => ?_, by simpa using Rw.nd⟩
        obtain ⟨o, eo⟩ := R1.there D (sbw D (by simpa using m))
        rw [hD] at eo; cases eo
      · intro a m
        rw [List.mem_singleton.mp m]
        cases h : F1 D with
        | none => rfl
        | some o => rw [R1.sub D o h] at hD; cases hD
      · obtain ⟨Fm, Em, fpm, accV, accS, fa, gm, Rm, hno, hHD, lacc, nd, off, hl⟩ := hW
        have gm' : Grow F1 H1 fpx Fm Hm fpm := gm.less fun a m => List.mem_cons_of_mem _ (List.mem_append_right _ m)
        obtain ⟨sp1, sp2⟩ := spec Fm Hm (σ.set j none) Em fpm (by rw [List.length_set]; exact L) gm' Rm i
        rw [dLcLoop.eq_def] at hl
        dsimp only at hl
        have subD : (D :: fa ++ fpm).Nodup := by simpa using nd
        cases hr : c.rd Em i with
        | none => rw [hr] at hl; cases hl
        | some r0 => cases r0 with
          | none =>
            rw [hr] at hl
            cases hl
            refine .inl ⟨sp2 hr, ?_⟩
            have R3 : Rep K Fm Hm (σ ++ (as ++ ex.map some)) E9 fpm := by
              have := Rm.forget (σ[j]?.getD none) hno
              rw [back] at this
              exact this
            obtain ⟨fq9, R4, sb9⟩ := stripE_rep R3 hx
            refine q (.ref D) Fm Hm (D :: fa) fq9 (g1'.trans (gm.less fun a m => (List.mem_append.mp m).elim (fun m => (List.mem_cons.mp m).elim (fun z => by rw [z]; exact List.mem_cons_self) fun m => List.mem_cons_of_mem _ (List.mem_append_left _ m)) fun m => List.mem_cons_of_mem _ (List.mem_append_right _ (sb9 a m)))) R4 (Own.node (s := .lst acc0) (ex := []) hHD (show Head _ Hm D (.lst accV) (.lst acc0) [] from rfl) lacc) ?_ off
            have nd' := List.nodup_append.mp (show (D :: fa ++ fpm).Nodup by simpa using nd)
            exact List.nodup_append.mpr ⟨nd'.1, R4.nd, fun a m b m2 => nd'.2.2 a m b (sb9 b m2)⟩
          | some r =>
            rw [hr] at hl
            dsimp only at hl
            obtain ⟨go, yl⟩ := sp1 r hr
            cases m with
            | zero => cases hl
            | succ m =>
              dsimp only at hl
              refine .inr ⟨go, fun H' => ∃ Fm Em fpm accV accS fa, Grow F1 H1 fpx Fm H' (D :: (fa ++ fpm)) ∧ Rep K Fm H' ((σ.set j none) ++ (as ++ ex.map some)) Em fpm ∧ Em[j]? = some Sl.no ∧ H' D = some (.lst accV) ∧ OwnL K Fm H' accV accS fa ∧
                (D :: (fa ++ fpm)).Nodup ∧ (∀ a ∈ D :: fa, Fm a = none) ∧ dLcLoop c.rd j dte de m (i + 1) accS Em = some (acc0, E9), fun H' hN => ⟨m, Nat.lt_succ_self m, hN⟩, fun x H' hy => ?_⟩
              obtain ⟨rfl, ar⟩ := yl x H' hy
              split at hl
              · cases hl
              · next E1 e1 =>
                show wipe ((σ.set j none).set j (some x)) [j] = wipe σ [j] ∧ _
                refine ⟨by show ((σ.set j none).set j (some x)).set j none = σ.set j none; rw [List.set_set, List.set_set], ?_⟩
                have hLw : ((σ.set j none).set j (some x)).length = n := by rw [List.length_set, List.length_set]; exact L
                have hjw : j < (σ.set j none ++ (as ++ ex.map some)).length := by rw [List.length_append, List.length_set]; omega
                have hR1 : ∃ fq, Rep K Fm H' (((σ.set j none).set j (some x)) ++ (as ++ ex.map some)) E1 fq ∧ ∀ a ∈ fq, a ∈ fpm := by
                  rw [show ((σ.set j none).set j (some x)) ++ (as ++ ex.map some) = (σ.set j none ++ (as ++ ex.map some)).set j (some x) from set_app (by rw [List.length_set]; omega)]
                  cases r with
                  | val s =>
                    cases e1
                    obtain ⟨fq, k1, k2⟩ := Rm.setSlot (e := .own s) (fr := []) hjw ar Rm.nd (fun _ m => nomatch m)
                    exact ⟨fq, k1, fun a m => by simpa using k2 a m⟩
                  | pl p =>
                    unfold bName at e1
                    dsimp only at e1
                    split at e1
                    · cases e1
                    · next hp =>
                      cases e1
                      obtain ⟨a1, a2, a3⟩ := ar
                      obtain ⟨fq, k1, k2⟩ := Rm.setSlot (e := .bor p) (fr := []) hjw ⟨rfl, hp, a2, a3⟩ Rm.nd (fun _ m => nomatch m)
                      exact ⟨fq, k1, fun a m => by simpa using k2 a m⟩
                obtain ⟨fq, R1', sb1⟩ := hR1
                -- D and what is made so far stand aside
                have asideD : ∀ a ∈ D :: fa, a ∉ fq := fun a m m2 => (List.nodup_append.mp (show (D :: fa ++ fpm).Nodup by simpa using nd)).2.2 a m a (sb1 a m2) rfl
                have thD : ∀ a ∈ D :: fa, ∃ o, H' a = some o := fun a m => by
                  rcases List.mem_cons.mp m with rfl | m
                  · exact ⟨_, hHD⟩
                  · exact lacc.there a m
                have gfq : Grow F1 H1 fpx Fm H' (D :: fa ++ fq) := gm.less fun a m => by
                  rcases List.mem_append.mp m with m | m
                  · rcases List.mem_cons.mp m with rfl | m
                    · exact List.mem_cons_self
                    · exact List.mem_cons_of_mem _ (List.mem_append_left _ m)
                  · exact List.mem_cons_of_mem _ (List.mem_append_right _ (sb1 a m))
                have keepD : ∀ {F3 H3 fp3}, Grow Fm H' fq F3 H3 fp3 → H3 D = some (.lst accV) ∧ OwnL K F3 H3 accV accS fa ∧ (∀ a ∈ D :: fa, F3 a = none) ∧ (∀ a ∈ D :: fa, a ∉ fp3) := fun {F3 H3 fp3} g3 => by
                  refine ⟨g3.keep D _ hHD (asideD D List.mem_cons_self), lacc.frame g3.f g3.sub fun a m o e => g3.keep a o e (asideD a (List.mem_cons_of_mem _ m)), fun a m => ?_, fun a m m2 => ?_⟩
                  · obtain ⟨o, eo⟩ := thD a m
                    exact g3.off a (by rw [eo]; exact fun z => nomatch z) (asideD a m) (off a m)
                  · rcases g3.new a m2 with z | z
                    · exact asideD a m z
                    · obtain ⟨o, eo⟩ := thD a m
                      rw [eo] at z; cases z
                have ndD : (D :: fa).Nodup := (List.nodup_append.mp (show (D :: fa ++ fpm).Nodup by simpa using nd)).1
                split at hl
                · next E2 e2 =>
                  split at hl
                  · next s3 E3 e3 =>
                    split at hl
                    · next hlen =>
                      refine ht _ hLw R1' e2 fun F3 H3 fp3 g3 R3 => iteT (he _ hLw R3 e3 fun y F4 H4 fr fp4 g4 R4 ow nd4 of4 => ?_)
                      have g34 : Grow Fm H' fq F4 H4 (fr ++ fp4) := g3.trans g4
                      obtain ⟨kD, kacc, koff, kas⟩ := keepD g34
                      refine ⟨accV, kD, by rw [lacc.length, sizeLine_eq]; omega, ?_⟩
                      have hjw4 : j < (((σ.set j none).set j (some x)) ++ (as ++ ex.map some)).length := by rw [List.length_append, hLw]; omega
                      obtain ⟨fq5, R5, sb5⟩ := R4.wipe hjw4 none
                      rw [← show (((σ.set j none).set j (some x)).set j none) ++ (as ++ ex.map some) = (((σ.set j none).set j (some x)) ++ (as ++ ex.map some)).set j none from set_app (by omega), List.set_set, List.set_set] at R5
                      have gw : Grow F4 H4 [D] F4 (upd H4 D (.lst (accV ++ [y]))) [D] := Grow.write R4.sub (koff D List.mem_cons_self)
                      have D4 : D ∉ fr ++ fp4 := kas D List.mem_cons_self
                      have R6 := R5.grow2 gw (fun a m m2 => D4 (by rw [← List.mem_singleton.mp m2]; exact List.mem_append_right _ (sb5 a m)))
                      have nDfa : D ∉ fa := (List.nodup_cons.mp ndD).1
                      have ow6 : Own K F4 (upd H4 D (.lst (accV ++ [y]))) y s3 fr := ow.grow gw fun a m m2 => D4 (by rw [← List.mem_singleton.mp m2]; exact List.mem_append_left _ m)
                      have acc6 : OwnL K F4 (upd H4 D (.lst (accV ++ [y]))) accV accS fa := kacc.frame gw.f gw.sub fun a m o e => gw.keep a o e fun m2 => nDfa (by rw [← List.mem_singleton.mp m2]; exact m)
                      have lall := acc6.append (OwnL.cons ow6 .nil)
                      rw [List.append_nil] at lall
                      refine ⟨F4, slotSet E3 j .no, fq5, accV ++ [y], accS ++ [s3], fa ++ fr, ?_, R6, ?_, upd_same, lall, ?_, ?_, hl⟩
                      · have ga : Grow F1 H1 fpx F4 H4 (D :: fa ++ (fr ++ fp4)) := gfq.trans (g34.beside (D :: fa))
                        have gb : Grow F4 H4 (D :: fa ++ (fr ++ fp4)) F4 (upd H4 D (.lst (accV ++ [y]))) (D :: (fa ++ fr ++ fq5)) := gw.wide (fun a m => by rw [List.mem_singleton.mp m]; exact List.mem_append_left _ List.mem_cons_self) fun a m => by
                          left
                          rcases List.mem_cons.mp m with rfl | m
                          · exact List.mem_append_left _ List.mem_cons_self
                          · rcases List.mem_append.mp m with m | m
                            · rcases List.mem_append.mp m with m | m
                              · exact List.mem_append_left _ (List.mem_cons_of_mem _ m)
                              · exact List.mem_append_right _ (List.mem_append_left _ m)
                            · exact List.mem_append_right _ (List.mem_append_right _ (sb5 a m))
                        exact ga.trans gb
                      · unfold slotSet
                        rw [List.getElem?_set_self]
                        rw [List.length_map, R4.core.len]; exact hjw4
                      · refine List.nodup_cons.mpr ⟨fun m => ?_, ?_⟩
                        · rcases List.mem_append.mp m with m | m
                          · rcases List.mem_append.mp m with m | m
                            · exact nDfa m
                            · exact D4 (List.mem_append_left _ m)
                          · exact D4 (List.mem_append_right _ (sb5 D m))
                        · refine nodup_two (nodup_two (List.nodup_cons.mp ndD).2 (List.nodup_append.mp nd4).1 fun a m b m2 z => ?_) R5.nd fun a m b m2 z => ?_
                          · subst z; exact kas a (List.mem_cons_of_mem _ m) (List.mem_append_left _ m2)
                          · subst z
                            rcases List.mem_append.mp m with m | m
                            · exact kas a (List.mem_cons_of_mem _ m) (List.mem_append_right _ (sb5 a m2))
                            · exact (List.nodup_append.mp nd4).2.2 a m a (sb5 a m2) rfl
                      · intro a m
                        rcases List.mem_cons.mp m with rfl | m
                        · exact koff a List.mem_cons_self
                        · rcases List.mem_append.mp m with m | m
                          · exact koff a (List.mem_cons_of_mem _ m)
                          · exact of4 a m
                    · cases hl
                  · cases hl
                · next E2 e2 =>
                  refine ht _ hLw R1' e2 fun F3 H3 fp3 g3 R3 => iteF ?_
                  obtain ⟨kD, kacc, koff, kas⟩ := keepD g3
                  have hjw4 : j < (((σ.set j none).set j (some x)) ++ (as ++ ex.map some)).length := by rw [List.length_append, hLw]; omega
                  obtain ⟨fq5, R5, sb5⟩ := R3.wipe hjw4 none
                  rw [← show (((σ.set j none).set j (some x)).set j none) ++ (as ++ ex.map some) = (((σ.set j none).set j (some x)) ++ (as ++ ex.map some)).set j none from set_app (by omega), List.set_set, List.set_set] at R5
                  refine ⟨F3, slotSet E2 j .no, fq5, accV, accS, fa, ?_, R5, ?_, kD, kacc, ?_, koff, hl⟩
                  · exact (gfq.trans (g3.beside (D :: fa))).less fun a m => by
                      rcases List.mem_cons.mp m with rfl | m
                      · exact List.mem_append_left _ List.mem_cons_self
                      · rcases List.mem_append.mp m with m | m
                        · exact List.mem_append_left _ (List.mem_cons_of_mem _ m)
                        · exact List.mem_append_right _ (sb5 a m)
                  · unfold slotSet
                    rw [List.getElem?_set_self]
                    rw [List.length_map, R3.core.len]; exact hjw4
                  · have : (D :: fa ++ fq5).Nodup := nodup_two ndD R5.nd fun a m b m2 z => by subst z; exact kas a m (sb5 a m2)
                    simpa using this
                · cases hl
    · cases e
  · cases e
end Mv
/-! what changes a place: list methods, stores -/
namespace Mv
open PySem PySem.Spec PyProof.Rows L2
variable {K : PySem.W.Frag} {F F' F1 F2 H H' H1 H2 : Hp} {v u x y : V} {vs ws : List V} {s t : S} {ss tts : List S} {fp fq fr fp' fp1 fp2 f1 f2 : List Addr} {ρ as : Ro} {E E' : En} {n : Nat}
variable {te ta tb tc : TE} {d da db dc : En → Option Rs} {tr : TA} {dr : En → Option (List Rs)} {de df : En → Option (S × En)} {tt : TT} {dte : En → Option (Bool × En)}

/-- what a rule does to the node at u (t), handed y (s) -/
def Nd1 (K : PySem.W.Frag) (r : V → V → Hp → VK → Prop) (op : S → S → Option (S × S)) : Prop :=
  ∀ {F H : Hp} {u y : V} {t s t' c : S} {fp1 fr : List Addr}, (∀ a o, F a = some o → H a = some o) → Own K F H u t fp1 → Own K F H y s fr → (fr ++ fp1).Nodup → (∀ a ∈ fr ++ fp1, F a = none) → op t s = some (t', c) → ∀ {Q : VK},
    (∀ v F' H' fv fq, Grow F H (fr ++ fp1) F' H' (fv ++ fq) → Own K F' H' u t' fq → Own K F' H' v c fv → (fv ++ fq).Nodup → (∀ a ∈ fv ++ fq, F' a = none) → Q v H') → r u y H Q
def Nd0 (K : PySem.W.Frag) (r : V → Hp → VK → Prop) (op : S → Option (S × S)) : Prop :=
  ∀ {F H : Hp} {u : V} {t t' c : S} {fp1 : List Addr}, (∀ a o, F a = some o → H a = some o) → Own K F H u t fp1 → fp1.Nodup → (∀ a ∈ fp1, F a = none) → op t = some (t', c) → ∀ {Q : VK},
    (∀ v F' H' fv fq, Grow F H fp1 F' H' (fv ++ fq) → Own K F' H' u t' fq → Own K F' H' v c fv → (fv ++ fq).Nodup → (∀ a ∈ fv ++ fq, F' a = none) → Q v H') → r u H Q
def eMut1 (op : S → S → Option (S × S)) (da db : En → Option Rs) (E : En) : Option (S × En) := match da E, db E with
  | some (.pl p), some (.val s) => match eget E p with
    | some t => match op t s with
      | some (t', c) => some (c, ekill (eput E p t') p)
      | none => none
    | none => none
  | _, _ => none
def eMut0 (op : S → Option (S × S)) (da : En → Option Rs) (E : En) : Option (S × En) := match da E with
  | some (.pl p) => match eget E p with
    | some t => match op t with
      | some (t', c) => some (c, ekill (eput E p t') p)
      | none => none
    | none => none
  | _ => none
theorem mut1 {r : V → V → Hp → VK → Prop} {op : S → S → Option (S × S)} (hr : Nd1 K r op) {σ : L2.St} {p : List Nat} {t' c : S} (R : Rep K F H (σ ++ as) E fp) (a1 : RsAt K F H (σ ++ as) E u (.pl p) f1) (o2 : Own K F H y s fr) (nd : (fr ++ fp).Nodup) (of : ∀ a ∈ fr, F a = none)
    (ht : eget E p = some t) (ho : op t s = some (t', c)) {Q : VK} (q : ∀ v F' H' fv fp', Grow F H (fr ++ fp) F' H' (fv ++ fp') → Rep K F' H' (σ ++ as) (ekill (eput E p t') p) fp' → Own K F' H' v c fv → (fv ++ fp').Nodup → (∀ a ∈ fv, F' a = none) → Q v H') : r u y H Q := by
  obtain ⟨w, fp1, fp2, h1, h2, pm, close⟩ := R.focus2 ht
  rw [a1.2.1] at h1
  cases h1
  have in1 : ∀ a ∈ fp1, a ∈ fp := fun a m => pm.mem_iff.mpr (List.mem_append_left _ m)
  have nd1 : (fr ++ fp1).Nodup := nodup_two (List.nodup_append.mp nd).1 (List.nodup_append.mp (pm.nodup_iff.mp R.nd)).1 fun a m b m2 e => (List.nodup_append.mp nd).2.2 a m b (in1 b m2) e
  refine hr R.sub h2 o2 nd1 (fun a m => (List.mem_append.mp m).elim (of a) fun m => R.off a (in1 a m)) ho fun v F' H' fv fq g ou ov ndv ofv => ?_
  obtain ⟨R', nd', g'⟩ := close F' H' t' fq fr fv g (fun a m m2 => (List.nodup_append.mp nd).2.2 a m a m2 rfl) ou ndv fun a m => ofv a (List.mem_append_right _ m)
  exact q v F' H' fv _ g' R' ov nd' fun a m => ofv a (List.mem_append_left _ m)
theorem mut0 {r : V → Hp → VK → Prop} {op : S → Option (S × S)} (hr : Nd0 K r op) {σ : L2.St} {p : List Nat} {t' c : S} (R : Rep K F H (σ ++ as) E fp) (a1 : RsAt K F H (σ ++ as) E u (.pl p) f1)
    (ht : eget E p = some t) (ho : op t = some (t', c)) {Q : VK} (q : ∀ v F' H' fv fp', Grow F H fp F' H' (fv ++ fp') → Rep K F' H' (σ ++ as) (ekill (eput E p t') p) fp' → Own K F' H' v c fv → (fv ++ fp').Nodup → (∀ a ∈ fv, F' a = none) → Q v H') : r u H Q := by
  obtain ⟨w, fp1, fp2, h1, h2, pm, close⟩ := R.focus2 ht
  rw [a1.2.1] at h1
  cases h1
  have in1 : ∀ a ∈ fp1, a ∈ fp := fun a m => pm.mem_iff.mpr (List.mem_append_left _ m)
  refine hr R.sub h2 (List.nodup_append.mp (pm.nodup_iff.mp R.nd)).1 (fun a m => R.off a (in1 a m)) ho fun v F' H' fv fq g ou ov ndv ofv => ?_
  obtain ⟨R', nd', g'⟩ := close F' H' t' fq [] fv g (fun a m => nomatch m) ou ndv fun a m => ofv a (List.mem_append_right _ m)
  exact q v F' H' fv _ g' R' ov nd' fun a m => ofv a (List.mem_append_left _ m)
/-- what a list is to the rules of methods -/
theorem tyV_list {a : Addr} {xs : List V} (h : H a = some (.lst xs)) : tyV K "list" (.ref a) H := .inl ⟨rfl, xs, .inl (.inl h)⟩
def isLst : S → Bool | .lst _ => true | _ => false
/-- xs.m(e): a method of lists, its argument changing nothing -/
def eBM1 (op : S → S → Option (S × S)) (da db : En → Option Rs) (E : En) : Option (S × En) := match da E with
  | some (.pl p) => match eget E p with
    | some (.lst _) => eMut1 op da db E
    | _ => none
  | _ => none
theorem e_bm1 {r : V → List V → Hp → VK → Prop} {op : S → S → Option (S × S)} (hr : Nd1 K (fun u y H Q => r u [y] H Q) op) (ha : EvP K n as ta da) (hb : EvP K n as tb db) : EvE K n as (tBM K "list" r ta (tCons tb tNil)) (eBM1 op da db) := by
  intro F H σ E fp L R s0 E0 e Q q
  unfold eBM1 at e
  split at e
  · next p ea =>
    split at e
    · next ss es =>
      unfold eMut1 at e
      rw [ea] at e
      split at e
      · next p' s hp eb =>
        cases hp
        rw [es] at e
        dsimp only at e
        split at e
        · next t' c ho =>
          cases e
          refine ha L R ea fun u F1 H1 f1 g1 a1 n1 o1 => ?_
          have R1 := R.grow g1
          obtain ⟨fq, ow⟩ := a1.own R1 (show (Rs.pl p).at E = some (.lst ss) from es)
          obtain ⟨a, xs, _, rfl, hH, _⟩ := ow.lst_inv rfl
          refine ⟨tyV_list hH, hb L R1 eb fun y F2 H2 f2 g2 a2 n2 o2 => ?_⟩
          have R2 := R1.grow g2
          exact mut1 hr R2 (a1.grow R1 g2) a2 (R1.apart_new g2 n2) o2 es ho fun v F' H' fv fp' g R' ov nd' of' => q v F' H' fv fp' (((g1.ours fp).less fun a m => List.mem_append_right _ m).trans ((g2.ours fp).trans g)) R' ov nd' of'
        · cases e
      · cases e
    · cases e
  · cases e
def eBM0 (op : S → Option (S × S)) (da : En → Option Rs) (E : En) : Option (S × En) := match da E with
  | some (.pl p) => match eget E p with
    | some (.lst _) => eMut0 op da E
    | _ => none
  | _ => none
theorem e_bm0 {r : V → List V → Hp → VK → Prop} {op : S → Option (S × S)} (hr : Nd0 K (fun u H Q => r u [] H Q) op) (ha : EvP K n as ta da) : EvE K n as (tBM0 K "list" r ta) (eBM0 op da) := by
  intro F H σ E fp L R s0 E0 e Q q
  unfold eBM0 at e
  split at e
  · next p ea =>
    split at e
    · next ss es =>
      unfold eMut0 at e
      rw [ea] at e
      dsimp only at e
      rw [es] at e
      dsimp only at e
      split at e
      · next t' c ho =>
        cases e
        refine ha L R ea fun u F1 H1 f1 g1 a1 n1 o1 => ?_
        have R1 := R.grow g1
        obtain ⟨fq, ow⟩ := a1.own R1 (show (Rs.pl p).at E = some (.lst ss) from es)
        obtain ⟨a, xs, _, rfl, hH, _⟩ := ow.lst_inv rfl
        exact ⟨tyV_list hH, mut0 hr R1 a1 es ho fun v F' H' fv fp' g R' ov nd' of' => q v F' H' fv fp' (((g1.ours fp).less fun a m => List.mem_append_right _ m).trans g) R' ov nd' of'⟩
      · cases e
    · cases e
  · cases e

/-! the methods -/
def oAppend : S → S → Option (S × S)
  | .lst ss, s => if ss.length < 100000 then some (.lst (ss ++ [s]), .dat .none) else none
  | _, _ => none
theorem lst_write {a : Addr} {ys : List V} {f : List Addr} (o : OwnL K F (upd H a (.lst ys)) ys ss f) : Own K F (upd H a (.lst ys)) (.ref a) (.lst ss) (a :: f) := by
  have := Own.node (K := K) (F := F) (H := upd H a (.lst ys)) (s := .lst ss) (ex := []) upd_same (show Head _ _ a (.lst ys) (.lst ss) [] from rfl) o
  simpa using this
theorem upd_sub (sub : ∀ b u, F b = some u → H b = some u) {a : Addr} {o : HO} (fa : F a = none) : ∀ b u, F b = some u → upd H a o b = some u := fun b u e => by
  rw [upd_ne (ne_of_none e fa)]; exact sub b u e
theorem OwnL.off (l : OwnL K F H vs ss fp) (sub : ∀ b u, F b = some u → H b = some u) {a : Addr} {o : HO} (fa : F a = none) (h : a ∉ fp) : OwnL K F (upd H a o) vs ss fp := l.frame (fun _ _ h => h) (upd_sub sub fa) fun b m u e => by
  rw [upd_ne (fun z => h (by rw [← z]; exact m))]; exact e
theorem Own.off (l : Own K F H v s fp) (sub : ∀ b u, F b = some u → H b = some u) {a : Addr} {o : HO} (fa : F a = none) (h : a ∉ fp) : Own K F (upd H a o) v s fp := l.frame (fun _ _ h => h) (upd_sub sub fa) fun b m u e => by
  rw [upd_ne (fun z => h (by rw [← z]; exact m))]; exact e
theorem nd_append : Nd1 K (fun u y H Q => rAppend u [y] H Q) oAppend := by
  intro F H u y t s t' c fp1 fr sub ot os nd of e Q q
  unfold oAppend at e
  split at e
  · next ss s =>
    split at e
    · next hl =>
      cases e
      obtain ⟨a, vs, fq, rfl, hH, l, rfl⟩ := ot.lst_inv rfl
      have na : a ∉ fr := fun m => (List.nodup_append.mp nd).2.2 a m a List.mem_cons_self rfl
      have nq : a ∉ fq := (List.nodup_cons.mp (List.nodup_append.mp nd).2.1).1
      refine ⟨a, vs, y, rfl, rfl, hH, by rw [l.length, sizeLine_eq]; omega, ?_⟩
      have l2 := (l.off sub (o := .lst (vs ++ [y])) (of a (List.mem_append_right _ List.mem_cons_self)) nq).append (OwnL.cons (os.off sub (o := .lst (vs ++ [y])) (of a (List.mem_append_right _ List.mem_cons_self)) na) .nil)
      rw [List.append_nil] at l2
      have g0 : Grow F H [a] F (upd H a (.lst (vs ++ [y]))) [a] := Grow.write sub (of a (List.mem_append_right _ List.mem_cons_self))
      refine q .non F _ [] (a :: (fq ++ fr)) (g0.wide (fun b m => by rw [List.mem_singleton.mp m]; exact List.mem_append_right _ List.mem_cons_self) fun b m => ?_) (lst_write l2) (.dat .non) ?_ fun b m => ?_
      · left
        rw [List.nil_append] at m
        rcases List.mem_cons.mp m with rfl | m
        · exact List.mem_append_right _ List.mem_cons_self
        · rcases List.mem_append.mp m with m | m
          · exact List.mem_append_right _ (List.mem_cons_of_mem _ m)
          · exact List.mem_append_left _ m
      · rw [List.nil_append]
        have p : (fr ++ a :: fq).Perm (a :: (fq ++ fr)) := List.perm_middle.trans (List.Perm.cons a List.perm_append_comm)
        exact p.nodup_iff.mp nd
      · rw [List.nil_append] at m
        rcases List.mem_cons.mp m with rfl | m
        · exact of _ (List.mem_append_right _ List.mem_cons_self)
        · rcases List.mem_append.mp m with m | m
          · exact of b (List.mem_append_right _ (List.mem_cons_of_mem _ m))
          · exact of b (List.mem_append_left _ m)
    · cases e
  · cases e
def oPopAt : S → S → Option (S × S)
  | .lst ss, .dat (.int i) => match ixN ss.length i with
    | some j => match ss[j]? with
      | some s => if ss.length < 100000 then some (.lst (ss.eraseIdx j), s) else none
      | none => none
    | none => none
  | _, _ => none
theorem OwnL.erase : ∀ {vs : List V} {ss : List S} {fp : List Addr} {j : Nat} {s : S}, OwnL K F H vs ss fp → ss[j]? = some s → ∃ v f1 f2, vs[j]? = some v ∧ Own K F H v s f1 ∧ OwnL K F H (vs.eraseIdx j) (ss.eraseIdx j) f2 ∧ fp.Perm (f1 ++ f2)
  | _, _, _, j, _, .nil, e => by simp at e
  | _, _, _, 0, s, .cons h t, e => by
    simp only [List.getElem?_cons_zero, Option.some.injEq] at e
    subst e
    exact ⟨_, _, _, rfl, h, t, List.Perm.refl _⟩
  | _, _, _, j + 1, s, .cons (fp := fa) h t, e => by
    obtain ⟨v, f1, f2, e1, o, l, p⟩ := OwnL.erase (j := j) t (by simpa using e)
    refine ⟨v, f1, fa ++ f2, by simpa using e1, o, .cons h l, ?_⟩
    refine (List.Perm.append_left fa p).trans ?_
    rw [← List.append_assoc, ← List.append_assoc]
    exact List.Perm.append_right _ List.perm_append_comm
theorem nd_popAt : Nd1 K (fun u y H Q => rPopAt u [y] H Q) oPopAt := by
  intro F H u y t s t' c fp1 fr sub ot os nd of e Q q
  unfold oPopAt at e
  split at e
  · next ss i =>
    split at e
    · next j ej =>
      split at e
      · next s hs =>
        split at e
        · next hl =>
          cases e
          obtain ⟨hd, rfl⟩ := os.dat_inv rfl
          cases hd
          obtain ⟨a, vs, fq, rfl, hH, l, rfl⟩ := ot.lst_inv rfl
          obtain ⟨w, g1, g2, e1, ow, l2, pm⟩ := l.erase hs
          rw [List.nil_append] at nd of
          have nq : a ∉ fq := (List.nodup_cons.mp nd).1
          have n1 : a ∉ g1 := fun m => nq (pm.mem_iff.mpr (List.mem_append_left _ m))
          have n2 : a ∉ g2 := fun m => nq (pm.mem_iff.mpr (List.mem_append_right _ m))
          obtain ⟨k1, k2, k3, k4⟩ := ixN_seq ej
          refine ⟨a, vs, i, j, w, rfl, rfl, hH, ?_, ?_, by rw [l.length]; exact k1, e1, ?_⟩
          · have : (ss.length : Int) < 100000 := by omega
            omega
          · have : (ss.length : Int) < 100000 := by omega
            omega
          · have g0 : Grow F H [a] F (upd H a (.lst (vs.eraseIdx j))) [a] := Grow.write sub (of a List.mem_cons_self)
            refine q w F _ g1 (a :: g2) (g0.wide (fun b m => by rw [List.mem_singleton.mp m]; exact List.mem_cons_self) fun b m => ?_) (lst_write (l2.off sub (of a List.mem_cons_self) n2)) (ow.off sub (of a List.mem_cons_self) n1) ?_ fun b m => ?_
            · left
              rcases List.mem_append.mp m with m | m
              · exact List.mem_cons_of_mem _ (pm.mem_iff.mpr (List.mem_append_left _ m))
              · rcases List.mem_cons.mp m with rfl | m
                · exact List.mem_cons_self
                · exact List.mem_cons_of_mem _ (pm.mem_iff.mpr (List.mem_append_right _ m))
            · have p : (a :: fq).Perm (g1 ++ a :: g2) := (List.Perm.cons a pm).trans List.perm_middle.symm
              exact p.nodup_iff.mp nd
            · rcases List.mem_append.mp m with m | m
              · exact of b (List.mem_cons_of_mem _ (pm.mem_iff.mpr (List.mem_append_left _ m)))
              · rcases List.mem_cons.mp m with rfl | m
                · exact of _ List.mem_cons_self
                · exact of b (List.mem_cons_of_mem _ (pm.mem_iff.mpr (List.mem_append_right _ m)))
        · cases e
      · cases e
    · cases e
  · cases e
def oClear : S → Option (S × S)
  | .lst _ => some (.lst [], .dat .none)
  | _ => none
theorem nd_clear : Nd0 K (fun u H Q => rClear u [] H Q) oClear := by
  intro F H u t t' c fp1 sub ot nd of e Q q
  unfold oClear at e
  split at e
  · next ss =>
    cases e
    obtain ⟨a, vs, fq, rfl, hH, l, rfl⟩ := ot.lst_inv rfl
    refine ⟨a, vs, rfl, rfl, hH, ?_⟩
    have g0 : Grow F H [a] F (upd H a (.lst [])) [a] := Grow.write sub (of a List.mem_cons_self)
    refine q .non F _ [] [a] (g0.wide (fun b m => by rw [List.mem_singleton.mp m]; exact List.mem_cons_self) fun b m => ?_) (lst_write .nil) (.dat .non) (by simp) fun b m => ?_
    · rw [List.nil_append] at m
      rw [List.mem_singleton.mp m]; exact .inl List.mem_cons_self
    · rw [List.nil_append] at m
      rw [List.mem_singleton.mp m]; exact of a List.mem_cons_self
  · cases e
end Mv
/-! dicts -/
namespace Mv
open PySem PySem.Spec PyProof.Rows L2
variable {K : PySem.W.Frag} {F F' F1 F2 H H' H1 H2 : Hp} {v u x y : V} {vs ws : List V} {s t : S} {ss tts : List S} {fp fq fr fp' fp1 fp2 f1 f2 : List Addr} {ρ as : Ro} {E E' : En} {n : Nat}
variable {W : WXm} {te ta tb tc : TE} {d da db dc : En → Option Rs} {tr : TA} {dr : En → Option (List Rs)} {de df : En → Option (S × En)} {tt : TT} {dte : En → Option (Bool × En)}

def kix : List Key → Key → Option Nat
  | [], _ => none
  | a :: r, k => if a = k then some 0 else (kix r k).map (· + 1)
theorem valV_kix (k : Key) : ∀ kvs : List (Key × V), valV kvs k = (kix (kvs.map (·.1)) k).bind fun i => (kvs.map (·.2))[i]?
  | [] => rfl
  | p :: r => by
    by_cases e : p.1 = k
    · rw [valV_pos e]; simp [kix, e]
    · rw [valV_neg e, valV_kix k r, List.map_cons, List.map_cons, kix, if_neg e]
      cases kix (r.map (·.1)) k with
      | none => rfl
      | some i => simp
theorem kix_lt {k : Key} : ∀ {ks : List Key} {i : Nat}, kix ks k = some i → i < ks.length
  | [], _, h => by simp [kix] at h
  | a :: r, i, h => by
    unfold kix at h
    split at h
    · cases h; simp
    · obtain ⟨j, hj, rfl⟩ := Option.map_eq_some_iff.mp h
      have := kix_lt hj
      simp only [List.length_cons]; omega
theorem setSnd_none {α β : Type} (b : β) : ∀ (l : List (α × β)) (i : Nat), l.length ≤ i → setSnd l i b = l
  | [], _, _ => rfl
  | _ :: _, 0, h => by simp at h
  | p :: r, i + 1, h => by simp only [setSnd, setSnd_none b r i (by simpa using h)]
/-- in its place, or at the end -/
def putS {α : Type} (kss : List (Key × α)) (k : Key) (s : α) : List (Key × α) := match kix (kss.map (·.1)) k with
  | some i => setSnd kss i s
  | none => kss ++ [(k, s)]
theorem putK_kix {k : Key} (b : V) : ∀ (kvs : List (Key × V)), (kvs.map (·.1)).Nodup → putK kvs k b = putS kvs k b := by
  have map_no : ∀ (r : List (Key × V)), k ∉ r.map (·.1) → r.map (fun kv => if kv.1 = k then (kv.1, b) else kv) = r := by
    intro r h
    induction r with
    | nil => rfl
    | cons p r ih =>
      simp only [List.map_cons, List.mem_cons, not_or] at h
      rw [List.map_cons, if_neg (fun z => h.1 z.symm), ih h.2]
  have yes : ∀ (kvs : List (Key × V)) (i : Nat), (kvs.map (·.1)).Nodup → kix (kvs.map (·.1)) k = some i → kvs.map (fun kv => if kv.1 = k then (kv.1, b) else kv) = setSnd kvs i b := by
    intro kvs
    induction kvs with
    | nil => intro i _ h; simp [kix] at h
    | cons p r ih =>
      intro i nd h
      rw [List.map_cons, List.nodup_cons] at nd
      rw [List.map_cons, kix] at h
      by_cases e : p.1 = k
      · rw [if_pos e] at h
        cases h
        rw [List.map_cons, if_pos e]
        simp only [setSnd]
        rw [map_no r (by rw [← e]; exact nd.1)]
      · rw [if_neg e] at h
        obtain ⟨j, hj, rfl⟩ := Option.map_eq_some_iff.mp h
        rw [List.map_cons, if_neg e]
        simp only [setSnd]
        rw [ih j nd.2 hj]
  intro kvs nd
  unfold putK putS
  rw [valV_any, valV_kix]
  cases h : kix (kvs.map (·.1)) k with
  | none => simp
  | some i =>
    have hi := kix_lt h
    rw [List.length_map] at hi
    simp only [Option.bind_some, List.getElem?_map, List.getElem?_eq_getElem hi, Option.map_some, Option.isSome_some, if_true]
    exact yes kvs i nd h
theorem putK_nodup_map {k : Key} {b : V} {c : S} {kvs : List (Key × V)} {kss : List (Key × S)} (e : kvs.map (·.1) = kss.map (·.1)) : (putS kvs k b).map (·.1) = (putS kss k c).map (·.1) := by
  unfold putS
  rw [e]
  split
  · rw [setSnd_fst, setSnd_fst, e]
  · rw [List.map_append, List.map_append, e]; rfl

/-- a dict's node -/
theorem Own.dct_inv {l : Bool} {kss : List (Key × S)} (o : Own K F H v s fp) (e : s = .dct l kss) :
    ∃ a kvs u fq, v = .ref a ∧ H a = some u ∧ kidsV u = kvs.map (·.2) ∧ Rd H a (.dK kvs) ∧ kvs.map (·.1) = kss.map (·.1) ∧ OwnL K F H (kvs.map (·.2)) (kss.map (·.2)) fq ∧ (l = false → H a = some (.dK kvs) ∧ fp = a :: fq) := by
  cases o with
  | dat _ => cases e
  | con => cases e
  | @node a ob _ ex fq h hd ll =>
    subst e
    cases ob with
    | dK kvs => cases l with
      | false =>
        obtain ⟨rfl, hk⟩ := hd
        exact ⟨a, kvs, _, fq, rfl, h, rfl, .inl h, hk, ll, fun _ => ⟨h, rfl⟩⟩
      | true => exact hd.elim
    | frz o u => cases u <;> exact hd.elim
    | _ => exact hd.elim
  | @lck a ob kvs kss' fq hf h hk ll =>
    cases e
    exact ⟨a, kvs, _, fp, rfl, h, rfl, .inr ⟨_, h⟩, hk, ll, fun z => nomatch z⟩

def keyS : S → Option Key
  | .dat (.int i) => some (.inl i)
  | .dat (.str x) => some (.inr x)
  | _ => none
def Rs.key : Rs → Option Key
  | .val s => keyS s
  | _ => none
theorem RsAt.key {r : Rs} {k : Key} (a : RsAt K F H ρ E v r fr) (h : r.key = some k) : v = kV k := by
  cases r with
  | pl p => cases h
  | val s =>
    have o : Own K F H v s fr := a
    cases s with
    | dat d =>
      have dp := (o.dat_inv rfl).1
      cases d with
      | int i => cases h; cases dp; rfl
      | str x => cases h; cases dp; rfl
      | _ => cases h
    | _ => cases h
/-! d[k], k in d -/
def dDGet (da db : En → Option Rs) (E : En) : Option Rs := match da E, db E with
  | some r, some rk => match r.at E, rk.key with
    | some (.dct _ kss), some k => match kix (kss.map (·.1)) k with
      | some i => match (kss.map (·.2))[i]? with
        | some s => r.kid i s
        | none => none
      | none => none
    | _, _ => none
  | _, _ => none
theorem p_dget (ha : EvP K n as ta da) (hb : EvP K n as tb db) : EvP K n as (tDGet ta tb) (dDGet da db) := by
  intro F H σ E fp L R r' e Q q
  unfold dDGet at e
  split at e
  · next r rk ea eb =>
    refine ha L R ea fun x F1 H1 f1 g1 r1 n1 o1 => hb L (R.grow g1) eb fun y F2 H2 f2 g2 r2 n2 o2 => ?_
    have R2 := (R.grow g1).grow g2
    have r1' := r1.grow (R.grow g1) g2
    have gg := (g1.seq0 g2).drop
    split at e
    · next l kss k es ek =>
      split at e
      · next i ei =>
        split at e
        · next s hs =>
          obtain ⟨fq, o⟩ := r1'.own R2 es
          obtain ⟨a, kvs, u, fq', rfl, hH, hk, rd, hkk, ll, _⟩ := o.dct_inv rfl
          obtain ⟨w, f, hw, ow⟩ := ll.nth hs
          refine ⟨a, w, rfl, .inl ⟨kvs, k, rd, r2.key ek, ?_⟩, ?_⟩
          · rw [valV_kix, hkk, ei]; exact hw.symm
          · exact q w F2 H2 [] gg (r1'.kid R2 es hH (by rw [hk]; exact hw) hs ow e) List.nodup_nil (fun _ m => nomatch m)
        · cases e
      · cases e
    · cases e
  · cases e
def dDIn (neg : Bool) (db da : En → Option Rs) (E : En) : Option Rs := match db E, da E with
  | some rk, some r => match r.at E, rk.key with
    | some (.dct _ kss), some k => some (.val (.dat (.bool ((kix (kss.map (·.1)) k).isSome != neg))))
    | _, _ => none
  | _, _ => none
theorem din_core (R : Rep K F H ρ E fp) {r rk : Rs} {l : Bool} {kss : List (Key × S)} {k : Key} (a1 : RsAt K F H ρ E x r f1) (a2 : RsAt K F H ρ E y rk f2) (es : r.at E = some (.dct l kss)) (ek : rk.key = some k) :
    ∃ a o, x = .ref a ∧ DGet H a y o ∧ o.isSome = (kix (kss.map (·.1)) k).isSome := by
  obtain ⟨fq, o⟩ := a1.own R es
  obtain ⟨a, kvs, u, fq', rfl, hH, hk, rd, hkk, ll, _⟩ := o.dct_inv rfl
  refine ⟨a, _, rfl, .inl ⟨kvs, k, rd, a2.key ek, rfl⟩, ?_⟩
  rw [valV_kix, hkk]
  cases h : kix (kss.map (·.1)) k with
  | none => rfl
  | some i =>
    have hi := kix_lt h
    rw [← hkk, List.length_map] at hi
    simp [List.getElem?_eq_getElem hi]
theorem p_din (hb : EvP K n as tb db) (ha : EvP K n as ta da) : EvP K n as (tDIn tb ta) (dDIn false db da) := by
  intro F H σ E fp L R r' e Q q
  unfold dDIn at e
  split at e
  · next rk r eb ea =>
    refine hb L R eb fun y F1 H1 f1 g1 r1 n1 o1 => ha L (R.grow g1) ea fun x F2 H2 f2 g2 r2 n2 o2 => ?_
    have R2 := (R.grow g1).grow g2
    split at e
    · next l kss k es ek =>
      cases e
      obtain ⟨a, o, rfl, dg, hz⟩ := din_core R2 r2 (r1.grow (R.grow g1) g2) es ek
      refine ⟨a, o, rfl, dg, ?_⟩
      rw [hz]
      rw [Bool.bne_false] at q
      exact q _ F2 H2 [] (g1.seq0 g2).drop (.dat (.bl _)) List.nodup_nil (fun _ m => nomatch m)
    · cases e
  · cases e
theorem p_dnotin (hb : EvP K n as tb db) (ha : EvP K n as ta da) : EvP K n as (tDNotIn tb ta) (dDIn true db da) := by
  intro F H σ E fp L R r' e Q q
  unfold dDIn at e
  split at e
  · next rk r eb ea =>
    refine hb L R eb fun y F1 H1 f1 g1 r1 n1 o1 => ha L (R.grow g1) ea fun x F2 H2 f2 g2 r2 n2 o2 => ?_
    have R2 := (R.grow g1).grow g2
    split at e
    · next l kss k es ek =>
      cases e
      obtain ⟨a, o, rfl, dg, hz⟩ := din_core R2 r2 (r1.grow (R.grow g1) g2) es ek
      refine ⟨a, o, rfl, dg, ?_⟩
      rw [hz]
      rw [Bool.bne_true] at q
      exact q _ F2 H2 [] (g1.seq0 g2).drop (.dat (.bl _)) List.nodup_nil (fun _ m => nomatch m)
    · cases e
  · cases e
/-! d[k] = v -/
def nodupK : List Key → Bool
  | [] => true
  | k :: r => (kix r k).isNone && nodupK r
theorem kix_mem {k : Key} : ∀ {ks : List Key}, kix ks k = none → k ∉ ks
  | [], _, h => by simp at h
  | a :: r, e, h => by
    unfold kix at e
    split at e
    · cases e
    · next ne =>
      rcases List.mem_cons.mp h with z | z
      · exact ne z.symm
      · exact kix_mem (by cases hh : kix r k with | none => rfl | some i => rw [hh] at e; cases e) z
theorem nodupK_ok : ∀ {ks : List Key}, nodupK ks = true → ks.Nodup
  | [], _ => List.nodup_nil
  | k :: r, h => by
    simp only [nodupK, Bool.and_eq_true, Option.isNone_iff_eq_none] at h
    exact List.nodup_cons.mpr ⟨kix_mem h.1, nodupK_ok h.2⟩
def oDPut (k : Key) (t s : S) : Option (S × S) := match t with
  | .dct false kss => if nodupK (kss.map (·.1)) = true then if kss.length < 100000 then some (.dct false (putS kss k s), .dat .none) else none else none
  | _ => none
def rDPut (k : Key) (u y : V) (H : Hp) (Q : VK) : Prop := ∃ a H4, u = .ref a ∧ DPut H a (kV k) y H4 ∧ Q .non H4
theorem dct_write {a : Addr} {kvs : List (Key × V)} {kss : List (Key × S)} {f : List Addr} (hk : kvs.map (·.1) = kss.map (·.1)) (o : OwnL K F (upd H a (.dK kvs)) (kvs.map (·.2)) (kss.map (·.2)) f) : Own K F (upd H a (.dK kvs)) (.ref a) (.dct false kss) (a :: f) := by
  have := Own.node (K := K) (F := F) (H := upd H a (.dK kvs)) (s := .dct false kss) (ex := []) upd_same (show Head _ _ a (.dK kvs) (.dct false kss) [] from ⟨rfl, hk⟩) o
  simpa using this
/-- one of them replaced -/
theorem OwnL.repl : ∀ {vs : List V} {ss : List S} {fp : List Addr} {i : Nat} {y : V} {s : S} {fr : List Addr}, OwnL K F H vs ss fp → i < vs.length → Own K F H y s fr →
    ∃ f1 f2 g, OwnL K F H (vs.set i y) (ss.set i s) g ∧ g.Perm (fr ++ f2) ∧ fp.Perm (f1 ++ f2)
  | _, _, _, i, _, _, _, .nil, h, _ => by simp at h
  | _, _, _, 0, y, s, fr, .cons (fp := fa) (fq := fb) h t, _, o => ⟨fa, fb, _, .cons o t, List.Perm.refl _, List.Perm.refl _⟩
  | _, _, _, i + 1, y, s, fr, .cons (fp := fa) h t, hi, o => by
    obtain ⟨f1, f2, g, l, p1, p2⟩ := OwnL.repl (i := i) t (by simpa using hi) o
    refine ⟨f1, fa ++ f2, fa ++ g, .cons h l, ?_, ?_⟩
    · refine (List.Perm.append_left fa p1).trans ?_
      rw [← List.append_assoc, ← List.append_assoc]
      exact List.Perm.append_right _ List.perm_append_comm
    · refine (List.Perm.append_left fa p2).trans ?_
      rw [← List.append_assoc, ← List.append_assoc]
      exact List.Perm.append_right _ List.perm_append_comm
theorem nd_dput (k : Key) : Nd1 K (rDPut k) (oDPut k) := by
  intro F H u y t s t' c fp1 fr sub ot os nd of e Q q
  unfold oDPut at e
  split at e
  · next kss =>
    split at e
    · next hn =>
      split at e
      · next hl =>
        cases e
        obtain ⟨a, kvs, _, fq, rfl, _, _, _, hkk, l, z⟩ := ot.dct_inv rfl
        obtain ⟨hH, rfl⟩ := z rfl
        have na : a ∉ fr := fun m => (List.nodup_append.mp nd).2.2 a m a List.mem_cons_self rfl
        have nq : a ∉ fq := (List.nodup_cons.mp (List.nodup_append.mp nd).2.1).1
        have fa : F a = none := of a (List.mem_append_right _ List.mem_cons_self)
        have len : kvs.length = kss.length := by have := congrArg List.length hkk; simpa using this
        refine ⟨a, _, rfl, DPut.k hH (by rw [len, sizeLine_eq]; omega), ?_⟩
        rw [putK_kix y kvs (by rw [hkk]; exact nodupK_ok hn)]
        have g0 : Grow F H [a] F (upd H a (.dK (putS kvs k y))) [a] := Grow.write sub fa
        have fin : ∃ g, OwnL K F H ((putS kvs k y).map (·.2)) ((putS kss k s).map (·.2)) g ∧ (∀ b ∈ g, b ∈ fr ∨ b ∈ fq) ∧ g.Nodup := by
          unfold putS
          rw [hkk]
          have ndf := List.nodup_append.mp nd
          have ndq := (List.nodup_cons.mp ndf.2.1).2
          split
          · next i hi =>
            have hi' := kix_lt hi
            rw [List.length_map, ← len] at hi'
            obtain ⟨f1, f2, g, l2, p1, p2⟩ := l.repl (i := i) (by simpa using hi') os
            refine ⟨g, by rw [setSnd_snd, setSnd_snd]; exact l2, fun b m => ?_, p1.nodup_iff.mpr (List.nodup_append.mpr ⟨ndf.1, (List.nodup_append.mp (p2.nodup_iff.mp ndq)).2.1, fun b m c m2 e => ?_⟩)⟩
            · rcases List.mem_append.mp (p1.mem_iff.mp m) with m | m
              · exact .inl m
              · exact .inr (p2.mem_iff.mpr (List.mem_append_right _ m))
            · exact ndf.2.2 b m c (List.mem_cons_of_mem _ (p2.mem_iff.mpr (List.mem_append_right _ m2))) e
          · have l2 := l.append (OwnL.cons os .nil)
            rw [List.append_nil] at l2
            refine ⟨fq ++ fr, by simpa using l2, fun b m => (List.mem_append.mp m).symm, ?_⟩
            exact List.perm_append_comm.nodup_iff.mp (List.nodup_append.mpr ⟨ndf.1, ndq, fun b m c m2 e => ndf.2.2 b m c (List.mem_cons_of_mem _ m2) e⟩)
        obtain ⟨g, lg, hg, ng⟩ := fin
        have nag : a ∉ g := fun m => (hg a m).elim na nq
        refine q .non F _ [] (a :: g) (g0.wide (fun b m => by rw [List.mem_singleton.mp m]; exact List.mem_append_right _ List.mem_cons_self) fun b m => ?_) (dct_write (putK_nodup_map hkk) (lg.off sub fa nag)) (.dat .non) ?_ fun b m => ?_
        · left
          rw [List.nil_append] at m
          rcases List.mem_cons.mp m with rfl | m
          · exact List.mem_append_right _ List.mem_cons_self
          · exact (hg b m).elim (fun m => List.mem_append_left _ m) fun m => List.mem_append_right _ (List.mem_cons_of_mem _ m)
        · rw [List.nil_append]; exact List.nodup_cons.mpr ⟨nag, ng⟩
        · rw [List.nil_append] at m
          rcases List.mem_cons.mp m with rfl | m
          · exact fa
          · exact (hg b m).elim (fun m => of b (List.mem_append_left _ m)) fun m => of b (List.mem_append_right _ (List.mem_cons_of_mem _ m))
      · cases e
    · cases e
  · cases e
/-- what is put at a place -/
def stepAt (op : S → S → Option (S × S)) (E : En) (p : List Nat) (s : S) : Option Out := match eget E p with
  | some t => match op t s with
    | some (t', _) => some (.nx (ekill (eput E p t') p))
    | none => none
  | none => none
def dDPut (da db : En → Option Rs) (de : En → Option (S × En)) (E : En) : Option Out := match de E with
  | some (s, E1) => match da E1, db E1 with
    | some (.pl p), some rk => match rk.key with
      | some k => stepAt (oDPut k) E1 p s
      | none => none
    | _, _ => none
  | none => none
theorem s_dput (ha : EvP K n as ta da) (hb : EvP K n as tb db) (he : EvE K n as te de) : EvS K n as W (sDPut ta tb te) (dDPut da db de) := by
  intro F H σ E fp L R o e D g
  unfold dDPut at e
  split at e
  · next s E1 ee =>
    split at e
    · next p rk ea eb =>
      split at e
      · next k ek =>
        refine he L R ee fun v F1 H1 fr fp1 g1 R1 ov nd of => ha L R1 ea fun x F2 H2 f2 g2 r2 n2 o2 => hb L (R1.grow g2) eb fun y F3 H3 f3 g3 r3 n3 o3 => ?_
        have R3 := (R1.grow g2).grow g3
        have g23 : Grow F1 H1 [] F3 H3 [] := (g2.seq0 g3).drop
        have ov3 : Own K F3 H3 v s fr := ov.grow g23 fun _ _ m => nomatch m
        have of3 : ∀ a ∈ fr, F3 a = none := fun a m => by
          obtain ⟨o, eo⟩ := ov.there a m
          exact g23.off a (by rw [eo]; exact fun z => nomatch z) (fun z => nomatch z) (of a m)
        have r2' := r2.grow (R1.grow g2) g3
        unfold stepAt at e
        split at e
        · next t et =>
          split at e
          · next t' c eo =>
            cases e
            have ky := r3.key ek
            subst ky
            have gg : Grow F H fp F3 H3 (fr ++ fp1) := by
              have := g1.trans (g23.ours (fr ++ fp1))
              simpa using this
            have fin := mut1 (nd_dput k) R3 r2' ov3 nd of3 et eo (Q := fun _ H4 => D.nx σ H4) fun v F' H' fv fp' g4 R4 ov4 nd4 of4 => ?_
            · obtain ⟨a, H4, rfl, hp, hq⟩ := fin
              exact ⟨a, H4, rfl, hp, hq⟩
            · exact g σ F' H' fp' L ((gg.trans g4).less fun a m => List.mem_append_right _ m) R4
          · cases e
        · cases e
      · cases e
    · cases e
  · cases e
/-- d[k] op= v, worths without parts -/
def dDAug (da db : En → Option Rs) (f : PyData → PyData → Option PyData) (dv : En → Option Rs) (E : En) : Option Out := match da E, db E, dv E with
  | some (.pl p), some rk, some rv => match dDGet da db E, rk.key, rv.full E with
    | some (.val (.dat a)), some k, some b => match f a b with
      | some c => stepAt (oDPut k) E p (.dat c)
      | none => none
    | _, _, _ => none
  | _, _, _ => none
theorem s_daug {ti : R2} {f : PyData → PyData → Option PyData} (ha : EvP K n as ta da) (hb : EvP K n as tb db) (ht : Rv2 K ti f) (hc : EvP K n as tc dc) : EvS K n as W (sDAug ta tb tc ti) (dDAug da db f dc) := by
  intro F H σ E fp L R o e D g
  unfold dDAug at e
  split at e
  · next p rk rv ea eb ec =>
    split at e
    · next a k b eg ek ef =>
      split at e
      · next c efc =>
        unfold dDGet at eg
        rw [ea, eb] at eg
        dsimp only at eg
        refine ha L R ea fun x F1 H1 f1 g1 r1 n1 o1 => hb L (R.grow g1) eb fun y F2 H2 f2 g2 r2 n2 o2 => ?_
        have R2 := (R.grow g1).grow g2
        have r1' := r1.grow (R.grow g1) g2
        have g12 : Grow F H [] F2 H2 [] := (g1.seq0 g2).drop
        have ky := r2.key ek
        subst ky
        rw [ek] at eg
        split at eg
        · next l kss k' es ek' =>
          cases ek'
          split at eg
          · next i ei =>
            split at eg
            · next s hs =>
              obtain ⟨fq, ow0⟩ := r1'.own R2 es
              obtain ⟨a', kvs, u, fq', rfl, hH, hk, rd, hkk, ll, _⟩ := ow0.dct_inv rfl
              obtain ⟨w, f, hw, ow⟩ := ll.nth hs
              have kd := r1'.kid R2 es hH (by rw [hk]; exact hw) hs ow eg
              refine ⟨a', w, rfl, .inl ⟨kvs, k, rd, rfl, by rw [valV_kix, hkk, ei]; exact hw.symm⟩, hc L R2 ec fun z F3 H3 f3 g3 r3 n3 o3 => ?_⟩
              have R3 := R2.grow g3
              have kd3 := kd.grow R2 g3
              refine ht (kd3.dp R3 rfl) (r3.dp R3 ef) efc fun hc' => ?_
              unfold stepAt at e
              split at e
              · next t et =>
                split at e
                · next t' c' eo =>
                  cases e
                  have fin := mut1 (nd_dput k) R3 (r1'.grow R2 g3) (Own.dat (scV_dp hc')) (by simpa using R3.nd) (fun _ m => nomatch m) et eo (Q := fun _ H4 => D.nx σ H4) fun v F' H' fv fp' g4 R4 ov4 nd4 of4 => ?_
                  · obtain ⟨a2, H4, e2, hp, hq⟩ := fin
                    cases e2
                    exact ⟨H4, hp, hq⟩
                  · have gg : Grow F H fp F3 H3 fp := (((g12.seq0 g3).drop).ours fp).less fun a m => by simpa using m
                    exact g σ F' H' fp' L ((gg.trans (by simpa using g4)).less fun a m => List.mem_append_right _ m) R4
                · cases e
              · cases e
            · cases eg
          · cases eg
        · cases eg
      · cases e
    · cases e
  · cases e
end Mv
/-! a dict walked by its keys, locked meanwhile -/
namespace Mv
open PySem PySem.Spec PyProof.Rows L2
variable {K : PySem.W.Frag} {F F' F1 F2 F3 H H' H1 H2 H3 : Hp} {v u x y : V} {vs ws : List V} {s t : S} {ss tts : List S} {fp fq fr fp' fp1 fp2 f1 f2 : List Addr} {ρ as : Ro} {E E' : En} {n : Nat}
variable {te ta tb tc : TE} {d da db dc : En → Option Rs} {tr : TA} {dr : En → Option (List Rs)} {de df : En → Option (S × En)} {tt : TT} {dte : En → Option (Bool × En)}

/-! nothing in it is locked -/
mutual
def S.nl : S → Bool
  | .dat _ => true
  | .con _ => true
  | .lst xs => S.nls xs
  | .dct l kvs => !l && S.nlk kvs
  | .ins _ fs => S.nls fs
def S.nls : List S → Bool
  | [] => true
  | s :: r => S.nl s && S.nls r
def S.nlk : List (Key × S) → Bool
  | [] => true
  | p :: r => S.nl p.2 && S.nlk r
end
theorem S.nlk_map : ∀ (l : List (Key × S)), S.nlk l = S.nls (l.map (·.2))
  | [] => rfl
  | p :: r => by simp only [S.nlk, List.map_cons, S.nls, S.nlk_map r]
theorem S.nl_kids {s : S} (h : s.nl = true) : S.nls s.kids = true := by
  cases s with
  | dat d => rfl
  | con v => rfl
  | lst xs => exact h
  | dct l kvs => simp only [S.nl, Bool.and_eq_true] at h; rw [S.nlk_map] at h; exact h.2
  | ins C fs => exact h
theorem S.nls_set : ∀ (l : List S) (i : Nat) (a b : S), a.nl = b.nl → S.nls (l.set i a) = S.nls (l.set i b)
  | [], _, _, _, _ => rfl
  | s :: r, 0, a, b, h => by simp only [List.set_cons_zero, S.nls, h]
  | s :: r, i + 1, a, b, h => by simp only [List.set_cons_succ, S.nls, S.nls_set r i a b h]
theorem S.nl_setKid (s : S) (i : Nat) (a b : S) (h : a.nl = b.nl) : (s.setKid i a).nl = (s.setKid i b).nl := by
  cases s with
  | dat d => rfl
  | con v => rfl
  | lst xs => simp only [S.setKid, S.nl]; exact S.nls_set xs i a b h
  | dct l kvs => simp only [S.setKid, S.nl]; rw [S.nlk_map, S.nlk_map, setSnd_snd, setSnd_snd, S.nls_set _ i a b h]
  | ins C fs => simp only [S.setKid, S.nl]; rw [S.nls_set _ i a b h]
theorem S.nl_put : ∀ (p : List Nat) (s a b : S), a.nl = b.nl → (s.put p a).nl = (s.put p b).nl
  | [], s, a, b, h => by rw [S.put_nil, S.put_nil, h]
  | i :: p, s, a, b, h => by
    rw [S.put_cons, S.put_cons]
    cases s.kids[i]? with
    | none => rfl
    | some u => exact S.nl_setKid s i _ _ (S.nl_put p u a b h)
def Sl.nl : Sl → Bool
  | .own s => s.nl
  | _ => true
def nlE : En → Bool
  | [] => true
  | e :: E => e.nl && nlE E
theorem nlE_get : ∀ {E : En} {i : Nat} {s : S}, nlE E = true → E[i]? = some (Sl.own s) → s.nl = true
  | [], _, _, _, h => by simp at h
  | e :: E, 0, s, h, hi => by
    simp only [List.getElem?_cons_zero, Option.some.injEq] at hi
    subst hi
    simp only [nlE, Bool.and_eq_true] at h
    exact h.1
  | e :: E, i + 1, s, h, hi => by
    simp only [nlE, Bool.and_eq_true] at h
    exact nlE_get h.2 (by simpa using hi)
theorem nlE_set : ∀ (E : En) (i : Nat) (a b : S), a.nl = b.nl → nlE (E.set i (.own a)) = nlE (E.set i (.own b))
  | [], _, _, _, _ => rfl
  | e :: E, 0, a, b, h => by simp only [List.set_cons_zero, nlE, Sl.nl, h]
  | e :: E, i + 1, a, b, h => by simp only [List.set_cons_succ, nlE, nlE_set E i a b h]
theorem nlE_put (p : List Nat) (a b : S) (h : a.nl = b.nl) : nlE (eput E p a) = nlE (eput E p b) := by
  cases p with
  | nil => rfl
  | cons i p =>
    cases e : E[i]? with
    | none => simp only [eput, e]
    | some sl => cases sl with
      | own s => simp only [eput, e]; exact nlE_set E i _ _ (S.nl_put p s a b h)
      | no => simp only [eput, e]
      | bor r => simp only [eput, e]
theorem nlE_roots : ∀ (ρ : Ro) (E : En), nlE E = true → S.nls (rootS ρ E) = true
  | [], _, _ => by simp [rootS, S.nls]
  | _ :: _, [], _ => rfl
  | v :: ρ, e :: E, h => by
    simp only [nlE, Bool.and_eq_true] at h
    simp only [rootS, S.nls, Bool.and_eq_true]
    refine ⟨?_, nlE_roots ρ E h.2⟩
    cases e with
    | no => rfl
    | own s => exact h.1
    | bor p => rfl

/-! the lock taken off again -/
structure Unl (K : PySem.W.Frag) (F2 H2 : Hp) (a : Addr) (o : Obj) (kvs : List (Key × V)) (F3 H3 : Hp) : Prop where
  at2 : F2 a = some (.frz o (.dK kvs))
  f : ∀ b, b ≠ a → F3 b = F2 b
  h : ∀ b, b ≠ a → H3 b = H2 b
variable {a : Addr} {o : Obj} {kvs : List (Key × V)}
theorem Rd.unl (U : Unl K F2 H2 a o kvs F3 H3) {b : Addr} {w : HO} (nd : ∀ l, w ≠ .dK l) (nf : ∀ o' l, w ≠ .frz o' l) (h : Rd F2 b w) : Rd F3 b w := by
  rcases h with h | ⟨o', h⟩
  · refine .inl ?_
    rw [U.f b fun z => by rw [z, U.at2] at h; cases h; exact nf _ _ rfl]
    exact h
  · refine .inr ⟨o', ?_⟩
    rw [U.f b fun z => by rw [z, U.at2] at h; cases h; exact nd _ rfl]
    exact h
theorem SqL.unl (U : Unl K F2 H2 a o kvs F3 H3) {b : Addr} {xs : List V} (h : SqL K F2 b xs) : SqL K F3 b xs := h.imp (Rd.unl U (fun _ z => nomatch z) (fun _ _ z => nomatch z)) id
theorem TupQ.unl (U : Unl K F2 H2 a o kvs F3 H3) {b : Addr} {xs : List V} (h : TupQ K F2 b xs) : TupQ K F3 b xs := h.imp (fun ⟨ob, e, d⟩ => ⟨ob, by rw [U.f b fun z => by rw [z, U.at2] at e; cases e]; exact e, d⟩) id
mutual
theorem Dq.unl (U : Unl K F2 H2 a o kvs F3 H3) : ∀ {v : V} {d : PyData}, Dq K F2 v d → Dq K F3 v d
  | _, _, .non => .non
  | _, _, .bl b => .bl b
  | _, _, .int i => .int i
  | _, _, .str x => .str x
  | _, _, .lst h t => .lst (SqL.unl U h) (DqAll.unl U t)
  | _, _, .tup h t => .tup (TupQ.unl U h) (DqAll.unl U t)
theorem DqAll.unl (U : Unl K F2 H2 a o kvs F3 H3) : ∀ {vs : List V} {ds : List PyData}, DqAll K F2 vs ds → DqAll K F3 vs ds
  | _, _, .nil => .nil
  | _, _, .cons h t => .cons (Dq.unl U h) (DqAll.unl U t)
end
mutual
theorem Own.unl (U : Unl K F2 H2 a o kvs F3 H3) : ∀ {v : V} {s : S} {fp : List Addr}, Own K F2 H2 v s fp → s.nl = true → a ∉ fp → Own K F3 H3 v s fp
  | _, _, _, .dat d, _, _ => .dat (Dq.unl U d)
  | _, _, _, .con, _, _ => .con
  | _, _, _, .node (a := b) h hd t, n, k =>
    .node (by rw [U.h b fun z => k (by rw [z]; exact List.mem_cons_self)]; exact h)
      (hd.keep fun b m u e => by rw [U.h b fun z => k (by rw [← z]; exact List.mem_cons_of_mem _ (List.mem_append_left _ m))]; exact e)
      (OwnL.unl U t (S.nl_kids n) fun m => k (List.mem_cons_of_mem _ (List.mem_append_right _ m)))
  | _, _, _, .lck _ _ _ _, n, _ => by simp [S.nl] at n
theorem OwnL.unl (U : Unl K F2 H2 a o kvs F3 H3) : ∀ {vs : List V} {ss : List S} {fp : List Addr}, OwnL K F2 H2 vs ss fp → S.nls ss = true → a ∉ fp → OwnL K F3 H3 vs ss fp
  | _, _, _, .nil, _, _ => .nil
  | _, _, _, .cons h t, n, k => by
    simp only [S.nls, Bool.and_eq_true] at n
    exact .cons (Own.unl U h n.1 fun m => k (List.mem_append_left _ m)) (OwnL.unl U t n.2 fun m => k (List.mem_append_right _ m))
end
theorem follow_same (h : ∀ b, (H3 b).map kidsV = (H2 b).map kidsV) : ∀ (p : List Nat) (v : V), follow H3 v p = follow H2 v p
  | [], v => by rw [follow_nil, follow_nil]
  | i :: p, v => by
    cases v with
    | ref b =>
      have := h b
      simp only [follow]
      cases e3 : H3 b with
      | none => cases e2 : H2 b with
        | none => rfl
        | some o2 => rw [e3, e2] at this; cases this
      | some o3 => cases e2 : H2 b with
        | none => rw [e3, e2] at this; cases this
        | some o2 =>
          rw [e3, e2] at this
          have := Option.some.inj this
          dsimp only
          rw [show kidsV o3 = kidsV o2 from this]
          cases (kidsV o2)[i]? with
          | none => rfl
          | some w => exact follow_same h p w
    | _ => rfl
theorem followE_same (h : ∀ b, (H3 b).map kidsV = (H2 b).map kidsV) (p : List Nat) : followE H3 ρ p = followE H2 ρ p := by
  cases p with
  | nil => rfl
  | cons i p =>
    simp only [followE]
    cases ρ[i]? with
    | none => rfl
    | some w => cases w with
      | none => rfl
      | some w => exact follow_same h p w
theorem ekill_bor {p : List Nat} (hg : eget E p = some t) {i : Nat} {q : List Nat} {t' : S} (hb : (ekill (eput E p t') p)[i]? = some (Sl.bor q)) : E[i]? = some (Sl.bor q) ∧ within p q = false := by
  unfold ekill at hb
  rw [List.getElem?_map] at hb
  cases e : (eput E p t')[i]? with
  | none => rw [e] at hb; cases hb
  | some sl =>
    rw [e] at hb
    cases sl with
    | no => cases hb
    | own w => cases hb
    | bor w =>
      simp only [Option.map_some, kill1, Option.some.injEq] at hb
      have hw : within p w = false ∧ w = q := by
        cases hh : within p w with
        | true => rw [hh] at hb; simp at hb
        | false => rw [hh] at hb; simp at hb; exact ⟨rfl, hb⟩
      obtain ⟨hw1, rfl⟩ := hw
      refine ⟨?_, hw1⟩
      obtain ⟨j, r', s', rfl, ej, _⟩ := eget_some hg
      simp only [eput, ej] at e
      by_cases ij : j = i
      · subst ij
        have hj := (List.getElem?_eq_some_iff.mp ej).1
        rw [List.getElem?_set_self hj] at e
        cases e
      · rw [List.getElem?_set_ne ij] at e
        exact e
theorem eget_after {p q : List Nat} (hg : eget E p = some t) (hw : within p q = false) (e3 : (eget E q).isSome = true) {t' : S} : (eget (ekill (eput E p t') p) q).isSome = true := by
  obtain ⟨w, ew⟩ := Option.isSome_iff_exists.mp e3
  rw [ekill_get]
  rcases apart_or p q hw with e | e | e
  · subst e; rw [eget_eput hg]; rfl
  · rw [eget_apart e]; exact e3
  · have q0 : q ≠ [] := fun z => by rw [z] at ew; cases ew
    exact eget_above q0 e hg
/-- a place's dict, locked -/
theorem Rep.lock {p : List Nat} {kss : List (Key × S)} (R : Rep K F H ρ E fp) (hg : eget E p = some (.dct false kss)) :
    ∃ a kvs, followE H ρ p = some (.ref a) ∧ H a = some (.dK kvs) ∧ F a = none ∧ a ∈ fp ∧ ∀ o, ∃ fp1, Rep K (upd F a (.frz o (.dK kvs))) (upd H a (.frz o (.dK kvs))) ρ (ekill (eput E p (.dct true kss)) p) fp1 ∧ Grow F H fp (upd F a (.frz o (.dK kvs))) (upd H a (.frz o (.dK kvs))) fp1 := by
  obtain ⟨u, fp1, fp2, h1, h2, pm, close⟩ := R.focus2 hg
  obtain ⟨a, kvs, _, fq, rfl, _, _, _, hkk, l, z⟩ := h2.dct_inv rfl
  obtain ⟨hH, rfl⟩ := z rfl
  have am : a ∈ fp := pm.mem_iff.mpr (List.mem_append_left _ List.mem_cons_self)
  have fa : F a = none := R.off a am
  have ndq := (List.nodup_append.mp (pm.nodup_iff.mp R.nd)).1
  have nq : a ∉ fq := (List.nodup_cons.mp ndq).1
  refine ⟨a, kvs, h1, hH, fa, am, fun o => ?_⟩
  have sub1 : ∀ b w, upd F a (.frz o (.dK kvs)) b = some w → upd H a (.frz o (.dK kvs)) b = some w := fun b w e => by
    by_cases ba : b = a
    · subst ba; rw [upd_same] at e ⊢; exact e
    · rw [upd_ne ba] at e ⊢; exact R.sub b w e
  have ff : ∀ b w, F b = some w → upd F a (.frz o (.dK kvs)) b = some w := fun b w e => by
    rw [upd_ne (ne_of_none e fa)]; exact e
  have g : Grow F H (a :: fq) (upd F a (.frz o (.dK kvs))) (upd H a (.frz o (.dK kvs))) fq := by
    refine ⟨ff, sub1, fun b w e m => ?_, fun b m => .inl (List.mem_cons_of_mem _ m), fun b h0 m e => ?_⟩
    · rw [upd_ne fun z => m (by rw [z]; exact List.mem_cons_self)]; exact e
    · rw [upd_ne fun z => m (by rw [z]; exact List.mem_cons_self)]; exact e
  have l2 : OwnL K (upd F a (.frz o (.dK kvs))) (upd H a (.frz o (.dK kvs))) (kvs.map (·.2)) (kss.map (·.2)) fq := l.frame ff sub1 fun b m w e => by
    rw [upd_ne fun z => nq (by rw [← z]; exact m)]; exact e
  obtain ⟨R1, _, g1⟩ := close _ _ (.dct true kss) fq [] [] (by simpa using g) (fun _ m => nomatch m) (.lck upd_same upd_same hkk l2) (by simpa using (List.nodup_cons.mp ndq).2) fun b m => by
    rw [upd_ne fun z => nq (by rw [← z]; exact m)]
    exact R.off b (pm.mem_iff.mpr (List.mem_append_left _ (List.mem_cons_of_mem _ m)))
  exact ⟨_, R1, by simpa using g1⟩
/-- .. and unlocked -/
theorem Rep.unlock {p : List Nat} {kss : List (Key × S)} (R : Rep K F2 H2 ρ E fp) (hg : eget E p = some (.dct true kss)) (hf : followE H2 ρ p = some (.ref a)) (ha : F2 a = some (.frz o (.dK kvs))) (n : nlE (eput E p (.dct false kss)) = true) (nk : (S.dct false kss).nl = true) :
    ∃ fp2, Rep K (fun b => if b = a then none else F2 b) (upd H2 a (.dK kvs)) ρ (ekill (eput E p (.dct false kss)) p) fp2 ∧ (∀ b ∈ fp2, b = a ∨ b ∈ fp) := by
  obtain ⟨u, fp1, fp2, h1, h2, c, pm⟩ := R.core.take hg
  rw [hf] at h1
  cases h1
  have U : Unl K F2 H2 a o kvs (fun b => if b = a then none else F2 b) (upd H2 a (.dK kvs)) := ⟨ha, fun b h => if_neg h, fun b h => upd_ne h⟩
  have na : a ∉ fp := fun m => by rw [R.off a m] at ha; cases ha
  have in1 : ∀ b ∈ fp1, b ∈ fp := fun a m => pm.mem_iff.mpr (List.mem_append_left _ m)
  have in2 : ∀ b ∈ fp2, b ∈ fp := fun a m => pm.mem_iff.mpr (List.mem_append_right _ m)
  have hH := R.sub a _ ha
  have nd : (fp1 ++ fp2).Nodup := pm.nodup_iff.mp R.nd
  obtain ⟨a', kvs', u', fq', ea, hH', hku, rd, hkk, ll, _⟩ := h2.dct_inv rfl
  cases ea
  have ek : kvs' = kvs := by
    rcases rd with q | ⟨o', q⟩
    · rw [hH] at q; cases q
    · rw [hH] at q; cases q; rfl
  subst ek
  -- the children again, from the node itself
  have kid : OwnL K F2 H2 (kvs'.map (·.2)) (kss.map (·.2)) fp1 := by
    cases h2 with
    | @node _ ob _ ex fq h hd l => cases ob with
      | frz o u => cases u <;> exact hd.elim
      | dK k => exact hd.elim
      | _ => exact hd.elim
    | @lck _ ob kvs2 kss2 _ hf2 hh hk2 l =>
      rw [hH] at hh
      cases hh
      exact l
  have kid3 := kid.unl U (by have := S.nl_kids nk; exact this) fun m => na (in1 a m)
  have own3 : Own K (fun b => if b = a then none else F2 b) (upd H2 a (.dK kvs')) (.ref a) (.dct false kss) (a :: fp1) := by
    have := Own.node (K := K) (F := fun b => if b = a then none else F2 b) (H := upd H2 a (.dK kvs')) (s := .dct false kss) (ex := []) upd_same (show Head _ _ a (.dK kvs') (.dct false kss) [] from ⟨rfl, hkk⟩) kid3
    simpa using this
  have c3 : Core K (fun b => if b = a then none else F2 b) (upd H2 a (.dK kvs')) ρ (eput E p (.con (.ref a))) fp2 := by
    obtain ⟨fx, lx, px⟩ := c.own
    refine ⟨c.len, ⟨fx, lx.unl U (nlE_roots _ _ ?_) fun m => na (in2 a (px.mem_iff.mpr m)), px⟩, c.set⟩
    rw [nlE_put p (.con (.ref a)) (.dct false kss) (by rw [nk]; rfl)]
    exact n
  have c4 := c3.put (eget_eput hg) own3
  rw [eput_eput] at c4
  have kv : ∀ b, (upd H2 a (.dK kvs') b).map kidsV = (H2 b).map kidsV := fun b => by
    by_cases ba : b = a
    · subst ba; rw [upd_same, hH]; rfl
    · rw [upd_ne ba]
  refine ⟨(a :: fp1) ++ fp2, ⟨c4.kill p, fun b w e => ?_, ?_, fun b m => ?_, fun i q hb => ?_⟩, fun b m => ?_⟩
  · by_cases ba : b = a
    · rw [if_pos ba] at e; cases e
    · rw [if_neg ba] at e; rw [upd_ne ba]; exact R.sub b w e
  · rw [List.cons_append]
    exact List.nodup_cons.mpr ⟨fun m => na (pm.mem_iff.mpr m), nd⟩
  · by_cases ba : b = a
    · rw [if_pos ba]
    · rw [if_neg ba]
      rw [List.cons_append] at m
      rcases List.mem_cons.mp m with z | m
      · exact absurd z ba
      · exact R.off b (pm.mem_iff.mpr m)
  · obtain ⟨hb1, hw⟩ := ekill_bor hg hb
    obtain ⟨v, e1, e2, e3⟩ := R.bor i q hb1
    exact ⟨v, e1, by rw [followE_same kv]; exact e2, eget_after hg hw e3⟩
  · rw [List.cons_append] at m
    rcases List.mem_cons.mp m with z | m
    · exact .inl z
    · exact .inr (pm.mem_iff.mpr m)
end Mv
/-! a dict walked by its keys, locked meanwhile: the rules -/
namespace Mv
open PySem PySem.Spec PyProof.Rows L2
variable {K : PySem.W.Frag} {F F' F1 F2 F3 H H' H1 H2 H3 : Hp} {v u x y : V} {vs ws : List V} {s t : S} {ss tts : List S} {fp fq fr fp' fp1 fp2 f1 f2 : List Addr} {ρ as : Ro} {E E' : En} {n : Nat}
variable {W : WXm} {te ta tb tc : TE} {d da db dc : En → Option Rs} {tr : TA} {dr : En → Option (List Rs)} {de df : En → Option (S × En)} {tt : TT} {dte : En → Option (Bool × En)}
variable {a : Addr} {o : Obj} {kvs : List (Key × V)}

def keyD : Key → PyData
  | .inl i => .int i
  | .inr x => .str x
theorem keyD_dp (k : Key) : Dq K F (kV k) (keyD k) := by
  cases k with
  | inl i => exact .int i
  | inr x => exact .str x
def iKeysS (d : En → Option Rs) (E : En) : Option Src := match d E with
  | some (.pl p) => match eget E p with
    | some (.dct true kss) => some ⟨E, [], fun _ i => some (((kss.map (·.1))[i]?).map fun k => .val (.dat (keyD k))), kss.length⟩
    | _ => none
  | _ => none
theorem i_keys (h : EvP K n as te d) : EvI K n as (iKeys te) (iKeysS d) := by
  intro F H σ E fp L R c e Rr q
  unfold iKeysS at e
  split at e
  · next p ed =>
    split at e
    · next kss es =>
      cases e
      refine h L R ed fun v F1 H1 f1 g1 a1 n1 o1 => ?_
      have R1 := R.grow g1
      obtain ⟨fq, ow⟩ := a1.own R1 (show (Rs.pl p).at E = some (.dct true kss) from es)
      obtain ⟨a, o, kvs, rfl, hf, hk⟩ : ∃ a o kvs, v = .ref a ∧ F1 a = some (.frz o (.dK kvs)) ∧ kvs.map (·.1) = kss.map (·.1) := by
        cases ow with
        | @node _ ob _ ex fq h hd l => cases ob with
          | frz o u => cases u <;> exact hd.elim
          | dK k => exact hd.elim
          | _ => exact hd.elim
        | lck hf hh hk2 l => exact ⟨_, _, _, rfl, hf, hk2⟩
      have len : kvs.length = kss.length := by have := congrArg List.length hk; simpa using this
      refine ⟨a, o, rfl, .inl ⟨kvs, g1.sub a _ hf, q _ F1 H1 [] fp g1.mine (by simpa using R1) rfl fun F2 H2 σ2 E2 fp2 L2 g2 R2 i => ?_⟩⟩
      have hH2 := R2.sub a _ (g2.f a _ hf)
      refine ⟨fun r hr => ?_, fun hr => ?_⟩
      · have hr := Option.some.inj hr
        obtain ⟨k, hk1, rfl⟩ := Option.map_eq_some_iff.mp hr
        rw [← hk] at hk1
        have hi := (List.getElem?_eq_some_iff.mp hk1).1
        rw [List.length_map] at hi
        refine ⟨⟨hH2, hi⟩, fun x H' hy => ⟨hy.1, ?_⟩⟩
        obtain ⟨k', w, h1, rfl⟩ := hy.2
        rw [List.getElem?_map, h1] at hk1
        cases hk1
        exact .dat (keyD_dp k')
      · have hr := Option.some.inj hr
        refine ⟨hH2, ?_⟩
        cases e : (kss.map (·.1))[i]? with
        | none =>
          have := List.getElem?_eq_none_iff.mp e
          rw [List.length_map] at this
          omega
        | some k => rw [e] at hr; cases hr
    · cases e
  · cases e
def unlE (p : List Nat) (E2 : En) : Option En := match E2.getLast? with
  | some (.bor p') => if p' = p then match eget E2 p with
    | some (.dct true kss) => if (S.dct false kss).nl = true then if nlE (eput E2 p (.dct false kss)) = true then if stripOk (ekill (eput E2 p (.dct false kss)) p) = true then some (ekill (eput E2 p (.dct false kss)) p).dropLast else none else none else none
    | _ => none
    else none
  | _ => none
def unlO (p : List Nat) : Option Out → Option Out
  | some (.nx E) => (unlE p E).map .nx
  | some (.rt s E) => if s.nl = true then (unlE p E).map (.rt s) else none
  | _ => none
def dLock (da : En → Option Rs) (db : En → Option Out) (E : En) : Option Out := match da E with
  | some (.pl p) => match eget E p with
    | some (.dct false kss) => unlO p (db (ekill (eput E p (.dct true kss)) p ++ [.bor p]))
    | _ => none
  | _ => none
theorem Grow.unlock (g : Grow F H fp F2 H2 fp2) (fa : F a = none) (am : a ∈ fp) (h : ∀ b ∈ fq, b = a ∨ b ∈ fp2) : Grow F H fp (fun b => if b = a then none else F2 b) (upd H2 a (.dK kvs)) fq := by
  have ne : ∀ b w, F b = some w → b ≠ a := fun b w e z => by rw [z, fa] at e; cases e
  refine ⟨fun b w e => by rw [if_neg (ne b w e)]; exact g.f b w e, fun b w e => ?_, fun b w e m => ?_, fun b m => ?_, fun b h0 m e => ?_⟩
  · by_cases ba : b = a
    · rw [if_pos ba] at e; cases e
    · rw [if_neg ba] at e; rw [upd_ne ba]; exact g.sub b w e
  · rw [upd_ne fun z => m (by rw [z]; exact am)]; exact g.keep b w e m
  · rcases h b m with rfl | m
    · exact .inl am
    · exact g.new b m
  · by_cases ba : b = a
    · rw [if_pos ba]
    · rw [if_neg ba]; exact g.off b h0 m e
theorem unl_core {σ : L2.St} {p : List Nat} {E2 E3 : En} (R : Rep K F2 H2 (σ ++ (as ++ [some (V.ref a)])) E2 fp2) (ha : F2 a = some (.frz o (.dK kvs))) (e : unlE p E2 = some E3) :
    ∃ fp3, Rep K (fun b => if b = a then none else F2 b) (upd H2 a (.dK kvs)) (σ ++ as) E3 fp3 ∧ (∀ b ∈ fp3, b = a ∨ b ∈ fp2) := by
  unfold unlE at e
  split at e
  · next p' hl =>
    split at e
    · next pe =>
      subst pe
      split at e
      · next kss es =>
        split at e
        · next nk =>
          split at e
          · next nE =>
            split at e
            · next so =>
              cases e
              rw [List.getLast?_eq_getElem?] at hl
              obtain ⟨w, e1, e2, e3⟩ := R.bor _ _ hl
              have len := R.core.len
              have : (σ ++ (as ++ [some (V.ref a)]))[E2.length - 1]? = some (some (.ref a)) := by
                rw [← List.append_assoc, List.getElem?_append_right (by rw [len]; simp), len]
                simp
              rw [this] at e1
              cases e1
              obtain ⟨fp3, R3, h3⟩ := R.unlock es e2 ha nE nk
              exact ⟨fp3, R3.strip so, h3⟩
            · cases e
          · cases e
        · cases e
      · cases e
    · cases e
  · cases e
theorem s_lock {tb : TS} {db : En → Option Out} (hb : ∀ as, EvS K n as W tb db) : EvS K n as W (tLock tb) (dLock da db) := by
  intro F H σ E fp L R o e D g
  unfold dLock at e
  split at e
  · next p ed =>
    split at e
    · next kss es =>
      obtain ⟨a, kvs, h1, hH, fa, am, lk⟩ := R.lock es
      refine ⟨a, .dK kvs, hH, True.intro, fun od => ?_⟩
      obtain ⟨fp1, R1, g1⟩ := lk od
      have h1' : followE (upd H a (.frz od (.dK kvs))) (σ ++ as) p = some (.ref a) := by
        rw [followE_same (fun b => ?_)]
        · exact h1
        · by_cases ba : b = a
          · subst ba; rw [upd_same, hH]; rfl
          · rw [upd_ne ba]
      have eg : (eget (ekill (eput E p (.dct true kss)) p) p).isSome = true := by rw [ekill_get, eget_eput es]; rfl
      have Rh := R1.hold h1' eg
      generalize ho : db (ekill (eput E p (.dct true kss)) p ++ [.bor p]) = o1 at e
      have fin : ∀ {F2 H2 : Hp} {fp2 : List Addr}, Grow (upd F a (.frz od (.dK kvs))) (upd H a (.frz od (.dK kvs))) fp1 F2 H2 fp2 → F2 a = some (.frz od (.dK kvs)) := fun g2 => g2.f a _ upd_same
      cases o1 with
      | none => cases e
      | some o1 => cases o1 with
        | nx E2 =>
          obtain ⟨E3, h3, rfl⟩ := Option.map_eq_some_iff.mp e
          refine hb _ L Rh ho fun σ' F2 H2 fp2 L2 g2 R2 => ?_
          have ha := fin g2
          obtain ⟨fp3, R3, hp⟩ := unl_core R2 ha h3
          exact ⟨R2.sub a _ ha, g σ' _ _ fp3 L2 ((g1.trans g2).unlock fa am hp) R3⟩
        | rt s E2 =>
          unfold unlO at e
          dsimp only at e
          split at e
          · next ns =>
            obtain ⟨E3, h3, rfl⟩ := Option.map_eq_some_iff.mp e
            refine hb _ L Rh ho fun v σ' F2 H2 fr fp2 L2 g2 R2 ov nd of => ?_
            have ha := fin g2
            obtain ⟨fp3, R3, hp⟩ := unl_core R2 ha h3
            have nr : a ∉ fr := fun m => by rw [of a m] at ha; cases ha
            have U : Unl K F2 H2 a od kvs (fun b => if b = a then none else F2 b) (upd H2 a (.dK kvs)) := ⟨ha, fun b h => if_neg h, fun b h => upd_ne h⟩
            have g3 : Grow F H fp (fun b => if b = a then none else F2 b) (upd H2 a (.dK kvs)) (fr ++ fp3) := (g1.trans g2).unlock fa am fun b m => by
              rcases List.mem_append.mp m with m | m
              · exact .inr (List.mem_append_left _ m)
              · exact (hp b m).imp id fun m => List.mem_append_right _ m
            refine ⟨R2.sub a _ ha, g v σ' _ _ fr fp3 L2 g3 R3 (ov.unl U ns nr) ?_ fun b m => ?_⟩
            · refine List.nodup_append.mpr ⟨(List.nodup_append.mp nd).1, R3.nd, fun b m c m2 z => ?_⟩
              subst z
              rcases hp b m2 with rfl | m2
              · exact nr m
              · exact (List.nodup_append.mp nd).2.2 b m b m2 rfl
            · by_cases ba : b = a
              · rw [if_pos ba]
              · rw [if_neg ba]; exact of b m
          · cases e
        | bk E2 => cases e
        | ct E2 => cases e
        | ex x E2 => cases e
    · cases e
  · cases e
end Mv
/-! sealing: what is owned becomes data; what is walked may come of a call; tuples walked -/
namespace Mv
open PySem PySem.Spec PyProof.Rows L2
variable {K : PySem.W.Frag} {F F' F1 F2 F3 H H' H1 H2 H3 : Hp} {v u x y : V} {vs ws : List V} {s t : S} {ss tts : List S} {fp fq fr fp' fp1 fp2 f1 f2 : List Addr} {ρ as : Ro} {E E' : En} {n : Nat}
variable {te ta tb tc : TE} {d da db dc : En → Option Rs} {tr : TA} {dr : En → Option (List Rs)} {de df : En → Option (S × En)} {tt : TT} {dte : En → Option (Bool × En)}

mutual
theorem Own.dpIn (kF : ∀ b o, F b = some o → F' b = some o) : ∀ (s : S) {v : V} {fp : List Addr} {d : PyData}, Own K F H v s fp → (∀ a ∈ fp, ∀ o, H a = some o → F' a = some o) → s.toD = some d → Dq K F' v d
  | .dat d, v, fp, d', o, k, e => by
    simp only [S.toD, Option.some.injEq] at e
    subst e
    exact Dq.mono kF (o.dat_inv rfl).1
  | .lst xs, v, fp, d', o, k, e => by
    simp only [S.toD, Option.map_eq_some_iff] at e
    obtain ⟨ds, e, rfl⟩ := e
    obtain ⟨a, vs, fq, rfl, h, l, rfl⟩ := o.lst_inv rfl
    exact .lst (.inl (.inl (k a List.mem_cons_self _ h))) (Own.dpsIn kF xs l (fun b m => k b (List.mem_cons_of_mem _ m)) e)
  | .con _, _, _, _, _, _, e => by simp [S.toD] at e
  | .dct _ _, _, _, _, _, _, e => by simp [S.toD] at e
  | .ins _ _, _, _, _, _, _, e => by simp [S.toD] at e
theorem Own.dpsIn (kF : ∀ b o, F b = some o → F' b = some o) : ∀ (ss : List S) {vs : List V} {fp : List Addr} {ds : List PyData}, OwnL K F H vs ss fp → (∀ a ∈ fp, ∀ o, H a = some o → F' a = some o) → S.toDs ss = some ds → DqAll K F' vs ds
  | [], vs, fp, ds, o, k, e => by
    simp only [S.toDs, Option.some.injEq] at e
    subst e
    cases o
    exact .nil
  | s :: ss, vs, fp, ds, o, k, e => by
    cases o with
    | cons a l =>
      simp only [S.toDs] at e
      split at e
      · next d ds' e1 e2 =>
        cases e
        exact .cons (Own.dpIn kF s a (fun b m => k b (List.mem_append_left _ m)) e1) (Own.dpsIn kF ss l (fun b m => k b (List.mem_append_right _ m)) e2)
      · cases e
end
theorem Rep.seal {d : PyData} (R : Rep K F H ρ E fp) (ov : Own K F H v s fr) (nd : (fr ++ fp).Nodup) (of : ∀ a ∈ fr, F a = none) (e : s.toD = some d) :
    ∃ F', Rep K F' H ρ E fp ∧ Dq K F' v d ∧ Grow F H (fr ++ fp) F' H fp := by
  have ff : ∀ b o, F b = some o → (fun a => if a ∈ fr then H a else F a) b = some o := fun b o e => by
    dsimp only
    rw [if_neg fun m => by rw [of b m] at e; cases e]; exact e
  have sub : ∀ b o, (fun a => if a ∈ fr then H a else F a) b = some o → H b = some o := fun b o e => by
    dsimp only at e
    split at e
    · exact e
    · exact R.sub b o e
  refine ⟨fun a => if a ∈ fr then H a else F a, ⟨R.core.frame ff sub fun _ _ _ h => h, sub, R.nd, fun a m => ?_, R.bor⟩, Own.dpIn ff s ov (fun a m o h => ?_) e, ⟨ff, sub, fun _ _ h _ => h, fun a m => .inl (List.mem_append_right _ m), fun a h0 m e => ?_⟩⟩
  · have : a ∉ fr := fun m2 => (List.nodup_append.mp nd).2.2 a m2 a m rfl
    rw [if_neg this]; exact R.off a m
  · rw [if_pos m]; exact h
  · rw [if_neg fun m2 => m (List.mem_append_left _ m2)]; exact e
def eSeal (de : En → Option (S × En)) (E : En) : Option (S × En) := match de E with
  | some (s, E1) => match s.toD with
    | some d => some (.dat d, E1)
    | none => none
  | none => none
theorem e_seal (h : EvE K n as te de) : EvE K n as te (eSeal de) := by
  intro F H σ E fp L R s0 E0 e Q q
  unfold eSeal at e
  split at e
  · next s E1 ee =>
    split at e
    · next d ed =>
      cases e
      refine h L R ee fun v F1 H1 fr fp1 g1 R1 ov nd of => ?_
      obtain ⟨F2, R2, dp, g2⟩ := R1.seal ov nd of ed
      exact q v F2 H1 [] fp1 (by simpa using g1.trans g2) R2 (.dat dp) (by simpa using R2.nd) (fun _ m => nomatch m)
    · cases e
  · cases e
/-- a value held by a root of its own -/
theorem Rep.push {σ : L2.St} (R : Rep K F H (σ ++ as) E fp) (ov : Own K F H v s fr) (nd : (fr ++ fp).Nodup) (of : ∀ a ∈ fr, F a = none) : Rep K F H (σ ++ (as ++ [some v])) (E ++ [.own s]) (fr ++ fp) := by
  obtain ⟨f, l, pm⟩ := R.core.own
  have len := R.core.len
  have eg : ∀ q, (eget E q).isSome = true → eget (E ++ [Sl.own s]) q = eget E q := by
    intro q hq
    obtain ⟨t, ht⟩ := Option.isSome_iff_exists.mp hq
    obtain ⟨i, r, s, rfl, ei, _⟩ := eget_some ht
    have hi := (List.getElem?_eq_some_iff.mp ei).1
    simp only [eget, List.getElem?_append_left hi]
  have fo : ∀ q, (∃ w, followE H (σ ++ as) q = some w) → followE H (σ ++ (as ++ [some v])) q = followE H (σ ++ as) q := by
    intro q ⟨w, hw⟩
    cases q with
    | nil => rfl
    | cons i q =>
      unfold followE at hw ⊢
      dsimp only at hw ⊢
      cases e : (σ ++ as)[i]? with
      | none => rw [e] at hw; cases hw
      | some z =>
        have hi := (List.getElem?_eq_some_iff.mp e).1
        rw [← List.append_assoc, List.getElem?_append_left hi, e]
  refine ⟨⟨by rw [← List.append_assoc, List.length_append, List.length_append, len]; rfl, ⟨f ++ fr, ?_, ?_⟩, fun i w h => ?_⟩, R.sub, nd, fun a m => (List.mem_append.mp m).elim (of a) (R.off a), fun i q h => ?_⟩
  · rw [← List.append_assoc, rootS_app len, rootV_app]
    have := l.append (OwnL.cons (K := K) (F := F) (H := H) ov .nil)
    simpa [rootV, rootS, slS] using this
  · exact (List.Perm.append_left fr pm).trans List.perm_append_comm
  · by_cases hi : i < E.length
    · rw [List.getElem?_append_left hi] at h
      obtain ⟨z, hw⟩ := R.core.set i w h
      exact ⟨z, by rw [← List.append_assoc, List.getElem?_append_left (by rw [← len]; exact hi)]; exact hw⟩
    · rw [List.getElem?_append_right (by omega)] at h
      cases hk : i - E.length with
      | zero => exact ⟨v, by rw [← List.append_assoc, List.getElem?_append_right (by rw [← len]; omega), ← len, hk]; rfl⟩
      | succ k => rw [hk] at h; cases h
  · by_cases hi : i < E.length
    · rw [List.getElem?_append_left hi] at h
      obtain ⟨w, e1, e2, e3⟩ := R.bor i q h
      exact ⟨w, by rw [← List.append_assoc, List.getElem?_append_left (by rw [← len]; exact hi)]; exact e1, by rw [fo q ⟨w, e2⟩]; exact e2, by rw [eg q e3]; exact e3⟩
    · rw [List.getElem?_append_right (by omega)] at h
      cases hk : i - E.length with
      | zero => rw [hk] at h; cases h
      | succ k => rw [hk] at h; cases h
/-- a list at a held place, walked -/
def rdP (E2 : En) (i : Nat) : Option (Option Rs) := match E2.getLast? with
  | some (.bor p) => match eget E2 p with
    | some (.lst ss) => match ss[i]? with
      | some s => ((Rs.pl p).kid i s).map some
      | none => some none
    | _ => none
  | _ => none
theorem rdP_ok {σ : L2.St} {a : Addr} {ex : List V} (hx : ex.getLast? = some (.ref a)) (R : Rep K F H (σ ++ (as ++ ex.map some)) E fp) (i : Nat) :
    (∀ r, rdP E i = some (some r) → (Itl K a).go i H ∧ ∀ x H', (Itl K a).yld i H x H' → H' = H ∧ RsAt K F H (σ ++ (as ++ ex.map some)) E x r []) ∧ (rdP E i = some none → (Itl K a).stop i H) := by
  have len := R.core.len
  have ex1 : ex ≠ [] := fun z => by rw [z] at hx; cases hx
  have lastv : (σ ++ (as ++ ex.map some))[E.length - 1]? = some (some (.ref a)) := by
    have hm : (ex.map some).getLast? = some (some (V.ref a)) := by rw [List.getLast?_map, hx]; rfl
    have : (σ ++ (as ++ ex.map some)).getLast? = some (some (V.ref a)) := by
      rw [List.getLast?_append, List.getLast?_append, hm]; rfl
    rw [List.getLast?_eq_getElem?, ← len] at this
    exact this
  have key : ∀ p2 ss2, E.getLast? = some (Sl.bor p2) → eget E p2 = some (.lst ss2) → ∃ xs2 f2, H a = some (.lst xs2) ∧ OwnL K F H xs2 ss2 f2 ∧ RsAt K F H (σ ++ (as ++ ex.map some)) E (.ref a) (.pl p2) [] := by
    intro p2 ss2 hl hg
    rw [List.getLast?_eq_getElem?] at hl
    obtain ⟨w, e1, e2, e3⟩ := R.bor _ p2 hl
    rw [lastv] at e1
    cases e1
    have at2 : RsAt K F H (σ ++ (as ++ ex.map some)) E (.ref a) (.pl p2) [] := ⟨rfl, e2, e3⟩
    obtain ⟨f2, ow2⟩ := at2.own R (show (Rs.pl p2).at E = some (.lst ss2) from hg)
    obtain ⟨a', xs2, f3, ea, hH2, l2, _⟩ := ow2.lst_inv rfl
    cases ea
    exact ⟨xs2, f3, hH2, l2, at2⟩
  unfold rdP
  refine ⟨fun r hr => ?_, fun hr => ?_⟩
  · split at hr
    · next p2 hl =>
      split at hr
      · next ss2 hg =>
        obtain ⟨xs2, f2, hH2, l2, at2⟩ := key p2 ss2 hl hg
        split at hr
        · next s hs =>
          obtain ⟨r', hr', er⟩ := Option.map_eq_some_iff.mp hr
          cases er
          obtain ⟨w, f, hw, ow⟩ := l2.nth hs
          have hq2 : SqL K H a xs2 := .inl (.inl hH2)
          exact ⟨⟨xs2, w, hq2, hw⟩, fun x H' hy => ⟨hy.1, by rw [Option.some.inj ((hy.2 xs2 hq2).symm.trans hw)]; exact at2.kid R hg hH2 hw hs ow hr'⟩⟩
        · cases hr
      · cases hr
    · cases hr
  · split at hr
    · next p2 hl =>
      split at hr
      · next ss2 hg =>
        obtain ⟨xs2, f2, hH2, l2, at2⟩ := key p2 ss2 hl hg
        split at hr
        · next s hs =>
          cases hk : (Rs.pl p2).kid i s with
          | none => rw [hk] at hr; cases hr
          | some r' => rw [hk] at hr; cases hr
        · next hs => exact ⟨xs2, .inl (.inl hH2), by rw [l2.length]; exact List.getElem?_eq_none_iff.mp hs⟩
      · cases hr
    · cases hr
/-- a list that a call tells, walked: held by a root of its own -/
def iLstE (de : En → Option (S × En)) (E : En) : Option Src := match de E with
  | some (.lst ss, E1) => some ⟨E1, [.own (.lst ss), .bor [E1.length]], rdP, ss.length⟩
  | some (.dat (.list ds), E1) => some ⟨E1, [], rdD ds, ds.length⟩
  | _ => none
theorem i_lstE (h : EvE K n as te de) : EvI K n as (iList K te) (iLstE de) := by
  intro F H σ E fp L R c e Rr q
  unfold iLstE at e
  split at e
  · next ss E1 ee =>
    cases e
    refine h L R ee fun v F1 H1 fr fp1 g1 R1 ov nd of => ?_
    obtain ⟨a, xs, fq, rfl, hH, l, hf⟩ := ov.lst_inv rfl
    have R2 := R1.push ov nd of
    have len := R1.core.len
    have fo : followE H1 (σ ++ (as ++ [some (V.ref a)])) [E1.length] = some (.ref a) := by
      simp only [followE]
      rw [← List.append_assoc, List.getElem?_append_right (by rw [len]; exact Nat.le_refl _), len]
      simp [follow_nil]
    have eg : eget (E1 ++ [Sl.own (.lst ss)]) [E1.length] = some (.lst ss) := by
      simp [eget, S.get_nil]
    have R3 := Rep.hold (as := as ++ [some (V.ref a)]) (p := [E1.length]) R2 fo (by rw [eg]; rfl)
    refine ⟨a, rfl, ⟨xs, .inl (.inl hH)⟩, q _ F1 H1 [.ref a, .ref a] (fr ++ fp1) g1 (by simpa using R3) rfl fun F2 H2 σ2 E2 fp2 L2 g2 R2 i => rdP_ok rfl R2 i⟩
  · next ds E1 ee =>
    cases e
    refine h L R ee fun v F1 H1 fr fp1 g1 R1 ov nd of => ?_
    obtain ⟨a, xs, rfl, hq, da⟩ := Mv.Dq.list_inv (ov.dat_inv rfl).1
    refine ⟨a, rfl, ⟨xs, SqL.mono R1.sub hq⟩, q _ F1 H1 [] fp1 (g1.less fun a m => List.mem_append_right _ m) (by simpa using R1) rfl fun F2 H2 σ2 E2 fp2 L2 g2 R2 i => ?_⟩
    have hq2 : SqL K H2 a xs := SqL.mono g2.sub (SqL.mono g2.f hq)
    have da2 := Mv.DqAll.mono g2.f da
    refine ⟨fun r hr => ?_, fun hr => ⟨xs, hq2, by rw [Mv.DqAll.len da]; exact rdD_stop (E := E2) hr⟩⟩
    obtain ⟨w, hw, ar⟩ := rdD_go (K := K) (H := H2) (E := E2) (ρ := σ2 ++ (as ++ ([] : List V).map some)) da2 hr
    exact ⟨⟨xs, w, hq2, hw⟩, fun x H' hy => ⟨hy.1, by rw [Option.some.inj ((hy.2 xs hq2).symm.trans hw)]; exact ar⟩⟩
  · cases e
/-- a tuple walked -/
def iTupS (d : En → Option Rs) (E : En) : Option Src := match d E with
  | some (.val (.dat (.tuple ds))) => some ⟨E, [], rdD ds, ds.length⟩
  | _ => none
theorem i_tup (h : EvP K n as te d) : EvI K n as (iTup K te) (iTupS d) := by
  intro F H σ E fp L R c e Rr q
  unfold iTupS at e
  split at e
  · next ds ed =>
    cases e
    refine h L R ed fun v F1 H1 f1 g1 a1 n1 o1 => ?_
    obtain ⟨a, xs, rfl, hq, da⟩ := Mv.Dq.tuple_inv (Own.dat_inv (show Own K F1 H1 v _ f1 from a1) rfl).1
    refine ⟨a, rfl, ⟨xs, SqT.mono g1.sub hq⟩, q _ F1 H1 [] fp g1.mine (by simpa using R.grow g1) rfl fun F2 H2 σ2 E2 fp2 L2 g2 R2 i => ?_⟩
    have hq2 : SqT K H2 a xs := SqT.mono g2.sub (SqT.mono g2.f hq)
    have da2 := Mv.DqAll.mono g2.f da
    refine ⟨fun r hr => ?_, fun hr => ⟨xs, hq2, by rw [Mv.DqAll.len da]; exact rdD_stop (E := E2) hr⟩⟩
    obtain ⟨w, hw, ar⟩ := rdD_go (K := K) (H := H2) (E := E2) (ρ := σ2 ++ (as ++ ([] : List V).map some)) da2 hr
    exact ⟨⟨xs, w, hq2, hw⟩, fun x H' hy => ⟨hy.1, by rw [Option.some.inj ((hy.2 xs hq2).symm.trans hw)]; exact ar⟩⟩
  · cases e
end Mv
/-! expressions that make something new -/
namespace Mv
open PySem PySem.Spec PyProof.Rows L2
variable {K : PySem.W.Frag} {F F' F1 F2 F3 H H' H1 H2 H3 : Hp} {v u x y : V} {vs ws xs : List V} {s t c : S} {ss tts : List S} {fp fq fr fp' fp1 fp2 f1 f2 : List Addr} {ρ as : Ro} {E E' : En} {n : Nat}
variable {te ta tb tc tk tv td : TE} {d da db dc dk dv : En → Option Rs} {tr : TA} {dr : En → Option (List Rs)} {de df : En → Option (S × En)} {tt : TT} {dte : En → Option (Bool × En)} {ds : List PyData} {Q : VK}

/-- what follows on something new -/
def Mk (K : PySem.W.Frag) (F H : Hp) (c : S) (Q : VK) : Prop := ∀ v F' H' fr, Grow F H [] F' H' fr → Own K F' H' v c fr → fr.Nodup → (∀ a ∈ fr, F' a = none) → Q v H'
theorem Mk.grow (m : Mk K F H c Q) (g : Grow F H [] F1 H1 []) : Mk K F1 H1 c Q := fun v F' H' fr g2 o nd of => m v F' H' fr (by simpa using g.seq0 g2) o nd of
theorem fresh_none (sub : ∀ a o, F a = some o → H a = some o) {p : Addr} (hp : H p = none) : F p = none := by
  cases e : F p with
  | none => rfl
  | some o => rw [sub p o e] at hp; cases hp
theorem mk_lst (sub : ∀ a o, F a = some o → H a = some o) (l : OwnL K F H xs ss []) (m : Mk K F H (.lst ss) Q) : ∀ p, H p = none → Q (.ref p) (upd H p (.lst xs)) := fun p hp => by
  have g : Grow F H [] F (upd H p (.lst xs)) [p] := Grow.alloc sub hp
  refine m _ F _ [p] g (lst_write (l.frame (fun _ _ h => h) g.sub fun _ z => nomatch z)) (by simp) fun a z => ?_
  rw [List.mem_singleton.mp z]; exact fresh_none sub hp
theorem mk_dct {kvs : List (Key × V)} {kss : List (Key × S)} (sub : ∀ a o, F a = some o → H a = some o) (hk : kvs.map (·.1) = kss.map (·.1)) (l : OwnL K F H (kvs.map (·.2)) (kss.map (·.2)) []) (m : Mk K F H (.dct false kss) Q) : ∀ p, H p = none → Q (.ref p) (upd H p (.dK kvs)) := fun p hp => by
  have g : Grow F H [] F (upd H p (.dK kvs)) [p] := Grow.alloc sub hp
  refine m _ F _ [p] g (dct_write hk (l.frame (fun _ _ h => h) g.sub fun _ z => nomatch z)) (by simp) fun a z => ?_
  rw [List.mem_singleton.mp z]; exact fresh_none sub hp
theorem mk_tup (sub : ∀ a o, F a = some o → H a = some o) (l : DqAll K F xs ds) (m : Mk K F H (.dat (.tuple ds)) Q) : ∀ (p : Addr) (ob : Obj), H p = none → ob.dict = none → Q (.ref p) (upd H p (.frz ob (.tup xs))) := fun p ob hp hd => by
  have g : Grow F H [] (upd F p (.frz ob (.tup xs))) (upd H p (.frz ob (.tup xs))) [] := Grow.share sub hp
  exact m _ _ _ [] g (.dat (.tup (.inl ⟨ob, upd_same, hd⟩) (DqAll.mono g.f l))) List.nodup_nil (fun _ z => nomatch z)
theorem mk_dat (sub : ∀ a o, F a = some o → H a = some o) {d : PyData} (l : Dq K F v d) (m : Mk K F H (.dat d) Q) : Q v H := m v F H [] (.refl sub []) (.dat l) List.nodup_nil (fun _ z => nomatch z)
/-- data as values -/
theorem dats_own : ∀ {xs : List V} {ds : List PyData}, DqAll K F xs ds → OwnL K F H xs (ds.map S.dat) []
  | _, _, .nil => .nil
  | _, _, .cons a t => OwnL.cons (fp := []) (.dat a) (dats_own t)
theorem datsS_map : ∀ {ss : List S} {ds : List PyData}, datsS ss = some ds → ss = ds.map S.dat
  | [], _, e => by cases e; rfl
  | .dat d :: ss, _, e => by
    simp only [datsS] at e
    obtain ⟨r, hr, rfl⟩ := Option.map_eq_some_iff.mp e
    rw [datsS_map hr]; rfl
  | .con _ :: _, _, e => by simp [datsS] at e
  | .lst _ :: _, _, e => by simp [datsS] at e
  | .dct _ _ :: _, _, e => by simp [datsS] at e
  | .ins _ _ :: _, _, e => by simp [datsS] at e
theorem datsS_dats (ds : List PyData) : datsS (ds.map S.dat) = some ds := by
  induction ds with
  | nil => rfl
  | cons d ds ih => simp [datsS, ih]
/-! a row of data: list or tuple -/
def S.seqL : S → Option (List PyData)
  | .dat (.list ds) => some ds
  | .lst ss => datsS ss
  | _ => none
def S.seqT : S → Option (List PyData)
  | .dat (.tuple ds) => some ds
  | _ => none
theorem Own.sqL (sub : ∀ a o, F a = some o → H a = some o) (o : Own K F H v s fp) (e : s.seqL = some ds) : ∃ a xs, v = .ref a ∧ SqL K H a xs ∧ DqAll K F xs ds := by
  cases s with
  | dat d => cases d with
    | list ds' =>
      cases e
      obtain ⟨a, xs, rfl, hq, da⟩ := Mv.Dq.list_inv (o.dat_inv rfl).1
      exact ⟨a, xs, rfl, SqL.mono sub hq, da⟩
    | _ => cases e
  | lst ss =>
    obtain ⟨a, xs, fq, rfl, hH, l, hf⟩ := o.lst_inv rfl
    obtain ⟨da, _⟩ := datsS_dp l e
    exact ⟨a, xs, rfl, .inl (.inl hH), da⟩
  | _ => cases e
theorem Own.sqT (sub : ∀ a o, F a = some o → H a = some o) (o : Own K F H v s fp) (e : s.seqT = some ds) : ∃ a xs, v = .ref a ∧ SqT K H a xs ∧ DqAll K F xs ds := by
  cases s with
  | dat d => cases d with
    | tuple ds' =>
      cases e
      obtain ⟨a, xs, rfl, hq, da⟩ := Mv.Dq.tuple_inv (o.dat_inv rfl).1
      exact ⟨a, xs, rfl, SqT.mono sub hq, da⟩
    | _ => cases e
  | _ => cases e

theorem Own.sq (sub : ∀ a o, F a = some o → H a = some o) (o : Own K F H v s fp) (e : (s.seqL <|> s.seqT) = some ds) : ∃ a xs, v = .ref a ∧ (SqL K H a xs ∨ SqT K H a xs) ∧ DqAll K F xs ds := by
  cases h : s.seqL with
  | some ds' =>
    rw [h] at e
    cases e
    obtain ⟨p, xs, rfl, hq, da⟩ := o.sqL sub h
    exact ⟨p, xs, rfl, .inl hq, da⟩
  | none =>
    rw [h] at e
    obtain ⟨p, xs, rfl, hq, da⟩ := o.sqT sub (show s.seqT = some ds from e)
    exact ⟨p, xs, rfl, .inr hq, da⟩
/-! two values -/
def RvS2 (K : PySem.W.Frag) (r : R2) (f : S → S → Option S) : Prop :=
  ∀ {F H : Hp} {x y : V} {a b c : S} {f1 f2 : List Addr}, (∀ a o, F a = some o → H a = some o) → Own K F H x a f1 → Own K F H y b f2 → f a b = some c → ∀ {Q : VK}, Mk K F H c Q → r x y H Q
def dOpS (f : S → S → Option S) (da db : En → Option Rs) (E : En) : Option Rs := match da E, db E with
  | some a, some b => match a.at E, b.at E with
    | some s, some t => (f s t).map .val
    | _, _ => none
  | _, _ => none
theorem p_opS {r : R2} {f : S → S → Option S} (hr : RvS2 K r f) (ha : EvP K n as ta da) (hb : EvP K n as tb db) : EvP K n as (tOp r ta tb) (dOpS f da db) := by
  intro F H σ E fp L R r' e Q q
  unfold dOpS at e
  split at e
  · next a b ea eb =>
    split at e
    · next s t es et =>
      obtain ⟨c, ec, rfl⟩ := Option.map_eq_some_iff.mp e
      refine ha L R ea fun x F1 H1 f1 g1 r1 n1 o1 => hb L (R.grow g1) eb fun y F2 H2 f2 g2 r2 n2 o2 => ?_
      have R2 := (R.grow g1).grow g2
      obtain ⟨k1, w1⟩ := (r1.grow (R.grow g1) g2).own R2 es
      obtain ⟨k2, w2⟩ := r2.own R2 et
      exact hr R2.sub w1 w2 ec fun v F' H' fr g o nd of => q v F' H' fr (by simpa using (g1.seq0 g2).drop.seq0 g) o nd of
    · cases e
  · cases e
def fCat : S → S → Option S
  | .lst a, .lst b => match datsS a, datsS b with
    | some _, some _ => if a.length + b.length < 100000 then some (.lst (a ++ b)) else none
    | _, _ => none
  | _, _ => none
theorem rv_cat : RvS2 K rCat fCat := by
  intro F H x y a b c f1 f2 sub o1 o2 e Q m
  unfold fCat at e
  split at e
  · next a b =>
    split at e
    · next d1 d2 e1 e2 =>
      split at e
      · next hl =>
        cases e
        obtain ⟨l, xs, _, rfl, hH, l1, _⟩ := o1.lst_inv rfl
        obtain ⟨l', zs, _, rfl, hB, l2, _⟩ := o2.lst_inv rfl
        obtain ⟨da1, rfl⟩ := datsS_dp l1 e1
        obtain ⟨da2, rfl⟩ := datsS_dp l2 e2
        exact ⟨l, l', xs, zs, rfl, rfl, hH, hB, by rw [l1.length, l2.length, sizeLine_eq]; omega, mk_lst sub (by simpa using l1.append l2) m⟩
      · cases e
    · cases e
  · cases e
def fCatT : S → S → Option S
  | .dat (.tuple a), .dat (.tuple b) => if a.length + b.length < 100000 then some (.dat (.tuple (a ++ b))) else none
  | _, _ => none
theorem DqAll.append : ∀ {vs ws : List V} {ds es : List PyData}, DqAll K F vs ds → DqAll K F ws es → DqAll K F (vs ++ ws) (ds ++ es)
  | _, _, _, _, .nil, h => h
  | _, _, _, _, .cons a t, h => .cons a (Mv.DqAll.append t h)
theorem rv_catT : RvS2 K (rCatF K) fCatT := by
  intro F H x y a b c f1 f2 sub o1 o2 e Q m
  unfold fCatT at e
  split at e
  · next a b =>
    split at e
    · next hl =>
      cases e
      have d1 := (o1.dat_inv rfl).1
      have d2 := (o2.dat_inv rfl).1
      obtain ⟨p, xs, rfl, h1, l1⟩ := Mv.Dq.tuple_inv d1
      obtain ⟨p', ys, rfl, h2, l2⟩ := Mv.Dq.tuple_inv d2
      refine ⟨p, p', xs, ys, rfl, rfl, SqT.mono sub h1, SqT.mono sub h2, by rw [Mv.DqAll.len l1, Mv.DqAll.len l2, sizeLine_eq]; omega, fun z => ?_, fun _ z => ?_, fun _ _ => mk_tup sub (Mv.DqAll.append l1 l2) m⟩
      · subst z
        cases l1
        exact mk_dat sub d2 m
      · subst z
        cases l2
        rw [List.append_nil] at m
        exact mk_dat sub d1 m
    · cases e
  · cases e
/-! in, not in: ints in a row of ints -/
def fIn (neg : Bool) : S → S → Option S
  | .dat (.int i), s => match (s.seqL <|> s.seqT) with
    | some ds => match intsD ds with
      | some ns => some (.dat (.bool (decide (i ∈ ns) != neg)))
      | none => none
    | none => none
  | _, _ => none
theorem inV_ints (i : Int) (ns : List Int) : inV (.int i) (ns.map V.int) = decide (i ∈ ns) := by
  unfold inV
  induction ns with
  | nil => simp
  | cons a r ih =>
    rw [List.map_cons, List.any_cons, ih]
    have : eqV (.int a) (.int i) = decide (i = a) := by
      show decide (a = i) = decide (i = a)
      exact decide_eq_decide.mpr ⟨Eq.symm, Eq.symm⟩
    rw [this]
    simp
theorem rv_in (neg : Bool) : RvS2 K (rIn K neg) (fIn neg) := by
  intro F H x y a b c f1 f2 sub o1 o2 e Q m
  unfold fIn at e
  split at e
  · next s i =>
    split at e
    · next ds eds =>
      split at e
      · next ns en =>
        cases e
        cases (o1.dat_inv rfl).1
        have fin := o2.sq sub eds
        obtain ⟨p, xs, rfl, hq, da⟩ := fin
        obtain rfl := intsD_dp da en
        refine ⟨p, _, rfl, hq, rfl, by rw [List.all_map]; exact List.all_eq_true.mpr fun _ _ => rfl, ?_⟩
        have : (if neg = true then !inV (V.int i) (ns.map V.int) else inV (V.int i) (ns.map V.int)) = (decide (i ∈ ns) != neg) := by
          rw [inV_ints]
          cases neg <;> simp
        rw [this]
        exact mk_dat sub (.bl _) m
      · cases e
    · cases e
  · cases e
/-! parts of a row -/
def cutD {α : Type} (xs : List α) (lo hi : Option Int) : List α := (xs.drop (HT.sIx xs.length 0 lo)).take (HT.sIx xs.length xs.length hi - HT.sIx xs.length 0 lo)
theorem DqAll.drop : ∀ (k : Nat) {vs : List V} {ds : List PyData}, DqAll K F vs ds → DqAll K F (vs.drop k) (ds.drop k)
  | 0, _, _, h => by simpa using h
  | k + 1, _, _, .nil => by simpa using DqAll.nil
  | k + 1, _, _, .cons _ t => by simpa using Mv.DqAll.drop k t
theorem DqAll.take : ∀ (k : Nat) {vs : List V} {ds : List PyData}, DqAll K F vs ds → DqAll K F (vs.take k) (ds.take k)
  | 0, _, _, h => by simpa using DqAll.nil
  | k + 1, _, _, .nil => by simpa using DqAll.nil
  | k + 1, _, _, .cons a t => by simpa using DqAll.cons a (Mv.DqAll.take k t)
theorem DqAll.cut (l : DqAll K F xs ds) (lo hi : Option Int) : DqAll K F (cutV xs lo hi) (cutD ds lo hi) := by
  unfold cutV cutD
  rw [Mv.DqAll.len l]
  exact Mv.DqAll.take _ (Mv.DqAll.drop _ l)
def EvO (K : PySem.W.Frag) (n : Nat) (as : Ro) (t : TO) (d : En → Option (Option Int)) : Prop :=
  ∀ {F H : Hp} {σ : L2.St} {E : En} {fp : List Addr}, σ.length = n → Rep K F H (σ ++ as) E fp → ∀ {o : Option Int}, d E = some o → ∀ {Q : Option Int → Hp → Prop},
    (∀ F' H', Grow F H [] F' H' [] → Q o H') → t σ H Q
def dNoPart (_ : En) : Option (Option Int) := some none
def dPart (d : En → Option Rs) (E : En) : Option (Option Int) := match d E with
  | some (.val (.dat (.int i))) => some (some i)
  | _ => none
theorem p_noPart : EvO K n as tNoPart dNoPart := by
  intro F H σ E fp L R o e Q q
  cases e
  exact q F H (.refl R.sub [])
theorem p_part (h : EvP K n as te d) : EvO K n as (tPart te) (dPart d) := by
  intro F H σ E fp L R o e Q q
  unfold dPart at e
  split at e
  · next i ei =>
    cases e
    refine h L R ei fun v F1 H1 f1 g1 a1 n1 o1 => ?_
    cases (Own.dat_inv (show Own K F1 H1 v _ f1 from a1) rfl).1
    exact ⟨i, rfl, q F1 H1 g1.drop⟩
  · cases e
def RvSl (K : PySem.W.Frag) (r : V → Option Int → Option Int → Hp → VK → Prop) (f : S → Option Int → Option Int → Option S) : Prop :=
  ∀ {F H : Hp} {x : V} {a c : S} {lo hi : Option Int} {f1 : List Addr}, (∀ a o, F a = some o → H a = some o) → Own K F H x a f1 → f a lo hi = some c → ∀ {Q : VK}, Mk K F H c Q → r x lo hi H Q
def dSl (f : S → Option Int → Option Int → Option S) (d : En → Option Rs) (dl dh : En → Option (Option Int)) (E : En) : Option Rs := match d E, dl E, dh E with
  | some r, some l, some h => match r.at E with
    | some s => (f s l h).map .val
    | none => none
  | _, _, _ => none
theorem p_slice {r : V → Option Int → Option Int → Hp → VK → Prop} {f : S → Option Int → Option Int → Option S} {tl th : TO} {dl dh : En → Option (Option Int)} (hr : RvSl K r f) (h : EvP K n as te d) (hl : EvO K n as tl dl) (hh : EvO K n as th dh) : EvP K n as (tSl r te tl th) (dSl f d dl dh) := by
  intro F H σ E fp L R r' e Q q
  unfold dSl at e
  split at e
  · next r0 l h0 er el eh =>
    split at e
    · next s es =>
      obtain ⟨c, ec, rfl⟩ := Option.map_eq_some_iff.mp e
      refine h L R er fun x F1 H1 f1 g1 r1 n1 o1 => hl L (R.grow g1) el fun F2 H2 g2 => hh L ((R.grow g1).grow g2) eh fun F3 H3 g3 => ?_
      have R3 := ((R.grow g1).grow g2).grow g3
      obtain ⟨k1, w1⟩ := ((r1.grow (R.grow g1) g2).grow ((R.grow g1).grow g2) g3).own R3 es
      exact hr R3.sub w1 ec fun v F' H' fr g o nd of => q v F' H' fr (by simpa using ((g1.seq0 g2).drop.seq0 g3).drop.seq0 g) o nd of
    · cases e
  · cases e
def fSlL (s : S) (lo hi : Option Int) : Option S := (s.seqL).map fun ds => .lst ((cutD ds lo hi).map S.dat)
theorem rv_slL : RvSl K (rSlL K) fSlL := by
  intro F H x a c lo hi f1 sub o e Q m
  obtain ⟨ds, hd, rfl⟩ := Option.map_eq_some_iff.mp e
  obtain ⟨p, xs, rfl, hq, da⟩ := o.sqL sub hd
  exact ⟨p, xs, rfl, hq, mk_lst sub (dats_own (Mv.DqAll.cut da lo hi)) m⟩
def fSlT (s : S) (lo hi : Option Int) : Option S := (s.seqT).map fun ds => .dat (.tuple (cutD ds lo hi))
theorem cutD_all {α : Type} {xs : List α} {lo hi : Option Int} (h : HT.sIx xs.length 0 lo = 0 ∧ HT.sIx xs.length xs.length hi = xs.length) : cutD xs lo hi = xs := by
  unfold cutD
  rw [h.1, h.2]
  simp
theorem rv_slT : RvSl K (rSlF K) fSlT := by
  intro F H x a c lo hi f1 sub o e Q m
  obtain ⟨ds, hd, rfl⟩ := Option.map_eq_some_iff.mp e
  have dp : Dq K F x (.tuple ds) := by
    cases a with
    | dat d => cases d with
      | tuple ds' => cases hd; exact (o.dat_inv rfl).1
      | _ => cases hd
    | _ => cases hd
  obtain ⟨p, xs, rfl, hq, da⟩ := Mv.Dq.tuple_inv dp
  refine ⟨p, xs, rfl, SqT.mono sub hq, fun z => ?_, fun _ => mk_tup sub (Mv.DqAll.cut da lo hi) m⟩
  rw [cutD_all (by rw [← Mv.DqAll.len da]; exact z)] at m
  exact mk_dat sub dp m
/-! calls -/
inductive OwnE (K : PySem.W.Frag) (F H : Hp) : List V → List S → Prop
  | nil : OwnE K F H [] []
  | cons {v : V} {vs : List V} {s : S} {ss : List S} {f : List Addr} : Own K F H v s f → OwnE K F H vs ss → OwnE K F H (v :: vs) (s :: ss)
def atAll (E : En) : List Rs → Option (List S)
  | [] => some []
  | r :: rs => match r.at E, atAll E rs with
    | some s, some ss => some (s :: ss)
    | _, _ => none
theorem RsAll.owns {rs : List Rs} (R : Rep K F H ρ E fp) (a : RsAll K F H ρ E vs rs fr) (h : atAll E rs = some ss) : OwnE K F H vs ss := by
  induction a generalizing ss with
  | nil => cases h; exact .nil
  | @cons v vs r rs f g a t ih =>
    simp only [atAll] at h
    split at h
    · next d ds' e1 e2 =>
      cases h
      obtain ⟨f, o⟩ := a.own R e1
      exact .cons o (ih e2)
    · cases h
def RvSC (K : PySem.W.Frag) (r : List V → Hp → VK → Prop) (f : List S → Option S) : Prop :=
  ∀ {F H : Hp} {vs : List V} {ss : List S} {c : S}, (∀ a o, F a = some o → H a = some o) → OwnE K F H vs ss → f ss = some c → ∀ {Q : VK}, Mk K F H c Q → r vs H Q
def dCS (f : List S → Option S) (dr : En → Option (List Rs)) (E : En) : Option Rs := match dr E with
  | some rs => match atAll E rs with
    | some ss => (f ss).map .val
    | none => none
  | none => none
theorem p_cs {r : List V → Hp → VK → Prop} {f : List S → Option S} (hr : RvSC K r f) (h : EvA K n as tr dr) : EvP K n as (tCB r tr) (dCS f dr) := by
  intro F H σ E fp L R r1 e Q q
  unfold dCS at e
  split at e
  · next rs er =>
    split at e
    · next ss es =>
      obtain ⟨c, ec, rfl⟩ := Option.map_eq_some_iff.mp e
      refine h L R er fun vs F1 H1 f1 g1 a1 n1 o1 => hr (R.grow g1).sub (a1.owns (R.grow g1) es) ec fun v F' H' fr g o nd of => q v F' H' fr (by simpa using g1.drop.seq0 g) o nd of
    · cases e
  · cases e
def eCS (f : List S → Option S) (d : En → Option (S × En)) (E : En) : Option (S × En) := match d E with
  | some (s, E') => (f [s]).map (·, E')
  | none => none
/-- of what a call tells: f must not keep its parts (they are data) -/
theorem e_cs1 {r : List V → Hp → VK → Prop} {f : List S → Option S} (hr : RvSC K r f) (h : EvE K n as te de) : EvE K n as (tCB r (tCons te tNil)) (eCS f de) := by
  intro F H σ E fp L R s E' e Q q
  unfold eCS at e
  split at e
  · next s1 E1 ed =>
    obtain ⟨c, ec, e2⟩ := Option.map_eq_some_iff.mp e
    cases e2
    refine h L R ed fun v F1 H1 fr fp1 g1 R1 o1 nd1 of1 => hr R1.sub (.cons o1 .nil) ec fun w F' H' f2 g o nd of => ?_
    have R2 := R1.grow g
    exact q w F' H' f2 fp1 ((g1.less fun a m => List.mem_append_right _ m).trans (g.ours fp1)) R2 o (R1.apart_new g nd) of
  · cases e
def fList : List S → Option S
  | [s] => match (s.seqL <|> s.seqT) with
    | some ds => some (.lst (ds.map S.dat))
    | none => none
  | _ => none
theorem OwnE.one (o : OwnE K F H vs [s]) : ∃ v f, vs = [v] ∧ Own K F H v s f := by
  cases o with
  | cons a t => cases t; exact ⟨_, _, rfl, a⟩
theorem OwnE.two (o : OwnE K F H vs [s, t]) : ∃ v w f g, vs = [v, w] ∧ Own K F H v s f ∧ Own K F H w t g := by
  cases o with
  | cons a r => cases r with
    | cons b z => cases z; exact ⟨_, _, _, _, rfl, a, b⟩
theorem rc_list : RvSC K (fun xs H Q => ∃ p ys, xs = [.ref p] ∧ (SqL K H p ys ∨ SqT K H p ys) ∧ ∀ l, H l = none → Q (.ref l) (upd H l (.lst ys))) fList := by
  intro F H vs ss c sub o e Q m
  unfold fList at e
  split at e
  · next s =>
    split at e
    · next ds hd =>
      cases e
      obtain ⟨v, f, rfl, o'⟩ := o.one
      clear o
      have o := o'
      obtain ⟨p, xs, rfl, hq, da⟩ := o.sq sub hd
      exact ⟨p, xs, rfl, hq, mk_lst sub (dats_own da) m⟩
    · cases e
  · cases e
def fTuple : List S → Option S
  | [s] => match (s.seqL <|> s.seqT) with
    | some ds => some (.dat (.tuple ds))
    | none => none
  | _ => none
theorem rc_tuple : RvSC K (rTupQ K) fTuple := by
  intro F H vs ss c sub o e Q m
  unfold fTuple at e
  split at e
  · next s =>
    split at e
    · next ds hd =>
      cases e
      obtain ⟨v, f, rfl, o'⟩ := o.one
      clear o
      have o := o'
      cases h : s.seqL with
      | some ds' =>
        rw [h] at hd
        cases hd
        obtain ⟨p, xs, rfl, hq, da⟩ := o.sqL sub h
        exact ⟨p, xs, rfl, .inl ⟨hq, mk_tup sub da m⟩⟩
      | none =>
        rw [h] at hd
        have h2 : s.seqT = some ds := hd
        have dp : Dq K F v (.tuple ds) := by
          cases s with
          | dat d => cases d with
            | tuple ds' => cases h2; exact (o.dat_inv rfl).1
            | _ => cases h2
          | _ => cases h2
        obtain ⟨p, xs, rfl, hq, da⟩ := Mv.Dq.tuple_inv dp
        exact ⟨p, xs, rfl, .inr ⟨SqT.mono sub hq, mk_dat sub dp m⟩⟩
    · cases e
  · cases e
def fDivmod : List S → Option S
  | [.dat (.int i), .dat (.int j)] => if 0 < j ∧ j < 1073741824 then some (.dat (.tuple [.int (i / j), .int (i % j)])) else none
  | _ => none
theorem rc_divmod : RvSC K (fun xs H Q => ∃ i j, xs = [.int i, .int j] ∧ CDiv i j ∧ ∀ (p : Addr) (ob : Obj), H p = none → ob.dict = none → Q (.ref p) (upd H p (.frz ob (.tup [.int (i / j), .int (i % j)])))) fDivmod := by
  intro F H vs ss c sub o e Q m
  unfold fDivmod at e
  split at e
  · next i j =>
    split at e
    · next hj =>
      cases e
      obtain ⟨v, w, f, g, rfl, o1, o2⟩ := o.two
      cases (o1.dat_inv rfl).1
      cases (o2.dat_inv rfl).1
      exact ⟨i, j, rfl, hj, mk_tup sub (.cons (.int _) (.cons (.int _) .nil)) m⟩
    · cases e
  · cases e
def sortU (ns : List Int) : List Int := ns.mergeSort fun a b => decide (a ≤ b)
theorem sortU_uniq {ns ns' : List Int} (p : ns'.Perm ns) (h : ns'.Pairwise (· ≤ ·)) : ns' = sortU ns := by
  refine List.Perm.eq_of_pairwise (le := (· ≤ ·)) (fun a b _ _ h1 h2 => Int.le_antisymm h1 h2) h ?_ (p.trans (List.mergeSort_perm ns _).symm)
  have := List.pairwise_mergeSort (le := fun a b : Int => decide (a ≤ b)) (fun a b c h1 h2 => by simp only [decide_eq_true_eq] at *; omega) (fun a b => by simp only [Bool.or_eq_true, decide_eq_true_eq]; omega) ns
  exact this.imp fun h => of_decide_eq_true h
def fSorted : List S → Option S
  | [s] => match s.seqL with
    | some ds => (intsD ds).map fun ns => .lst ((sortU ns).map fun i => .dat (.int i))
    | none => none
  | _ => none
theorem ints_own (ns : List Int) : OwnL K F H (ns.map V.int) (ns.map fun i => S.dat (.int i)) [] := by
  induction ns with
  | nil => exact .nil
  | cons a r ih => exact .cons (fp := []) (.dat (.int a)) ih
theorem rc_sorted : RvSC K (rSortedI K) fSorted := by
  intro F H vs ss c sub o e Q m
  unfold fSorted at e
  split at e
  · next s =>
    split at e
    · next ds hd =>
      obtain ⟨ns, hn, rfl⟩ := Option.map_eq_some_iff.mp e
      obtain ⟨v, f, rfl, o'⟩ := o.one
      clear o
      have o := o'
      obtain ⟨p, xs, rfl, hq, da⟩ := o.sqL sub hd
      obtain rfl := intsD_dp da hn
      refine ⟨p, ns, rfl, hq, fun ns' q hp hw hn => ?_⟩
      rw [sortU_uniq hp hw]
      exact mk_lst sub (ints_own _) m q hn
    · cases e
  · cases e
/-! rows made of parts -/
def tupD (E : En) : List Rs → Option (List PyData)
  | [] => some []
  | .val (.dat d) :: rs => (tupD E rs).map (d :: ·)
  | _ => none
def dTup (dr : En → Option (List Rs)) (E : En) : Option Rs := match dr E with
  | some rs => (tupD E rs).map fun ds => .val (.dat (.tuple ds))
  | none => none
theorem RsAll.tupD {rs : List Rs} (a : RsAll K F H ρ E vs rs fr) (h : tupD E rs = some ds) : DqAll K F vs ds := by
  induction a generalizing ds with
  | nil => cases h; exact .nil
  | @cons v vs r rs f g a t ih => cases r with
    | pl p => cases h
    | val s => cases s with
      | dat d =>
        obtain ⟨ds', h1, rfl⟩ := Option.map_eq_some_iff.mp h
        exact .cons (Own.dat_inv (show Own K F H v (.dat d) f from a) rfl).1 (ih h1)
      | _ => cases h
theorem RsAll.len {rs : List Rs} (a : RsAll K F H ρ E vs rs fr) : vs.length = rs.length := by
  induction a with
  | nil => rfl
  | cons _ _ ih => simp only [List.length_cons, ih]
def dTupL (dr : En → Option (List Rs)) (E : En) : Option Rs := match dr E with
  | some rs => if rs.length < 1000 then dTup dr E else none
  | none => none
theorem p_tup (h : EvA K n as tr dr) : EvP K n as (tTupF tr) (dTupL dr) := by
  intro F H σ E fp L R r1 e Q q
  unfold dTupL at e
  split at e
  · next rs er =>
    split at e
    · next hl =>
      unfold dTup at e
      rw [er] at e
      obtain ⟨ds, hd, rfl⟩ := Option.map_eq_some_iff.mp e
      refine h L R er fun vs F1 H1 f1 g1 a1 n1 o1 => ⟨by rw [a1.len, sizeLine_eq]; omega, ?_⟩
      exact mk_tup (R.grow g1).sub (a1.tupD hd) fun v F' H' fr g o nd of => q v F' H' fr (by simpa using g1.drop.seq0 g) o nd of
    · cases e
  · cases e
def lstS : List Rs → Option (List S)
  | [] => some []
  | .val s :: rs => (lstS rs).map (s :: ·)
  | _ => none
def dLst (dr : En → Option (List Rs)) (E : En) : Option Rs := match dr E with
  | some rs => if rs.length < 1000 then (lstS rs).map fun ss => .val (.lst ss) else none
  | none => none
theorem RsAll.lstS {rs : List Rs} (a : RsAll K F H ρ E vs rs fr) (h : lstS rs = some ss) : OwnL K F H vs ss fr := by
  induction a generalizing ss with
  | nil => cases h; exact .nil
  | @cons v vs r rs f g a t ih => cases r with
    | pl p => cases h
    | val s =>
      obtain ⟨ss', h1, rfl⟩ := Option.map_eq_some_iff.mp h
      exact .cons a (ih h1)
theorem p_lst (h : EvA K n as tr dr) : EvP K n as (tLst tr) (dLst dr) := by
  intro F H σ E fp L R r1 e Q q
  unfold dLst at e
  split at e
  · next rs er =>
    split at e
    · next hl =>
      obtain ⟨ss, hs, rfl⟩ := Option.map_eq_some_iff.mp e
      refine h L R er fun vs F1 H1 f1 g1 a1 n1 o1 => ⟨by rw [a1.len, sizeLine_eq]; omega, fun p hp => ?_⟩
      have R1 := R.grow g1
      have g : Grow F1 H1 [] F1 (upd H1 p (.lst vs)) [p] := Grow.alloc R1.sub hp
      have o := a1.lstS hs
      have np : p ∉ f1 := fun m => by obtain ⟨w, hw⟩ := o.there p m; rw [hp] at hw; cases hw
      refine q _ F1 _ (p :: f1) ?_ (lst_write (o.frame (fun _ _ h => h) g.sub fun a m u e => g.keep a u e (fun z => nomatch z))) (List.nodup_cons.mpr ⟨np, n1⟩) fun a m => ?_
      · have := g1.seq0 g
        exact this.less fun a m => by
          rcases List.mem_cons.mp m with rfl | m
          · exact List.mem_append_right _ List.mem_cons_self
          · exact List.mem_append_left _ m
      · rcases List.mem_cons.mp m with rfl | m
        · exact fresh_none R1.sub hp
        · exact o1 a m
    · cases e
  · cases e
end Mv
/-! arguments with effects: each is held by a root of its own till the call -/
namespace Mv
open PySem PySem.Spec PyProof.Rows L2
variable {K : PySem.W.Frag} {F F' F1 F2 F3 H H' H1 H2 H3 : Hp} {v u x y w : V} {vs ws xs : List V} {s t c : S} {ss tts : List S} {fp fq fr fp' fp1 fp2 f1 f2 : List Addr} {ρ as : Ro} {E E' : En} {n : Nat}
variable {W : WXm} {te ta tb tc tk tv td : TE} {d da db dc dk dv : En → Option Rs} {tr : TA} {dr : En → Option (List Rs)} {de df : En → Option (S × En)} {tt : TT} {dte : En → Option (Bool × En)} {ds : List PyData} {Q : VK}

/-! ### reading a root -/
theorem rs_root {i : Nat} {r : Rs} (R : Rep K F H ρ E fp) (hv : ρ[i]? = some (some v)) (e : dVar i E = some r) : RsAt K F H ρ E v r [] := by
  unfold dVar at e
  cases he : E[i]? with
  | none => rw [he] at e; cases e
  | some sl =>
    rw [he] at e
    cases sl with
    | no => cases e
    | bor p =>
      cases e
      obtain ⟨v', h1, h2, h3⟩ := R.bor i p he
      rw [hv] at h1
      cases h1
      exact ⟨rfl, h2, h3⟩
    | own s =>
      have g : eget E [i] = some s := by simp only [eget, he, S.get_nil]
      obtain ⟨u, g1, g2, e1, o, c, _⟩ := R.core.take g
      have eu : u = v := by simp only [followE, hv, follow_nil] at e1; exact (Option.some.inj e1).symm
      subst eu
      have pl : some (Rs.pl [i]) = some r → RsAt K F H ρ E u r [] := fun e' => by
        have e2 := Option.some.inj e'
        subst e2
        exact ⟨rfl, e1, by rw [g]; rfl⟩
      cases s with
      | dat d => cases e; exact .dat (o.dat_inv rfl).1
      | con w =>
        cases e
        obtain ⟨rfl, _⟩ := o.con_inv rfl
        exact .con
      | lst _ => exact pl e
      | dct _ _ => exact pl e
      | ins _ _ => exact pl e
def tV (v : V) : TE := fun _ H Q => Q v H
def tVs (vs : List V) : TA := fun _ H QA => QA vs H
/-- the j-th of the k last roots -/
def dGh (k j : Nat) (E : En) : Option Rs := if j < k then dVar (E.length - k + j) E else none
theorem gh_at {σ : L2.St} (L : σ.length = n) (R : Rep K F H (σ ++ (as ++ vs.map some)) E fp) {j : Nat} (hj : vs[j]? = some v) : (σ ++ (as ++ vs.map some))[E.length - vs.length + j]? = some (some v) := by
  have len := R.core.len
  rw [List.length_append, List.length_append, List.length_map] at len
  have jl := (List.getElem?_eq_some_iff.mp hj).1
  rw [List.getElem?_append_right (by omega), List.getElem?_append_right (by omega), List.getElem?_map]
  rw [show E.length - vs.length + j - σ.length - as.length = j by omega, hj]; rfl
theorem p_gh {j : Nat} (hj : vs[j]? = some v) : EvP K n (as ++ vs.map some) (tV v) (dGh vs.length j) := by
  intro F H σ E fp L R r e Q q
  unfold dGh at e
  rw [if_pos (List.getElem?_eq_some_iff.mp hj).1] at e
  exact q v F H [] (.refl R.sub []) (rs_root R (gh_at L R hj) e) List.nodup_nil (fun _ m => nomatch m)
def ghs (k : Nat) (E : En) : Nat → Nat → Option (List Rs)
  | _, 0 => some []
  | j, m + 1 => match dVar (E.length - k + j) E, ghs k E (j + 1) m with
    | some r, some rs => some (r :: rs)
    | _, _ => none
def dGhs (k : Nat) (E : En) : Option (List Rs) := ghs k E 0 k
theorem ghs_len (k : Nat) : ∀ {m j : Nat} {rs : List Rs}, ghs k E j m = some rs → rs.length = m
  | 0, _, _, e => by cases e; rfl
  | m + 1, j, rs, e => by
    simp only [ghs] at e
    split at e
    · next r rs' e1 e2 => cases e; simp only [List.length_cons, ghs_len k e2]
    · cases e
theorem a_ghs : EvA K n (as ++ vs.map some) (tVs vs) (dGhs vs.length) := by
  intro F H σ E fp L R rs e Q q
  have go : ∀ (m j : Nat) (rs : List Rs), ghs vs.length E j m = some rs → j + m = vs.length → RsAll K F H (σ ++ (as ++ vs.map some)) E (vs.drop j) rs [] := by
    intro m
    induction m with
    | zero =>
      intro j rs e hj
      cases e
      rw [List.drop_eq_nil_of_le (by omega)]
      exact .nil
    | succ m ih =>
      intro j rs e hj
      simp only [ghs] at e
      split at e
      · next r rs' e1 e2 =>
        cases e
        have hv : vs[j]? = some (vs[j]'(by omega)) := List.getElem?_eq_getElem _
        rw [List.drop_eq_getElem_cons (by omega)]
        exact RsAll.cons (f := []) (g := []) (rs_root R (gh_at L R hv) e1) (ih (j + 1) rs' e2 (by omega))
      · cases e
  have := go vs.length 0 rs e (by omega)
  rw [List.drop_zero] at this
  exact q vs F H [] (.refl R.sub []) this List.nodup_nil (fun _ m => nomatch m)

/-! ### arguments to roots -/
def EvL (K : PySem.W.Frag) (n : Nat) (as : Ro) (tr : TA) (dl : En → Option (Nat × En)) : Prop :=
  ∀ {F H : Hp} {σ : L2.St} {E : En} {fp : List Addr}, σ.length = n → Rep K F H (σ ++ as) E fp → ∀ {k : Nat} {E' : En}, dl E = some (k, E') → ∀ {Q : List V → Hp → Prop},
    (∀ vs F' H' fp', vs.length = k → Grow F H fp F' H' fp' → Rep K F' H' (σ ++ (as ++ vs.map some)) E' fp' → Q vs H') → tr σ H Q
def lNil (E : En) : Option (Nat × En) := some (0, E)
theorem l_nil : EvL K n as tNil lNil := by
  intro F H σ E fp L R k E' e Q q
  cases e
  exact q [] F H fp rfl (.refl R.sub fp) (by simpa using R)
def up1 (o : Option (Nat × En)) : Option (Nat × En) := o.map fun p => (p.1 + 1, p.2)
variable {dl : En → Option (Nat × En)}
def lConsE (de : En → Option (S × En)) (dl : En → Option (Nat × En)) (E : En) : Option (Nat × En) := match de E with
  | some (s, E1) => up1 (dl (E1 ++ [.own s]))
  | none => none
theorem l_consE (ha : EvE K n as ta de) (hr : ∀ as, EvL K n as tr dl) : EvL K n as (tCons ta tr) (lConsE de dl) := by
  intro F H σ E fp L R k E' e Q q
  unfold lConsE at e
  split at e
  · next s E1 ee =>
    obtain ⟨⟨k1, E2⟩, e2, e3⟩ := Option.map_eq_some_iff.mp e
    cases e3
    refine ha L R ee fun v F1 H1 fr fp1 g1 R1 ov nd of => hr (as ++ [some v]) L (R1.push ov nd of) e2 fun vs F2 H2 fp2 hk g2 R2 => ?_
    exact q (v :: vs) F2 H2 fp2 (by rw [List.length_cons, hk]) (g1.trans g2) (by simpa using R2)
  · cases e
def lConsP (da : En → Option Rs) (dl : En → Option (Nat × En)) (E : En) : Option (Nat × En) := match da E with
  | some (.val s) => up1 (dl (E ++ [.own s]))
  | some (.pl p) => up1 (dl (E ++ [.bor p]))
  | none => none
theorem l_consP (ha : EvP K n as ta da) (hr : ∀ as, EvL K n as tr dl) : EvL K n as (tCons ta tr) (lConsP da dl) := by
  intro F H σ E fp L R k E' e Q q
  unfold lConsP at e
  split at e
  · next s ee =>
    obtain ⟨⟨k1, E2⟩, e2, e3⟩ := Option.map_eq_some_iff.mp e
    cases e3
    refine ha L R ee fun v F1 H1 fr g1 a nd of => hr (as ++ [some v]) L ((R.grow g1).push a (R.apart_new g1 nd) of) e2 fun vs F2 H2 fp2 hk g2 R2 => ?_
    exact q (v :: vs) F2 H2 fp2 (by rw [List.length_cons, hk]) ((g1.ours fp).trans g2) (by simpa using R2)
  · next p ee =>
    obtain ⟨⟨k1, E2⟩, e2, e3⟩ := Option.map_eq_some_iff.mp e
    cases e3
    refine ha L R ee fun v F1 H1 fr g1 a nd of => ?_
    obtain ⟨a1, a2, a3⟩ := a
    subst a1
    refine hr (as ++ [some v]) L ((R.grow g1).hold a2 a3) e2 fun vs F2 H2 fp2 hk g2 R2 => ?_
    exact q (v :: vs) F2 H2 fp2 (by rw [List.length_cons, hk]) (g1.mine.trans g2) (by simpa using R2)
  · cases e
/-- all of them pure: no roots wanted, but they may be held -/
def eEff (dl : En → Option (Nat × En)) (dc : Nat → En → Option (S × En)) (E : En) : Option (S × En) := match dl E with
  | some (k, E1) => match dc k E1 with
    | some (s, E2) => some (s, stripN k E2)
    | none => none
  | none => none
theorem e_eff {C : List V → Hp → VK → Prop} {dcc : Nat → En → Option (S × En)} (hl : EvL K n as tr dl) (hc : ∀ vs : List V, EvE K n (as ++ vs.map some) (fun _ H Q => C vs H Q) (dcc vs.length)) :
    EvE K n as (fun σ H Q => tr σ H fun vs H1 => C vs H1 Q) (eEff dl dcc) := by
  intro F H σ E fp L R s E' e Q q
  unfold eEff at e
  split at e
  · next k E1 el =>
    split at e
    · next s2 E2 ec =>
      cases e
      refine hl L R el fun vs F1 H1 fp1 hk g1 R1 => ?_
      subst hk
      refine hc vs L R1 ec fun v F2 H2 fr fp2 g2 R2 ov nd of => ?_
      obtain ⟨fq, R3, sb⟩ := R2.stripN vs.length rfl
      refine q v F2 H2 fr fq ((g1.trans g2).less fun a m => ?_) R3 ov ?_ of
      · exact List.mem_append.mpr ((List.mem_append.mp m).imp id (sb a))
      · exact List.nodup_append.mpr ⟨(List.nodup_append.mp nd).1, R3.nd, fun a m b m2 => (List.nodup_append.mp nd).2.2 a m b (sb b m2)⟩
    · cases e
  · cases e
/-- the same for tests -/
def eEffT (dl : En → Option (Nat × En)) (dc : Nat → En → Option (Bool × En)) (E : En) : Option (Bool × En) := match dl E with
  | some (k, E1) => match dc k E1 with
    | some (s, E2) => some (s, stripN k E2)
    | none => none
  | none => none
/-! ### what may take such arguments -/
variable {r : List V → Hp → VK → Prop}
theorem e_cbE {f : List PyData → Option PyData} (hr : RvC K r f) (hl : EvL K n as tr dl) : EvE K n as (tCB r tr) (eEff dl fun k => ePure (dCB f (dGhs k))) :=
  e_eff (C := r) hl fun vs => e_pure (p_cb hr a_ghs)
theorem e_csE {f : List S → Option S} (hr : RvSC K r f) (hl : EvL K n as tr dl) : EvE K n as (tCB r tr) (eEff dl fun k => ePure (dCS f (dGhs k))) :=
  e_eff (C := r) hl fun vs => e_pure (p_cs hr a_ghs)
def dWhen (k m : Nat) (d : En → Option (S × En)) (E : En) : Option (S × En) := if k = m then d E else none
theorem e_callE {m : Nat} {g : List S → Option (S × List S)} {EX : XK} (hl : EvL K n as tr dl) : EvE K n as (tCall (spMv K m g) [] EX tr) (eEff dl fun k => dWhen k m (eCall g (dGhs k))) := by
  have hc : ∀ vs : List V, EvE K n (as ++ vs.map some) (fun _ H Q => spMv K m g (vs ++ []) H Q EX) (dWhen vs.length m (eCall g (dGhs vs.length))) := by
    intro vs F H σ E fp L R s E' e Q q
    unfold dWhen at e
    by_cases hk : vs.length = m
    · rw [if_pos hk] at e
      exact e_call (tr := tVs vs) (EX := EX) a_ghs (fun E rs h => (ghs_len _ h).trans hk) L R e q
    · rw [if_neg hk] at e
      cases e
  intro F H σ E fp L R s E' e Q q
  exact e_eff (C := fun vs H Q => spMv K m g (vs ++ []) H Q EX) (dcc := fun k => dWhen k m (eCall g (dGhs k))) hl hc L R e q
theorem e_op2E {r2 : R2} {dop : (En → Option Rs) → (En → Option Rs) → En → Option Rs} (hp : ∀ {as : Ro} {ta tb : TE} {da db : En → Option Rs}, EvP K n as ta da → EvP K n as tb db → EvP K n as (tOp r2 ta tb) (dop da db)) (hl : EvL K n as (tCons ta (tCons tb tNil)) dl) :
    EvE K n as (tOp r2 ta tb) (eEff dl fun k => dWhen k 2 (ePure (dop (dGh k 0) (dGh k 1)))) := by
  have hc : ∀ vs : List V, EvE K n (as ++ vs.map some) (fun _ H Q => match vs with | [x, y] => r2 x y H Q | _ => False) (dWhen vs.length 2 (ePure (dop (dGh vs.length 0) (dGh vs.length 1)))) := by
    intro vs F H σ E fp L R s E' e Q q
    unfold dWhen at e
    split at e
    · next hk =>
      match vs, hk with
      | [x, y], _ => exact e_pure (hp (ta := tV x) (tb := tV y) (p_gh (vs := [x, y]) rfl) (p_gh (vs := [x, y]) rfl)) L R e q
    · cases e
  intro F H σ E fp L R s E' e Q q
  exact e_eff (tr := tCons ta (tCons tb tNil)) (C := fun vs H Q => match vs with | [x, y] => r2 x y H Q | _ => False) (dcc := fun k => dWhen k 2 (ePure (dop (dGh k 0) (dGh k 1)))) hl hc L R e q
/-- one value handed on -/
theorem e_un1E {t1 : TE → TE} {dop : (En → Option Rs) → En → Option Rs} {C : V → Hp → VK → Prop} (ht : ∀ ta σ H Q, t1 ta σ H Q = ta σ H fun x H1 => C x H1 Q) (hp : ∀ {as : Ro} {ta : TE} {da : En → Option Rs}, EvP K n as ta da → EvP K n as (t1 ta) (dop da)) (hl : EvL K n as (tCons ta tNil) dl) :
    EvE K n as (t1 ta) (eEff dl fun k => dWhen k 1 (ePure (dop (dGh k 0)))) := by
  have hc : ∀ vs : List V, EvE K n (as ++ vs.map some) (fun _ H Q => match vs with | [x] => C x H Q | _ => False) (dWhen vs.length 1 (ePure (dop (dGh vs.length 0)))) := by
    intro vs F H σ E fp L R s E' e Q q
    unfold dWhen at e
    split at e
    · next hk =>
      match vs, hk with
      | [x], _ =>
        have h := e_pure (hp (ta := tV x) (da := dGh 1 0) (as := as ++ [x].map some) (p_gh (vs := [x]) rfl)) L R e q
        rw [ht] at h
        exact h
    · cases e
  intro F H σ E fp L R s E' e Q q
  rw [ht]
  exact e_eff (tr := tCons ta tNil) (C := fun vs H Q => match vs with | [x] => C x H Q | _ => False) (dcc := fun k => dWhen k 1 (ePure (dop (dGh k 0)))) hl hc L R e q

/-! ### a root's value taken -/
theorem Rep.pop {σ : L2.St} {E0 : En} (R : Rep K F H (σ ++ (as ++ [some w])) (E0 ++ [.own s]) fp) :
    ∃ f1 f2, Own K F H w s f2 ∧ Rep K F H (σ ++ as) (E0.map (killHead E0.length)) f1 ∧ fp.Perm (f2 ++ f1) := by
  obtain ⟨f, l, pm⟩ := R.core.own
  have len : E0.length = (σ ++ as).length := by
    have := R.core.len
    simp only [List.length_append, List.length_cons, List.length_nil] at this ⊢
    omega
  rw [← List.append_assoc, rootS_app len, rootV_app] at l
  obtain ⟨f1, f2, rfl, l1, l2⟩ := l.split (by rw [rootS_len len]; unfold rootV; rw [List.length_map])
  have ow : ∃ f2', f2 = f2' ∧ Own K F H w s f2' := by
    cases l2 with
    | cons a t => cases t; exact ⟨_, by simp, a⟩
  obtain ⟨f2', rfl, ow⟩ := ow
  have pm2 : fp.Perm (f2 ++ f1) := pm.trans List.perm_append_comm
  have nd := pm2.nodup_iff.mp R.nd
  refine ⟨f1, f2, ow, ⟨⟨by rw [List.length_map]; exact len, ⟨f1, by rw [rootS_killHead]; exact l1, List.Perm.refl _⟩, fun j z hj => ?_⟩, R.sub, (List.nodup_append.mp nd).2.1, fun a m => R.off a (pm2.mem_iff.mpr (List.mem_append_right _ m)), fun j p hb => ?_⟩, pm2⟩
  · have hj' := (killHead_get E0 j z).mp hj
    have jl := (List.getElem?_eq_some_iff.mp hj').1
    obtain ⟨v, hv⟩ := R.core.set j z (by rw [List.getElem?_append_left jl]; exact hj')
    exact ⟨v, by rw [← List.append_assoc, List.getElem?_append_left (by omega)] at hv; exact hv⟩
  · rw [List.getElem?_map] at hb
    cases hE : E0[j]? with
    | none => rw [hE] at hb; cases hb
    | some sl =>
      rw [hE] at hb
      cases sl with
      | no => cases hb
      | own z => cases hb
      | bor q =>
        simp only [Option.map_some, killHead, Option.some.injEq] at hb
        by_cases hq : q.head? = some E0.length
        · rw [if_pos hq] at hb; cases hb
        · rw [if_neg hq] at hb
          cases hb
          have jl := (List.getElem?_eq_some_iff.mp hE).1
          obtain ⟨v, e1, e2, e3⟩ := R.bor j p (by rw [List.getElem?_append_left jl]; exact hE)
          refine ⟨v, by rw [← List.append_assoc, List.getElem?_append_left (by omega)] at e1; exact e1, ?_, ?_⟩
          · cases p with
            | nil => cases e2
            | cons i p =>
              unfold followE at e2 ⊢
              dsimp only at e2 ⊢
              rw [← List.append_assoc] at e2
              by_cases hi : i < (σ ++ as).length
              · rw [List.getElem?_append_left hi] at e2; exact e2
              · exfalso
                have : i ≠ E0.length := fun z => hq (by rw [z]; rfl)
                rw [List.getElem?_eq_none_iff.mpr (by simp only [List.length_append, List.length_cons, List.length_nil] at len hi ⊢; omega)] at e2
                cases e2
          · cases p with
            | nil => cases e3
            | cons i p =>
              obtain ⟨t, ht⟩ := Option.isSome_iff_exists.mp e3
              obtain ⟨i', q', s', he, ei, hg⟩ := eget_some ht
              cases he
              have hi : i ≠ E0.length := fun z => hq (by rw [z]; rfl)
              have hl := (List.getElem?_eq_some_iff.mp ei).1
              rw [List.length_append, List.length_cons, List.length_nil] at hl
              rw [List.getElem?_append_left (by omega)] at ei
              have := (killHead_get (i := E0.length) E0 i s').mpr ei
              simp only [eget, this, hg]; rfl
/-- the last k roots' values, from the first -/
def popS : Nat → En → Option (List S × En)
  | 0, E => some ([], E)
  | k + 1, E => match E.getLast? with
    | some (.own s) => match popS k (E.dropLast.map (killHead (E.length - 1))) with
      | some (ss, E') => some (ss ++ [s], E')
      | none => none
    | _ => none
theorem Rep.popN {σ : L2.St} : ∀ (k : Nat) {vs : List V} {E E' : En} {ss : List S} {fp : List Addr}, vs.length = k → Rep K F H (σ ++ (as ++ vs.map some)) E fp → popS k E = some (ss, E') →
    ∃ f1 f2, OwnL K F H vs ss f2 ∧ Rep K F H (σ ++ as) E' f1 ∧ fp.Perm (f2 ++ f1)
  | 0, vs, E, E', ss, fp, h, R, e => by
    have : vs = [] := List.eq_nil_of_length_eq_zero h
    subst this
    cases e
    exact ⟨fp, [], .nil, by simpa using R, by simp⟩
  | k + 1, vs, E, E', ss, fp, h, R, e => by
    rcases List.eq_nil_or_concat vs with z | ⟨ys, w, rfl⟩
    · rw [z] at h; cases h
    · rw [List.concat_eq_append] at h
      rw [List.concat_eq_append, List.map_append, ← List.append_assoc as] at R
      simp only [popS] at e
      split at e
      · next s hs =>
        split at e
        · next ss1 E1 e1 =>
          cases e
          have hE : E = E.dropLast ++ [.own s] := by
            rcases List.eq_nil_or_concat E with z | ⟨E0, z, rfl⟩
            · rw [z] at hs; cases hs
            · rw [List.concat_eq_append] at hs ⊢
              rw [List.getLast?_concat] at hs
              cases hs
              rw [List.dropLast_concat]
          rw [hE] at R
          obtain ⟨g1, g2, ow, R1, p1⟩ := Rep.pop (as := as ++ ys.map some) R
          rw [show E.length - 1 = E.dropLast.length by simp] at e1
          obtain ⟨h1, h2, l, R2, p2⟩ := Rep.popN k (vs := ys) (by simpa using h) R1 e1
          refine ⟨h1, h2 ++ g2, by rw [List.concat_eq_append]; simpa using l.append (OwnL.cons (K := K) (F := F) (H := H) ow .nil), R2, ?_⟩
          refine p1.trans ((List.Perm.append_left g2 p2).trans ?_)
          rw [← List.append_assoc]
          exact List.Perm.append_right h1 List.perm_append_comm
        · cases e
      · cases e
/-- [..] of what calls tell -/
def eLst (dl : En → Option (Nat × En)) (E : En) : Option (S × En) := match dl E with
  | some (k, E1) => if k < 1000 then match popS k E1 with
      | some (ss, E2) => some (.lst ss, E2)
      | none => none
    else none
  | none => none
theorem e_lst (hl : EvL K n as tr dl) : EvE K n as (tLst tr) (eLst dl) := by
  intro F H σ E fp L R s E' e Q q
  unfold eLst at e
  split at e
  · next k E1 el =>
    split at e
    · next hk =>
      split at e
      · next ss E2 ep =>
        cases e
        refine hl L R el fun vs F1 H1 fp1 hk2 g1 R1 => ?_
        subst hk2
        refine ⟨by rw [sizeLine_eq]; omega, fun p hp => ?_⟩
        obtain ⟨h1, h2, l, R2, pm⟩ := R1.popN vs.length rfl ep
        have nd := pm.nodup_iff.mp R1.nd
        have g : Grow F1 H1 [] F1 (upd H1 p (.lst vs)) [p] := Grow.alloc R1.sub hp
        have np : p ∉ h2 ++ h1 := fun m => by obtain ⟨w, hw⟩ := R1.there p (pm.mem_iff.mpr m); rw [hp] at hw; cases hw
        have R3 := R2.grow g
        refine q _ F1 _ (p :: h2) h1 ?_ R3 (lst_write (l.frame (fun _ _ h => h) g.sub fun a m u e => g.keep a u e (fun z => nomatch z))) (by simpa using List.nodup_cons.mpr ⟨np, nd⟩) fun a m => ?_
        · refine (g1.trans (g.ours fp1)).less fun a m => ?_
          rcases List.mem_cons.mp m with rfl | m
          · exact List.mem_append_left _ (List.mem_singleton.mpr rfl)
          · exact List.mem_append_right _ (pm.mem_iff.mpr m)
        · rcases List.mem_cons.mp m with rfl | m
          · exact fresh_none R1.sub hp
          · exact R1.off a (pm.mem_iff.mpr (List.mem_append_left _ m))
      · cases e
    · cases e
  · cases e
end Mv
/-! stores to lists, methods with effects in their arguments, ranges, slices, counts, sets -/
namespace Mv
open PySem PySem.Spec PyProof.Rows L2
variable {K : PySem.W.Frag} {F F' F1 F2 F3 H H' H1 H2 H3 : Hp} {v u x y w : V} {vs ws xs : List V} {s t c : S} {ss tts : List S} {fp fq fr fp' fp1 fp2 f1 f2 : List Addr} {ρ as : Ro} {E E' : En} {n : Nat}
variable {W : WXm} {te ta tb tc tk tv td : TE} {d da db dc dk dv : En → Option Rs} {tr : TA} {dr : En → Option (List Rs)} {de df : En → Option (S × En)} {tt : TT} {dte : En → Option (Bool × En)} {ds : List PyData} {Q : VK}

/-! ### xs[i] = v -/
def oLSet (i : Int) (t s : S) : Option (S × S) := match t with
  | .lst ss => match ixN ss.length i with
    | some j => some (.lst (ss.set j s), .dat .none)
    | none => none
  | _ => none
def rLSet1 (i : Int) (u y : V) (H : Hp) (Q : VK) : Prop := ∃ p xs j, u = .ref p ∧ H p = some (.lst xs) ∧ ixN xs.length i = some j ∧ Q .non (upd H p (.lst (xs.set j y)))
theorem nd_lset (i : Int) : Nd1 K (rLSet1 i) (oLSet i) := by
  intro F H u y t s t' c fp1 fr sub ot os nd of e Q q
  unfold oLSet at e
  split at e
  · next ss =>
    split at e
    · next j hj =>
      cases e
      obtain ⟨a, vs, fq, rfl, hH, l, rfl⟩ := ot.lst_inv rfl
      have na : a ∉ fr := fun m => (List.nodup_append.mp nd).2.2 a m a List.mem_cons_self rfl
      have nq : a ∉ fq := (List.nodup_cons.mp (List.nodup_append.mp nd).2.1).1
      have fa : F a = none := of a (List.mem_append_right _ List.mem_cons_self)
      have jl : j < vs.length := by rw [l.length]; exact ixN_at hj
      refine ⟨a, vs, j, rfl, hH, by rw [l.length]; exact hj, ?_⟩
      obtain ⟨g1, g2, g, l2, p1, p2⟩ := l.repl jl os
      have ndf := List.nodup_append.mp nd
      have ndq := (List.nodup_cons.mp ndf.2.1).2
      have hg : ∀ b ∈ g, b ∈ fr ∨ b ∈ fq := fun b m => (List.mem_append.mp (p1.mem_iff.mp m)).imp id fun m => p2.mem_iff.mpr (List.mem_append_right _ m)
      have ng : g.Nodup := p1.nodup_iff.mpr (List.nodup_append.mpr ⟨ndf.1, (List.nodup_append.mp (p2.nodup_iff.mp ndq)).2.1, fun b m c m2 e => ndf.2.2 b m c (List.mem_cons_of_mem _ (p2.mem_iff.mpr (List.mem_append_right _ m2))) e⟩)
      have nag : a ∉ g := fun m => (hg a m).elim na nq
      have g0 : Grow F H [a] F (upd H a (.lst (vs.set j y))) [a] := Grow.write sub fa
      refine q .non F _ [] (a :: g) (g0.wide (fun b m => by rw [List.mem_singleton.mp m]; exact List.mem_append_right _ List.mem_cons_self) fun b m => ?_) (lst_write (l2.off sub fa nag)) (.dat .non) ?_ fun b m => ?_
      · left
        rw [List.nil_append] at m
        rcases List.mem_cons.mp m with rfl | m
        · exact List.mem_append_right _ List.mem_cons_self
        · exact (hg b m).elim (fun m => List.mem_append_left _ m) fun m => List.mem_append_right _ (List.mem_cons_of_mem _ m)
      · rw [List.nil_append]; exact List.nodup_cons.mpr ⟨nag, ng⟩
      · rw [List.nil_append] at m
        rcases List.mem_cons.mp m with rfl | m
        · exact fa
        · exact (hg b m).elim (fun m => of b (List.mem_append_left _ m)) fun m => of b (List.mem_append_right _ (List.mem_cons_of_mem _ m))
    · cases e
  · cases e
def dLSet (da db : En → Option Rs) (de : En → Option (S × En)) (E : En) : Option Out := match de E with
  | some (s, E1) => match da E1, db E1 with
    | some (.pl p), some (.val (.dat (.int i))) => stepAt (oLSet i) E1 p s
    | _, _ => none
  | none => none
theorem s_lset (ha : EvP K n as ta da) (hb : EvP K n as tb db) (he : EvE K n as te de) : EvS K n as W (tAsg te (gSub ta tb rSetL)) (dLSet da db de) := by
  intro F H σ E fp L R o e D g
  unfold dLSet at e
  split at e
  · next s E1 ee =>
    split at e
    · next p i ea eb =>
      refine he L R ee fun v F1 H1 fr fp1 g1 R1 ov nd of => ha L R1 ea fun x F2 H2 f2 g2 r2 n2 o2 => hb L (R1.grow g2) eb fun y F3 H3 f3 g3 r3 n3 o3 => ?_
      have R3 := (R1.grow g2).grow g3
      have g23 : Grow F1 H1 [] F3 H3 [] := (g2.seq0 g3).drop
      have ov3 : Own K F3 H3 v s fr := ov.grow g23 fun _ _ m => nomatch m
      have of3 : ∀ a ∈ fr, F3 a = none := fun a m => by
        obtain ⟨o, eo⟩ := ov.there a m
        exact g23.off a (by rw [eo]; exact fun z => nomatch z) (fun z => nomatch z) (of a m)
      have r2' := r2.grow (R1.grow g2) g3
      cases (Own.dat_inv (show Own K F3 H3 y _ f3 from r3) rfl).1
      unfold stepAt at e
      split at e
      · next t et =>
        split at e
        · next t' c eo =>
          cases e
          have gg : Grow F H fp F3 H3 (fr ++ fp1) := by
            have := g1.trans (g23.ours (fr ++ fp1))
            simpa using this
          have fin := mut1 (nd_lset i) R3 r2' ov3 nd of3 et eo (Q := fun _ H4 => D.nx σ H4) fun v F' H' fv fp' g4 R4 ov4 nd4 of4 => ?_
          · obtain ⟨a, ys, j, rfl, hp, hj, hq⟩ := fin
            exact ⟨a, ys, i, j, rfl, rfl, hp, hj, hq⟩
          · exact g σ F' H' fp' L ((gg.trans g4).less fun a m => List.mem_append_right _ m) R4
        · cases e
      · cases e
    · cases e
  · cases e

/-! ### xs.m(e), e with effects -/
def eBM1E (op : S → S → Option (S × S)) (da : En → Option Rs) (db : En → Option (S × En)) (E : En) : Option (S × En) := match da E with
  | some (.pl p) => match eget E p with
    | some (.lst _) => match db (E ++ [.bor p]) with
      | some (s, E1) => match E1.getLast? with
        | some (.bor p') => match eget E1 p' with
          | some t => match op t s with
            | some (t', c) => some (c, strip1 (ekill (eput E1 p' t') p'))
            | none => none
          | none => none
        | _ => none
      | none => none
    | _ => none
  | _ => none
theorem e_bm1E {r : V → List V → Hp → VK → Prop} {op : S → S → Option (S × S)} (hr : Nd1 K (fun u y H Q => r u [y] H Q) op) (ha : EvP K n as ta da) (hb : ∀ as, EvE K n as tb de) : EvE K n as (tBM K "list" r ta (tCons tb tNil)) (eBM1E op da de) := by
  intro F H σ E fp L R s0 E0 e Q q
  unfold eBM1E at e
  split at e
  · next p ea =>
    split at e
    · next ss es =>
      split at e
      · next s E1 e1 =>
        split at e
        · next p' hl =>
          split at e
          · next t ht =>
            split at e
            · next t' c ho =>
              cases e
              refine ha L R ea fun u F1 H1 f1 g1 a1 n1 o1 => ?_
              have R1 := R.grow g1
              obtain ⟨fq, ow⟩ := a1.own R1 (show (Rs.pl p).at E = some (.lst ss) from es)
              obtain ⟨a, xs, _, rfl, hH, _⟩ := ow.lst_inv rfl
              obtain ⟨z1, z2, z3⟩ := a1
              subst z1
              refine ⟨tyV_list hH, hb (as ++ [some (.ref a)]) L (R1.hold z2 z3) e1 fun y F2 H2 fr fp2 g2 R2 ov nd of => ?_⟩
              have len := R2.core.len
              rw [List.getLast?_eq_getElem?] at hl
              obtain ⟨w, e3, e4, e5⟩ := R2.bor _ _ hl
              have : (σ ++ (as ++ [some (V.ref a)]))[E1.length - 1]? = some (some (.ref a)) := by
                rw [← List.append_assoc, List.getElem?_append_right (by rw [len]; simp), len]
                simp
              rw [this] at e3
              cases e3
              refine mut1 hr R2 (u := .ref a) (f1 := []) ⟨rfl, e4, e5⟩ ov nd of ht ho fun v F' H' fv fp' g R' ov' nd' of' => ?_
              obtain ⟨fz, R4, sb⟩ := R'.strip1
              refine q v F' H' fv fz ((g1.mine.trans (g2.trans g)).less fun b m => (List.mem_append.mp m).elim (fun m => List.mem_append_left _ m) fun m => List.mem_append_right _ (sb b m)) R4 ov' ?_ of'
              exact List.nodup_append.mpr ⟨(List.nodup_append.mp nd').1, R4.nd, fun b m d m2 => (List.nodup_append.mp nd').2.2 b m d (sb d m2)⟩
            · cases e
          · cases e
        · cases e
      · cases e
    · cases e
  · cases e
/-! ### extend -/
def oExtend : S → S → Option (S × S)
  | .lst ss, .lst tts => if ss.length + tts.length < 100000 then some (.lst (ss ++ tts), .dat .none) else none
  | _, _ => none
theorem nd_extend : Nd1 K (fun u y H Q => rExtend u [y] H Q) oExtend := by
  intro F H u y t s t' c fp1 fr sub ot os nd of e Q q
  unfold oExtend at e
  split at e
  · next ss tts =>
    split at e
    · next hl =>
      cases e
      obtain ⟨a, vs, fq, rfl, hH, l, rfl⟩ := ot.lst_inv rfl
      obtain ⟨b, zs, fz, rfl, hB, lz, rfl⟩ := os.lst_inv rfl
      have fa : F a = none := of a (List.mem_append_right _ List.mem_cons_self)
      have ndf := List.nodup_append.mp nd
      have nq : a ∉ fq := (List.nodup_cons.mp ndf.2.1).1
      have na : a ∉ fz := fun m => ndf.2.2 a (List.mem_cons_of_mem _ m) a List.mem_cons_self rfl
      refine ⟨a, b, vs, zs, rfl, rfl, hH, hB, by rw [l.length, lz.length, sizeLine_eq]; omega, ?_⟩
      have l2 := (l.off sub (o := .lst (vs ++ zs)) fa nq).append (lz.off sub (o := .lst (vs ++ zs)) fa na)
      have g0 : Grow F H [a] F (upd H a (.lst (vs ++ zs))) [a] := Grow.write sub fa
      refine q .non F _ [] (a :: (fq ++ fz)) (g0.wide (fun b m => by rw [List.mem_singleton.mp m]; exact List.mem_append_right _ List.mem_cons_self) fun d m => ?_) (lst_write l2) (.dat .non) ?_ fun d m => ?_
      · left
        rw [List.nil_append] at m
        rcases List.mem_cons.mp m with rfl | m
        · exact List.mem_append_right _ List.mem_cons_self
        · rcases List.mem_append.mp m with m | m
          · exact List.mem_append_right _ (List.mem_cons_of_mem _ m)
          · exact List.mem_append_left _ (List.mem_cons_of_mem _ m)
      · rw [List.nil_append]
        refine List.nodup_cons.mpr ⟨fun m => (List.mem_append.mp m).elim nq na, List.nodup_append.mpr ⟨(List.nodup_cons.mp ndf.2.1).2, (List.nodup_cons.mp ndf.1).2, fun d m d2 m2 e => ndf.2.2 d2 (List.mem_cons_of_mem _ m2) d (List.mem_cons_of_mem _ m) e.symm⟩⟩
      · rw [List.nil_append] at m
        rcases List.mem_cons.mp m with rfl | m
        · exact fa
        · rcases List.mem_append.mp m with m | m
          · exact of d (List.mem_append_right _ (List.mem_cons_of_mem _ m))
          · exact of d (List.mem_append_left _ (List.mem_cons_of_mem _ m))
    · cases e
  · cases e
/-! ### ranges -/
def rgS (a b : Int) : List S := (List.range (b - a).toNat).map fun i => .dat (.int (a + (i : Nat)))
theorem rg_own (a b : Int) : OwnL K F H (rgV a b) (rgS a b) [] := by
  unfold rgV rgS
  generalize List.range (b - a).toNat = l
  induction l with
  | nil => exact .nil
  | cons i r ih => exact OwnL.cons (fp := []) (.dat (.int _)) ih
def dLstRg1 (d : En → Option Rs) (E : En) : Option Rs := match d E with
  | some (.val (.dat (.int j))) => if 0 ≤ j ∧ j ≤ 16777216 then some (.val (.lst (rgS 0 j))) else none
  | _ => none
theorem p_lstRg1 (h : EvP K n as te d) : EvP K n as (tLstRg (tRg1 te)) (dLstRg1 d) := by
  intro F H σ E fp L R r e Q q
  unfold dLstRg1 at e
  split at e
  · next j ed =>
    split at e
    · next hj =>
      cases e
      refine h L R ed fun v F1 H1 f1 g1 a1 n1 o1 => ?_
      cases (Own.dat_inv (show Own K F1 H1 v _ f1 from a1) rfl).1
      refine ⟨j, rfl, RgOk.of_le (by omega) (by omega) (by omega) (by omega), ?_⟩
      exact mk_lst (R.grow g1).sub (rg_own 0 j) fun v F' H' fr g o nd of => q v F' H' fr (by simpa using g1.drop.seq0 g) o nd of
    · cases e
  · cases e
/-- range(e), e with effects -/
def iRangeE (de : En → Option (S × En)) (E : En) : Option Src := match de E with
  | some (.dat (.int j), E1) => if j < 2 ^ 62 ∧ -(2 ^ 62) ≤ j then some ⟨E1, [], fun _ i => some (if i < j.toNat then some (.val (.dat (.int (i : Nat)))) else none), j.toNat⟩ else none
  | _ => none
theorem i_rangeE (h : EvE K n as te de) : EvI K n as (iRng1 (tCons te tNil)) (iRangeE de) := by
  intro F H σ E fp L R c e Rr q
  unfold iRangeE at e
  split at e
  · next j E1 ed =>
    split at e
    · next hj =>
      cases e
      refine h L R ed fun v F1 H1 fr fp1 g1 R1 ov nd of => ?_
      cases (Own.dat_inv ov rfl).1
      refine ⟨j, rfl, hj.2, hj.1, q _ F1 H1 [] fp1 (g1.less fun a m => List.mem_append_right _ m) (by simpa using R1) rfl fun F2 H2 σ2 E2 fp2 L2 g2 R2 i => ⟨fun r hr => ?_, fun hr => ?_⟩⟩
      · have hr := Option.some.inj hr
        by_cases hi : i < j.toNat
        · rw [if_pos hi] at hr
          cases hr
          refine ⟨hi, fun x H' hy => ⟨hy.1, ?_⟩⟩
          rw [hy.2]
          have : (0 : Int) + (i : Int) = ((i : Nat) : Int) := by omega
          rw [this]
          exact .dat (.int _)
        · rw [if_neg hi] at hr; cases hr
      · have hr := Option.some.inj hr
        by_cases hi : i < j.toNat
        · rw [if_pos hi] at hr; cases hr
        · exact Nat.le_of_not_lt hi
    · cases e
  · cases e
/-- range(a, b) -/
def iRange2 (da db : En → Option Rs) (E : En) : Option Src := match da E, db E with
  | some (.val (.dat (.int i0))), some (.val (.dat (.int j))) => if (-(2 ^ 62) ≤ i0 ∧ i0 < 2 ^ 62) ∧ -(2 ^ 62) ≤ j ∧ j < 2 ^ 62 then some ⟨E, [], fun _ i => some (if i < (j - i0).toNat then some (.val (.dat (.int (i0 + (i : Nat))))) else none), (j - i0).toNat⟩ else none
  | _, _ => none
theorem i_range2 (ha : EvP K n as ta da) (hb : EvP K n as tb db) : EvI K n as (iRng2 (tCons ta (tCons tb tNil))) (iRange2 da db) := by
  intro F H σ E fp L R c e Rr q
  unfold iRange2 at e
  split at e
  · next i0 j ea eb =>
    split at e
    · next hj =>
      cases e
      refine ha L R ea fun x F1 H1 f1 g1 a1 n1 o1 => hb L (R.grow g1) eb fun y F2 H2 f2 g2 a2 n2 o2 => ?_
      cases (Own.dat_inv (show Own K F1 H1 x _ f1 from a1) rfl).1
      cases (Own.dat_inv (show Own K F2 H2 y _ f2 from a2) rfl).1
      have g12 : Grow F H [] F2 H2 [] := (g1.seq0 g2).drop
      refine ⟨i0, j, rfl, ⟨hj.1.1, hj.1.2, hj.2.1, hj.2.2⟩, q _ F2 H2 [] fp g12.mine (by simpa using R.grow g12) rfl fun F2 H2 σ2 E2 fp2 L2 g2 R2 i => ⟨fun r hr => ?_, fun hr => ?_⟩⟩
      · have hr := Option.some.inj hr
        by_cases hi : i < (j - i0).toNat
        · rw [if_pos hi] at hr
          cases hr
          refine ⟨hi, fun x H' hy => ⟨hy.1, ?_⟩⟩
          rw [hy.2]
          exact .dat (.int _)
        · rw [if_neg hi] at hr; cases hr
      · have hr := Option.some.inj hr
        by_cases hi : i < (j - i0).toNat
        · rw [if_pos hi] at hr; cases hr
        · exact Nat.le_of_not_lt hi
    · cases e
  · cases e
/-! ### x[lo:hi], hi with effects -/
def EvOE (K : PySem.W.Frag) (n : Nat) (as : Ro) (t : TO) (d : En → Option (Option Int × En)) : Prop :=
  ∀ {F H : Hp} {σ : L2.St} {E : En} {fp : List Addr}, σ.length = n → Rep K F H (σ ++ as) E fp → ∀ {o : Option Int} {E' : En}, d E = some (o, E') → ∀ {Q : Option Int → Hp → Prop},
    (∀ F' H' fp', Grow F H fp F' H' fp' → Rep K F' H' (σ ++ as) E' fp' → Q o H') → t σ H Q
def ePureO (d : En → Option (Option Int)) (E : En) : Option (Option Int × En) := (d E).map (·, E)
theorem e_pureO {t : TO} {d : En → Option (Option Int)} (h : EvO K n as t d) : EvOE K n as t (ePureO d) := by
  intro F H σ E fp L R o E' e Q q
  obtain ⟨c, h1, h2⟩ := Option.map_eq_some_iff.mp e
  cases h2
  exact h L R h1 fun F1 H1 g1 => q F1 H1 fp g1.mine (R.grow g1)
def ePartE (d : En → Option (S × En)) (E : En) : Option (Option Int × En) := match d E with
  | some (.dat (.int i), E1) => some (some i, E1)
  | _ => none
theorem e_partE (h : EvE K n as te de) : EvOE K n as (tPart te) (ePartE de) := by
  intro F H σ E fp L R o E' e Q q
  unfold ePartE at e
  split at e
  · next i E1 ei =>
    cases e
    refine h L R ei fun v F1 H1 fr fp1 g1 R1 ov nd of => ?_
    cases (Own.dat_inv ov rfl).1
    exact ⟨i, rfl, q F1 H1 fp1 (g1.less fun a m => List.mem_append_right _ m) R1⟩
  · cases e
def eSl (f : S → Option Int → Option Int → Option S) (dl0 : En → Option (Nat × En)) (dlo dhi : En → Option (Option Int × En)) (E : En) : Option (S × En) := match dl0 E with
  | some (1, E1) => match dlo E1 with
    | some (lo, E2) => match dhi E2 with
      | some (hi, E3) => match dVar (E3.length - 1) E3 with
        | some r => match r.at E3 with
          | some s => match f s lo hi with
            | some c => some (c, strip1 E3)
            | none => none
          | none => none
        | none => none
      | none => none
    | none => none
  | _ => none
theorem e_slice {dl : En → Option (Nat × En)} {r : V → Option Int → Option Int → Hp → VK → Prop} {f : S → Option Int → Option Int → Option S} {tl th : TO} {dlo dhi : En → Option (Option Int × En)} (hr : RvSl K r f) (h : EvL K n as (tCons te tNil) dl) (hl : ∀ as, EvOE K n as tl dlo) (hh : ∀ as, EvOE K n as th dhi) :
    EvE K n as (tSl r te tl th) (eSl f dl dlo dhi) := by
  intro F H σ E fp L R s0 E0 e Q q
  unfold eSl at e
  split at e
  · next E1 el =>
    split at e
    · next lo E2 e2 =>
      split at e
      · next hi E3 e3 =>
        split at e
        · next r0 er =>
          split at e
          · next s es =>
            split at e
            · next c ec =>
              cases e
              have := h L R el (Q := fun vs H1 => match vs with | [x] => tl σ H1 fun l H2 => th σ H2 fun u H3 => r x l u H3 Q | _ => False) fun vs F1 H1 fp1 hk g1 R1 => ?_
              · exact this
              match vs, hk with
              | [x], _ =>
              refine hl _ L R1 e2 fun F2 H2 fp2 g2 R2 => hh _ L R2 e3 fun F3 H3 fp3 g3 R3 => ?_
              have lst := gh_at (vs := [x]) (j := 0) L R3 rfl
              have ar := rs_root R3 lst er
              obtain ⟨fq, ow⟩ := ar.own R3 es
              refine hr R3.sub ow ec fun v F' H' fr g o nd of => ?_
              have R4 := R3.grow g
              obtain ⟨fz, R5, sb⟩ := Rep.strip1 (as := as) (w := x) R4
              have gg : Grow F H fp F' H' (fr ++ fp3) := (g1.trans (g2.trans g3)).trans (g.ours fp3)
              refine q v F' H' fr fz (gg.less fun b m => (List.mem_append.mp m).elim (fun m => List.mem_append_left _ m) fun m => List.mem_append_right _ (sb b m)) R5 o ?_ of
              have nd' := R3.apart_new g nd
              exact List.nodup_append.mpr ⟨nd, R5.nd, fun b m d m2 => (List.nodup_append.mp nd').2.2 b m d (sb d m2)⟩
            · cases e
          · cases e
        · cases e
      · cases e
    · cases e
  · cases e
/-! ### t.count(k) -/
def dTCnt (da db : En → Option Rs) (E : En) : Option Rs := match da E, db E with
  | some r, some (.val (.dat (.int k))) => match r.at E with
    | some (.dat (.tuple ds)) => match intsD ds with
      | some ns => some (.val (.dat (.int (ns.count k : Nat))))
      | none => none
    | _ => none
  | _, _ => none
theorem p_cnt (ha : EvP K n as ta da) (hb : EvP K n as tb db) : EvP K n as (tTM K (rCntT K) ta (tCons tb tNil)) (dTCnt da db) := by
  intro F H σ E fp L R r' e Q q
  unfold dTCnt at e
  split at e
  · next r k ea eb =>
    split at e
    · next ds es =>
      split at e
      · next ns en =>
        cases e
        refine ha L R ea fun x F1 H1 f1 g1 r1 n1 o1 => ?_
        have R1 := R.grow g1
        obtain ⟨fq, o⟩ := r1.own R1 es
        obtain ⟨a, xs, rfl, hq, da⟩ := Mv.Dq.tupleQ_inv (o.dat_inv rfl).1
        have hx := intsD_dp da en
        subst hx
        refine ⟨⟨a, _, rfl, TupQ.mono R1.sub hq⟩, hb L R1 eb fun y F2 H2 f2 g2 r2 n2 o2 => ?_⟩
        cases (Own.dat_inv (show Own K F2 H2 y _ f2 from r2) rfl).1
        have R2 := R1.grow g2
        exact ⟨a, ns, k, rfl, rfl, (TupQ.mono R2.sub (TupQ.mono g2.f hq)).sq, q _ F2 H2 [] (g1.seq0 g2).drop (.dat (.int _)) List.nodup_nil (fun _ m => nomatch m)⟩
      · cases e
    · cases e
  · cases e
/-! ### sorted(set(xs)) -/
def onceI : List Int → List Int
  | [] => []
  | a :: r => if a ∈ r then onceI r else a :: onceI r
theorem mem_onceI {k : Int} : ∀ {ns : List Int}, k ∈ onceI ns ↔ k ∈ ns
  | [] => Iff.rfl
  | a :: r => by
    unfold onceI
    by_cases h : a ∈ r
    · rw [if_pos h, mem_onceI, List.mem_cons]
      exact ⟨.inr, fun z => z.elim (fun e => by rw [e]; exact h) id⟩
    · rw [if_neg h, List.mem_cons, List.mem_cons, mem_onceI]
theorem nodup_onceI : ∀ (ns : List Int), (onceI ns).Nodup
  | [] => List.nodup_nil
  | a :: r => by
    unfold onceI
    by_cases h : a ∈ r
    · rw [if_pos h]; exact nodup_onceI r
    · rw [if_neg h]; exact List.nodup_cons.mpr ⟨fun m => h (mem_onceI.mp m), nodup_onceI r⟩
def sortSet (ns : List Int) : List Int := sortU (onceI ns)
theorem sortSet_uniq {ns ns' : List Int} (h : ns'.Pairwise (· < ·)) (hm : ∀ k : Int, k ∈ ns' ↔ k ∈ ns) : ns' = sortSet ns := by
  unfold sortSet
  refine sortU_uniq ?_ (h.imp fun h => Int.le_of_lt h)
  have nd : ns'.Nodup := h.imp fun h e => by omega
  exact (List.perm_ext_iff_of_nodup nd (nodup_onceI ns)).mpr fun k => by rw [hm, mem_onceI]
def fSortSet : List S → Option S
  | [s] => match s.seqL with
    | some ds => match intsD ds with
      | some ns => if ns.length < 64 then some (.lst ((sortSet ns).map fun i => .dat (.int i))) else none
      | none => none
    | none => none
  | _ => none
theorem p_sortSet {w : World} (h : EvP K n as te d) : EvP K n as (tCB (rSortedSet w) (tCons (tCB (rSetI K w) (tCons te tNil)) tNil)) (dCS fSortSet (dCons d dNil)) := by
  intro F H σ E fp L R r1 e Q q
  unfold dCS dCons dNil at e
  cases hd : d E with
  | none => rw [hd] at e; cases e
  | some r =>
    rw [hd] at e
    dsimp only at e
    cases hs : r.at E with
    | none => simp only [atAll, hs] at e; cases e
    | some s =>
      simp only [atAll, hs] at e
      obtain ⟨c, ec, rfl⟩ := Option.map_eq_some_iff.mp e
      unfold fSortSet at ec
      cases hq : s.seqL with
      | none => simp only [hq] at ec; cases ec
      | some ds =>
        simp only [hq] at ec
        cases hn : intsD ds with
        | none => simp only [hn] at ec; cases ec
        | some ns =>
          simp only [hn] at ec
          split at ec
          · next h64 =>
            cases ec
            refine h L R hd fun v F1 H1 f1 g1 a1 n1 o1 => ?_
            have R1 := R.grow g1
            obtain ⟨fq, ow⟩ := a1.own R1 hs
            obtain ⟨p, xs, rfl, hsq, da⟩ := ow.sqL R1.sub hq
            obtain rfl := intsD_dp da hn
            refine ⟨p, ns, rfl, hsq, h64, fun b c hb hc => ?_⟩
            have g2 : Grow F1 H1 [] F1 (upd H1 b (SetO w b (fun j => decide (j ∈ ns)) c)) [] := (Grow.alloc R1.sub hb).drop
            refine ⟨b, _, c, rfl, upd_same, by omega, fun ns' p2 hp hm hlen hn2 => ?_⟩
            have e2 : ns' = sortSet ns := sortSet_uniq hp fun k => by rw [hm k]; simp
            rw [e2]
            exact mk_lst (R1.grow g2).sub (ints_own _) (fun v F' H' fr g o nd of => q v F' H' fr (by simpa using (g1.drop.seq0 g2).seq0 g) o nd of) p2 hn2
          · cases ec
end Mv
/-! dicts of data: copies, of pairs, comprehensions, one more; the least of tuples -/
namespace Mv
open PySem PySem.Spec PyProof.Rows L2
variable {K : PySem.W.Frag} {F F' F1 F2 F3 H H' H1 H2 H3 : Hp} {v u x y w : V} {vs ws xs : List V} {s t c : S} {ss tts : List S} {fp fq fr fp' fp1 fp2 f1 f2 : List Addr} {ρ as : Ro} {E E' : En} {n : Nat}
variable {W : WXm} {te ta tb tc tk tv td : TE} {d da db dc dk dv : En → Option Rs} {tr : TA} {dr : En → Option (List Rs)} {de df : En → Option (S × En)} {tt : TT} {dte : En → Option (Bool × En)} {ds : List PyData} {Q : VK}

/-! ### dicts of data -/
abbrev KD := List (Key × PyData)
def dctD (l : Bool) (kds : KD) : S := .dct l (kds.map fun p => (p.1, S.dat p.2))
def kssD : List (Key × S) → Option KD
  | [] => some []
  | (k, .dat d) :: r => (kssD r).map ((k, d) :: ·)
  | _ => none
theorem kssD_eq : ∀ {kss : List (Key × S)} {kds : KD}, kssD kss = some kds → kss = kds.map fun p => (p.1, S.dat p.2)
  | [], _, e => by cases e; rfl
  | (k, .dat d) :: r, _, e => by
    simp only [kssD] at e
    obtain ⟨z, hz, rfl⟩ := Option.map_eq_some_iff.mp e
    rw [List.map_cons, ← kssD_eq hz]
  | (_, .con _) :: _, _, e => by simp [kssD] at e
  | (_, .lst _) :: _, _, e => by simp [kssD] at e
  | (_, .dct _ _) :: _, _, e => by simp [kssD] at e
  | (_, .ins _ _) :: _, _, e => by simp [kssD] at e
theorem kssD_map (kds : KD) : kssD (kds.map fun p => (p.1, S.dat p.2)) = some kds := by
  induction kds with
  | nil => rfl
  | cons p r ih => obtain ⟨k, d⟩ := p; simp [kssD, ih]
/-- a dict of data as it is laid -/
structure KDq (K : PySem.W.Frag) (F : Hp) (kvs : List (Key × V)) (kds : KD) : Prop where
  keys : kvs.map (·.1) = kds.map (·.1)
  vals : DqAll K F (kvs.map (·.2)) (kds.map (·.2))
theorem KDq.mono {kvs : List (Key × V)} {kds : KD} (h : KDq K F kvs kds) (k : ∀ b o, F b = some o → F' b = some o) : KDq K F' kvs kds := ⟨h.keys, DqAll.mono k h.vals⟩
theorem KDq.len {kvs : List (Key × V)} {kds : KD} (h : KDq K F kvs kds) : kvs.length = kds.length := by have := congrArg List.length h.keys; simpa using this
theorem KDq.own {kvs : List (Key × V)} {kds : KD} (h : KDq K F kvs kds) : OwnL K F H (kvs.map (·.2)) ((kds.map fun p => (p.1, S.dat p.2)).map (·.2)) [] := by
  have e : (kds.map fun p => (p.1, S.dat p.2)).map (·.2) = (kds.map (·.2)).map S.dat := by simp
  rw [e]
  exact dats_own (H := H) h.vals
theorem KDq.keysS {kvs : List (Key × V)} {kds : KD} (h : KDq K F kvs kds) : kvs.map (·.1) = (kds.map fun p => (p.1, S.dat p.2)).map (·.1) := by
  rw [h.keys]; simp
theorem KDq.of {kvs : List (Key × V)} {kss : List (Key × S)} {kds : KD} (hk : kvs.map (·.1) = kss.map (·.1)) (l : OwnL K F H (kvs.map (·.2)) (kss.map (·.2)) fq) (e : kssD kss = some kds) : KDq K F kvs kds ∧ fq = [] := by
  have e2 := kssD_eq e
  subst e2
  have : (kds.map fun p => (p.1, S.dat p.2)).map (·.2) = (kds.map (·.2)).map S.dat := by simp
  rw [this] at l
  obtain ⟨h1, h2⟩ := datsS_dp l (datsS_dats _)
  exact ⟨⟨by rw [hk]; simp, h1⟩, h2⟩
theorem DqAll.set {y : V} {d : PyData} : ∀ {i : Nat} {vs : List V} {ds : List PyData}, DqAll K F vs ds → Dq K F y d → DqAll K F (vs.set i y) (ds.set i d)
  | _, _, _, .nil, _ => by simpa using DqAll.nil
  | 0, _, _, .cons _ t, h => .cons h t
  | i + 1, _, _, .cons a t, h => .cons a (Mv.DqAll.set (i := i) t h)
theorem KDq.put {kvs : List (Key × V)} {kds : KD} {k : Key} {d : PyData} (h : KDq K F kvs kds) (nd : (kds.map (·.1)).Nodup) (hv : Dq K F v d) : KDq K F (putK kvs k v) (putS kds k d) := by
  rw [putK_kix v kvs (by rw [h.keys]; exact nd)]
  unfold putS
  rw [h.keys]
  split
  · next i hi =>
    exact ⟨by rw [setSnd_fst, setSnd_fst]; exact h.keys, by rw [setSnd_snd, setSnd_snd]; exact Mv.DqAll.set h.vals hv⟩
  · exact ⟨by simp [h.keys], by simpa using Mv.DqAll.append h.vals (.cons hv .nil)⟩
theorem putS_keys_nodup {α : Type} {kds : List (Key × α)} {k : Key} {d : α} (nd : (kds.map (·.1)).Nodup) : ((putS kds k d).map (·.1)).Nodup := by
  unfold putS
  split
  · rw [setSnd_fst]; exact nd
  · next hk =>
    rw [List.map_append]
    exact List.nodup_append.mpr ⟨nd, by simp, fun a m b m2 e => by
      simp at m2
      subst m2
      exact kix_mem hk (e ▸ m)⟩
def mergeD (acc more : KD) : KD := more.foldl (fun a p => putS a p.1 p.2) acc
theorem KDq.merge : ∀ {more : List (Key × V)} {mds : KD} {kvs : List (Key × V)} {kds : KD}, KDq K F kvs kds → (kds.map (·.1)).Nodup → KDq K F more mds → KDq K F (mergeK kvs more) (mergeD kds mds)
  | [], [], _, _, h, _, _ => h
  | [], _ :: _, _, _, _, _, m => by have := m.keys; simp at this
  | _ :: _, [], _, _, _, _, m => by have := m.keys; simp at this
  | (k, v) :: more, (k', d) :: mds, kvs, kds, h, nd, m => by
    have hk : k = k' := by have := m.keys; simp at this; exact this.1
    subst hk
    have hv := m.vals
    simp only [List.map_cons] at hv
    cases hv with
    | cons a t =>
      have mk := m.keys
      simp only [List.map_cons, List.cons.injEq, true_and] at mk
      show KDq K F (mergeK (putK kvs k v) more) (mergeD (putS kds k d) mds)
      exact KDq.merge (h.put nd a) (putS_keys_nodup nd) ⟨mk, t⟩
/-! ### dict(d) -/
def fDictD : List S → Option S
  | [.dct _ kss] => (kssD kss).map (dctD false)
  | _ => none
theorem rc_dictD : RvSC K (fun xs H Q => ∃ (a : Addr) (kvs : List (Key × V)), xs = [.ref a] ∧ Rd H a (.dK kvs) ∧ ∀ p, H p = none → Q (.ref p) (upd H p (.dK kvs))) fDictD := by
  intro F H vs ss c sub o e Q m
  unfold fDictD at e
  split at e
  · next l kss =>
    obtain ⟨kds, hd, rfl⟩ := Option.map_eq_some_iff.mp e
    obtain ⟨v, f, rfl, o1⟩ := o.one
    obtain ⟨a, kvs, u, fq, rfl, hH, hk, rd, hkk, ll, _⟩ := o1.dct_inv rfl
    obtain ⟨kq, rfl⟩ := KDq.of hkk ll hd
    exact ⟨a, kvs, rfl, rd, mk_dct sub kq.keysS kq.own m⟩
  · cases e
/-! ### dict(pairs) -/
def keyP : PyData → Option Key
  | .int i => some (.inl i)
  | .str x => some (.inr x)
  | _ => none
theorem keyP_dq {d : PyData} {k : Key} (h : Dq K F v d) (e : keyP d = some k) : v = kV k := by
  cases h <;> cases e <;> rfl
def pairsD : List PyData → Option KD
  | [] => some []
  | .tuple [a, b] :: r => match keyP a, pairsD r with
    | some k, some z => some ((k, b) :: z)
    | _, _ => none
  | _ => none
theorem pairs_of : ∀ {ds : List PyData} {xs : List V} {kds : KD}, DqAll K F xs ds → pairsD ds = some kds → ∃ (ps : List Addr) (kvs : List (Key × V)), xs = ps.map V.ref ∧ Paired (fun p kv => SqT K F p [kV kv.1, kv.2]) ps kvs ∧ KDq K F kvs kds
  | [], _, _, .nil, e => by cases e; exact ⟨[], [], rfl, .nil, ⟨rfl, .nil⟩⟩
  | .tuple [a, b] :: r, _, _, .cons h t, e => by
    simp only [pairsD] at e
    split at e
    · next k z ek er =>
      cases e
      obtain ⟨ps, kvs, h1, h2, h3⟩ := pairs_of t er
      obtain ⟨p, ys, rfl, hq, da⟩ := Mv.Dq.tuple_inv h
      cases da with
      | cons qa ta => cases ta with
        | cons qb tb =>
          cases tb
          have := keyP_dq qa ek
          subst this
          exact ⟨p :: ps, (k, _) :: kvs, by rw [h1]; rfl, .cons hq h2, ⟨by simp [h3.keys], .cons qb h3.vals⟩⟩
    · cases e
  | .tuple [] :: _, _, _, _, e => by simp [pairsD] at e
  | .tuple [_] :: _, _, _, _, e => by simp [pairsD] at e
  | .tuple (_ :: _ :: _ :: _) :: _, _, _, _, e => by simp [pairsD] at e
  | .none :: _, _, _, _, e => by simp [pairsD] at e
  | .bool _ :: _, _, _, _, e => by simp [pairsD] at e
  | .int _ :: _, _, _, _, e => by simp [pairsD] at e
  | .str _ :: _, _, _, _, e => by simp [pairsD] at e
  | .list _ :: _, _, _, _, e => by simp [pairsD] at e
  | .dict _ :: _, _, _, _, e => by simp [pairsD] at e
def fDictP : List S → Option S
  | [s] => match s.seqL with
    | some ds => (pairsD ds).map fun kds => dctD false (mergeD [] kds)
    | none => none
  | _ => none
theorem rc_dictP : RvSC K (fun xs H Q => ∃ (a : Addr) (ps : List Addr) (kvs : List (Key × V)), xs = [.ref a] ∧ SqL K H a (ps.map V.ref) ∧ Paired (fun p kv => SqT K H p [kV kv.1, kv.2]) ps kvs ∧
    ∀ p, H p = none → Q (.ref p) (upd H p (.dK (mergeK [] kvs)))) fDictP := by
  intro F H vs ss c sub o e Q m
  unfold fDictP at e
  split at e
  · next s =>
    split at e
    · next ds hd =>
      obtain ⟨kds, hp, rfl⟩ := Option.map_eq_some_iff.mp e
      obtain ⟨v, f, rfl, o'⟩ := o.one
      clear o
      have o := o'
      obtain ⟨a, xs, rfl, hq, da⟩ := o.sqL sub hd
      obtain ⟨ps, kvs, rfl, h2, h3⟩ := pairs_of da hp
      have kq : KDq K F (mergeK [] kvs) (mergeD [] kds) := KDq.merge ⟨rfl, .nil⟩ List.nodup_nil h3
      refine ⟨a, ps, kvs, rfl, hq, Paired.mapP h2 (fun p kv h => SqT.mono sub h), mk_dct sub kq.keysS kq.own m⟩
    · cases e
  · cases e
/-! ### {**d, k: v} -/
def dStar (da dk dv : En → Option Rs) (E : En) : Option Rs := match da E, dk E, dv E with
  | some (.pl p), some rk, some (.val (.dat d)) => match eget E p, rk.key with
    | some (.dct _ kss), some k => match kssD kss with
      | some kds => if kds.length < 1000 then some (.val (dctD false (putS (mergeD [] kds) k d))) else none
      | none => none
    | _, _ => none
  | _, _, _ => none
theorem mergeD_nodup : ∀ (more acc : KD), (acc.map (·.1)).Nodup → ((mergeD acc more).map (·.1)).Nodup
  | [], _, h => h
  | p :: r, acc, h => mergeD_nodup r _ (putS_keys_nodup h)
theorem p_star (ha : EvP K n as td da) (hk : EvP K n as tk dk) (hv : EvP K n as tv dv) : EvP K n as (tStar1 td tk tv) (dStar da dk dv) := by
  intro F H σ E fp L R r e Q q
  unfold dStar at e
  split at e
  · next pp rk d ea ek ev =>
    split at e
    · next l kss k es ekk =>
      split at e
      · next kds hkd =>
        split at e
        · next hlen =>
          cases e
          intro p hp
          have g0 : Grow F H [] F (upd H p (.dK [])) [p] := Grow.alloc R.sub hp
          have R0 := R.grow g0
          refine ha L R0 ea fun x F1 H1 f1 g1 a1 n1 o1 => ?_
          have R1 := R0.grow g1
          have gg : Grow F H [] F1 H1 [] := (g0.drop.seq0 g1).drop
          have Fp : F p = none := fresh_none R.sub hp
          have Fp1 : F1 p = none := g1.off p (by rw [upd_same]; exact fun z => nomatch z) (fun z => nomatch z) Fp
          have hHp : H1 p = some (.dK []) := g1.keep p _ upd_same (fun z => nomatch z)
          obtain ⟨b1, b2, b3⟩ := a1
          rw [R.core.follow_keep (fun b o e => gg.sub b o (gg.f b o e)) es fun a _ o e => gg.keep a o e (fun m => nomatch m)] at b2
          obtain ⟨u, k1, k2, e1, ow, _⟩ := R.core.take es
          rw [b2] at e1
          cases e1
          obtain ⟨o, more, hu, fq, rfl, hH, hhk, rd, hkk, ll, _⟩ := ow.dct_inv rfl
          have op : o ≠ p := fun z => by rw [z, hp] at hH; cases hH
          obtain ⟨kq, _⟩ := KDq.of hkk ll hkd
          have rd1 : Rd H1 o (.dK more) := by
            rcases rd with z | ⟨ob, z⟩
            · exact .inl (gg.keep o _ z (fun m => nomatch m))
            · exact .inr ⟨ob, gg.keep o _ z (fun m => nomatch m)⟩
          refine ⟨o, more, rfl, op, rd1, hHp, by rw [kq.len]; exact hlen, fun qa hq => ?_⟩
          have pfp : p ∉ fp := fun m => by obtain ⟨w, hw⟩ := R.there p m; rw [hp] at hw; cases hw
          have g2 : Grow F1 H1 [p] F1 (upd H1 p (.dK (mergeK [] more))) [p] := Grow.write R1.sub Fp1
          have R2 := R1.grow2 g2 (fun a m m2 => pfp (by rw [← List.mem_singleton.mp m2]; exact m))
          have g3 : Grow F1 (upd H1 p (.dK (mergeK [] more))) [] F1 (upd (upd H1 p (.dK (mergeK [] more))) qa (.dK [])) [qa] := Grow.alloc R2.sub hq
          have R3 := R2.grow g3
          have qp : qa ≠ p := fun z => by rw [z, upd_same] at hq; cases hq
          have Fq1 : F1 qa = none := fresh_none R2.sub hq
          refine hk L R3 ek fun y F4 H4 f4 g4 a4 n4 o4 => hv L (R3.grow g4) ev fun z F5 H5 f5 g5 a5 n5 o5 => ?_
          have R5 := (R3.grow g4).grow g5
          have g45 : Grow F1 (upd (upd H1 p (.dK (mergeK [] more))) qa (.dK [])) [] F5 H5 [] := (g4.seq0 g5).drop
          have hq5 : H5 qa = some (.dK []) := g45.keep qa _ upd_same (fun m => nomatch m)
          have hp5 : H5 p = some (.dK (mergeK [] more)) := g45.keep p _ (by rw [upd_ne (Ne.symm qp), upd_same]) (fun m => nomatch m)
          have Fp5 : F5 p = none := g45.off p (by rw [upd_ne (Ne.symm qp), upd_same]; exact fun z => nomatch z) (fun m => nomatch m) Fp1
          have Fq5 : F5 qa = none := g45.off qa (by rw [upd_same]; exact fun z => nomatch z) (fun m => nomatch m) Fq1
          have ky := a4.key ekk
          have dz := (Own.dat_inv (show Own K F5 H5 z _ f5 from a5) rfl).1
          refine ⟨hq5, hp5, k, ky, ?_⟩
          have f15 : ∀ b o, F b = some o → F5 b = some o := fun b o e => g45.f b o (gg.f b o e)
          have kq5 : KDq K F5 (putK (mergeK [] more) k z) (putS (mergeD [] kds) k d) := (KDq.merge (kvs := []) (kds := []) ⟨rfl, .nil⟩ List.nodup_nil (kq.mono f15)).put (mergeD_nodup _ _ List.nodup_nil) dz
          generalize hX : HO.dK (mergeK [] [(k, z)]) = X
          generalize hY : putK (mergeK [] more) k z = Y at kq5
          have g6 : Grow F5 H5 [qa] F5 (upd H5 qa X) [qa] := Grow.write R5.sub Fq5
          have g7 : Grow F5 (upd H5 qa X) [p] F5 (upd (upd H5 qa X) p (.dK Y)) [p] := Grow.write g6.sub Fp5
          have gA : Grow F H [] F1 H1 [p] := g0.trans ((g1.ours [p]).less fun a m => List.mem_append_right _ m)
          have gB : Grow F H [] F5 H5 ([] ++ ([qa] ++ [p])) := ((gA.trans g2).trans (g3.ours [p])).trans (g45.ours ([qa] ++ [p]))
          have gC : Grow F H [] F5 (upd H5 qa X) [qa, p] := gB.trans (g6.wide (fun a m => by rw [List.mem_singleton.mp m]; simp) fun a m => .inl (by simpa using m))
          have gD : Grow F H [] F5 (upd (upd H5 qa X) p (.dK Y)) [p] := gC.trans (g7.wide (fun a m => List.mem_cons_of_mem _ m) fun a m => .inl (List.mem_cons_of_mem _ m))
          exact q (.ref p) F5 _ [p] gD (dct_write kq5.keysS kq5.own) (by simp) fun a m => by rw [List.mem_singleton.mp m]; exact Fp5
        · cases e
      · cases e
    · cases e
  · cases e
/-! ### {k: v for ..} -/
def dDcLoop (rd : En → Nat → Option (Option Rs)) (j : Nat) (dt : En → Option (Bool × En)) (dk dv : En → Option (S × En)) : Nat → Nat → KD → En → Option (KD × En)
  | fuel, i, acc, E => match rd E i with
    | none => none
    | some none => some (acc, E)
    | some (some r) => match fuel with
      | 0 => none
      | fuel + 1 => match bName j r E with
        | none => none
        | some E1 => match dt E1 with
          | some (true, E2) => match dk E2 with
            | some (.dat a, E3) => match keyP a, dv E3 with
              | some k, some (.dat d, E4) => if acc.length < 100000 then dDcLoop rd j dt dk dv fuel (i + 1) (putS acc k d) (slotSet E4 j .no) else none
              | _, _ => none
            | _ => none
          | some (false, E2) => dDcLoop rd j dt dk dv fuel (i + 1) acc (slotSet E2 j .no)
          | none => none
def eDc (src : En → Option Src) (j : Nat) (dt : En → Option (Bool × En)) (dk dv : En → Option (S × En)) (E : En) : Option (S × En) := match src E with
  | some c => match dDcLoop c.rd j dt dk dv c.fuel 0 [] (slotSet (c.env ++ c.exE) j .no) with
    | some (acc, E') => some (dctD false acc, stripE c E')
    | none => none
  | none => none
theorem e_dc {wi : TI} {src : En → Option Src} {j : Nat} (hj : j < n) (hi : EvI K n as wi src) (ht : ∀ as, EvTE K n as tt dte) (hk : ∀ as, EvE K n as tk de) (he : ∀ as, EvE K n as tv df) : EvE K n as (tDc wi (gName j) tt tk tv [j]) (eDc src j dte de df) := by
  intro F H σ E fp L R s0 E0 e Q q
  unfold eDc at e
  split at e
  · next c ec =>
    split at e
    · next acc0 E9 hd =>
      cases e
      refine hi L R ec fun J F1 H1 ex fpx g1' R1 hx spec => fun D hD => ?_
      have hjl : j < (σ ++ (as ++ ex.map some)).length := by rw [List.length_append]; omega
      have wl : ∀ w, (σ.set j w) ++ (as ++ ex.map some) = (σ ++ (as ++ ex.map some)).set j w := fun w => set_app (by omega)
      have gD : Grow F1 H1 [] F1 (upd H1 D (.dK [])) [D] := Grow.alloc R1.sub hD
      obtain ⟨fw, Rw, sbw⟩ := (R1.grow gD).wipe hjl none
      rw [← wl none] at Rw
      have back : ((σ.set j none) ++ (as ++ ex.map some)).set j (σ[j]?.getD none) = σ ++ (as ++ ex.map some) := by
        rw [wl none, List.set_set]
        apply List.ext_getElem?
        intro i
        by_cases ij : j = i
        · subst ij
          have h1 : j < σ.length := by omega
          rw [List.getElem?_set_self hjl, List.getElem?_append_left h1, List.getElem?_eq_getElem h1]; rfl
        · rw [List.getElem?_set_ne ij]
      refine ⟨fun i m Hm => ∃ Fm Em fpm accV accD, Grow F1 H1 fpx Fm Hm (D :: fpm) ∧ Rep K Fm Hm ((σ.set j none) ++ (as ++ ex.map some)) Em fpm ∧ Em[j]? = some Sl.no ∧ Hm D = some (.dK accV) ∧ KDq K Fm accV accD ∧ (accD.map (·.1)).Nodup ∧
          D ∉ fpm ∧ Fm D = none ∧ dDcLoop c.rd j dte de df m i accD Em = some (acc0, E9),
        ⟨c.fuel, F1, _, fw, [], [], ?_, Rw, ?_, upd_same, ⟨rfl, .nil⟩, List.nodup_nil, ?_, fresh_none R1.sub hD, hd⟩, fun i m Hm hW => ?_⟩
      · have := gD.wide (fq := fpx) (fr := D :: fw) (fun _ m => nomatch m) fun a m => ?_
        · exact this
        · rcases List.mem_cons.mp m with rfl | m
          · exact .inr hD
          · exact .inl (sbw a m)
      · unfold slotSet
        rw [List.getElem?_set_self]
        rw [List.length_map, R1.core.len]; exact hjl
      · intro m
        obtain ⟨o, eo⟩ := R1.there D (sbw D m)
        rw [hD] at eo; cases eo
      · obtain ⟨Fm, Em, fpm, accV, accD, gm, Rm, hno, hHD, kacc, knd, nD, FD, hl⟩ := hW
        have gm' : Grow F1 H1 fpx Fm Hm fpm := gm.less fun a m => List.mem_cons_of_mem _ m
        obtain ⟨sp1, sp2⟩ := spec Fm Hm (σ.set j none) Em fpm (by rw [List.length_set]; exact L) gm' Rm i
        rw [dDcLoop.eq_def] at hl
        dsimp only at hl
        cases hr : c.rd Em i with
        | none => rw [hr] at hl; cases hl
        | some r0 => cases r0 with
          | none =>
            rw [hr] at hl
            cases hl
            refine .inl ⟨sp2 hr, ?_⟩
            have R3 : Rep K Fm Hm (σ ++ (as ++ ex.map some)) E9 fpm := by
              have := Rm.forget (σ[j]?.getD none) hno
              rw [back] at this
              exact this
            obtain ⟨fq9, R4, sb9⟩ := stripE_rep R3 hx
            have ow : Own K Fm Hm (.ref D) (dctD false acc0) [D] := by
              have := Own.node (K := K) (F := Fm) (H := Hm) (s := dctD false acc0) (ex := []) hHD (show Head _ Hm D (.dK accV) (dctD false acc0) [] from ⟨rfl, kacc.keysS⟩) kacc.own
              simpa using this
            refine q (.ref D) Fm Hm [D] fq9 (g1'.trans (gm.less fun a m => ?_)) R4 ow ?_ fun a m => by rw [List.mem_singleton.mp m]; exact FD
            · rcases List.mem_append.mp m with m | m
              · rw [List.mem_singleton.mp m]; exact List.mem_cons_self
              · exact List.mem_cons_of_mem _ (sb9 a m)
            · exact List.nodup_cons.mpr ⟨fun m => nD (sb9 D m), R4.nd⟩
          | some r =>
            rw [hr] at hl
            dsimp only at hl
            obtain ⟨go, yl⟩ := sp1 r hr
            cases m with
            | zero => cases hl
            | succ m =>
              dsimp only at hl
              refine .inr ⟨go, fun H' => ∃ Fm Em fpm accV accD, Grow F1 H1 fpx Fm H' (D :: fpm) ∧ Rep K Fm H' ((σ.set j none) ++ (as ++ ex.map some)) Em fpm ∧ Em[j]? = some Sl.no ∧ H' D = some (.dK accV) ∧ KDq K Fm accV accD ∧ (accD.map (·.1)).Nodup ∧
                D ∉ fpm ∧ Fm D = none ∧ dDcLoop c.rd j dte de df m (i + 1) accD Em = some (acc0, E9), fun H' hN => ⟨m, Nat.lt_succ_self m, hN⟩, fun x H' hy => ?_⟩
              obtain ⟨rfl, ar⟩ := yl x H' hy
              split at hl
              · cases hl
              · next E1 e1 =>
                show wipe ((σ.set j none).set j (some x)) [j] = wipe σ [j] ∧ _
                refine ⟨by show ((σ.set j none).set j (some x)).set j none = σ.set j none; rw [List.set_set, List.set_set], ?_⟩
                have hLw : ((σ.set j none).set j (some x)).length = n := by rw [List.length_set, List.length_set]; exact L
                have hjw : j < (σ.set j none ++ (as ++ ex.map some)).length := by rw [List.length_append, List.length_set]; omega
                have hR1 : ∃ fq, Rep K Fm H' (((σ.set j none).set j (some x)) ++ (as ++ ex.map some)) E1 fq ∧ ∀ a ∈ fq, a ∈ fpm := by
                  rw [show ((σ.set j none).set j (some x)) ++ (as ++ ex.map some) = (σ.set j none ++ (as ++ ex.map some)).set j (some x) from set_app (by rw [List.length_set]; omega)]
                  cases r with
                  | val s =>
                    cases e1
                    obtain ⟨fq, k1, k2⟩ := Rm.setSlot (e := .own s) (fr := []) hjw ar Rm.nd (fun _ m => nomatch m)
                    exact ⟨fq, k1, fun a m => by simpa using k2 a m⟩
                  | pl p =>
                    unfold bName at e1
                    dsimp only at e1
                    split at e1
                    · cases e1
                    · next hp =>
                      cases e1
                      obtain ⟨a1, a2, a3⟩ := ar
                      obtain ⟨fq, k1, k2⟩ := Rm.setSlot (e := .bor p) (fr := []) hjw ⟨rfl, hp, a2, a3⟩ Rm.nd (fun _ m => nomatch m)
                      exact ⟨fq, k1, fun a m => by simpa using k2 a m⟩
                obtain ⟨fq, R1', sb1⟩ := hR1
                have asideD : D ∉ fq := fun m => nD (sb1 D m)
                have gfq : Grow F1 H1 fpx Fm H' ([D] ++ fq) := gm.less fun a m => by
                  rcases List.mem_append.mp m with m | m
                  · rw [List.mem_singleton.mp m]; exact List.mem_cons_self
                  · exact List.mem_cons_of_mem _ (sb1 a m)
                have keepD : ∀ {F3 H3 fp3}, Grow Fm H' fq F3 H3 fp3 → H3 D = some (.dK accV) ∧ KDq K F3 accV accD ∧ F3 D = none ∧ D ∉ fp3 := fun {F3 H3 fp3} g3 => by
                  refine ⟨g3.keep D _ hHD asideD, kacc.mono g3.f, g3.off D (by rw [hHD]; exact fun z => nomatch z) asideD FD, fun m2 => ?_⟩
                  rcases g3.new D m2 with z | z
                  · exact asideD z
                  · rw [hHD] at z; cases z
                split at hl
                · next E2 e2 =>
                  split at hl
                  · next a3 E3 e3 =>
                    split at hl
                    · next k4 d4 E4 ek4 e4 =>
                      split at hl
                      · next hlen =>
                        refine ht _ hLw R1' e2 fun F2 H2 fp2 g2 R2 => iteT (hk _ hLw R2 e3 fun y F3 H3 fr3 fp3 g3 R3 ow3 nd3 of3 => he _ hLw R3 e4 fun z F4 H4 fr4 fp4 g4 R4 ow4 nd4 of4 => ?_)
                        have g24 : Grow Fm H' fq F4 H4 (fr4 ++ fp4) := (g2.trans (g3.less fun a m => List.mem_append_right _ m)).trans g4
                        obtain ⟨kD, kacc4, koff, kas⟩ := keepD g24
                        have ky := keyP_dq (ow3.dat_inv rfl).1 ek4
                        have dz := (ow4.dat_inv rfl).1
                        refine ⟨accV, k4, ky, kD, by rw [kacc.len, sizeLine_eq]; omega, ?_⟩
                        have hjw4 : j < (((σ.set j none).set j (some x)) ++ (as ++ ex.map some)).length := by rw [List.length_append, hLw]; omega
                        obtain ⟨fq5, R5, sb5⟩ := R4.wipe hjw4 none
                        rw [← show (((σ.set j none).set j (some x)).set j none) ++ (as ++ ex.map some) = (((σ.set j none).set j (some x)) ++ (as ++ ex.map some)).set j none from set_app (by omega), List.set_set, List.set_set] at R5
                        have gw : Grow F4 H4 [D] F4 (upd H4 D (.dK (putK accV k4 z))) [D] := Grow.write R4.sub koff
                        have D5 : D ∉ fq5 := fun m => kas (List.mem_append_right _ (sb5 D m))
                        have R6 := R5.grow2 gw (fun a m m2 => D5 (by rw [← List.mem_singleton.mp m2]; exact m))
                        refine ⟨F4, slotSet E4 j .no, fq5, putK accV k4 z, putS accD k4 d4, ?_, R6, ?_, upd_same, kacc4.put knd dz, putS_keys_nodup knd, D5, koff, hl⟩
                        · have ga : Grow F1 H1 fpx F4 H4 ([D] ++ (fr4 ++ fp4)) := gfq.trans (g24.beside [D])
                          have gb : Grow F4 H4 ([D] ++ (fr4 ++ fp4)) F4 (upd H4 D (.dK (putK accV k4 z))) (D :: fq5) := gw.wide (fun a m => List.mem_append_left _ m) fun a m => by
                            left
                            rcases List.mem_cons.mp m with rfl | m
                            · exact List.mem_append_left _ (List.mem_singleton.mpr rfl)
                            · exact List.mem_append_right _ (List.mem_append_right _ (sb5 a m))
                          exact ga.trans gb
                        · unfold slotSet
                          rw [List.getElem?_set_self]
                          rw [List.length_map, R4.core.len]; exact hjw4
                      · cases hl
                    · cases hl
                  · cases hl
                · next E2 e2 =>
                  refine ht _ hLw R1' e2 fun F3 H3 fp3 g3 R3 => iteF ?_
                  obtain ⟨kD, kacc3, koff, kas⟩ := keepD g3
                  have hjw4 : j < (((σ.set j none).set j (some x)) ++ (as ++ ex.map some)).length := by rw [List.length_append, hLw]; omega
                  obtain ⟨fq5, R5, sb5⟩ := R3.wipe hjw4 none
                  rw [← show (((σ.set j none).set j (some x)).set j none) ++ (as ++ ex.map some) = (((σ.set j none).set j (some x)) ++ (as ++ ex.map some)).set j none from set_app (by omega), List.set_set, List.set_set] at R5
                  refine ⟨F3, slotSet E2 j .no, fq5, accV, accD, ?_, R5, ?_, kD, kacc3, knd, fun m => kas (sb5 D m), koff, hl⟩
                  · exact (gfq.trans (g3.beside [D])).less fun a m => by
                      rcases List.mem_cons.mp m with rfl | m
                      · exact List.mem_append_left _ (List.mem_singleton.mpr rfl)
                      · exact List.mem_append_right _ (sb5 a m)
                  · unfold slotSet
                    rw [List.getElem?_set_self]
                    rw [List.length_map, R3.core.len]; exact hjw4
                · cases hl
    · cases e
  · cases e
/-! ### min of tuples of ints -/
open PySem.W (alike alikeAll AlikeAll minD)
def tupI : PyData → Bool
  | .tuple ds => (intsD ds).isSome
  | _ => false
def fMinD : List S → Option S
  | [s] => match s.seqL with
    | some (d :: ds) => if (d :: ds).all tupI = true then some (.dat (minD d ds)) else none
    | _ => none
  | _ => none
theorem alikeAll_ints : ∀ (xs ys : List PyData), (intsD xs).isSome = true → (intsD ys).isSome = true → alikeAll xs ys = true
  | [], ys, _, _ => by cases ys <;> rfl
  | .int i :: xs, [], _, _ => rfl
  | .int i :: xs, .int j :: ys, hx, hy => by
    simp only [intsD, Option.isSome_map] at hx hy
    simp [PySem.W.alikeAll, PySem.W.alike, alikeAll_ints xs ys hx hy]
  | .int i :: xs, .none :: ys, _, hy => by simp [intsD] at hy
  | .int i :: xs, .bool _ :: ys, _, hy => by simp [intsD] at hy
  | .int i :: xs, .str _ :: ys, _, hy => by simp [intsD] at hy
  | .int i :: xs, .list _ :: ys, _, hy => by simp [intsD] at hy
  | .int i :: xs, .tuple _ :: ys, _, hy => by simp [intsD] at hy
  | .int i :: xs, .dict _ :: ys, _, hy => by simp [intsD] at hy
  | .none :: _, _, hx, _ => by simp [intsD] at hx
  | .bool _ :: _, _, hx, _ => by simp [intsD] at hx
  | .str _ :: _, _, hx, _ => by simp [intsD] at hx
  | .list _ :: _, _, hx, _ => by simp [intsD] at hx
  | .tuple _ :: _, _, hx, _ => by simp [intsD] at hx
  | .dict _ :: _, _, hx, _ => by simp [intsD] at hx
theorem alike_tupI {a b : PyData} (ha : tupI a = true) (hb : tupI b = true) : alike a b = true := by
  cases a <;> cases b <;> simp [tupI] at ha hb
  simp only [PySem.W.alike]
  exact alikeAll_ints _ _ ha hb
theorem depthAll_ints : ∀ (xs : List PyData), (intsD xs).isSome = true → PyData.depthAll xs ≤ 1
  | [], _ => by simp [PyData.depthAll]
  | .int i :: xs, hx => by
    simp only [intsD, Option.isSome_map] at hx
    have := depthAll_ints xs hx
    simp only [PyData.depthAll, PyData.depth]
    omega
  | .none :: _, hx => by simp [intsD] at hx
  | .bool _ :: _, hx => by simp [intsD] at hx
  | .str _ :: _, hx => by simp [intsD] at hx
  | .list _ :: _, hx => by simp [intsD] at hx
  | .tuple _ :: _, hx => by simp [intsD] at hx
  | .dict _ :: _, hx => by simp [intsD] at hx
theorem depthAll_tupI : ∀ (xs : List PyData), xs.all tupI = true → PyData.depthAll xs ≤ 2
  | [], _ => by simp [PyData.depthAll]
  | x :: xs, h => by
    simp only [List.all_cons, Bool.and_eq_true] at h
    have h2 := depthAll_tupI xs h.2
    have h1 : PyData.depth x ≤ 2 := by
      have h1 := h.1
      cases x <;> simp [tupI] at h1
      have := depthAll_ints _ h1
      simp only [PyData.depth]
      omega
    simp only [PyData.depthAll]
    omega
theorem rc_minD {X : Cx} (hu : X.A.units + 64 < cLine) : RvSC X.K (rMinD X) fMinD := by
  intro F H vs ss c sub o e Q m
  unfold fMinD at e
  split at e
  · next s =>
    split at e
    · next d ds hd =>
      split at e
      · next hall =>
        cases e
        obtain ⟨v, f, rfl, o'⟩ := o.one
        clear o
        have o := o'
        obtain ⟨a, xs, rfl, hq, da⟩ := o.sqL sub hd
        have hal : ∀ x ∈ d :: ds, tupI x = true := List.all_eq_true.mp hall
        refine ⟨a, xs, d, ds, rfl, hq, (DqAll.mono sub da).dp, ⟨fun x hx y hy => alike_tupI (hal x hx) (hal y hy), fun x hx z => by have := hal x hx; rw [z] at this; cases this⟩, ?_, fun i v hv hi => ?_⟩
        · have := depthAll_tupI (d :: ds) hall
          omega
        · obtain ⟨w, hw, dw⟩ := Mv.DqAll.nth da hi
          rw [hv] at hw
          cases hw
          exact mk_dat sub dw m
      · cases e
    · cases e
  · cases e
end Mv
/-! what a slot holds handed back; odds and ends for the terms that are printed -/
namespace Mv
open PySem PySem.Spec PyProof.Rows L2
variable {K : PySem.W.Frag} {F F' F1 F2 F3 H H' H1 H2 H3 : Hp} {v u x y w : V} {vs ws xs : List V} {s t c : S} {ss tts : List S} {fp fq fr fp' fp1 fp2 f1 f2 : List Addr} {ρ as : Ro} {E E' : En} {n : Nat}
variable {W : WXm} {te ta tb tc tk tv td : TE} {d da db dc dk dv : En → Option Rs} {tr : TA} {dr : En → Option (List Rs)} {de df : En → Option (S × En)} {tt : TT} {dte dtf : En → Option (Bool × En)} {ds : List PyData} {Q : VK}

theorem rootS_killNo {i : Nat} : ∀ {ρ : Ro} {E : En} {v : Option V}, E.length = ρ.length → ρ[i]? = some v → rootS ρ (slotSet E i .no) = (rootS ρ E).set i (.con (v.getD .non)) := by
  intro ρ E v l h
  have hi := (List.getElem?_eq_some_iff.mp h).1
  have e1 : ρ = ρ.set i v := by
    apply List.ext_getElem?
    intro j
    by_cases ij : i = j
    · subst ij; rw [List.getElem?_set_self hi, h]
    · rw [List.getElem?_set_ne ij]
  have := rootS_set2 (ρ := ρ) (E := E.map (killHead i)) (i := i) (v := v) (e := .no) (by rw [List.length_map]; exact l)
  rw [← e1, rootS_killHead] at this
  unfold slotSet
  rw [this]
  rfl
theorem Rep.takeSlot {i : Nat} (R : Rep K F H ρ E fp) (hE : E[i]? = some (Sl.own s)) (hv : ρ[i]? = some (some v)) :
    ∃ fr fq, Own K F H v s fr ∧ Rep K F H ρ (slotSet E i .no) fq ∧ fp.Perm (fr ++ fq) := by
  obtain ⟨f, l, pm⟩ := R.core.own
  have len := R.core.len
  obtain ⟨x, g1, g2, e1, o1, l2, p1⟩ := l.take (rootS_get len hE)
  have ex : x = v := by
    unfold rootV at e1
    rw [List.getElem?_map, hv] at e1
    simpa using e1.symm
  subst ex
  have hi := (List.getElem?_eq_some_iff.mp hv).1
  have pm2 : fp.Perm (g1 ++ g2) := pm.trans p1
  have nd := pm2.nodup_iff.mp R.nd
  have hEl : i < E.length := by omega
  refine ⟨g1, g2, o1, ⟨⟨by unfold slotSet; rw [List.length_set, List.length_map]; exact len, ⟨g2, ?_, List.Perm.refl _⟩, fun j z hj => ?_⟩, R.sub, (List.nodup_append.mp nd).2.1, fun a m => R.off a (pm2.mem_iff.mpr (List.mem_append_right _ m)), fun j p hb => ?_⟩, pm2⟩
  · rw [rootS_killNo len hv]; exact l2
  · by_cases ij : i = j
    · subst ij; exact ⟨_, hv⟩
    · unfold slotSet at hj
      rw [List.getElem?_set_ne ij] at hj
      exact R.core.set j z ((killHead_get E j z).mp hj)
  · by_cases ij : i = j
    · subst ij
      unfold slotSet at hb
      rw [List.getElem?_set_self (by rw [List.length_map]; exact hEl)] at hb
      cases hb
    · unfold slotSet at hb
      rw [List.getElem?_set_ne ij, List.getElem?_map] at hb
      cases hE2 : E[j]? with
      | none => rw [hE2] at hb; cases hb
      | some sl =>
        rw [hE2] at hb
        cases sl with
        | no => cases hb
        | own w => cases hb
        | bor q =>
          simp only [Option.map_some, killHead, Option.some.injEq] at hb
          by_cases hq : q.head? = some i
          · rw [if_pos hq] at hb; cases hb
          · rw [if_neg hq] at hb
            cases hb
            obtain ⟨w, e1, e2, e3⟩ := R.bor j _ hE2
            exact ⟨w, e1, e2, by rw [eget_set hq]; exact e3⟩
def eMove (i : Nat) (E : En) : Option (S × En) := match E[i]? with
  | some (.own s) => some (s, slotSet E i .no)
  | _ => none
theorem e_move {i : Nat} (hi : i < n) : EvE K n as (tVar i) (eMove i) := by
  intro F H σ E fp L R s0 E0 e Q q
  unfold eMove at e
  split at e
  · next s he =>
    cases e
    obtain ⟨v, hv⟩ := R.core.set i _ he
    have hv' : σ[i]? = some (some v) := by rwa [List.getElem?_append_left (by omega)] at hv
    obtain ⟨fr, fq, ow, R2, pm⟩ := R.takeSlot he hv
    exact ⟨v, hv', q v F H fr fq ((Grow.refl R.sub fp).less fun a m => pm.mem_iff.mpr m) R2 ow (pm.nodup_iff.mp R.nd) fun a m => R.off a (pm.mem_iff.mpr (List.mem_append_left _ m))⟩
  · cases e
def dLenD (d : En → Option Rs) (E : En) : Option Rs := match d E with
  | some r => match r.at E with
    | some (.dct false kss) => some (.val (.dat (.int (kss.length : Nat))))
    | _ => none
  | none => none
theorem p_lenD (h : EvP K n as te d) : EvP K n as (tCB (fun xs H Q => ∃ a kvs, xs = [V.ref a] ∧ H a = some (.dK kvs) ∧ Q (.int kvs.length) H) (tCons te tNil)) (dLenD d) := by
  intro F H σ E fp L R r e Q q
  unfold dLenD at e
  split at e
  · next r1 ed =>
    split at e
    · next kss es =>
      cases e
      refine h L R ed fun v F1 H1 f1 g1 a1 n1 o1 => ?_
      obtain ⟨fq, ow⟩ := a1.own (R.grow g1) es
      obtain ⟨a, kvs, u, fq', rfl, hH, hk, rd, hkk, ll, z⟩ := ow.dct_inv rfl
      have len : kvs.length = kss.length := by have := congrArg List.length hkk; simpa using this
      exact ⟨a, kvs, rfl, (z rfl).1, by rw [len]; exact q _ F1 H1 [] g1.drop (.dat (.int _)) List.nodup_nil (fun _ m => nomatch m)⟩
    · cases e
  · cases e
theorem dl_nil : ∀ E rs, dNil E = some rs → rs.length = 0 := fun E rs h => by cases h; rfl
theorem dl_cons {m : Nat} (h : ∀ E rs, dr E = some rs → rs.length = m) : ∀ E rs, dCons da dr E = some rs → rs.length = m + 1 := fun E rs e => by
  unfold dCons at e
  split at e
  · next a r ea er => cases e; rw [List.length_cons, h E r er]
  · cases e
def eIfE (dt : En → Option (Bool × En)) (da db : En → Option (S × En)) (E : En) : Option (S × En) := match dt E with
  | some (true, E1) => da E1
  | some (false, E1) => db E1
  | none => none
theorem e_ifE (ht : EvTE K n as tt dte) (ha : EvE K n as ta de) (hb : EvE K n as tb df) : EvE K n as (tIf tt ta tb) (eIfE dte de df) := by
  intro F H σ E fp L R s E' e Q q
  unfold eIfE at e
  split at e
  · next E1 et => exact ht L R et fun F1 H1 fp1 g1 R1 => iteT (ha L R1 e fun v F2 H2 fr fp2 g2 => q v F2 H2 fr fp2 (g1.trans g2))
  · next E1 et => exact ht L R et fun F1 H1 fp1 g1 R1 => iteF (hb L R1 e fun v F2 H2 fr fp2 g2 => q v F2 H2 fr fp2 (g1.trans g2))
  · cases e
/-- the promise of nothing -/
def gNone (_ : List S) : Option (S × List S) := none
/-- a promise that says less -/
theorem spMv_le {m : Nat} {g g' : List S → Option (S × List S)} (h : ∀ ss r, g' ss = some r → g ss = some r) {H : Hp} {E : XK} (p : spMv K m g' vs H Q E) : spMv K m g vs H Q E := by
  obtain ⟨hl, F, ss, fp, s, ss', sub, l, nd, of, hg, q⟩ := p
  exact ⟨hl, F, ss, fp, s, ss', sub, l, nd, of, h _ _ hg, q⟩
theorem fn_le {P : Program} {w : World} {mg : Str → Option Value} {base : Heap} {CX : CXT} {k m : Nat} {f : Addr} {fd : FuncData} {ps : List Str} {g g' : List S → Option (S × List S)} (G : FnOk P w K mg base CX k f fd ps (spMv K m g)) (h : ∀ ss r, g' ss = some r → g ss = some r) :
    FnOk P w K mg base CX k f fd ps (spMv K m g') := G.imp fun vs H Q E p => spMv_le h p
theorem fn_none {P : Program} {w : World} {mg : Str → Option Value} {base : Heap} {CX : CXT} {k : Nat} {f : Addr} {fd : FuncData} {ps : List Str} : FnOk P w K mg base CX k f fd ps (spMv K ps.length gNone) :=
  ⟨fun vs H Q E h => h.1, fun A outer s H args us vs Q E hr he hb hv h => by
    obtain ⟨_, F, ss, fp, s, ss', sub, l, nd, of, hg, q⟩ := h
    cases hg⟩
end Mv
/-! x = {k: v for ..} -/
namespace L2
open PySem PySem.Spec PyProof.Rows
section
variable {X : Cx}
theorem ps_setDc {i : Nat} {y : Str} {py pos spos : Pos} {kx vx tg iter : Expr} {ifs : List Expr} {scope : Scope} {own : List (Str × Nat)} {wi : TI} {g : TG} {tt : TT} {tk tv : TE}
    (calm : X.calm = true) (nd : X.N.Nodup) (at_i : X.N[i]? = some y) (loc : X.env.scope.names.lookup y = some .local)
    (sw : swapsWith (.DictComp kx vx [⟨tg, iter, ifs, 0⟩] scope pos) (some (.Name y py)) spos.line X.env = pure true) (walk : PI X tg iter wi) (blk : BlkOk X.N X.env.scope scope own)
    (pg : ∀ (s : Shared) (H : Hp) (C : Addr) (l : List (Str × Addr)) (fp : List Addr), PG (X.blk s H scope (compEnvC scope l C X.env) fp) tg g) (pts : ∀ (s : Shared) (H : Hp) (C : Addr) (l : List (Str × Addr)) (fp : List Addr), PTs (X.blk s H scope (compEnvC scope l C X.env) fp) ifs tt)
    (pk : ∀ (s : Shared) (H : Hp) (C : Addr) (l : List (Str × Addr)) (fp : List Addr), PE (X.blk s H scope (compEnvC scope l C X.env) fp) kx tk)
    (pv : ∀ (s : Shared) (H : Hp) (C : Addr) (l : List (Str × Addr)) (fp : List Addr), PE (X.blk s H scope (compEnvC scope l C X.env) fp) vx tv) (fold : ∀ x, foldedSetIterable iter X.env x = pure x := by intro _; rfl) :
    PS X (.Assign [.Name y py] (.DictComp kx vx [⟨tg, iter, ifs, 0⟩] scope pos) spos) (tAsg (tDc wi g tt tk tv (own.map (·.2))) (gName i)) := by
  constructor
  intro pn st σ H D inv want
  rw [exec_Assign_Name_used _ _ _ _ sw]
  refine wpAny_bind <| wpAny_standAt <| wpAny_bind ?_
  show wpAny _ X.A (do let _ ← comprehension (.DictComp kx vx [⟨tg, iter, ifs, 0⟩] scope pos) scope X.env (firstIterPos [⟨tg, iter, ifs, 0⟩] pos) newDict false (eval iter X.env) (some (assign (.Name y py) X.env))) _ _ st
  have want' : tDc wi g tt tk tv (own.map (·.2)) σ H (fun x H1 => gName i x σ H1 D.nx) := want
  refine wpAny_bind (thn (dc_core (Qf := fun _ s' => SP X pn D .next s') calm nd inv walk blk pg pts pk pv fold want' fun L C s' m H' inv' q names fp => ?_) fun _ _ z => wpAny_pure (wpAny_pure z))
  show wpAny _ _ (assign (.Name y py) X.env (.ref L)) _ _ _
  refine wpAny_assign_Name (store_ok2 (v := V.ref L) inv' nd at_i (.inl loc) rfl (fun s2 inv2 ⟨a, same, wh⟩ => ?_) (.inr loc))
  obtain ⟨p0, p1, p2, p3, p4, p5⟩ := fp
  have apart : C ≠ a := wh.elim (fun z => by rw [z]; exact p1) fun z e => p4 y a z e.symm
  exact ⟨m, names.sameBut same apart, fun h3 same3 => ⟨_, H', inv2.turned (t' := s2.toks) (fun b o hb e => (same3.2 b hb).trans e) p0 p1 p3 p4 p5, q⟩⟩
theorem swD_true {kx vx : Expr} {gs : List Comprehension} {scope : Scope} {pos py : Pos} {y : Str} {l : Nat} {env : Env} (kind : env.scope.kind = .function) (loc : env.scope.names.lookup y = some .local) (line : (py.line == pos.line) = true)
    (none : (scope.names.any fun (n, k) => n == y && (k == .local || k == .cell)) = false) : swapsWith (.DictComp kx vx gs scope pos) (some (.Name y py)) l env = pure true := by
  have k1 : env.kindOf y = some .local := loc
  have k2 : env.blockKind = .function := by unfold Env.blockKind; rw [kind]; rfl
  unfold swapsWith
  simp only [k2, k1, none, Expr.pos, line]
  rfl
end
end L2
/-! readings by the written part itself, for what stands within comprehensions -/
namespace Mv
open PySem PySem.Spec PyProof.Rows L2
variable {X : Cx} {K : PySem.W.Frag} {e : Expr}
theorem pe_K {t : PySem.W.Frag → TE} (h : PE X e (t X.K)) (hK : X.K = K := by rfl) : PE X e (t K) := hK ▸ h
def rLenK (K : PySem.W.Frag) : List V → Hp → VK → Prop := fun xs H Q => ∃ p ys, xs = [.ref p] ∧ (SqL K H p ys ∨ SqT K H p ys) ∧ Q (.int ys.length) H
theorem call_lenK : CallR X (.builtin "len") (rLenK X.K) := call_len_seq
def rListOfK (K : PySem.W.Frag) : List V → Hp → VK → Prop := fun xs H Q => ∃ p ys, xs = [.ref p] ∧ (SqL K H p ys ∨ SqT K H p ys) ∧ ∀ l, H l = none → Q (.ref l) (upd H l (.lst ys))
theorem call_listK : CallR X (.type "list") (rListOfK X.K) := call_list_of
def rDictPK (K : PySem.W.Frag) : List V → Hp → VK → Prop := fun xs H Q => ∃ (a : Addr) (ps : List Addr) (kvs : List (Key × V)), xs = [.ref a] ∧ SqL K H a (ps.map V.ref) ∧ Paired (fun p kv => SqT K H p [kV kv.1, kv.2]) ps kvs ∧
    ∀ p, H p = none → Q (.ref p) (upd H p (.dK (mergeK [] kvs)))
theorem call_dictPK (hc : X.calm = true) : CallR X (.type "dict") (rDictPK X.K) := call_dictP hc
theorem rc_minDK (hu : X.A.units + 64 < cLine) (hK : X.K = K) : RvSC K (rMinD X) fMinD := by
  subst hK
  exact rc_minD hu
variable {n : Nat} {as : Ro} {te : TE} {tl th : TO} {d : En → Option Rs} {dl dh : En → Option (Option Int)} {dn : En → Option (Nat × En)} {dlo dhi : En → Option (Option Int × En)}
theorem p_sliceL (h : EvP K n as te d) (hl : EvO K n as tl dl) (hh : EvO K n as th dh) : EvP K n as (tSl (rSlL K) te tl th) (dSl fSlL d dl dh) := p_slice (r := rSlL K) (f := fSlL) (@rv_slL K) h hl hh
theorem p_sliceT (h : EvP K n as te d) (hl : EvO K n as tl dl) (hh : EvO K n as th dh) : EvP K n as (tSl (rSlF K) te tl th) (dSl fSlT d dl dh) := p_slice (r := rSlF K) (f := fSlT) (@rv_slT K) h hl hh
theorem e_sliceL (h : EvL K n as (tCons te tNil) dn) (hl : ∀ as, EvOE K n as tl dlo) (hh : ∀ as, EvOE K n as th dhi) : EvE K n as (tSl (rSlL K) te tl th) (eSl fSlL dn dlo dhi) := e_slice (r := rSlL K) (f := fSlL) (@rv_slL K) h hl hh
theorem e_sliceT (h : EvL K n as (tCons te tNil) dn) (hl : ∀ as, EvOE K n as tl dlo) (hh : ∀ as, EvOE K n as th dhi) : EvE K n as (tSl (rSlF K) te tl th) (eSl fSlT dn dlo dhi) := e_slice (r := rSlF K) (f := fSlT) (@rv_slT K) h hl hh
end Mv
/-! reckoning what the printed worths come to -/
namespace Mv
open PySem PySem.Spec PyProof.Rows L2
variable {E E' E1 E2 : En} {s t : S} {d1 d2 : En → Option Out} {dt : En → Option (Bool × En)}
theorem dSeq_nx (h : d1 E = some (.nx E1)) : dSeq d1 d2 E = d2 E1 := by unfold dSeq; rw [h]
theorem dSeq_go {r : Option Out} (h : d1 E = some (.nx E1)) (h2 : d2 E1 = r) : dSeq d1 d2 E = r := by rw [dSeq_nx h]; exact h2
theorem fnG_rt {n : Nat} {ss ss' : List S} (h : d1 (entry n ss) = some (.rt s E)) (h2 : ownSs (E.drop n) = some ss') : fnG n d1 ss = some (s, ss') := by unfold fnG; rw [h]; simp only [h2]; rfl
theorem fnG_nx {n : Nat} {ss ss' : List S} (h : d1 (entry n ss) = some (.nx E)) (h2 : ownSs (E.drop n) = some ss') : fnG n d1 ss = some (.dat .none, ss') := by unfold fnG; rw [h]; simp only [h2]; rfl
theorem dSeq_rt (h : d1 E = some (.rt s E1)) : dSeq d1 d2 E = some (.rt s E1) := by unfold dSeq; rw [h]
theorem dSeq_ct (h : d1 E = some (.ct E1)) : dSeq d1 d2 E = some (.ct E1) := by unfold dSeq; rw [h]
theorem dSeq_bk (h : d1 E = some (.bk E1)) : dSeq d1 d2 E = some (.bk E1) := by unfold dSeq; rw [h]
theorem dIf_true (h : dt E = some (true, E1)) : dIf dt d1 d2 E = d1 E1 := by unfold dIf; rw [h]
theorem dIf_false (h : dt E = some (false, E1)) : dIf dt d1 d2 E = d2 E1 := by unfold dIf; rw [h]
theorem dIf_t {r : Option Out} (h : dt E = some (true, E1)) (h2 : d1 E1 = r) : dIf dt d1 d2 E = r := by rw [dIf_true h]; exact h2
theorem dIf_f {r : Option Out} (h : dt E = some (false, E1)) (h2 : d2 E1 = r) : dIf dt d1 d2 E = r := by rw [dIf_false h]; exact h2
theorem dLoop_end {rd : En → Nat → Option (Option Rs)} {bd : Rs → En → Option En} {db : En → Option Out} {fuel i : Nat} (h : rd E i = some none) : dLoop rd bd db fuel i E = some (.nx E) := by
  rw [dLoop.eq_def]; simp only [h]
theorem dLoop_nx {rd : En → Nat → Option (Option Rs)} {bd : Rs → En → Option En} {db : En → Option Out} {fuel i : Nat} {r : Rs} (h : rd E i = some (some r)) (hb : bd r E = some E1) (hd : db E1 = some (.nx E2)) : dLoop rd bd db (fuel + 1) i E = dLoop rd bd db fuel (i + 1) E2 := by
  rw [dLoop.eq_def]; simp only [h, hb, hd]
theorem dLoop_ct {rd : En → Nat → Option (Option Rs)} {bd : Rs → En → Option En} {db : En → Option Out} {fuel i : Nat} {r : Rs} (h : rd E i = some (some r)) (hb : bd r E = some E1) (hd : db E1 = some (.ct E2)) : dLoop rd bd db (fuel + 1) i E = dLoop rd bd db fuel (i + 1) E2 := by
  rw [dLoop.eq_def]; simp only [h, hb, hd]
theorem dLoop_rt {rd : En → Nat → Option (Option Rs)} {bd : Rs → En → Option En} {db : En → Option Out} {fuel i : Nat} {r : Rs} (h : rd E i = some (some r)) (hb : bd r E = some E1) (hd : db E1 = some (.rt s E2)) : dLoop rd bd db (fuel + 1) i E = some (.rt s E2) := by
  rw [dLoop.eq_def]; simp only [h, hb, hd]
theorem dLoop_bk {rd : En → Nat → Option (Option Rs)} {bd : Rs → En → Option En} {db : En → Option Out} {fuel i : Nat} {r : Rs} (h : rd E i = some (some r)) (hb : bd r E = some E1) (hd : db E1 = some (.bk E2)) : dLoop rd bd db (fuel + 1) i E = some (.nx E2) := by
  rw [dLoop.eq_def]; simp only [h, hb, hd]
theorem lcLoop_end {rd : En → Nat → Option (Option Rs)} {j : Nat} {de : En → Option (S × En)} {fuel i : Nat} {acc : List S} (h : rd E i = some none) : dLcLoop rd j dt de fuel i acc E = some (acc, E) := by
  rw [dLcLoop.eq_def]; simp only [h]
theorem lcLoop_yes {rd : En → Nat → Option (Option Rs)} {j : Nat} {de : En → Option (S × En)} {fuel i : Nat} {acc : List S} {r : Rs} {E3 : En} (h : rd E i = some (some r)) (hb : bName j r E = some E1) (ht : dt E1 = some (true, E2)) (he : de E2 = some (s, E3)) (hl : acc.length < 100000) :
    dLcLoop rd j dt de (fuel + 1) i acc E = dLcLoop rd j dt de fuel (i + 1) (acc ++ [s]) (slotSet E3 j .no) := by
  rw [dLcLoop.eq_def]; simp only [h, hb, ht, he, if_pos hl]
theorem lcLoop_no {rd : En → Nat → Option (Option Rs)} {j : Nat} {de : En → Option (S × En)} {fuel i : Nat} {acc : List S} {r : Rs} (h : rd E i = some (some r)) (hb : bName j r E = some E1) (ht : dt E1 = some (false, E2)) :
    dLcLoop rd j dt de (fuel + 1) i acc E = dLcLoop rd j dt de fuel (i + 1) acc (slotSet E2 j .no) := by
  rw [dLcLoop.eq_def]; simp only [h, hb, ht]
theorem dcLoop_end {rd : En → Nat → Option (Option Rs)} {j : Nat} {dk dv : En → Option (S × En)} {fuel i : Nat} {acc : KD} (h : rd E i = some none) : dDcLoop rd j dt dk dv fuel i acc E = some (acc, E) := by
  rw [dDcLoop.eq_def]; simp only [h]
theorem dcLoop_yes {rd : En → Nat → Option (Option Rs)} {j : Nat} {dk dv : En → Option (S × En)} {fuel i : Nat} {acc : KD} {r : Rs} {E3 E4 : En} {a d : PyData} {k : Key} (h : rd E i = some (some r)) (hb : bName j r E = some E1) (ht : dt E1 = some (true, E2)) (hk : dk E2 = some (.dat a, E3)) (ha : keyP a = some k) (hv : dv E3 = some (.dat d, E4)) (hl : acc.length < 100000) :
    dDcLoop rd j dt dk dv (fuel + 1) i acc E = dDcLoop rd j dt dk dv fuel (i + 1) (putS acc k d) (slotSet E4 j .no) := by
  rw [dDcLoop.eq_def]; simp only [h, hb, ht, hk, ha, hv, if_pos hl]
/-! data of the usual kinds -/
def kI (g : List (Int × Int)) : KD := g.map fun p => (.inl p.1, .int p.2)
def dI (g : List (Int × Int)) : S := dctD false (kI g)
def tI (ns : List Int) : S := .dat (.tuple (ns.map .int))
def lI (ns : List Int) : S := .lst (ns.map fun i => .dat (.int i))
theorem intsD_map (ns : List Int) : intsD (ns.map .int) = some ns := by
  induction ns with
  | nil => rfl
  | cons a r ih => simp [intsD, ih]
theorem kI_keys (g : List (Int × Int)) : (kI g).map (·.1) = (g.map (·.1)).map Sum.inl := by simp [kI]
theorem nlk_dct : ∀ (kds : KD), S.nlk (kds.map fun p => (p.1, S.dat p.2)) = true
  | [] => rfl
  | p :: r => by simp [S.nlk, S.nl, nlk_dct r]
theorem kix_at : ∀ {ks : List Key} {i : Nat} {k : Key}, ks.Nodup → ks[i]? = some k → kix ks k = some i
  | [], i, k, _, h => by simp at h
  | a :: r, 0, k, nd, h => by
    simp at h
    subst h
    simp [kix]
  | a :: r, i + 1, k, nd, h => by
    simp at h
    obtain ⟨h1, h2⟩ := List.nodup_cons.mp nd
    have : a ≠ k := fun e => h1 (e ▸ List.mem_of_getElem? h)
    simp [kix, this, kix_at h2 h]
theorem eCall_go {g : List S → Option (S × List S)} {dr : En → Option (List Rs)} {rs : List Rs} {ss ss' : List S} (h1 : dr E = some rs) (h2 : placesOk rs = true) (h3 : argS E rs = some ss) (h4 : g ss = some (s, ss')) : eCall g dr E = some (s, killAll (putAll E rs ss') rs) := by
  unfold eCall
  simp only [h1, if_pos h2, h3, h4]
theorem dSet_go {i : Nat} {de : En → Option (S × En)} (h : de E = some (s, E1)) : dSet i de E = some (.nx (slotSet E1 i (.own s))) := by unfold dSet; rw [h]
theorem cutD_from {α : Type} {xs : List α} {k : Nat} (h : k ≤ xs.length) : cutD xs (some (k : Int)) none = xs.drop k := by
  unfold cutD
  rw [HT.sIx_nat, HT.sIx_none, Nat.min_eq_left h, List.take_of_length_le]
  rw [List.length_drop]; exact Nat.le_refl _
theorem dcons_go {da : En → Option Rs} {dr : En → Option (List Rs)} {r : Rs} {rs : List Rs} (h : da E = some r) (h2 : dr E = some rs) : dCons da dr E = some (r :: rs) := by unfold dCons; rw [h, h2]
theorem slT_from {da dl : En → Option Rs} {ns : List Int} {k : Nat} (ha : da E = some (.val (tI ns))) (hl : dl E = some (.val (.dat (.int (k : Int))))) (h : k ≤ ns.length) : dSl fSlT da (dPart dl) dNoPart E = some (.val (tI (ns.drop k))) := by
  unfold dSl dPart
  rw [ha, hl]
  show (fSlT (tI ns) (some (k : Int)) none).map Rs.val = _
  show (some (S.dat (.tuple (cutD (ns.map PyData.int) (some (k : Int)) none)))).map Rs.val = _
  rw [cutD_from (by simpa using h), ← List.map_drop]; rfl
theorem ixN_in {n j : Nat} (hj : j < n) : ixN n (j : Int) = some j := by
  unfold ixN
  rw [if_pos (Int.natCast_nonneg j), if_pos (by exact_mod_cast hj)]; rfl
theorem ixT_I {da db : En → Option Rs} {ns : List Int} {k : Nat} {v : Int} (ha : da E = some (.val (tI ns))) (hb : db E = some (.val (.dat (.int (k : Int))))) (h : ns[k]? = some v) : dIxT da db E = some (.val (.dat (.int v))) := by
  unfold dIxT
  rw [ha, hb]
  have hk := (List.getElem?_eq_some_iff.mp h).1
  have e1 : ixN (ns.map PyData.int).length (k : Int) = some k := ixN_in (by simpa using hk)
  simp only [Rs.at, tI, e1, List.getElem?_map, h]
  rfl
end Mv
/-! reckoning comprehensions and walks -/
namespace Mv
open PySem PySem.Spec PyProof.Rows L2
variable {E E' E1 E2 : En} {s t : S}
theorem lc_pure {rd : En → Nat → Option (Option Rs)} {j : Nat} {de : En → Option (S × En)} {E : En} (out : Nat → S) (n : Nat) (hn : n < 100000)
    (hs : ∀ i, i < n → ∃ r E1 E3, rd E i = some (some r) ∧ bName j r E = some E1 ∧ de E1 = some (out i, E3) ∧ slotSet E3 j .no = E) (he : rd E n = some none) :
    ∀ (m i fuel : Nat) (acc : List S), i + m = n → m ≤ fuel → acc.length = i → dLcLoop rd j eYes de fuel i acc E = some (acc ++ (List.range' i m).map out, E) := by
  intro m
  induction m with
  | zero =>
    intro i fuel acc hi _ _
    have : i = n := by omega
    subst this
    rw [lcLoop_end he]; simp
  | succ m ih =>
    intro i fuel acc hi hf ha
    cases fuel with
    | zero => omega
    | succ fuel =>
      obtain ⟨r, E1, E3, h1, h2, h3, h4⟩ := hs i (by omega)
      rw [lcLoop_yes h1 h2 rfl h3 (by omega), h4, ih (i + 1) fuel (acc ++ [out i]) (by omega) (by omega) (by simp [ha])]
      simp [List.range'_succ]
theorem rdP_I {p : List Nat} {hs : List Int} {i : Nat} {h : Int} (h1 : E2.getLast? = some (.bor p)) (h2 : eget E2 p = some (lI hs)) (h3 : hs[i]? = some h) : rdP E2 i = some (some (.val (.dat (.int h)))) := by
  unfold rdP
  simp only [h1, h2, lI, List.getElem?_map, h3, Option.map_some]
  rfl
theorem rdP_end {p : List Nat} {hs : List Int} {i : Nat} (h1 : E2.getLast? = some (.bor p)) (h2 : eget E2 p = some (lI hs)) (h3 : hs.length ≤ i) : rdP E2 i = some none := by
  unfold rdP
  simp only [h1, h2, lI, List.getElem?_map, List.getElem?_eq_none_iff.mpr h3, Option.map_none]
theorem rdD_I {ns : List Int} {i : Nat} {h : Int} (h3 : ns[i]? = some h) : rdD (ns.map .int) E i = some (some (.val (.dat (.int h)))) := by
  unfold rdD
  simp [List.getElem?_map, h3]
theorem rdD_end {ns : List Int} {i : Nat} (h3 : ns.length ≤ i) : rdD (ns.map .int) E i = some none := by
  unfold rdD
  simp [List.getElem?_map, List.getElem?_eq_none_iff.mpr h3]
theorem map_range' {α β : Type} (f : α → β) (xs : List α) (out : Nat → β) (h : ∀ i a, xs[i]? = some a → out i = f a) : (List.range' 0 xs.length).map out = xs.map f := by
  apply List.ext_getElem?
  intro i
  rw [List.getElem?_map, List.getElem?_map]
  by_cases hi : i < xs.length
  · have e : (List.range' 0 xs.length)[i]? = some i := by rw [List.getElem?_range' (by omega)]; simp
    rw [e, List.getElem?_eq_getElem hi]
    simp [h i xs[i] (List.getElem?_eq_getElem hi)]
  · have e : (List.range' 0 xs.length)[i]? = none := List.getElem?_eq_none_iff.mpr (by simp; omega)
    rw [e, List.getElem?_eq_none_iff.mpr (by omega)]; rfl
theorem boolsD_trues (n : Nat) : boolsD (List.replicate n (PyData.bool true)) = some (List.replicate n true) := by
  induction n with
  | zero => rfl
  | succ n ih => rw [List.replicate_succ, List.replicate_succ]; simp [boolsD, ih]
theorem toDs_dats : ∀ (ds : List PyData), S.toDs (ds.map S.dat) = some ds
  | [] => rfl
  | d :: ds => by simp [S.toDs, S.toD, toDs_dats ds]
theorem all_trues {n : Nat} : fAll [.list (List.replicate n (.bool true))] = some (.bool true) := by
  simp [fAll, boolsD_trues]
variable {de df : En → Option (S × En)} {a c : PyData}
theorem eAndV_t {r : Option (S × En)} (h : de E = some (.dat (.bool true), E1)) (h2 : df E1 = r) : eAndV de df E = r := by unfold eAndV; rw [h]; exact h2
theorem eCB1_go {f : List PyData → Option PyData} (h : de E = some (s, E1)) (h2 : s.toD = some a) (h3 : f [a] = some c) : eCB1 f de E = some (.dat c, E1) := by unfold eCB1; rw [h]; simp only [h2, h3]; rfl
theorem eCS_go {f : List S → Option S} (h : de E = some (s, E1)) (h3 : f [s] = some t) : eCS f de E = some (t, E1) := by unfold eCS; rw [h]; simp only [h3]; rfl
theorem dRet_go (h : de E = some (s, E1)) : dRet de E = some (.rt s E1) := by unfold dRet; rw [h]
theorem dDrop_go (h : de E = some (s, E1)) : dDrop de E = some (.nx E1) := by unfold dDrop; rw [h]
theorem eTest_go {b : Bool} (h : de E = some (.dat (.bool b), E1)) : eTest de E = some (b, E1) := by unfold eTest; rw [h]
theorem eNot_go {dt : En → Option (Bool × En)} {b : Bool} (h : dt E = some (b, E1)) : eNot dt E = some (!b, E1) := by unfold eNot; rw [h]; rfl
theorem eOr_f {dt du : En → Option (Bool × En)} {r : Option (Bool × En)} (h : dt E = some (false, E1)) (h2 : du E1 = r) : eOr dt du E = r := by unfold eOr; rw [h]; exact h2
theorem eLc_go {src : En → Option Src} {j : Nat} {dt : En → Option (Bool × En)} {acc : List S} {c : Src} (h : src E = some c) (h2 : dLcLoop c.rd j dt de c.fuel 0 [] (slotSet (c.env ++ c.exE) j .no) = some (acc, E1)) : eLc src j dt de E = some (.lst acc, stripE c E1) := by
  unfold eLc; rw [h]; simp only [h2]
theorem dFor_go {src : En → Option Src} {bd : Rs → En → Option En} {db : En → Option Out} {c : Src} (h : src E = some c) (h2 : dLoop c.rd bd db c.fuel 0 (c.env ++ c.exE) = some (.nx E1)) : dFor src bd db E = some (.nx (stripE c E1)) := by
  unfold dFor; rw [h]; simp only [h2]; rfl
/-- a loop of n turns that each go on -/
theorem loop_nx {rd : En → Nat → Option (Option Rs)} {bd : Rs → En → Option En} {db : En → Option Out} (env : Nat → En) (n : Nat) (hs : ∀ i, i < n → ∃ r E1, rd (env i) i = some (some r) ∧ bd r (env i) = some E1 ∧ db E1 = some (.nx (env (i + 1)))) (he : rd (env n) n = some none) :
    ∀ (m i fuel : Nat), i + m = n → m ≤ fuel → dLoop rd bd db fuel i (env i) = some (.nx (env n)) := by
  intro m
  induction m with
  | zero => intro i fuel hi _; have : i = n := by omega
            subst this; exact dLoop_end he
  | succ m ih =>
    intro i fuel hi hf
    cases fuel with
    | zero => omega
    | succ fuel =>
      obtain ⟨r, E1, h1, h2, h3⟩ := hs i (by omega)
      rw [dLoop_nx h1 h2 h3]
      exact ih (i + 1) fuel (by omega) (by omega)
/-- a loop whose state is found on the way: J i E what holds ahead of turn i -/
theorem loop_inv {rd : En → Nat → Option (Option Rs)} {bd : Rs → En → Option En} {db : En → Option Out} (J : Nat → En → Prop) (n : Nat) (hs : ∀ i E, i < n → J i E → ∃ r E1 E2, rd E i = some (some r) ∧ bd r E = some E1 ∧ db E1 = some (.nx E2) ∧ J (i + 1) E2) (he : ∀ E, J n E → rd E n = some none) :
    ∀ (m i fuel : Nat) (E : En), i + m = n → m ≤ fuel → J i E → ∃ E', dLoop rd bd db fuel i E = some (.nx E') ∧ J n E' := by
  intro m
  induction m with
  | zero => intro i fuel E hi _ hJ; have : i = n := by omega
            subst this; exact ⟨E, dLoop_end (he E hJ), hJ⟩
  | succ m ih =>
    intro i fuel E hi hf hJ
    cases fuel with
    | zero => omega
    | succ fuel =>
      obtain ⟨r, E1, E2, h1, h2, h3, h4⟩ := hs i E (by omega) hJ
      rw [dLoop_nx h1 h2 h3]
      exact ih (i + 1) fuel E2 (by omega) (by omega) h4
/-- the same of a comprehension that has effects -/
theorem lc_inv {rd : En → Nat → Option (Option Rs)} {j : Nat} {de : En → Option (S × En)} (J : Nat → List S → En → Prop) (n : Nat) (hn : n < 100000)
    (hs : ∀ i acc E, i < n → J i acc E → ∃ r E1 s E3, rd E i = some (some r) ∧ bName j r E = some E1 ∧ de E1 = some (s, E3) ∧ J (i + 1) (acc ++ [s]) (slotSet E3 j .no)) (he : ∀ acc E, J n acc E → rd E n = some none) :
    ∀ (m i fuel : Nat) (acc : List S) (E : En), i + m = n → m ≤ fuel → acc.length = i → J i acc E → ∃ acc' E', dLcLoop rd j eYes de fuel i acc E = some (acc', E') ∧ J n acc' E' := by
  intro m
  induction m with
  | zero => intro i fuel acc E hi _ _ hJ; have : i = n := by omega
            subst this; exact ⟨acc, E, lcLoop_end (he acc E hJ), hJ⟩
  | succ m ih =>
    intro i fuel acc E hi hf ha hJ
    cases fuel with
    | zero => omega
    | succ fuel =>
      obtain ⟨r, E1, s, E3, h1, h2, h3, h4⟩ := hs i acc E (by omega) hJ
      rw [lcLoop_yes h1 h2 rfl h3 (by omega)]
      exact ih (i + 1) fuel (acc ++ [s]) _ (by omega) (by omega) (by simp [ha]) h4
theorem iRange_go {d : En → Option Rs} {j : Int} (h : d E = some (.val (.dat (.int j)))) (h1 : 0 ≤ j) (h2 : j < 1000000) : iRange d E = some ⟨E, [], fun _ i => some (if i < j.toNat then some (.val (.dat (.int (i : Nat)))) else none), j.toNat⟩ := by
  unfold iRange
  rw [h]
  exact if_pos ⟨by omega, by omega⟩
theorem iRangeE_go {d : En → Option (S × En)} {j : Int} (h : d E = some (.dat (.int j), E1)) (h1 : 0 ≤ j) (h2 : j < 1000000) : iRangeE d E = some ⟨E1, [], fun _ i => some (if i < j.toNat then some (.val (.dat (.int (i : Nat)))) else none), j.toNat⟩ := by
  unfold iRangeE
  rw [h]
  exact if_pos ⟨by omega, by omega⟩
theorem rng_rd {n i : Nat} (h : i < n) : (fun (_ : En) (i : Nat) => (some (if i < n then some (Rs.val (.dat (.int (i : Nat)))) else none) : Option (Option Rs))) E i = some (some (.val (.dat (.int (i : Nat))))) := by
  show some (if i < n then _ else _) = _
  rw [if_pos h]
theorem rng_end {n : Nat} : (fun (_ : En) (i : Nat) => (some (if i < n then some (Rs.val (.dat (.int (i : Nat)))) else none) : Option (Option Rs))) E n = some none := by
  show some (if n < n then _ else _) = _
  rw [if_neg (by omega)]
end Mv
/-! rules more: xs * n, d.get(k, x), a < b of data, max and min of a list, a, b = x, y, tuples of what calls tell -/
namespace Mv
open PySem PySem.Spec PyProof.Rows L2
variable {X : Cx} {K : PySem.W.Frag} {F F' F1 F2 F3 H H' H1 H2 H3 : Hp} {v u x y w : V} {vs ws xs : List V} {s t c : S} {ss tts : List S} {fp fq fr fp' fp1 fp2 f1 f2 : List Addr} {ρ as : Ro} {E E' : En} {n : Nat}
variable {W : WXm} {te ta tb tc tk tv td : TE} {d da db dc dk dv : En → Option Rs} {tr : TA} {dr : En → Option (List Rs)} {de df : En → Option (S × En)} {dl : En → Option (Nat × En)} {ds : List PyData} {Q : VK}
def fRep : S → S → Option S
  | .lst a, .dat (.int k) => match datsS a with
    | some _ => if 0 ≤ k ∧ k < 100000 ∧ a.length * k.toNat < 100000 then some (.lst (List.replicate k.toNat a).flatten) else none
    | none => none
  | _, _ => none
theorem OwnL.rep (l : OwnL K F H vs ss []) : ∀ (k : Nat), OwnL K F H (List.replicate k vs).flatten (List.replicate k ss).flatten []
  | 0 => .nil
  | k + 1 => by
    rw [List.replicate_succ, List.replicate_succ, List.flatten_cons, List.flatten_cons]
    simpa using l.append (OwnL.rep l k)
theorem rv_rep : RvS2 K rRep fRep := by
  intro F H x y a b c f1 f2 sub o1 o2 e Q m
  unfold fRep at e
  split at e
  · next a k =>
    split at e
    · next d1 e1 =>
      split at e
      · next hl =>
        cases e
        obtain ⟨l, xs, _, rfl, hH, l1, _⟩ := o1.lst_inv rfl
        cases (o2.dat_inv rfl).1
        obtain ⟨da1, rfl⟩ := datsS_dp l1 e1
        refine ⟨l, k, xs, rfl, rfl, hH, by omega, by omega, by rw [l1.length, sizeLine_eq]; omega, mk_lst sub (OwnL.rep l1 _) m⟩
      · cases e
    · cases e
  · cases e
def dDGet2 (da db dx : En → Option Rs) (E : En) : Option Rs := match da E, db E, dx E with
  | some r, some rk, some (.val (.dat d)) => match r.at E, rk.key with
    | some (.dct _ kss), some k => match kix (kss.map (·.1)) k with
      | some i => match (kss.map (·.2))[i]? with
        | some s => r.kid i s
        | none => none
      | none => some (.val (.dat d))
    | _, _ => none
  | _, _, _ => none
theorem p_dget2 (ha : EvP K n as ta da) (hb : EvP K n as tb db) (hc : EvP K n as tc dc) : EvP K n as (tDGet2 ta tb tc) (dDGet2 da db dc) := by
  intro F H σ E fp L R r' e Q q
  unfold dDGet2 at e
  split at e
  · next r rk d ea eb ec =>
    split at e
    · next l kss k es ek =>
      refine ha L R ea fun x F1 H1 f1 g1 r1 n1 o1 => ?_
      have R1 := R.grow g1
      obtain ⟨fq1, ow1⟩ := r1.own R1 es
      obtain ⟨a, kvs1, u1, fq1', rfl, hH1, hk1, rd1, hkk1, ll1, _⟩ := ow1.dct_inv rfl
      refine ⟨a, rfl, .inl ⟨kvs1, rd1⟩, hb L R1 eb fun y F2 H2 f2 g2 r2 n2 o2 => hc L (R1.grow g2) ec fun z F3 H3 f3 g3 r3 n3 o3 => ?_⟩
      have R3 := (R1.grow g2).grow g3
      have r1' := (r1.grow R1 g2).grow (R1.grow g2) g3
      have ky := r2.key ek
      subst ky
      obtain ⟨fq, ow⟩ := r1'.own R3 es
      obtain ⟨a', kvs, u, fq', ea', hH, hk, rd, hkk, ll, _⟩ := ow.dct_inv rfl
      cases ea'
      have gg : Grow F H [] F3 H3 [] := (((g1.seq0 g2).drop).seq0 g3).drop
      cases hi : kix (kss.map (·.1)) k with
      | none =>
        rw [hi] at e
        cases e
        exact ⟨none, .inl ⟨kvs, k, rd, rfl, by rw [valV_kix, hkk, hi]; rfl⟩, q z F3 H3 f3 (((g1.seq0 g2).drop).seq0 g3) r3 n3 o3⟩
      | some i =>
        rw [hi] at e
        dsimp only at e
        split at e
        · next s hs =>
          obtain ⟨w, f, hw, ow2⟩ := ll.nth hs
          refine ⟨some w, .inl ⟨kvs, k, rd, rfl, by rw [valV_kix, hkk, hi]; exact hw.symm⟩, ?_⟩
          exact q w F3 H3 [] gg (r1'.kid R3 es hH (by rw [hk]; exact hw) hs ow2 e) List.nodup_nil (fun _ m => nomatch m)
        · cases e
    · cases e
  · cases e
def fLtD (a b : PyData) : Option PyData := if PySem.W.alike a b = true ∧ isNone a = false ∧ min a.depth b.depth < 60 then some (.bool (PySem.W.dataLt a b)) else none
theorem rv_ltD (hu : X.A.units + 64 < cLine) (hK : X.K = K) : Rv2 K (rLtD X) fLtD := by
  subst hK
  intro H x y a b c ha hb e Q q
  unfold fLtD at e
  split at e
  · next h =>
    cases e
    exact ⟨a, b, ha.dp, hb.dp, h.1, fun z => by rw [z] at h; simp [isNone] at h, by omega, q rfl⟩
  · cases e
def maxI : List Int → Int
  | [] => 0
  | a :: r => r.foldl max a
def minI : List Int → Int
  | [] => 0
  | a :: r => r.foldl min a
theorem foldl_maxI : ∀ (r : List Int) (a : Int), (r.foldl max a = a ∨ r.foldl max a ∈ r) ∧ a ≤ r.foldl max a ∧ ∀ y ∈ r, y ≤ r.foldl max a
  | [], a => ⟨.inl rfl, Int.le_refl _, fun _ m => nomatch m⟩
  | b :: r, a => by
    obtain ⟨h1, h2, h3⟩ := foldl_maxI r (max a b)
    rw [List.foldl_cons]
    refine ⟨?_, by omega, fun y m => ?_⟩
    · rcases h1 with h | h
      · by_cases ab : a ≤ b
        · right; rw [h, Int.max_eq_right ab]; exact List.mem_cons_self
        · left; rw [h, Int.max_eq_left (by omega)]
      · right; exact List.mem_cons_of_mem _ h
    · rcases List.mem_cons.mp m with rfl | m
      · omega
      · exact h3 y m
theorem foldl_minI : ∀ (r : List Int) (a : Int), (r.foldl min a = a ∨ r.foldl min a ∈ r) ∧ r.foldl min a ≤ a ∧ ∀ y ∈ r, r.foldl min a ≤ y
  | [], a => ⟨.inl rfl, Int.le_refl _, fun _ m => nomatch m⟩
  | b :: r, a => by
    obtain ⟨h1, h2, h3⟩ := foldl_minI r (min a b)
    rw [List.foldl_cons]
    refine ⟨?_, by omega, fun y m => ?_⟩
    · rcases h1 with h | h
      · by_cases ab : a ≤ b
        · left; rw [h, Int.min_eq_left ab]
        · right; rw [h, Int.min_eq_right (by omega)]; exact List.mem_cons_self
      · right; exact List.mem_cons_of_mem _ h
    · rcases List.mem_cons.mp m with rfl | m
      · omega
      · exact h3 y m
def fBest (pick : List Int → Int) : List S → Option S
  | [s] => match s.seqL with
    | some ds => match intsD ds with
      | some (a :: r) => some (.dat (.int (pick (a :: r))))
      | _ => none
    | none => none
  | _ => none
theorem rc_maxL : RvSC K (rMax K) (fBest maxI) := by
  intro F H vs ss c sub o e Q m
  unfold fBest at e
  split at e
  · next s =>
    split at e
    · next ds hd =>
      split at e
      · next a r hn =>
        cases e
        obtain ⟨v, f, rfl, o'⟩ := o.one
        clear o
        have o := o'
        obtain ⟨p, xs, rfl, hq, da⟩ := o.sqL sub hd
        obtain rfl := intsD_dp da hn
        refine ⟨p, a :: r, rfl, hq, by simp, fun z hz hle => ?_⟩
        obtain ⟨h1, h2, h3⟩ := foldl_maxI r a
        have : z = maxI (a :: r) := by
          have e1 : maxI (a :: r) ∈ a :: r := h1.elim (fun e => by show r.foldl max a ∈ _; rw [e]; exact List.mem_cons_self) fun m => List.mem_cons_of_mem _ m
          have e2 := hle _ e1
          have e3 : z ≤ maxI (a :: r) := (List.mem_cons.mp hz).elim (fun e => by rw [e]; exact h2) (h3 z)
          omega
        rw [this]
        exact mk_dat sub (.int _) m
      · cases e
    · cases e
  · cases e
theorem rc_minL : RvSC K (rMin K) (fBest minI) := by
  intro F H vs ss c sub o e Q m
  unfold fBest at e
  split at e
  · next s =>
    split at e
    · next ds hd =>
      split at e
      · next a r hn =>
        cases e
        obtain ⟨v, f, rfl, o'⟩ := o.one
        clear o
        have o := o'
        obtain ⟨p, xs, rfl, hq, da⟩ := o.sqL sub hd
        obtain rfl := intsD_dp da hn
        refine ⟨p, a :: r, rfl, hq, by simp, fun z hz hle => ?_⟩
        obtain ⟨h1, h2, h3⟩ := foldl_minI r a
        have : z = minI (a :: r) := by
          have e1 : minI (a :: r) ∈ a :: r := h1.elim (fun e => by show r.foldl min a ∈ _; rw [e]; exact List.mem_cons_self) fun m => List.mem_cons_of_mem _ m
          have e2 := hle _ e1
          have e3 : minI (a :: r) ≤ z := (List.mem_cons.mp hz).elim (fun e => by rw [e]; exact h2) (h3 z)
          omega
        rw [this]
        exact mk_dat sub (.int _) m
      · cases e
    · cases e
  · cases e
def dPar (i j : Nat) (dr : En → Option (List Rs)) (E : En) : Option Out := match dr E with
  | some [.val (.dat a), .val (.dat b)] => some (.nx (slotSet (slotSet E i (.own (.dat a))) j (.own (.dat b))))
  | _ => none
theorem s_par {i j : Nat} (hi : i < n) (hj : j < n) (h : EvA K n as tr dr) : EvS K n as W (tPar i j tr) (dPar i j dr) := by
  intro F H σ E fp L R o e D g
  unfold dPar at e
  split at e
  · next a b er =>
    cases e
    refine h L R er fun vs F1 H1 fr g1 al nd of => ?_
    have R1 := R.grow g1
    cases al with
    | @cons v _ _ _ fa fb qa ta => cases ta with
      | @cons w _ _ _ fc fd qb tb =>
        cases tb
        have d1 := (Own.dat_inv (show Own K F1 H1 v (.dat a) fa from qa) rfl).1
        have d2 := (Own.dat_inv (show Own K F1 H1 w (.dat b) fc from qb) rfl).1
        obtain ⟨fq, R2, sb⟩ := R1.setSlot (i := i) (e := .own (.dat a)) (v := v) (fr := []) (by rw [List.length_append]; omega) (.dat d1) R1.nd (fun _ m => nomatch m)
        obtain ⟨fz, R3, sc⟩ := R2.setSlot (i := j) (e := .own (.dat b)) (v := w) (fr := []) (by rw [List.length_set, List.length_append]; omega) (.dat d2) R2.nd (fun _ m => nomatch m)
        refine ⟨v, w, rfl, g _ F1 H1 fz (by rw [List.length_set, List.length_set]; exact L) ((g1.mine).less fun a m => ?_) ?_⟩
        · exact by simpa using sb a (by simpa using sc a m)
        · rw [set_app (by rw [List.length_set]; omega), set_app (by omega)]
          exact R3
  · cases e
theorem e_tupE (hl : EvL K n as tr dl) : EvE K n as (tTupF tr) (eEff dl fun k => ePure (dTupL (dGhs k))) := by
  have hc : ∀ vs : List V, EvE K n (as ++ vs.map some) (fun _ H Q => vs.length ≤ sizeLine ∧ ∀ (p : Addr) (ob : Obj), H p = none → ob.dict = none → Q (.ref p) (upd H p (.frz ob (.tup vs)))) (ePure (dTupL (dGhs vs.length))) := by
    intro vs F H σ E fp L R s E' e Q q
    exact e_pure (p_tup (tr := tVs vs) a_ghs) L R e q
  intro F H σ E fp L R s E' e Q q
  exact e_eff (C := fun vs H Q => vs.length ≤ sizeLine ∧ ∀ (p : Addr) (ob : Obj), H p = none → ob.dict = none → Q (.ref p) (upd H p (.frz ob (.tup vs)))) (dcc := fun k => ePure (dTupL (dGhs k))) hl hc L R e q
end Mv
/-! own classes: fields read and stored -/
namespace Mv
open PySem PySem.Spec PyProof.Rows L2
variable {K : PySem.W.Frag} {F F' F1 F2 F3 H H' H1 H2 H3 : Hp} {v u x y w : V} {vs ws xs : List V} {s t c : S} {ss tts : List S} {fp fq fr fp' fp1 fp2 f1 f2 : List Addr} {ρ as : Ro} {E E' : En} {n : Nat}
variable {W : WXm} {te ta tb tc tk tv td : TE} {d da db dc dk dv : En → Option Rs} {tr : TA} {dr : En → Option (List Rs)} {de df : En → Option (S × En)} {tt : TT} {dte : En → Option (Bool × En)} {Q : VK}

/-- where a name stands in a list of names -/
def fixN : List Str → Str → Option Nat
  | [], _ => none
  | a :: r, k => if a = k then some 0 else (fixN r k).map (· + 1)
theorem lookup_fix (f : Str) : ∀ fs : List (Str × V), fs.lookup f = (fixN (fs.map (·.1)) f).bind fun i => (fs.map (·.2))[i]?
  | [] => rfl
  | (a, b) :: r => by
    by_cases e : a = f
    · subst e; simp [List.lookup, fixN]
    · have : (f == a) = false := by simpa using fun z => e z.symm
      simp only [List.lookup, this, List.map_cons, fixN, if_neg e]
      rw [lookup_fix f r]
      cases fixN (r.map (·.1)) f <;> simp
theorem fixN_take {f : Str} : ∀ {l : List Str} {j : Nat} (k : Nat), fixN l f = some j → j < k → fixN (l.take k) f = some j
  | [], _, _, h, _ => by simp [fixN] at h
  | a :: r, j, 0, _, hk => by omega
  | a :: r, j, k + 1, h, hk => by
    rw [List.take_succ_cons]
    unfold fixN at h ⊢
    split at h
    · next e => cases h; rw [if_pos e]
    · next e =>
      obtain ⟨i, hi, rfl⟩ := Option.map_eq_some_iff.mp h
      rw [if_neg e, fixN_take k hi (by omega)]; rfl
theorem fixN_take_none {f : Str} : ∀ {l : List Str} (k : Nat), fixN l f = none → fixN (l.take k) f = none
  | [], k, _ => by simp [fixN]
  | a :: r, 0, _ => rfl
  | a :: r, k + 1, h => by
    rw [List.take_succ_cons]
    unfold fixN at h ⊢
    split at h
    · cases h
    · next e => rw [if_neg e, fixN_take_none k (Option.map_eq_none_iff.mp h)]; rfl
theorem fixN_take_out {f : Str} : ∀ {l : List Str} {j : Nat} (k : Nat), fixN l f = some j → k ≤ j → fixN (l.take k) f = none
  | [], _, _, h, _ => by simp [fixN] at h
  | a :: r, j, 0, _, _ => rfl
  | a :: r, j, k + 1, h, hk => by
    rw [List.take_succ_cons]
    unfold fixN at h ⊢
    split at h
    · cases h; omega
    · next e =>
      obtain ⟨i, hi, rfl⟩ := Option.map_eq_some_iff.mp h
      rw [if_neg e, fixN_take_out k hi (by omega)]; rfl
theorem putF_in {f : Str} {v : V} : ∀ {fs : List (Str × V)} {j : Nat}, fixN (fs.map (·.1)) f = some j → (putF f v fs).map (·.1) = fs.map (·.1) ∧ (putF f v fs).map (·.2) = (fs.map (·.2)).set j v
  | [], _, h => by simp [fixN] at h
  | (a, b) :: r, j, h => by
    rw [List.map_cons] at h
    unfold fixN at h
    unfold putF
    split at h
    · next e => cases h; rw [if_pos e]; exact ⟨rfl, rfl⟩
    · next e =>
      obtain ⟨i, hi, rfl⟩ := Option.map_eq_some_iff.mp h
      rw [if_neg e]
      obtain ⟨h1, h2⟩ := putF_in (v := v) hi
      exact ⟨by rw [List.map_cons, List.map_cons, h1], by rw [List.map_cons, List.map_cons, h2]; rfl⟩
theorem putF_out {f : Str} {v : V} : ∀ {fs : List (Str × V)}, fixN (fs.map (·.1)) f = none → putF f v fs = fs ++ [(f, v)]
  | [], _ => rfl
  | (a, b) :: r, h => by
    rw [List.map_cons] at h
    unfold fixN at h
    unfold putF
    split at h
    · cases h
    · next e => rw [if_neg e, putF_out (Option.map_eq_none_iff.mp h)]; rfl
theorem fixN_get {f : Str} : ∀ {l : List Str} {j : Nat}, fixN l f = some j → l[j]? = some f
  | [], _, h => by simp [fixN] at h
  | a :: r, j, h => by
    unfold fixN at h
    split at h
    · next e => cases h; simp [e]
    · obtain ⟨i, hi, rfl⟩ := Option.map_eq_some_iff.mp h
      simpa using fixN_get hi

/-- an instance's node -/
theorem Own.ins_inv {c : Nat} {ss : List S} (o : Own K F H v s fp) (e : s = .ins c ss) :
    ∃ a C dx fs fq, v = .ref a ∧ H a = some (.ins C dx fs) ∧ clsOf K c C ∧ H dx = some (.own a) ∧ fs.map (·.1) = (clsFld c).take ss.length ∧ ss.length ≤ (clsFld c).length ∧ OwnL K F H (fs.map (·.2)) ss fq ∧ fp = a :: dx :: fq := by
  cases o with
  | dat _ => cases e
  | con => cases e
  | @node a ob _ ex fq h hd ll =>
    subst e
    cases ob with
    | ins C dx fs =>
      obtain ⟨h1, rfl, h3, h4, h5⟩ := hd
      exact ⟨a, C, dx, fs, fq, rfl, h, h1, h3, h4, h5, ll, rfl⟩
    | frz o u => cases u <;> exact hd.elim
    | _ => exact hd.elim
  | lck => cases e
/-- o.f, the j-th of its class's names -/
def dFld (c j : Nat) (da : En → Option Rs) (E : En) : Option Rs := match da E with
  | some r => match r.at E with
    | some (.ins c' ss) => if c' = c then match ss[j]? with
        | some s => r.kid j s
        | none => none
      else none
    | _ => none
  | none => none
theorem p_fld {c j : Nat} {C : Addr} {f : Str} (hC : clsOf K c C) (cl : Cls K C) (na : NoAttr K C f) (hf : fixN (clsFld c) f = some j) (ha : EvP K n as ta da) : EvP K n as (tFld K ta f) (dFld c j da) := by
  intro F H σ E fp L R r' e Q q
  unfold dFld at e
  split at e
  · next r ea =>
    split at e
    · next c' ss es =>
      split at e
      · next hc =>
        subst hc
        split at e
        · next s hs =>
          refine ha L R ea fun x F1 H1 f1 g1 r1 n1 o1 => ?_
          have R1 := R.grow g1
          obtain ⟨fq, o⟩ := r1.own R1 es
          obtain ⟨a, C', dx, fs, fq', rfl, hH, hC', _, hn, _, ll, _⟩ := o.ins_inv rfl
          cases hC.one hC'
          obtain ⟨w, f', hw, ow⟩ := ll.nth hs
          refine ⟨a, C, dx, fs, w, rfl, hH, cl, na, ?_, ?_⟩
          · rw [lookup_fix, hn, fixN_take _ hf (List.getElem?_eq_some_iff.mp hs).1]; exact hw
          · exact q w F1 H1 [] g1.drop (r1.kid R1 es hH hw hs ow e) List.nodup_nil (fun _ m => nomatch m)
        · cases e
      · cases e
    · cases e
  · cases e
/-- o.f = e -/
def oFPut (c j : Nat) (t s : S) : Option (S × S) := match t with
  | .ins c' ss => if c' = c then if j < ss.length then some (.ins c (ss.set j s), .dat .none) else if j = ss.length then some (.ins c (ss ++ [s]), .dat .none) else none else none
  | _ => none
def rFPut (K : PySem.W.Frag) (f : Str) (u y : V) (H : Hp) (Q : VK) : Prop := ∃ a C dx fs, u = .ref a ∧ H a = some (.ins C dx fs) ∧ Cls K C ∧ NoAttr K C f ∧ fs.length < 1000 ∧ Q .non (upd H a (.ins C dx (putF f y fs)))
theorem fld_few : ∀ c, (clsFld c).length < 900
  | 0 | 1 | 2 | 3 | 4 => by decide
  | _ + 5 => by simp [clsFld]
theorem nd_fput {c j : Nat} {C : Addr} {f : Str} (hC : clsOf K c C) (cl : Cls K C) (na : NoAttr K C f) (hf : fixN (clsFld c) f = some j) : Nd1 K (rFPut K f) (oFPut c j) := by
  intro F H u y t s t' c1 fp1 fr sub ot os nd of e Q q
  unfold oFPut at e
  split at e
  · next c' ss =>
    split at e
    · next hc =>
      subst hc
      obtain ⟨a, C', dx, fs, fq, rfl, hH, hC', hdx, hn, hle, ll, rfl⟩ := ot.ins_inv rfl
      cases hC.one hC'
      have len : fs.length = ss.length := by have := ll.length; rwa [List.length_map] at this
      have nda : a ∉ fr := fun m => (List.nodup_append.mp nd).2.2 a m a List.mem_cons_self rfl
      have ndx : dx ∉ fr := fun m => (List.nodup_append.mp nd).2.2 dx m dx (List.mem_cons_of_mem _ List.mem_cons_self) rfl
      have nd2 := (List.nodup_append.mp nd).2.1
      have nq : a ∉ fq := fun m => (List.nodup_cons.mp nd2).1 (List.mem_cons_of_mem _ m)
      have nax : a ≠ dx := fun z => (List.nodup_cons.mp nd2).1 (by rw [z]; exact List.mem_cons_self)
      have nxq : dx ∉ fq := (List.nodup_cons.mp (List.nodup_cons.mp nd2).2).1
      have fa : F a = none := of a (List.mem_append_right _ List.mem_cons_self)
      have few := fld_few c'
      refine ⟨a, C, dx, fs, rfl, hH, cl, na, by omega, ?_⟩
      have g0 : Grow F H [a] F (upd H a (.ins C dx (putF f y fs))) [a] := Grow.write sub fa
      have key : ∀ (ss' : List S) (g : List Addr), OwnL K F (upd H a (.ins C dx (putF f y fs))) ((putF f y fs).map (·.2)) ss' g → (putF f y fs).map (·.1) = (clsFld c').take ss'.length → ss'.length ≤ (clsFld c').length → (∀ b ∈ g, b ∈ fr ++ fq) → g.Nodup →
          Q .non (upd H a (.ins C dx (putF f y fs))) ∨ True → (t' = .ins c' ss' ∧ c1 = .dat .none) → Q .non (upd H a (.ins C dx (putF f y fs))) := by
        intro ss' g l hnm hl sb ndg _ ht
        obtain ⟨rfl, rfl⟩ := ht
        have ow : Own K F (upd H a (.ins C dx (putF f y fs))) (.ref a) (.ins c' ss') (a :: dx :: g) := by
          have := Own.node (K := K) (F := F) (H := upd H a (.ins C dx (putF f y fs))) (s := .ins c' ss') (ex := [dx]) upd_same (show Head K _ a (.ins C dx (putF f y fs)) (.ins c' ss') [dx] from ⟨hC, rfl, by rw [upd_ne nax.symm]; exact hdx, hnm, hl⟩) l
          exact this
        have na' : a ∉ g := fun m => (List.mem_append.mp (sb a m)).elim nda nq
        have nx' : dx ∉ g := fun m => (List.mem_append.mp (sb dx m)).elim ndx nxq
        refine q .non F _ [] (a :: dx :: g) (g0.wide (fun b m => by rw [List.mem_singleton.mp m]; exact List.mem_append_right _ List.mem_cons_self) fun b m => ?_) ow (.dat .non) ?_ fun b m => ?_
        · left
          rw [List.nil_append] at m
          rcases List.mem_cons.mp m with rfl | m
          · exact List.mem_append_right _ List.mem_cons_self
          · rcases List.mem_cons.mp m with rfl | m
            · exact List.mem_append_right _ (List.mem_cons_of_mem _ List.mem_cons_self)
            · rcases List.mem_append.mp (sb b m) with m | m
              · exact List.mem_append_left _ m
              · exact List.mem_append_right _ (List.mem_cons_of_mem _ (List.mem_cons_of_mem _ m))
        · rw [List.nil_append]
          exact List.nodup_cons.mpr ⟨fun m => (List.mem_cons.mp m).elim nax na', List.nodup_cons.mpr ⟨nx', ndg⟩⟩
        · rw [List.nil_append] at m
          rcases List.mem_cons.mp m with rfl | m
          · exact fa
          · rcases List.mem_cons.mp m with rfl | m
            · exact of _ (List.mem_append_right _ (List.mem_cons_of_mem _ List.mem_cons_self))
            · rcases List.mem_append.mp (sb b m) with m | m
              · exact of b (List.mem_append_left _ m)
              · exact of b (List.mem_append_right _ (List.mem_cons_of_mem _ (List.mem_cons_of_mem _ m)))
      have lo := ll.off sub (o := .ins C dx (putF f y fs)) fa nq
      have oo := os.off sub (o := .ins C dx (putF f y fs)) fa nda
      have ndfq : fq.Nodup := (List.nodup_cons.mp (List.nodup_cons.mp nd2).2).2
      have dj : ∀ b ∈ fr, b ∉ fq := fun b m m2 => (List.nodup_append.mp nd).2.2 b m b (List.mem_cons_of_mem _ (List.mem_cons_of_mem _ m2)) rfl
      split at e
      · next hj =>
        cases e
        have hfx : fixN (fs.map (·.1)) f = some j := by rw [hn]; exact fixN_take _ hf hj
        obtain ⟨p1, p2⟩ := putF_in (v := y) hfx
        obtain ⟨k1, k2, g, lg, pg, pq⟩ := OwnL.repl (i := j) lo (by rw [List.length_map]; omega) oo
        rw [← p2] at lg
        have sb : ∀ b ∈ g, b ∈ fr ++ fq := fun b m => by
          rcases List.mem_append.mp (pg.mem_iff.mp m) with m | m
          · exact List.mem_append_left _ m
          · exact List.mem_append_right _ (pq.mem_iff.mpr (List.mem_append_right _ m))
        have ndg : g.Nodup := pg.nodup_iff.mpr (nodup_two (List.nodup_append.mp nd).1 (List.nodup_append.mp (pq.nodup_iff.mp ndfq)).2.1 fun b m b2 m2 z => by
          subst z
          exact dj b m (pq.mem_iff.mpr (List.mem_append_right _ m2)))
        exact key _ g lg (by rw [p1, hn, List.length_set]) (by rw [List.length_set]; exact hle) sb ndg (.inr trivial) ⟨rfl, rfl⟩
      · split at e
        · next hj1 hj =>
          cases e
          subst hj
          have hfx : fixN (fs.map (·.1)) f = none := by rw [hn]; exact fixN_take_out _ hf (Nat.le_refl _)
          have pe := putF_out (v := y) hfx
          have l2 := lo.append (OwnL.cons oo .nil)
          rw [List.append_nil] at l2
          have hlt : ss.length < (clsFld c').length := (List.getElem?_eq_some_iff.mp (fixN_get hf)).1
          refine key (ss ++ [s]) (fq ++ fr) ?_ ?_ ?_ ?_ ?_ (.inr trivial) ⟨rfl, rfl⟩
          · rw [show (putF f y fs).map (·.2) = fs.map (·.2) ++ [y] by rw [pe, List.map_append]; rfl]; exact l2
          · rw [pe, List.map_append, hn, List.length_append, List.length_singleton, List.take_succ, fixN_get hf]; rfl
          · rw [List.length_append, List.length_singleton]; omega
          · intro b m
            exact (List.mem_append.mp m).elim (fun m => List.mem_append_right _ m) fun m => List.mem_append_left _ m
          · exact nodup_two ndfq (List.nodup_append.mp nd).1 fun b m b2 m2 z => by subst z; exact dj b m2 m
        · cases e
    · cases e
  · cases e
def dFPut (c j : Nat) (da : En → Option Rs) (de : En → Option (S × En)) (E : En) : Option Out := match de E with
  | some (s, E1) => match da E1 with
    | some (.pl p) => stepAt (oFPut c j) E1 p s
    | _ => none
  | none => none
theorem s_fput {c j : Nat} {C : Addr} {f : Str} (hC : clsOf K c C) (cl : Cls K C) (na : NoAttr K C f) (hf : fixN (clsFld c) f = some j) (ha : EvP K n as ta da) (he : EvE K n as te de) : EvS K n as W (sFld K ta te f) (dFPut c j da de) := by
  intro F H σ E fp L R o e D g
  unfold dFPut at e
  split at e
  · next s E1 ee =>
    split at e
    · next p ea =>
      refine he L R ee fun v F1 H1 fr fp1 g1 R1 ov nd of => ha L R1 ea fun x F2 H2 f2 g2 r2 n2 o2 => ?_
      have R2 := R1.grow g2
      have g2d := g2.drop
      have ov2 : Own K F2 H2 v s fr := ov.grow g2d fun _ _ m => nomatch m
      have of2 : ∀ a ∈ fr, F2 a = none := fun a m => by
        obtain ⟨o, eo⟩ := ov.there a m
        exact g2d.off a (by rw [eo]; exact fun z => nomatch z) (fun z => nomatch z) (of a m)
      unfold stepAt at e
      split at e
      · next t et =>
        split at e
        · next t' c' eo =>
          cases e
          have gg : Grow F H fp F2 H2 (fr ++ fp1) := by
            have := g1.trans (g2d.ours (fr ++ fp1))
            simpa using this
          have fin := mut1 (nd_fput hC cl na hf) R2 r2 ov2 nd of2 et eo (Q := fun _ H4 => D.nx σ H4) fun v F' H' fv fp' g4 R4 ov4 nd4 of4 => ?_
          · obtain ⟨a, C', dx, fs, rfl, h1, h2, h3, h4, h5⟩ := fin
            exact ⟨a, C', dx, fs, rfl, h1, h2, h3, h4, h5⟩
          · exact g σ F' H' fp' L ((gg.trans g4).less fun a m => List.mem_append_right _ m) R4
        · cases e
      · cases e
    · cases e
  · cases e
/-- o.f op= e, a number -/
def dFAug (c j : Nat) (da : En → Option Rs) (f : PyData → PyData → Option PyData) (dv : En → Option Rs) (E : En) : Option Out := match da E, dFld c j da E, dv E with
  | some (.pl p), some (.val (.dat a)), some rv => match rv.full E with
    | some b => match f a b with
      | some x => stepAt (oFPut c j) E p (.dat x)
      | none => none
    | none => none
  | _, _, _ => none
/-! ### methods: the one that it is called of is an instance of its class -/
def tIns (C : Addr) (m : Str) (ta : TE) : TE := fun σ H Q => ta σ H fun x H1 => ∃ a dx fs, x = .ref a ∧ H1 a = some (.ins C dx fs) ∧ fs.lookup m = none ∧ Q x H1
def dIns (c : Nat) (da : En → Option Rs) (E : En) : Option Rs := match da E with
  | some r => match r.at E with
    | some (.ins c' _) => if c' = c then some r else none
    | _ => none
  | none => none
theorem p_ins {c : Nat} {C : Addr} {m : Str} (hC : clsOf K c C) (hf : fixN (clsFld c) m = none) (ha : EvP K n as ta da) : EvP K n as (tIns C m ta) (dIns c da) := by
  intro F H σ E fp L R r' e Q q
  unfold dIns at e
  split at e
  · next r ea =>
    split at e
    · next c' ss es =>
      split at e
      · next hc =>
        subst hc
        cases e
        refine ha L R ea fun x F1 H1 f1 g1 r1 n1 o1 => ?_
        obtain ⟨fq, o⟩ := r1.own (R.grow g1) es
        obtain ⟨a, C', dx, fs, fq', rfl, hH, hC', _, hn, _, ll, _⟩ := o.ins_inv rfl
        cases hC.one hC'
        exact ⟨a, dx, fs, rfl, hH, by rw [lookup_fix, hn, fixN_take_none _ hf]; rfl, q _ F1 H1 f1 g1 r1 n1 o1⟩
      · cases e
    · cases e
  · cases e
theorem tMeth_eq {C : Addr} {m : Str} {sp : Sp} {dvs : List V} {EX : XK} {tr : TA} : tMeth C m sp dvs EX ta tr = tCall sp dvs EX (tCons (tIns C m ta) tr) := rfl
theorem e_meth {C : Addr} {m : Str} {k : Nat} {g : List S → Option (S × List S)} {EX : XK} {dd : En → Option (S × En)} (h : EvE K n as (tCall (spMv K k g) [] EX (tCons (tIns C m ta) tr)) dd) : EvE K n as (tMeth C m (spMv K k g) [] EX ta tr) dd := h
end Mv
/-! making instances; errors: raise, calls that may raise, try; while -/
namespace Mv
open PySem PySem.Spec PyProof.Rows L2
variable {K : PySem.W.Frag} {F F' F1 F2 F3 H H' H1 H2 H3 : Hp} {v u x y w : V} {vs ws xs : List V} {s t c : S} {ss tts : List S} {fp fq fr fp' fp1 fp2 f1 f2 : List Addr} {ρ as : Ro} {E E' : En} {n : Nat}
variable {W : WXm} {te ta tb tc tk tv td : TE} {d da db dc dk dv : En → Option Rs} {tr : TA} {dr : En → Option (List Rs)} {de df : En → Option (S × En)} {tt : TT} {dte : En → Option (Bool × En)} {Q : VK} {dl : En → Option (Nat × En)}

/-! ### C(..) -/
theorem ghs_all {σ : L2.St} (L : σ.length = n) (R : Rep K F H (σ ++ (as ++ vs.map some)) E fp) : ∀ (m j : Nat) (rs : List Rs), ghs vs.length E j m = some rs → j + m ≤ vs.length → RsAll K F H (σ ++ (as ++ vs.map some)) E ((vs.drop j).take m) rs [] := by
  intro m
  induction m with
  | zero =>
    intro j rs e hj
    cases e
    rw [List.take_zero]
    exact .nil
  | succ m ih =>
    intro j rs e hj
    simp only [ghs] at e
    split at e
    · next r rs' e1 e2 =>
      cases e
      have hv : vs[j]? = some (vs[j]'(by omega)) := List.getElem?_eq_getElem _
      rw [List.drop_eq_getElem_cons (by omega), List.take_succ_cons]
      exact RsAll.cons (f := []) (g := []) (rs_root R (gh_at L R hv) e1) (ih (j + 1) rs' e2 (by omega))
    · cases e
/-- the new one, then the arguments -/
def dMkA (k : Nat) (E : En) : Option (List Rs) := match dGh (k + 1) k E, ghs (k + 1) E 0 k with
  | some r, some rs => some (r :: rs)
  | _, _ => none
theorem dMkA_len {k : Nat} {rs : List Rs} (h : dMkA k E = some rs) : rs.length = k + 1 := by
  unfold dMkA at h
  split at h
  · next r rs' e1 e2 => cases h; rw [List.length_cons, ghs_len _ e2]
  · cases h
theorem a_mk : EvA K n (as ++ (vs ++ [x]).map some) (tVs (x :: vs)) (dMkA vs.length) := by
  intro F H σ E fp L R rs e Q q
  unfold dMkA at e
  split at e
  · next r rs' e1 e2 =>
    cases e
    have hl : (vs ++ [x]).length = vs.length + 1 := by simp
    have h2 := ghs_all L R vs.length 0 rs' (by rw [hl]; exact e2) (by rw [hl]; omega)
    rw [List.drop_zero, List.take_left] at h2
    unfold dGh at e1
    rw [if_pos (Nat.lt_succ_self _)] at e1
    have hv : (vs ++ [x])[vs.length]? = some x := by simp
    have h1 := rs_root R (gh_at L R hv) (by rw [hl]; exact e1)
    exact q (x :: vs) F H [] (.refl R.sub []) (RsAll.cons (f := []) (g := []) h1 h2) List.nodup_nil (fun _ m => nomatch m)
  · cases e
def eMk (c k : Nat) (g : List S → Option (S × List S)) (E : En) : Option (S × En) := match eCall g (dMkA k) (E ++ [.own (.ins c [])]) with
  | some (.dat .none, E2) => match popS 1 E2 with
    | some ([s], E3) => some (s, E3)
    | _ => none
  | _ => none
theorem e_make {c m : Nat} {C : Addr} {g : List S → Option (S × List S)} {EX : XK} (hC : clsOf K c C) (hl : EvL K n as tr dl) : EvE K n as (tMake C (spMv K m g) [] EX tr) (eEff dl fun k => dWhen (k + 1) m (eMk c k g)) := by
  have hc : ∀ vs : List V, EvE K n (as ++ vs.map some) (fun _ H Q => ∀ x dx, H x = none → H dx = none → dx ≠ x → spMv K m g (.ref x :: (vs ++ [])) (upd (upd H dx (.own x)) x (.ins C dx [])) (fun v H2 => v = .non ∧ Q (.ref x) H2) EX) (dWhen (vs.length + 1) m (eMk c vs.length g)) := by
    intro vs F H σ E fp L R s E' e Q q x dx hx hdx ne
    unfold dWhen at e
    split at e
    · next hk =>
      unfold eMk at e
      split at e
      · next E2 e2 =>
        split at e
        · next s' E3 e3 =>
          cases e
          have ga : Grow F H [] F (upd H dx (.own x)) [dx] := Grow.alloc R.sub hdx
          have hx1 : (upd H dx (.own x)) x = none := by rw [upd_ne (fun z => ne z.symm)]; exact hx
          have gb : Grow F (upd H dx (.own x)) [] F (upd (upd H dx (.own x)) x (.ins C dx [])) [x] := Grow.alloc ga.sub hx1
          have g1 : Grow F H [] F (upd (upd H dx (.own x)) x (.ins C dx [])) [x, dx] := ((ga.drop.trans (gb.drop)).f |> fun _ => (ga.seq0 gb.drop).less (fun a m => m) |> fun g => (ga.trans (gb.wide (fq := [dx]) (fr := [x, dx]) (fun _ m => nomatch m) fun a m => by
            rcases List.mem_cons.mp m with rfl | m
            · exact .inr hx1
            · exact .inl m)))
          have ow : Own K F (upd (upd H dx (.own x)) x (.ins C dx [])) (.ref x) (.ins c []) [x, dx] := by
            have := Own.node (K := K) (F := F) (H := upd (upd H dx (.own x)) x (.ins C dx [])) (s := .ins c []) (ex := [dx]) (fp := []) upd_same (show Head K _ x (.ins C dx []) (.ins c []) [dx] from ⟨hC, rfl, by rw [upd_ne ne, upd_same], rfl, Nat.zero_le _⟩) .nil
            exact this
          have nd2 : [x, dx].Nodup := by simp; exact fun z => ne z.symm
          have of2 : ∀ a ∈ [x, dx], F a = none := fun a m => by
            rcases List.mem_cons.mp m with rfl | m
            · exact fresh_none R.sub hx
            · rw [List.mem_singleton.mp m]; exact fresh_none R.sub hdx
          have R1 := (R.grow g1).push ow (R.apart_new g1 nd2) of2
          have eas : as ++ vs.map some ++ [some (V.ref x)] = as ++ (vs ++ [V.ref x]).map some := by simp
          rw [eas] at R1
          have fin := e_call (tr := tVs (V.ref x :: vs)) (EX := EX) (g := g) (m := m) a_mk (fun E rs h => (dMkA_len h).trans hk) L R1 e2 (Q := fun v H2 => v = .non ∧ Q (.ref x) H2) fun v F' H' fr fp' g2 R2 ov nd of => ?_
          · exact fin
          · have hv : v = .non := by cases (ov.dat_inv rfl).1; rfl
            refine ⟨hv, ?_⟩
            rw [← eas] at R2
            obtain ⟨h1, h2, l, R3, pm⟩ := Rep.popN (as := as ++ vs.map some) 1 (vs := [V.ref x]) rfl R2 e3
            obtain ⟨f9, o9, e9⟩ : ∃ f9, Own K F' H' (V.ref x) s f9 ∧ h2 = f9 := by
              cases l with
              | cons a t => cases t; exact ⟨_, a, List.append_nil _⟩
            subst e9
            have nd3 := pm.nodup_iff.mp R2.nd
            refine q (.ref x) F' H' h2 h1 ?_ R3 o9 nd3 fun a m => R2.off a (pm.mem_iff.mpr (List.mem_append_left _ m))
            have gx : Grow F H fp F' H' (fr ++ fp') := (g1.ours fp).trans g2
            exact gx.less fun a m => List.mem_append_right _ (pm.mem_iff.mpr m)
        · cases e
      · cases e
    · cases e
  intro F H σ E fp L R s E' e Q q
  exact e_eff (C := fun vs H Q => ∀ x dx, H x = none → H dx = none → dx ≠ x → spMv K m g (.ref x :: (vs ++ [])) (upd (upd H dx (.own x)) x (.ins C dx [])) (fun v H2 => v = .non ∧ Q (.ref x) H2) EX) (dcc := fun k => dWhen (k + 1) m (eMk c k g)) hl hc L R e q

/-! ### errors -/
inductive Rx where
  | rt (s : S)
  | ex (c : Nat)
def spMvX (K : PySem.W.Frag) (m : Nat) (g : List S → Option (Rx × List S)) : Sp := fun vs H Q EX => vs.length = m ∧ ∃ F ss fp r ss', (∀ a o, F a = some o → H a = some o) ∧ OwnL K F H vs ss fp ∧ fp.Nodup ∧ (∀ a ∈ fp, F a = none) ∧ g ss = some (r, ss') ∧
  match r with
  | .rt s => ∀ v F' H' fr fp', Grow F H fp F' H' (fr ++ fp') → OwnL K F' H' vs ss' fp' → Own K F' H' v s fr → (fr ++ fp').Nodup → (∀ a ∈ fr ++ fp', F' a = none) → Q v H'
  | .ex c => ∀ C F' H' fp', clsOf K c C → Grow F H fp F' H' fp' → OwnL K F' H' vs ss' fp' → fp'.Nodup → (∀ a ∈ fp', F' a = none) → EX (.ref C) none H'
def fnGX (n : Nat) (d : En → Option Out) (ss : List S) : Option (Rx × List S) := match d (entry n ss) with
  | some (.rt s E) => (ownSs (E.drop n)).map (.rt s, ·)
  | some (.nx E) => (ownSs (E.drop n)).map (.rt (.dat .none), ·)
  | some (.ex c E) => (ownSs (E.drop n)).map (.ex c, ·)
  | _ => none
/-- what never raises, where it doesn't -/
def gRt (g : List S → Option (Rx × List S)) (ss : List S) : Option (S × List S) := match g ss with
  | some (.rt s, ss') => some (s, ss')
  | _ => none
theorem spMvX_rt {m : Nat} {g : List S → Option (Rx × List S)} (vs : List V) (H : Hp) (Q : VK) (EX : XK) (h : spMv K m (gRt g) vs H Q EX) : spMvX K m g vs H Q EX := by
  obtain ⟨hl, F, ss, fp, s, ss', sub, l, nd, of, hg, q⟩ := h
  unfold gRt at hg
  split at hg
  · next s2 ss2 e =>
    cases hg
    exact ⟨hl, F, ss, fp, .rt s, ss', sub, l, nd, of, e, q⟩
  · cases hg
section
variable {P : Program} {w : World} {mg : Str → Option Value} {base : Heap}
theorem passF {X : Cx} {EX : XK} (h : ∀ c d H, ¬ EX c d H) : Passes (L2.CX X.prog X.w) X EX := fun _ _ _ _ _ _ _ x => by
  obtain ⟨a, B, H', cls, d, _, _, _, _, _, _, _, z⟩ := x
  exact (h _ _ _ z).elim
/-- A DEF OF THE TEXT that may raise -/
theorem fn_mvX {x qual : Str} {st : Stmt} {f : Addr} {fd : FuncData} {N ps : List Str} {k : Nat} {dd : En → Option Out} (Fn : Fun K x qual st f fd) (Sc : FnScope N ps (defScope st))
    (body : ∀ (cdv : Value) (A : Around) (outer : List Env) (s : Shared) (H : Hp) (EX : XK) (as : Ro), Room k (A.deeper (envOfC qual (defScope st) s.heap.objs.size f cdv)) →
      ∃ t, PSs (cxOf (L2.CX P w) P w K mg base N qual (defScope st) f cdv A outer s H EX) (defBody st) t ∧ EvS K N.length as (fun c d _ H => EX c d H) t dd) :
    FnOk P w K mg base (L2.CX P w) (k + 1) f fd ps (spMvX K ps.length (fnGX N.length dd)) := by
  have hps : ps.length ≤ N.length := by have := congrArg List.length Sc.pre; rw [List.length_take] at this; omega
  refine Fn.okX Sc (fun vs H Q E h => h.1) (fun cdv A outer s H vs Q E hr h => ?_)
  obtain ⟨hl, F, ss, fp, r, ss', sub, l, nd, of, hg, q⟩ := h
  obtain ⟨t, h1, h2⟩ := body cdv A outer s H E (vs.map some) hr
  refine ⟨t, h1, ?_⟩
  have R := Rep.entry (N := N) sub l nd of (by omega)
  have L : (start N vs).length = N.length := by rw [start_eq, List.length_append, List.length_map, List.length_replicate]; omega
  unfold fnGX at hg
  split at hg
  · next r' E' hd =>
    obtain ⟨s2, e1, e2⟩ := Option.map_eq_some_iff.mp hg
    cases e2
    refine h2 L R hd fun v σ' F' H' fr fp' L' g R' ow nd' of' => ?_
    obtain ⟨fq, l2, n2, sb⟩ := R'.args L' e1
    have nd2 : (fr ++ fq).Nodup := nodup_two (List.nodup_append.mp nd').1 n2 fun a m b m2 => (List.nodup_append.mp nd').2.2 a m b (sb b m2)
    refine q v F' H' fr fq (g.less fun a m => ?_) l2 ow nd2 fun a m => ?_
    · rcases List.mem_append.mp m with m | m
      · exact List.mem_append_left _ m
      · exact List.mem_append_right _ (sb a m)
    · rcases List.mem_append.mp m with m | m
      · exact of' a m
      · exact R'.off a (sb a m)
  · next E' hd =>
    obtain ⟨s2, e1, e2⟩ := Option.map_eq_some_iff.mp hg
    cases e2
    refine h2 L R hd fun σ' F' H' fp' L' g R' => ?_
    obtain ⟨fq, l2, n2, sb⟩ := R'.args L' e1
    exact q .non F' H' [] fq (g.less fun a m => sb a (by simpa using m)) l2 (.dat .non) (by simpa using n2) fun a m => R'.off a (sb a (by simpa using m))
  · next c E' hd =>
    obtain ⟨s2, e1, e2⟩ := Option.map_eq_some_iff.mp hg
    cases e2
    refine h2 L R hd fun C σ' F' H' fp' hC L' g R' => ?_
    obtain ⟨fq, l2, n2, sb⟩ := R'.args L' e1
    exact q C F' H' fq hC (g.less sb) l2 n2 fun a m => R'.off a (sb a m)
  · cases hg
end
/-- an expression that may raise -/
def EvX (K : PySem.W.Frag) (n : Nat) (as : Ro) (W : WXm) (te : TE) (d : En → Option (Rx × En)) : Prop :=
  ∀ {F H : Hp} {σ : L2.St} {E : En} {fp : List Addr}, σ.length = n → Rep K F H (σ ++ as) E fp → ∀ {r : Rx} {E' : En}, d E = some (r, E') → ∀ {Q : VK},
    (match r with
     | .rt s => ∀ v F' H' fr fp', Grow F H fp F' H' (fr ++ fp') → Rep K F' H' (σ ++ as) E' fp' → Own K F' H' v s fr → (fr ++ fp').Nodup → (∀ a ∈ fr, F' a = none) → Q v H'
     | .ex c => ∀ C F' H' fp', clsOf K c C → Grow F H fp F' H' fp' → Rep K F' H' (σ ++ as) E' fp' → W (.ref C) none σ H') → te σ H Q
def xCall (g : List S → Option (Rx × List S)) (dr : En → Option (List Rs)) (E : En) : Option (Rx × En) := match dr E with
  | some rs => if placesOk rs = true then match argS E rs with
      | some ss => match g ss with
        | some (r, ss') => some (r, killAll (putAll E rs ss') rs)
        | none => none
      | none => none
    else none
  | none => none
theorem call_close {rs : List Rs} {fr fa fh : List Addr} {E1 : En} (R1 : Rep K F1 H1 ρ E fp) (a : RsAll K F1 H1 ρ E vs rs fr) (ok : placesOk rs = true) (nd : (fr ++ fp).Nodup) (offAll : ∀ b ∈ fr ++ fp, F1 b = none)
    (c1 : Core K F1 H1 ρ E1 fh) (pm : (fr ++ fp).Perm (fa ++ fh)) (keep : ∀ q, (eget E q).isSome = true → (∀ p, Rs.pl p ∈ rs → within p q = false) → (eget E1 q).isSome = true)
    (close : ∀ F' H' ss' fa', Core K F' H' ρ E1 fh → OwnL K F' H' vs ss' fa' → ∃ fz fd, Core K F' H' ρ (putAll E rs ss') (fz ++ fh) ∧ fa'.Perm (fz ++ fd))
    {ss' : List S} {fr2 fa2 : List Addr} (g2 : Grow F1 H1 fa F2 H2 (fr2 ++ fa2)) (l2 : OwnL K F2 H2 vs ss' fa2) (nd2 : (fr2 ++ fa2).Nodup) (of2 : ∀ b ∈ fr2 ++ fa2, F2 b = none) :
    ∃ fz, Rep K F2 H2 ρ (killAll (putAll E rs ss') rs) (fz ++ fh) ∧ Grow F1 H1 (fa ++ fh) F2 H2 (fr2 ++ (fz ++ fh)) ∧ (fr2 ++ (fz ++ fh)).Nodup := by
  have ndall : (fa ++ fh).Nodup := pm.nodup_iff.mp nd
  have memH : ∀ b ∈ fh, b ∈ fr ++ fp := fun b m => pm.mem_iff.mpr (List.mem_append_right _ m)
  have dj : ∀ b ∈ fh, b ∉ fa := fun b m1 m2 => (List.nodup_append.mp ndall).2.2 b m2 b m1 rfl
  have keepH : ∀ b ∈ fh, ∀ o, H1 b = some o → H2 b = some o := fun b m o e => g2.keep b o e (dj b m)
  have c2 := c1.frame g2.f g2.sub keepH
  obtain ⟨fz, fd, c3, pz⟩ := close F2 H2 ss' fa2 c2 l2
  have subz : ∀ b ∈ fz, b ∈ fa2 := fun b m => pz.mem_iff.mpr (List.mem_append_left _ m)
  have thereH : ∀ b ∈ fh, ∃ o, H1 b = some o := c1.there
  have notnew : ∀ b ∈ fh, b ∉ fr2 ++ fa2 := fun b m m2 => by
    obtain ⟨o, eo⟩ := thereH b m
    rcases g2.new b m2 with z | z
    · exact dj b m z
    · rw [eo] at z; cases z
  have ndz : (fz ++ fh).Nodup := by
    have n1 := (List.nodup_append.mp nd2).2.1
    exact nodup_two (List.nodup_append.mp (pz.nodup_iff.mp n1)).1 (List.nodup_append.mp ndall).2.1 fun b m c mc e => by
      subst e
      exact notnew b mc (List.mem_append_right _ (subz b m))
  have R2 : Rep K F2 H2 ρ (killAll (putAll E rs ss') rs) (fz ++ fh) := by
    refine ⟨killAll_core c3, g2.sub, ndz, fun b m => ?_, fun i p hb => ?_⟩
    · rcases List.mem_append.mp m with m | m
      · exact of2 b (List.mem_append_right _ (subz b m))
      · obtain ⟨o, eo⟩ := thereH b m
        exact g2.off b (by rw [eo]; exact fun z => nomatch z) (dj b m) (offAll b (memH b m))
    · obtain ⟨hb1, hb2⟩ := killAll_bor hb
      have hb3 := putAll_bor hb1
      obtain ⟨w, k1, k2, k3⟩ := R1.bor i p hb3
      have k4 := keep p k3 hb2
      obtain ⟨t4, ht4⟩ := Option.isSome_iff_exists.mp k4
      refine ⟨w, k1, by rw [c1.follow_keep (fun b o e => g2.sub b o (g2.f b o e)) ht4 keepH]; exact k2, ?_⟩
      rw [killAll_get]
      have go : ∀ (rs : List Rs) (ss : List S) (E : En), (eget E p).isSome = true → (∀ q, Rs.pl q ∈ rs → (eget E q).isSome = true) → placesOk rs = true → (∀ q, Rs.pl q ∈ rs → within q p = false) → (eget (putAll E rs ss) p).isSome = true := by
        intro rs
        induction rs with
        | nil => intro ss E h _ _ _; simpa [putAll] using h
        | cons r rs ih =>
          intro ss E h hp ok hw
          cases ss with
          | nil => cases r <;> simpa [putAll] using h
          | cons s ss =>
            cases r with
            | val _ =>
              simp only [putAll]
              exact ih ss E h (fun q m => hp q (List.mem_cons_of_mem _ m)) (by simpa only [placesOk] using ok) fun q m => hw q (List.mem_cons_of_mem _ m)
            | pl q0 =>
              simp only [placesOk, Bool.and_eq_true] at ok
              simp only [putAll]
              obtain ⟨t0, ht0⟩ := Option.isSome_iff_exists.mp (hp q0 List.mem_cons_self)
              exact ih ss (eput E q0 s) (eget_ok ht0 h (hw q0 List.mem_cons_self)) (fun q m => by rw [eget_apart (apartAll_mem ok.1 m)]; exact hp q (List.mem_cons_of_mem _ m)) ok.2 fun q m => hw q (List.mem_cons_of_mem _ m)
      exact go rs ss' E k3 a.places ok hb2
  refine ⟨fz, R2, g2.wide (fun b m => List.mem_append_left _ m) fun b m => ?_, ?_⟩
  · rcases List.mem_append.mp m with m | m
    · exact (g2.new b (List.mem_append_left _ m)).imp (fun z => List.mem_append_left _ z) id
    · rcases List.mem_append.mp m with m | m
      · exact (g2.new b (List.mem_append_right _ (subz b m))).imp (fun z => List.mem_append_left _ z) id
      · exact .inl (List.mem_append_right _ m)
  · refine nodup_two (List.nodup_append.mp nd2).1 ndz fun b m c mc e => ?_
    subst e
    rcases List.mem_append.mp mc with mc | mc
    · exact (List.nodup_append.mp nd2).2.2 b m b (subz b mc) rfl
    · exact notnew b mc (List.mem_append_left _ m)
theorem x_call {m : Nat} {g : List S → Option (Rx × List S)} (hr : EvA K n as tr dr) (hm : ∀ E rs, dr E = some rs → rs.length = m) : EvX K n as W (tCallS (spMvX K m g) (WE W) tr) (xCall g dr) := by
  intro F H σ E fp L R r E' e Q q
  unfold xCall at e
  split at e
  · next rs ers =>
    split at e
    · next ok =>
      split at e
      · next ss ess =>
        split at e
        · next r' ss' eg =>
          cases e
          refine hr L R ers fun vs F1 H1 fr g1 a nd of => ?_
          have R1 := R.grow g1
          obtain ⟨fa, fh, E1, l, c1, pm, keep, close⟩ := takeAll a R1.core ok ess
          have ndn := R1
          have nda := R.apart_new g1 nd
          have ndall : (fa ++ fh).Nodup := pm.nodup_iff.mp nda
          have memA : ∀ b ∈ fa, b ∈ fr ++ fp := fun b m => pm.mem_iff.mpr (List.mem_append_left _ m)
          have offAll : ∀ b ∈ fr ++ fp, F1 b = none := fun b m => (List.mem_append.mp m).elim (of b) (R1.off b)
          have g1' : Grow F H fp F1 H1 (fa ++ fh) := (g1.ours fp).less fun b m => pm.mem_iff.mpr m
          refine ⟨by rw [l.length, argS_len ess, hm E rs ers], F1, ss, fa, r, ss', g1.sub, l, (List.nodup_append.mp ndall).1, fun b m => offAll b (memA b m), eg, ?_⟩
          cases r with
          | rt s =>
            refine fun v F2 H2 fr2 fa2 g2 l2 ow nd2 of2 => ?_
            obtain ⟨fz, R2, gg, nn⟩ := call_close R1 a ok nda offAll c1 pm keep close g2 l2 nd2 of2
            exact q v F2 H2 fr2 (fz ++ fh) (g1'.trans gg) R2 ow nn fun b m => of2 b (List.mem_append_left _ m)
          | ex c =>
            refine fun C F2 H2 fa2 hC g2 l2 nd2 of2 => ?_
            obtain ⟨fz, R2, gg, nn⟩ := call_close (fr2 := []) R1 a ok nda offAll c1 pm keep close g2 l2 nd2 of2
            exact q C F2 H2 (fz ++ fh) hC (g1'.trans gg) R2
        · cases e
      · cases e
    · cases e
  · cases e
def xEff (dl : En → Option (Nat × En)) (dc : Nat → En → Option (Rx × En)) (E : En) : Option (Rx × En) := match dl E with
  | some (k, E1) => match dc k E1 with
    | some (r, E2) => some (r, stripN k E2)
    | none => none
  | none => none
theorem x_eff {C : List V → L2.St → Hp → VK → Prop} {dcc : Nat → En → Option (Rx × En)} (hl : EvL K n as tr dl) (hc : ∀ vs : List V, EvX K n (as ++ vs.map some) W (fun σ H Q => C vs σ H Q) (dcc vs.length)) :
    EvX K n as W (fun σ H Q => tr σ H fun vs H1 => C vs σ H1 Q) (xEff dl dcc) := by
  intro F H σ E fp L R r E' e Q q
  unfold xEff at e
  split at e
  · next k E1 el =>
    split at e
    · next r2 E2 ec =>
      cases e
      refine hl L R el fun vs F1 H1 fp1 hk g1 R1 => ?_
      subst hk
      refine hc vs L R1 ec ?_
      cases r with
      | rt s =>
        refine fun v F2 H2 fr fp2 g2 R2 ov nd of => ?_
        obtain ⟨fq, R3, sb⟩ := R2.stripN vs.length rfl
        refine q v F2 H2 fr fq ((g1.trans g2).less fun a m => ?_) R3 ov ?_ of
        · exact List.mem_append.mpr ((List.mem_append.mp m).imp id (sb a))
        · exact List.nodup_append.mpr ⟨(List.nodup_append.mp nd).1, R3.nd, fun a m b m2 => (List.nodup_append.mp nd).2.2 a m b (sb b m2)⟩
      | ex c =>
        refine fun D F2 H2 fp2 hD g2 R2 => ?_
        obtain ⟨fq, R3, sb⟩ := R2.stripN vs.length rfl
        exact q D F2 H2 fq hD ((g1.trans g2).less sb) R3
    · cases e
  · cases e
def xWhen (k m : Nat) (d : En → Option (Rx × En)) (E : En) : Option (Rx × En) := if k = m then d E else none
theorem x_callE {m : Nat} {g : List S → Option (Rx × List S)} (hl : EvL K n as tr dl) : EvX K n as W (tCallS (spMvX K m g) (WE W) tr) (xEff dl fun k => xWhen k m (xCall g (dGhs k))) := by
  have hc : ∀ vs : List V, EvX K n (as ++ vs.map some) W (fun σ H Q => spMvX K m g vs H Q (WE W σ)) (xWhen vs.length m (xCall g (dGhs vs.length))) := by
    intro vs F H σ E fp L R s E' e Q q
    unfold xWhen at e
    by_cases hk : vs.length = m
    · rw [if_pos hk] at e
      exact x_call (tr := tVs vs) (W := W) a_ghs (fun E rs h => (ghs_len _ h).trans hk) L R e q
    · rw [if_neg hk] at e
      cases e
  intro F H σ E fp L R s E' e Q q
  exact x_eff (C := fun vs σ H Q => spMvX K m g vs H Q (WE W σ)) (dcc := fun k => xWhen k m (xCall g (dGhs k))) hl hc L R e q
def dDropX (d : En → Option (Rx × En)) (E : En) : Option Out := match d E with
  | some (.rt _, E') => some (.nx E')
  | some (.ex c, E') => some (.ex c E')
  | none => none
theorem s_dropX {dx : En → Option (Rx × En)} (h : EvX K n as W te dx) : EvS K n as W (tDrop te) (dDropX dx) := by
  intro F H σ E fp L R o e D g
  unfold dDropX at e
  split at e
  · next s E' ed =>
    cases e
    exact h L R ed fun v F1 H1 fr fp1 g1 R1 ow nd of => g σ F1 H1 fp1 L (g1.less fun a m => List.mem_append_right _ m) R1
  · next c E' ed =>
    cases e
    exact h L R ed fun C F1 H1 fp1 hC g1 R1 => g C σ F1 H1 fp1 hC L g1 R1
  · cases e
def dSetX (i : Nat) (d : En → Option (Rx × En)) (E : En) : Option Out := match d E with
  | some (.rt s, E') => some (.nx (slotSet E' i (.own s)))
  | some (.ex c, E') => some (.ex c E')
  | none => none
theorem s_setX {i : Nat} {dx : En → Option (Rx × En)} (hi : i < n) (h : EvX K n as W te dx) : EvS K n as W (tAsg te (gName i)) (dSetX i dx) := by
  intro F H σ E fp L R o e D g
  unfold dSetX at e
  split at e
  · next s E' ed =>
    cases e
    refine h L R ed fun v F1 H1 fr fp1 g1 R1 ow nd of => ?_
    have hl : i < (σ ++ as).length := by rw [List.length_append]; omega
    obtain ⟨fq, R2, sb⟩ := R1.setSlot (e := .own s) hl ow nd of
    exact g (σ.set i (some v)) F1 H1 fq (by rw [List.length_set]; exact L) (g1.less sb) (by rw [set_app (by omega)]; exact R2)
  · next c E' ed =>
    cases e
    exact h L R ed fun C F1 H1 fp1 hC g1 R1 => g C σ F1 H1 fp1 hC L g1 R1
  · cases e
def dRetX (d : En → Option (Rx × En)) (E : En) : Option Out := match d E with
  | some (.rt s, E') => some (.rt s E')
  | some (.ex c, E') => some (.ex c E')
  | none => none
theorem s_retX {dx : En → Option (Rx × En)} (h : EvX K n as W te dx) : EvS K n as W (tRet te) (dRetX dx) := by
  intro F H σ E fp L R o e D g
  unfold dRetX at e
  split at e
  · next s E' ed =>
    cases e
    exact h L R ed fun v F1 H1 fr fp1 g1 R1 ow nd of => g v σ F1 H1 fr fp1 L g1 R1 ow nd of
  · next c E' ed =>
    cases e
    exact h L R ed fun C F1 H1 fp1 hC g1 R1 => g C σ F1 H1 fp1 hC L g1 R1
  · cases e
/-- raise X('..') -/
def dRaise (c : Nat) (E : En) : Option Out := some (.ex c E)
theorem s_raise {c : Nat} {C : Addr} (hC : clsOf K c C) : EvS K n as W (fun _ σ H => W (.ref C) none σ H) (dRaise c) := by
  intro F H σ E fp L R o e D g
  cases e
  exact g C σ F H fp hC L (.refl R.sub fp) R
/-- try: .. except X: .. that lets nothing out -/
def dTry (catch_ : Nat → Bool) (db ds : En → Option Out) (E : En) : Option Out := match db E with
  | some (.ex c E1) => if catch_ c = true then ds E1 else none
  | o => o
theorem s_try {cv : Value} {tb : WXm → TS} {ts : Addr → Value → Option Addr → TS} {db ds : En → Option Out} {catch_ : Nat → Bool} (hcat : ∀ c C, catch_ c = true → clsOf K c C → PySem.W.exmOne K (.ref C) cv = some true)
    (hb : ∀ W, EvS K n as W (tb W) db) (hs : ∀ a cls d, EvS K n as W (ts a cls d) ds) : EvS K n as W (fun D σ H => tb (wOnly K cv ts (fun _ _ _ _ => False) D) D σ H) (dTry catch_ db ds) := by
  intro F H σ E fp L R o e D g
  unfold dTry at e
  split at e
  · next c E1 e1 =>
    split at e
    · next hc =>
      refine hb _ L R e1 fun C σ' F' H' fp' hC L' g' R' => ?_
      exact ⟨true, hcat c C hc hC, fun _ a _ => hs a (.ref C) none L' R' e (g.grow g'), fun z => nomatch z⟩
    · cases e
  · next o1 hno =>
    refine hb _ L R e ?_
    cases o with
    | ex c E1 => exact (hno c E1 e).elim
    | nx E1 => exact g
    | rt s E1 => exact g
    | bk E1 => exact g
    | ct E1 => exact g
/-! ### while: so many turns at the most -/
def dWhileN (dt : En → Option (Bool × En)) (db : En → Option Out) : Nat → En → Option Out
  | m, E => match dt E with
    | some (false, E1) => some (.nx E1)
    | some (true, E1) => match m with
      | 0 => none
      | m + 1 => match db E1 with
        | some (.nx E2) => dWhileN dt db m E2
        | some (.ct E2) => dWhileN dt db m E2
        | some (.bk E2) => some (.nx E2)
        | o => o
    | none => none
def dWhile (fuel : En → Nat) (dt : En → Option (Bool × En)) (db : En → Option Out) (E : En) : Option Out := dWhileN dt db (fuel E) E
theorem s_while {tb : TS} {db : En → Option Out} {fuel : En → Nat} (ht : EvTE K n as tt dte) (hb : EvS K n as W tb db) : EvS K n as W (tWhile tt tb) (dWhile fuel dte db) := by
  intro F H σ E fp L R o e D g
  unfold dWhile at e
  refine ⟨fun m σ2 H2 => ∃ F2 E2 fp2, σ2.length = n ∧ Grow F H fp F2 H2 fp2 ∧ Rep K F2 H2 (σ2 ++ as) E2 fp2 ∧ dWhileN dte db m E2 = some o, ⟨fuel E, F, E, fp, L, .refl R.sub fp, R, e⟩, fun m σ2 H2 hW => ?_⟩
  obtain ⟨F2, E2, fp2, L2, g2, R2, h2⟩ := hW
  rw [dWhileN.eq_def] at h2
  dsimp only at h2
  split at h2
  · next E3 e3 =>
    cases h2
    exact ht L2 R2 e3 fun F3 H3 fp3 g3 R3 => iteF (g σ2 F3 H3 fp3 L2 (g2.trans g3) R3)
  · next E3 e3 =>
    refine ht L2 R2 e3 fun F3 H3 fp3 g3 R3 => iteT ?_
    split at h2
    · cases h2
    · next m =>
      refine ⟨fun σ' H' => ∃ F2 E2 fp2, σ'.length = n ∧ Grow F H fp F2 H' fp2 ∧ Rep K F2 H' (σ' ++ as) E2 fp2 ∧ dWhileN dte db m E2 = some o, fun σ' H' h => ⟨m, Nat.lt_succ_self m, h⟩, ?_⟩
      split at h2
      · next E4 e4 => exact hb L2 R3 e4 fun σ' F' H' fp' L' g' R' => ⟨F', E4, fp', L', (g2.trans g3).trans g', R', h2⟩
      · next E4 e4 => exact hb L2 R3 e4 fun σ' F' H' fp' L' g' R' => ⟨F', E4, fp', L', (g2.trans g3).trans g', R', h2⟩
      · next E4 e4 =>
        cases h2
        exact hb L2 R3 e4 fun σ' F' H' fp' L' g' R' => g σ' F' H' fp' L' ((g2.trans g3).trans g') R'
      · next o4 h41 h42 h43 =>
        refine hb L2 R3 h2 ?_
        have gg := g.grow (g2.trans g3)
        cases o with
        | nx E1 => exact (h41 E1 h2).elim
        | ct E1 => exact (h42 E1 h2).elim
        | bk E1 => exact (h43 E1 h2).elim
        | rt s E1 => exact gg
        | ex c E1 => exact gg
  · cases h2
end Mv
/-! x, *r = a tuple; max of two tuples of data -/
namespace PySem
open PySem.W PySem.SeqAt PyProof.Rows
section
variable {prog : Program} {w : World} {A : Around} {E : Value → Shared → Prop} {s : Shared}
theorem hx_shift (hh : A.handled = none) (I ax : Addr) (hne : ax ≠ I) (items : Array Value) (k : Nat) (hk : k ≤ items.size) :
    WalksS prog w A I [I, ax] [I] (fun a b => b = a) (items.size - k) (fun i v => items[i + k]? = some v) (fun i s => s.heap.IsTupleIter I ax (i + k) ∧ s.heap.IsTuple ax items) :=
  let W := (Walks.tuple (prog := prog) (w := w) (A := A) hh I ax hne items).toS
  { sub := W.sub
    grefl := W.grefl
    gtrans := W.gtrans
    frame := fun i s h' tk st tl hk => W.frame (i + k) s h' tk st tl hk
    item := fun i s Q E hi st hQ => W.item (i + k) s Q E (by omega) st fun v s' p st' m => hQ v s' p (by rw [show i + 1 + k = i + k + 1 by omega]; exact st') m
    done := fun s Q E st hQ => W.done s Q E (by rw [show items.size - k + k = items.size by omega] at st; exact st) hQ
    self := fun i s Q E st hQ => W.self (i + k) s Q E st hQ }
theorem hx_unpack_star {t : Addr} {items : Array Value} {x : Value} {rest : List Value} {Q : List Value → Shared → Prop} (hh : A.handled = none) (ht : s.heap.IsTuple t items) (hi : items.toList = x :: rest) (hz : items.size ≤ sizeLine)
    (hQ : ∀ (h' : Heap) (tk : Nat), (∀ b o, s.heap.get? b = some o → h'.get? b = some o) → Q [x, .ref h'.objs.size] { s with heap := h'.push { cls := .type "list", data := .seq rest.toArray }, toks := tk }) :
    wpAny (model prog w) A (unpackItems (.ref t) 2 (some 1)) Q E s := by
  have hlt : t ≠ s.heap.objs.size := by obtain ⟨o, ho, _⟩ := ht; exact Nat.ne_of_lt (Heap.lt_size ho)
  have hsz : items.size = rest.length + 1 := by have := congrArg List.length hi; simpa using this
  unfold unpackItems
  refine wpAny_bind ?_
  unfold notIterableAtAll
  refine wpAny_bind (wpAny_specialOf ht.typeIs F.slot_tuple_iter.lookup ?_)
  refine wpAny_pure ?_
  simp only [Bool.false_eq_true, if_false]
  refine wpAny_bind (wpAny_holding (wpAny_pyIter_tuple ht ?_))
  refine wpAny_bind (wpAny_holding (wpAny_draw_tuple hlt 1 0 _ _ ⟨_, Heap.get?_push_size _ rfl, rfl, rfl⟩ (ht.push _) (by omega) fun h₁ hit₁ hs₁ => ?_))
  have hall : List.take 1 (List.drop 0 items.toList) = [x] := by rw [hi]; rfl
  rw [hall]
  rw [if_neg (by simp)]
  have ht₁ : h₁.IsTuple t items := (ht.push _).extBut hs₁.extBut hlt
  have kp : ∀ b o, s.heap.get? b = some o → h₁.get? b = some o := fun b o e => hs₁.extBut b o (Nat.ne_of_lt (Heap.lt_size e)) (Heap.get?_push_of_some _ e)
  have W := hx_shift (prog := prog) (w := w) (A := A.in1) (by simpa using hh) s.heap.objs.size t hlt items 1 (by omega)
  refine wpAny_bind (wpAny_holding (wpAny_collect_iter (T := "tuple_iterator") (.inr (.inr (.inr rfl))) W (fun i s' st => ?_) ⟨by simpa using hit₁, ht₁⟩ (fun b hb => ?_) (by simp) (fun s' acc hm ha => ?_) (by omega)))
  · obtain ⟨⟨o, ho, hc, _⟩, _⟩ := st
    exact ⟨o, ho, hc⟩
  · rcases List.mem_cons.mp hb with rfl | hb
    · obtain ⟨o, ho, _⟩ := hit₁; exact Heap.lt_size ho
    · rw [List.mem_singleton.mp hb]; obtain ⟨o, ho, _⟩ := ht₁; exact Heap.lt_size ho
  · obtain ⟨h9, g9, d9, tk9, os9⟩ := s'
    have eg : g9 = s.gens := hm.gens
    have ed : d9 = s.drawn := hm.drawn
    have eo : os9 = s.os := hm.os
    subst eg; subst ed; subst eo
    have hacc : acc.toList = rest := by
      apply List.ext_getElem?
      intro i
      have hs : acc.size = rest.length := by rw [ha.1, hsz]; omega
      by_cases hlt2 : i < rest.length
      · have h1 : acc[i]? = some (acc[i]'(by omega)) := Array.getElem?_eq_getElem _
        have h2 := ha.2 i _ h1
        have h3 : items.toList[i + 1]? = some (acc[i]'(by omega)) := by simpa using h2
        rw [hi, List.getElem?_cons_succ] at h3
        rw [h3]
        simpa using h1
      · rw [List.getElem?_eq_none (by simpa using (by omega : acc.size ≤ i)), List.getElem?_eq_none (by omega)]
    rw [hacc]
    rw [if_neg (by simp)]
    have et : rest.take (rest.length - (2 - 1 - 1)) = rest := by simp
    have ed2 : rest.drop (rest.length - (2 - 1 - 1)) = [] := by simp
    rw [et, ed2]
    refine wpAny_bind (wpAny_newList ?_ (by omega))
    refine wpAny_pure ?_
    refine hQ h9 tk9 fun b o e => ?_
    have hb : b ≠ s.heap.objs.size := Nat.ne_of_lt (Heap.lt_size e)
    exact hm.heap b o (by simpa using hb) (kp b o e)
/-- max(a, b), compared where H stands -/
theorem hx_max_two {a b : Value} {Q : Value → Shared → Prop}
    (h : wpAny (model prog w) A.in1 (pyIter (.ref s.heap.objs.size)) (fun it s₂ => ∃ I fp wr G n P St H bt, it = .ref I ∧ WalksS prog w A.in1 I fp wr G n P St ∧ St 0 s₂ ∧ (∀ b ∈ fp, b < s₂.heap.objs.size) ∧ 0 < n ∧
      (∀ b o, H.get? b = some o → b ∉ wr) ∧ (∀ b o, H.get? b = some o → s₂.heap.get? b = some o) ∧ CmpIn prog w A.in1 .Gt H P bt ∧ ∀ v s', P (argBest bt (n - 1)) v → Moved wr G s₂ s' → Q v s') E { s with heap := s.heap.push { cls := .type "tuple", data := .seq #[a, b] } }) :
    wpAny (model prog w) A (call (.builtin "max") [a, b]) Q E s := by
  have hname : (toString "max" ++ toString ".loop" : String) = "max.loop" := by decide
  refine call_function_tree F.kind_max F.plain_max F.entry_max (F.args_max2 _ _) ?_
  show wpAny _ A.in1 (Builtin.Builtins.bindParams "max" ["key", "default"] 0 ⟨[], []⟩ >>= _) _ _ s
  refine wpAny_bind (wpAny_of_eq (show Builtin.Builtins.bindParams "max" ["key", "default"] 0 ⟨[], []⟩ = pure [none, none] from rfl) ?_)
  show wpAny _ A.in1 (newTuple [a, b] >>= _) _ _ s
  refine wpAny_bind (wpAny_newObj_type ?_)
  refine wpAny_bind (wpAny_mono h (fun it s₂ h₂ => ?_) fun _ _ e => e)
  obtain ⟨I, fp, wr, G, n, P, St, H, bt, rfl, W, hst, hfp, hn, hw, hkeep, hcmp, hQ⟩ := h₂
  refine wpAny_bind (wpAny_newObj_type ?_)
  have hSf : s₂.heap.objs.size ∉ fp := fun hm => Nat.lt_irrefl _ (hfp _ hm)
  rw [hname]
  refine wpAny_pure ⟨plainId_quiet F.plain_max_loop _, codeAny_max_loop_firstH W H hw bt hcmp s₂.heap.objs.size hSf (fresh_in hkeep) _ hn (fun b o e => Heap.get?_push_of_some _ (hkeep b o e)) (W.frame 0 s₂ _ s₂.toks hst (Nat.le_refl _) fun b _ o e => Heap.get?_push_of_some _ e) (Heap.get?_push_size _ rfl) fun v s' hP hm => ?_⟩
  exact hQ v s' hP (Moved.drop_new (tk := s₂.toks) hm (Nat.le_refl _))
theorem hx_max_data {a b : Value} {x y : PyData} {as : List Addr} {Q : Value → Shared → Prop} (hh : A.handled = none) (hr : ReadsAll s.heap [a, b] [x, y] as) (ha : AlikeAll [x, y]) (hu : A.units + 1 + PyData.depthAll [x, y] < cLine)
    (h : ∀ (h' : Heap) (tk : Nat), (∀ b o, s.heap.get? b = some o → h'.get? b = some o) → Q (if dataLt x y = true then b else a) { s with heap := h', toks := tk }) :
    wpAny (model prog w) A (call (.builtin "max") [a, b]) Q E s := by
  have kp : ∀ c o, s.heap.get? c = some o → (s.heap.push { cls := .type "tuple", data := .seq #[a, b] }).get? c = some o := fun c o e => Heap.get?_push_of_some _ e
  have hT : (s.heap.push { cls := .type "tuple", data := .seq #[a, b] }).IsTuple s.heap.objs.size #[a, b] := ⟨_, Heap.get?_push_size _ rfl, rfl, 0, rfl⟩
  have hr' : ReadsAll (s.heap.push { cls := .type "tuple", data := .seq #[a, b] }) (#[a, b] : Array Value).toList [x, y] as := ReadsAll.keeps kp hr
  refine hx_max_two (iter_tupleW (A := A.in1) (s := { s with heap := s.heap.push { cls := .type "tuple", data := .seq #[a, b] } }) hh hT fun s₂ e W st hfp hw hk => ?_)
  refine ⟨_, _, _, _, _, _, _, s.heap.push { cls := .type "tuple", data := .seq #[a, b] }, _, rfl, W, st, hfp, by simp, hw, hk, cmpIn_gt (s := { s with heap := s.heap.push { cls := .type "tuple", data := .seq #[a, b] } }) (A := A.in1) hr' ha (by show A.units + 1 + _ < _; exact hu), fun v s' hP m => ?_⟩
  obtain ⟨h', tk, rfl, hk'⟩ := moved_old (s := { s with heap := s.heap.push { cls := .type "tuple", data := .seq #[a, b] } }) e rfl m
  have hv : v = if dataLt x y = true then b else a := by
    have hP' : (#[a, b] : Array Value)[argBest (fun i j => dataLt ([x, y].getD j .none) ([x, y].getD i .none)) 1]? = some v := hP
    by_cases hb : dataLt x y = true
    · have e1 : argBest (fun i j => dataLt ([x, y].getD j PyData.none) ([x, y].getD i PyData.none)) 1 = 1 := by simp [argBest, hb]
      rw [e1] at hP'
      simpa [hb] using hP'.symm
    · have e1 : argBest (fun i j => dataLt ([x, y].getD j PyData.none) ([x, y].getD i PyData.none)) 1 = 0 := by simp [argBest, hb]
      rw [e1] at hP'
      simpa [hb] using hP'.symm
  rw [hv]
  exact h h' tk fun c o e => hk' c o (kp c o e)
end
end PySem
namespace L2
open PySem PySem.Spec PyProof.Rows PySem.W PySem.SeqAt
section
variable {X : Cx}
/-- max of two that are alike -/
def rMax2D (X : Cx) : List V → Hp → VK → Prop := fun vs H Q => ∃ x y d e, vs = [x, y] ∧ Dp X.K H x d ∧ Dp X.K H y e ∧ AlikeAll [d, e] ∧ X.A.units + 1 + PyData.depthAll [d, e] < cLine ∧ Q (if dataLt d e = true then y else x) H
theorem cr_max2D (hc : X.calm = true) : CallR X (.builtin "max") (rMax2D X) := by
  intro pins s σ H xs us Q I r h
  obtain ⟨x, y, d, e, rfl, hd, he, ha, hu, q⟩ := h
  obtain ⟨u, w', rfl, r1, r2⟩ := vals2 r
  obtain ⟨as, ra⟩ := Dp.readsAll I [d, e] [x, y] [u, w'] (.cons hd (.cons he .nil)) (.cons r1 (.cons r2 .nil))
  refine hx_max_data (I.ok.hd hc) ra ha hu fun h' tk k => ⟨_, H, I.kept k, ?_, q⟩
  by_cases hb : dataLt d e = true
  · rw [if_pos hb, if_pos hb]; exact r2
  · rw [if_neg hb, if_neg hb]; exact r1
/-- x, *r = a tuple -/
def gStar (K : PySem.W.Frag) (i j : Nat) : TG := fun v σ H Q => ∃ a x xs, v = .ref a ∧ SqT K H a (x :: xs) ∧ ∀ p, H p = none → Q ((σ.set i (some x)).set j (some (.ref p))) (upd H p (.lst xs))
theorem pg_star {i j k : Nat} {x y : Str} {p1 p2 p3 p4 : Pos} (hc : X.calm = true) (hN : X.N.Nodup) (hi : X.N[i]? = some x) (hj : X.N[j]? = some y) (hx : Loc X.env.scope x) (hy : Loc X.env.scope y)
    (hfx : X.fn x = true ∨ X.env.scope.names.lookup x = some .local := by first | exact .inl rfl | exact .inr rfl | assumption) (hfy : X.fn y = true ∨ X.env.scope.names.lookup y = some .local := by first | exact .inl rfl | exact .inr rfl | assumption) :
    PG X (.Tuple [.Name x p1, .Starred (.Name y p2) p3] k p4) (gStar X.K i j) := by
  have g1 : PG X (.Name x p1) (gName i) := pg_name hN hi hx hfx
  have g2 : PG X (.Name y p2) (gName j) := pg_name hN hj hy hfy
  refine ⟨fun pins s σ H v u Q I r h => ?_⟩
  obtain ⟨a, x1, xs, rfl, hs, q⟩ := h
  cases r
  obtain ⟨its, rv, ht, hz⟩ := I.tuple hs
  cases rv with
  | @cons _ w1 _ us r1 rr =>
    rw [PyProof.Rows.assign_Tuple]
    refine wpAny_bind (wpAny_standAt ?_)
    have ea : assignEach [Expr.Name x p1, .Starred (.Name y p2) p3] X.env = [(false, assign (.Name x p1) X.env), (true, assign (.Name y p2) X.env)] := rfl
    rw [ea]
    unfold unpack
    have hlen := rr.length
    simp only [List.length_cons] at hz
    refine wpAny_bind (wpAny_holding (hx_unpack_star (items := (w1 :: us).toArray) (x := w1) (rest := us) (I.ok.hd hc) ht (by simp) (by rw [List.size_toArray, List.length_cons]; omega) fun h' tk kp => ?_))
    have I1 : Inv X pins σ H { s with heap := h', toks := tk } := I.kept kp
    have hn : H h'.objs.size = none := I1.hok.fresh (Nat.le_refl _)
    have I2 : Inv X pins σ (upd H h'.objs.size (.lst xs)) { s with heap := h'.push { cls := .type "list", data := .seq us.toArray }, toks := tk } :=
      Inv.laid (s := { s with heap := h', toks := tk }) (t' := tk) I1 (fun b u e => Heap.get?_push_of_some _ e) (Nat.le_refl _) ?_
    · show wpAny _ _ (assignInOrder [assign (.Name x p1) X.env, assign (.Name y p2) X.env] [w1, .ref h'.objs.size]) _ _ _
      refine assignInOrder_cons (thn (g1.run pins _ σ _ x1 w1 (fun σ' H' => σ' = σ.set i (some x1) ∧ H' = upd H h'.objs.size (.lst xs)) I2 r1 ⟨rfl, rfl⟩) fun _ s3 ⟨σ3, H3, I3, e1, e2⟩ => ?_)
      subst e1
      subst e2
      refine assignInOrder_cons (thn (g2.run pins s3 _ _ (.ref h'.objs.size) (.ref h'.objs.size) Q I3 rfl (q _ hn)) fun _ s4 ⟨σ4, H4, I4, q4⟩ => ?_)
      exact assignInOrder_nil ⟨σ4, H4, I4, q4⟩
    · exact ⟨by omega, us, 0, rr, Heap.get?_push_size _ rfl⟩
end
end L2
/-! rules more: truth, remove, get, pop, del, keys sorted, listed, the greater of two rows, x, *r = a row -/
namespace Mv
open PySem PySem.Spec PyProof.Rows L2
variable {K : PySem.W.Frag} {F F' F1 F2 F3 H H' H1 H2 H3 : Hp} {v u x y w : V} {vs ws xs : List V} {s t c : S} {ss tts : List S} {fp fq fr fp' fp1 fp2 f1 f2 : List Addr} {ρ as : Ro} {E E' : En} {n : Nat}
variable {W : WXm} {te ta tb tc tk tv td : TE} {d da db dc dk dv : En → Option Rs} {tr : TA} {dr : En → Option (List Rs)} {de df : En → Option (S × En)} {tt : TT} {dte : En → Option (Bool × En)} {Q : VK} {dl : En → Option (Nat × En)}

/-! ### truth -/
def truS : S → Option Bool
  | .dat .none => some false
  | .dat (.bool b) => some b
  | .dat (.int i) => some (i != 0)
  | .dat (.list ds) => some (!ds.isEmpty)
  | .dat (.tuple ds) => some (!ds.isEmpty)
  | .lst ss => some (!ss.isEmpty)
  | .dct false kss => some (!kss.isEmpty)
  | _ => none
theorem isE_of {α β : Type} {l : List α} {m : List β} (h : l.length = m.length) : l.isEmpty = m.isEmpty := by
  cases l <;> cases m <;> simp at h ⊢
theorem tru_of (sub : ∀ a o, F a = some o → H a = some o) (o : Own K F H v s fp) {k : Bool} (h : truS s = some k) : TruV K v H k := by
  cases s with
  | dat d =>
    have q := Dq.mono sub (o.dat_inv rfl).1
    cases d with
    | none => cases q; cases h; rfl
    | bool b => cases q; cases h; rfl
    | int i => cases q; cases h; rfl
    | list ds =>
      obtain ⟨a, xs, rfl, hs, da⟩ := q.list_inv
      cases h
      exact .inl ⟨xs, hs, by rw [isE_of (Mv.DqAll.len da)]⟩
    | tuple ds =>
      obtain ⟨a, xs, rfl, hs, da⟩ := q.tuple_inv
      cases h
      exact .inr (.inl ⟨xs, hs, by rw [isE_of (Mv.DqAll.len da)]⟩)
    | _ => cases h
  | con v => cases h
  | lst ss =>
    cases h
    obtain ⟨a, vs, fq, rfl, hH, l, _⟩ := o.lst_inv rfl
    exact .inl ⟨vs, .inl (.inl hH), by rw [isE_of l.length]⟩
  | dct l kss =>
    cases l with
    | true => cases h
    | false =>
      cases h
      obtain ⟨a, kvs, u, fq', rfl, hH, hk, rd, hkk, ll, z⟩ := o.dct_inv rfl
      exact .inr (.inr ⟨kvs, (z rfl).1, by rw [isE_of (l := kvs) (m := kss) (by have := congrArg List.length hkk; simpa using this)]⟩)
  | ins c ss => cases h
def tTru (K : PySem.W.Frag) (ta : TE) : TT := fun σ H Q => ta σ H fun x H' => ∃ k, TruV K x H' k ∧ Q k H'
def dTru (d : En → Option Rs) (E : En) : Option Bool := match d E with
  | some r => (r.at E).bind truS
  | none => none
theorem p_tru (h : EvP K n as te d) : EvT K n as (tTru K te) (dTru d) := by
  intro F H σ E fp L R b e Q q
  unfold dTru at e
  split at e
  · next r ed =>
    obtain ⟨s, es, et⟩ := Option.bind_eq_some_iff.mp e
    refine h L R ed fun v F1 H1 f1 g1 a1 n1 o1 => ?_
    obtain ⟨fq, o⟩ := a1.own (R.grow g1) es
    exact ⟨b, tru_of g1.sub o et, q F1 H1 g1.drop⟩
  · cases e
def eTru (d : En → Option (S × En)) (E : En) : Option (Bool × En) := match d E with
  | some (s, E') => (truS s).map (·, E')
  | none => none
theorem e_tru (h : EvE K n as te de) : EvTE K n as (tTru K te) (eTru de) := by
  intro F H σ E fp L R b E' e Q q
  unfold eTru at e
  split at e
  · next s E2 ed =>
    obtain ⟨k, et, e2⟩ := Option.map_eq_some_iff.mp e
    cases e2
    refine h L R ed fun v F1 H1 fr fp1 g R1 o nd of => ?_
    exact ⟨b, tru_of R1.sub o et, q F1 H1 fp1 (g.less fun a m => List.mem_append_right _ m) R1⟩
  · cases e
/-- not x, of any -/
def dNotT (d : En → Option Rs) (E : En) : Option Rs := (dTru d E).map fun k => .val (.dat (.bool !k))
theorem p_notT (h : EvP K n as te d) : EvP K n as (tNotT K te) (dNotT d) := by
  intro F H σ E fp L R r e Q q
  obtain ⟨k, e1, rfl⟩ := Option.map_eq_some_iff.mp e
  unfold dTru at e1
  split at e1
  · next r1 ed =>
    obtain ⟨s, es, et⟩ := Option.bind_eq_some_iff.mp e1
    refine h L R ed fun v F1 H1 f1 g1 a1 n1 o1 => ?_
    obtain ⟨fq, o⟩ := a1.own (R.grow g1) es
    exact ⟨_, tru_of g1.sub o et, q _ F1 H1 [] g1.drop (.dat (.bl _)) List.nodup_nil (fun _ m => nomatch m)⟩
  · cases e1
def eNotT (d : En → Option (S × En)) (E : En) : Option (S × En) := (eTru d E).map fun p => (.dat (.bool !p.1), p.2)
theorem e_notT (h : EvE K n as te de) : EvE K n as (tNotT K te) (eNotT de) := by
  intro F H σ E fp L R s E' e Q q
  obtain ⟨⟨k, E1⟩, e1, e2⟩ := Option.map_eq_some_iff.mp e
  cases e2
  unfold eTru at e1
  split at e1
  · next s E2 ed =>
    obtain ⟨k', et, e2⟩ := Option.map_eq_some_iff.mp e1
    cases e2
    refine h L R ed fun v F1 H1 fr fp1 g R1 o nd of => ?_
    exact ⟨_, tru_of R1.sub o et, q _ F1 H1 [] fp1 (g.less fun a m => List.mem_append_right _ (by simpa using m)) R1 (.dat (.bl _)) (by simpa using R1.nd) (fun _ m => nomatch m)⟩
  · cases e1

/-! ### xs.remove(k), a number that is there -/
def intsS : List S → Option (List Int)
  | [] => some []
  | .dat (.int i) :: r => (intsS r).map (i :: ·)
  | _ => none
theorem intsS_eq : ∀ {ss : List S} {ns : List Int}, intsS ss = some ns → ss = ns.map fun i => S.dat (.int i)
  | [], ns, h => by cases h; rfl
  | .dat (.int i) :: r, ns, h => by
    obtain ⟨m, hm, rfl⟩ := Option.map_eq_some_iff.mp h
    rw [intsS_eq hm]; rfl
  | .dat .none :: _, _, h => by simp [intsS] at h
  | .dat (.bool _) :: _, _, h => by simp [intsS] at h
  | .dat (.str _) :: _, _, h => by simp [intsS] at h
  | .dat (.list _) :: _, _, h => by simp [intsS] at h
  | .dat (.tuple _) :: _, _, h => by simp [intsS] at h
  | .dat (.dict _) :: _, _, h => by simp [intsS] at h
  | .con _ :: _, _, h => by simp [intsS] at h
  | .lst _ :: _, _, h => by simp [intsS] at h
  | .dct _ _ :: _, _, h => by simp [intsS] at h
  | .ins _ _ :: _, _, h => by simp [intsS] at h
def atK : List Int → Int → Option Nat
  | [], _ => none
  | a :: r, k => if a = k then some 0 else (atK r k).map (· + 1)
theorem atK_at {k : Int} : ∀ {ns : List Int} {j : Nat}, atK ns k = some j → ns[j]? = some k ∧ ∀ m : Nat, m < j → ns[m]? ≠ some k
  | [], _, h => by simp [atK] at h
  | a :: r, j, h => by
    unfold atK at h
    split at h
    · next e => cases h; exact ⟨by simp [e], fun m hm => absurd hm (Nat.not_lt_zero m)⟩
    · next e =>
      obtain ⟨i, hi, rfl⟩ := Option.map_eq_some_iff.mp h
      obtain ⟨h1, h2⟩ := atK_at hi
      refine ⟨by simpa using h1, fun m hm => ?_⟩
      cases m with
      | zero => simpa using e
      | succ m => simpa using h2 m (by omega)
def oRemove : S → S → Option (S × S)
  | .lst ss, .dat (.int k) => match intsS ss with
    | some ns => match atK ns k with
      | some j => some (.lst ((ns.eraseIdx j).map fun i => .dat (.int i)), .dat .none)
      | none => none
    | none => none
  | _, _ => none
theorem nd_remove : Nd1 K (fun u y H Q => rRemI u [y] H Q) oRemove := by
  intro F H u y t s t' c fp1 fr sub ot os nd of e Q q
  unfold oRemove at e
  split at e
  · next ss k =>
    split at e
    · next ns hns =>
      split at e
      · next j hj =>
        cases e
        have es := intsS_eq hns
        subst es
        obtain ⟨a, vs, fq, rfl, hH, l, rfl⟩ := ot.lst_inv rfl
        obtain ⟨dk, rfl⟩ := os.dat_inv rfl
        cases dk
        obtain ⟨da, rfl⟩ := datsS_dp l (show datsS (ns.map fun i => S.dat (.int i)) = some (ns.map .int) by
          have := datsS_dats (ns.map PyData.int)
          rwa [List.map_map] at this)
        have hv : vs = ns.map V.int := intsD_dp da (show intsD (ns.map PyData.int) = some ns by
          clear da l hH hns hj of nd ot q
          induction ns with
          | nil => rfl
          | cons a r ih => simp [intsD, ih])
        subst hv
        obtain ⟨h1, h2⟩ := atK_at hj
        refine ⟨a, ns, k, j, rfl, rfl, hH, h1, h2, ?_⟩
        have fa : F a = none := of a (List.mem_append_right _ List.mem_cons_self)
        have g0 : Grow F H [a] F (upd H a (.lst ((ns.eraseIdx j).map V.int))) [a] := Grow.write sub fa
        refine q .non F _ [] [a] (g0.wide (fun b m => by rw [List.mem_singleton.mp m]; simp) fun b m => .inl (by simpa using m)) (lst_write (ints_own _)) (.dat .non) (by simp) fun b m => ?_
        rw [show b = a by simpa using m]; exact fa
      · cases e
    · cases e
  · cases e

/-! ### d.get(k) -/
def dDGet1 (da db : En → Option Rs) (E : En) : Option Rs := match da E, db E with
  | some r, some rk => match r.at E, rk.key with
    | some (.dct _ kss), some k => match kix (kss.map (·.1)) k with
      | some i => match (kss.map (·.2))[i]? with
        | some s => r.kid i s
        | none => none
      | none => some (.val (.dat .none))
    | _, _ => none
  | _, _ => none
theorem p_dget1 (ha : EvP K n as ta da) (hb : EvP K n as tb db) : EvP K n as (tDGet1 ta tb) (dDGet1 da db) := by
  intro F H σ E fp L R r' e Q q
  unfold dDGet1 at e
  split at e
  · next r rk ea eb =>
    split at e
    · next l kss k es ek =>
      refine ha L R ea fun x F1 H1 f1 g1 r1 n1 o1 => ?_
      have R1 := R.grow g1
      obtain ⟨fq1, ow1⟩ := r1.own R1 es
      obtain ⟨a, kvs1, u1, fq1', rfl, hH1, hk1, rd1, hkk1, ll1, _⟩ := ow1.dct_inv rfl
      refine ⟨a, rfl, .inl ⟨kvs1, rd1⟩, hb L R1 eb fun y F2 H2 f2 g2 r2 n2 o2 => ?_⟩
      have R2 := R1.grow g2
      have r1' := r1.grow R1 g2
      have ky := r2.key ek
      subst ky
      obtain ⟨fq, ow⟩ := r1'.own R2 es
      obtain ⟨a', kvs, u, fq', ea', hH, hk, rd, hkk, ll, _⟩ := ow.dct_inv rfl
      cases ea'
      have gg : Grow F H [] F2 H2 [] := (g1.seq0 g2).drop
      cases hi : kix (kss.map (·.1)) k with
      | none =>
        rw [hi] at e
        cases e
        exact ⟨none, .inl ⟨kvs, k, rd, rfl, by rw [valV_kix, hkk, hi]; rfl⟩, q _ F2 H2 [] gg (.dat .non) List.nodup_nil (fun _ m => nomatch m)⟩
      | some i =>
        rw [hi] at e
        dsimp only at e
        split at e
        · next s hs =>
          obtain ⟨w, f, hw, ow2⟩ := ll.nth hs
          refine ⟨some w, .inl ⟨kvs, k, rd, rfl, by rw [valV_kix, hkk, hi]; exact hw.symm⟩, ?_⟩
          exact q w F2 H2 [] gg (r1'.kid R2 es hH (by rw [hk]; exact hw) hs ow2 e) List.nodup_nil (fun _ m => nomatch m)
        · cases e
    · cases e
  · cases e

/-! ### d.pop(k), del d[k]: it is there -/
theorem dropK_kix {k : Key} : ∀ {kvs : List (Key × V)} {i : Nat}, (kvs.map (·.1)).Nodup → kix (kvs.map (·.1)) k = some i → dropK kvs k = kvs.eraseIdx i
  | [], i, _, h => by simp [kix] at h
  | p :: r, i, nd, h => by
    rw [List.map_cons, List.nodup_cons] at nd
    rw [List.map_cons, kix] at h
    unfold dropK
    split at h
    · next e =>
      cases h
      have : r.filter (fun kv => decide (kv.1 ≠ k)) = r := by
        rw [List.filter_eq_self]
        intro q hq
        have : q.1 ≠ k := fun z => nd.1 (by rw [e, ← z]; exact List.mem_map.mpr ⟨q, hq, rfl⟩)
        simpa using this
      have h0 : (!decide (p.1 = k)) = false := by simp [e]
      show List.filter (fun kv => decide (kv.1 ≠ k)) (p :: r) = r
      rw [List.filter_cons_of_neg (by simp [e]), this]
    · next e =>
      obtain ⟨j, hj, rfl⟩ := Option.map_eq_some_iff.mp h
      have ih := dropK_kix nd.2 hj
      unfold dropK at ih
      show List.filter (fun kv => decide (kv.1 ≠ k)) (p :: r) = p :: r.eraseIdx j
      rw [List.filter_cons_of_pos (by simp [e]), ih]
def oDPop (k : Key) (t : S) : Option (S × S) := match t with
  | .dct false kss => if nodupK (kss.map (·.1)) = true then match kix (kss.map (·.1)) k with
      | some i => match (kss.map (·.2))[i]? with
        | some s => some (.dct false (kss.eraseIdx i), s)
        | none => none
      | none => none
    else none
  | _ => none
def rDPopV (k : Key) (u : V) (H : Hp) (Q : VK) : Prop := ∃ a kvs v, u = .ref a ∧ H a = some (.dK kvs) ∧ valV kvs k = some v ∧ Q v (upd H a (.dK (dropK kvs k)))
theorem eraseIdx_map {α β : Type} (f : α → β) : ∀ (l : List α) (i : Nat), (l.eraseIdx i).map f = (l.map f).eraseIdx i
  | [], _ => rfl
  | _ :: _, 0 => rfl
  | a :: r, i + 1 => by simp [eraseIdx_map f r i]
theorem nd_dpop (k : Key) : Nd0 K (rDPopV k) (oDPop k) := by
  intro F H u t t' c fp1 sub ot nd of e Q q
  unfold oDPop at e
  split at e
  · next kss =>
    split at e
    · next hn =>
      split at e
      · next i hi =>
        split at e
        · next s hs =>
          cases e
          obtain ⟨a, kvs, u, fq, rfl, hH, hk, rd, hkk, ll, z⟩ := ot.dct_inv rfl
          obtain ⟨hH', rfl⟩ := z rfl
          obtain ⟨v, g1, g2, hv, ov, l2, pm⟩ := ll.erase hs
          have fa : F a = none := of a List.mem_cons_self
          have naq : a ∉ fq := (List.nodup_cons.mp nd).1
          have nfq : fq.Nodup := (List.nodup_cons.mp nd).2
          have na1 : a ∉ g1 := fun m => naq (pm.mem_iff.mpr (List.mem_append_left _ m))
          have na2 : a ∉ g2 := fun m => naq (pm.mem_iff.mpr (List.mem_append_right _ m))
          have hdrop : dropK kvs k = kvs.eraseIdx i := dropK_kix (by rw [hkk]; exact nodupK_ok hn) (by rw [hkk]; exact hi)
          refine ⟨a, kvs, v, rfl, hH', by rw [valV_kix, hkk, hi]; exact hv, ?_⟩
          rw [hdrop]
          have g0 : Grow F H [a] F (upd H a (.dK (kvs.eraseIdx i))) [a] := Grow.write sub fa
          have l3 := l2.off sub (o := .dK (kvs.eraseIdx i)) fa na2
          rw [← eraseIdx_map, ← eraseIdx_map] at l3
          have ov3 := ov.off sub (o := .dK (kvs.eraseIdx i)) fa na1
          refine q v F _ g1 (a :: g2) (g0.wide (fun b m => by rw [List.mem_singleton.mp m]; exact List.mem_cons_self) fun b m => .inl ?_) (dct_write (by rw [eraseIdx_map, eraseIdx_map, hkk]) l3) ov3 ?_ fun b m => ?_
          · rcases List.mem_append.mp m with m | m
            · exact List.mem_cons_of_mem _ (pm.mem_iff.mpr (List.mem_append_left _ m))
            · rcases List.mem_cons.mp m with rfl | m
              · exact List.mem_cons_self
              · exact List.mem_cons_of_mem _ (pm.mem_iff.mpr (List.mem_append_right _ m))
          · have n12 := pm.nodup_iff.mp nfq
            refine nodup_two (List.nodup_append.mp n12).1 (List.nodup_cons.mpr ⟨na2, (List.nodup_append.mp n12).2.1⟩) fun b m c mc z => ?_
            subst z
            rcases List.mem_cons.mp mc with rfl | mc
            · exact na1 m
            · exact (List.nodup_append.mp n12).2.2 b m b mc rfl
          · rcases List.mem_append.mp m with m | m
            · exact of b (List.mem_cons_of_mem _ (pm.mem_iff.mpr (List.mem_append_left _ m)))
            · rcases List.mem_cons.mp m with rfl | m
              · exact fa
              · exact of b (List.mem_cons_of_mem _ (pm.mem_iff.mpr (List.mem_append_right _ m)))
        · cases e
      · cases e
    · cases e
  · cases e
def eDPop (da db : En → Option Rs) (E : En) : Option (S × En) := match da E, db E with
  | some (.pl p), some rk => match rk.key with
    | some k => match eget E p with
      | some t => match oDPop k t with
        | some (t', c) => some (c, ekill (eput E p t') p)
        | none => none
      | none => none
    | none => none
  | _, _ => none
theorem e_dpop (ha : EvP K n as ta da) (hb : EvP K n as tb db) : EvE K n as (tDPop1 ta tb) (eDPop da db) := by
  intro F H σ E fp L R s0 E0 e Q q
  unfold eDPop at e
  split at e
  · next p rk ea eb =>
    split at e
    · next k ek =>
      split at e
      · next t et =>
        split at e
        · next t' c ho =>
          cases e
          refine ha L R ea fun u F1 H1 f1 g1 a1 n1 o1 => ?_
          have R1 := R.grow g1
          have isd : ∃ a kvs, u = .ref a ∧ H1 a = some (.dK kvs) := by
            unfold oDPop at ho
            split at ho
            · obtain ⟨fq, ow⟩ := a1.own R1 (show (Rs.pl p).at E = _ from et)
              obtain ⟨a, kvs, u, fq', rfl, hH, hk, rd, hkk, ll, z⟩ := ow.dct_inv rfl
              exact ⟨a, kvs, rfl, (z rfl).1⟩
            · cases ho
          obtain ⟨a, kvs0, rfl, hH0⟩ := isd
          refine ⟨a, rfl, .inl ⟨kvs0, .inl hH0⟩, hb L R1 eb fun y F2 H2 f2 g2 a2 n2 o2 => ?_⟩
          have R2 := R1.grow g2
          have ky := a2.key ek
          subst ky
          have fin := mut0 (nd_dpop k) R2 (a1.grow R1 g2) et ho (Q := Q) fun v F' H' fv fp' g R' ov nd' of' => q v F' H' fv fp' (((g1.ours fp).less fun a m => List.mem_append_right _ m).trans (((g2.ours fp).less fun a m => List.mem_append_right _ m).trans g)) R' ov nd' of'
          obtain ⟨a', kvs, v, ea', h1, h2, h3⟩ := fin
          cases ea'
          exact ⟨kvs, k, v, h1, rfl, h2, h3⟩
        · cases e
      · cases e
    · cases e
  · cases e
def dDDel (da db : En → Option Rs) (E : En) : Option Out := match eDPop da db E with
  | some (_, E') => some (.nx E')
  | none => none
theorem s_ddel (ha : EvP K n as ta da) (hb : EvP K n as tb db) : EvS K n as W (sDDel ta tb) (dDDel da db) := by
  intro F H σ E fp L R o e D g
  unfold dDDel at e
  split at e
  · next c0 E1 e1 =>
    cases e
    unfold eDPop at e1
    split at e1
    · next p rk ea eb =>
      split at e1
      · next k ek =>
        split at e1
        · next t et =>
          split at e1
          · next t' c ho =>
            cases e1
            refine ha L R ea fun u F1 H1 f1 g1 a1 n1 o1 => ?_
            have R1 := R.grow g1
            refine hb L R1 eb fun y F2 H2 f2 g2 a2 n2 o2 => ?_
            have R2 := R1.grow g2
            have ky := a2.key ek
            subst ky
            have fin := mut0 (nd_dpop k) R2 (a1.grow R1 g2) et ho (Q := fun _ H4 => D.nx σ H4) fun v F' H' fv fp' g3 R' ov nd' of' => g σ F' H' fp' L ((((g1.ours fp).less fun a m => List.mem_append_right _ m).trans (((g2.ours fp).less fun a m => List.mem_append_right _ m).trans g3)).less fun a m => List.mem_append_right _ m) R'
            obtain ⟨a', kvs, v, ea', h1, h2, h3⟩ := fin
            exact ⟨a', kvs, k, ea', h1, rfl, by rw [h2]; rfl, h3⟩
          · cases e1
        · cases e1
      · cases e1
    · cases e1
  · cases e
end Mv
/-! comprehensions whose target is a row of names -/
namespace Mv
open PySem PySem.Spec PyProof.Rows L2
variable {K : PySem.W.Frag} {F F' F1 F2 F3 H H' H1 H2 H3 : Hp} {v u x y w : V} {vs ws xs : List V} {s t c : S} {ss tts : List S} {fp fq fr fp' fp1 fp2 f1 f2 : List Addr} {ρ as : Ro} {E E' : En} {n : Nat}
variable {W : WXm} {te ta tb tc tk tv td : TE} {d da db dc dk dv : En → Option Rs} {tr : TA} {dr : En → Option (List Rs)} {de df : En → Option (S × En)} {tt : TT} {dte : En → Option (Bool × En)} {Q : VK} {dl : En → Option (Nat × En)} {js : List Nat}

theorem wipe_get (σ : L2.St) : ∀ (js : List Nat) (i : Nat), (wipe σ js)[i]? = if i ∈ js then (if i < σ.length then some none else none) else σ[i]?
  | [], i => by simp [wipe]
  | j :: js, i => by
    unfold wipe
    have ih := wipe_get σ js i
    have hl := wipe_length σ js
    by_cases ij : j = i
    · subst ij
      by_cases h : j < σ.length
      · rw [List.getElem?_set_self (by omega)]; simp [h]
      · rw [List.getElem?_eq_none (by rw [List.length_set]; omega)]; simp [h]
    · rw [List.getElem?_set_ne ij, ih]
      have : i ≠ j := fun z => ij z.symm
      simp [this]
theorem wipe_wipe (σ : L2.St) (js : List Nat) : wipe (wipe σ js) js = wipe σ js := by
  apply List.ext_getElem?
  intro i
  rw [wipe_get, wipe_get]
  by_cases h : i ∈ js
  · simp [h, wipe_length]
  · simp [h]
theorem wipe_set {σ : L2.St} {i : Nat} {o : Option V} (h : i ∈ js) : wipe (σ.set i o) js = wipe σ js := by
  apply List.ext_getElem?
  intro k
  rw [wipe_get, wipe_get, List.length_set]
  by_cases hk : k ∈ js
  · simp [hk]
  · have : i ≠ k := fun z => hk (z ▸ h)
    simp [hk, List.getElem?_set_ne this]
def wipeE (E : En) : List Nat → En
  | [] => E
  | j :: js => slotSet (wipeE E js) j .no
theorem slotSet_len (E : En) (i : Nat) (e : Sl) : (slotSet E i e).length = E.length := by unfold slotSet; simp
theorem wipeE_no : ∀ {js : List Nat} {E : En}, (∀ j ∈ js, j < E.length) → ∀ j ∈ js, (wipeE E js)[j]? = some Sl.no
  | [], _, _, _, m => nomatch m
  | i :: js, E, h, j, m => by
    have len : ∀ (l : List Nat), (wipeE E l).length = E.length := fun l => by
      induction l with
      | nil => rfl
      | cons a r ih => unfold wipeE; rw [slotSet_len, ih]
    unfold wipeE
    by_cases ij : i = j
    · subst ij
      unfold slotSet
      rw [List.getElem?_set_self (by rw [List.length_map, len]; exact h i List.mem_cons_self)]
    · have m2 : j ∈ js := (List.mem_cons.mp m).resolve_left fun z => ij z.symm
      have ih := wipeE_no (fun k hk => h k (List.mem_cons_of_mem _ hk)) j m2
      unfold slotSet
      rw [List.getElem?_set_ne ij, List.getElem?_map, ih]; rfl
theorem Rep.wipeN {σ : L2.St} (R : Rep K F H (σ ++ as) E fp) : ∀ (js : List Nat), (∀ j ∈ js, j < σ.length) → ∃ fq, Rep K F H (L2.wipe σ js ++ as) (wipeE E js) fq ∧ ∀ a ∈ fq, a ∈ fp
  | [], _ => ⟨fp, R, fun _ m => m⟩
  | j :: js, h => by
    obtain ⟨fq, R1, sb⟩ := Rep.wipeN R js fun k hk => h k (List.mem_cons_of_mem _ hk)
    have hj : j < (L2.wipe σ js).length := by rw [L2.wipe_length]; exact h j List.mem_cons_self
    obtain ⟨f2, R2, sb2⟩ := R1.wipe (j := j) (by rw [List.length_append]; omega) none
    rw [← set_app hj] at R2
    exact ⟨f2, R2, fun a m => sb a (sb2 a m)⟩
theorem Rep.unwipe {σ : L2.St} : ∀ {js : List Nat} {E : En} {fp : List Addr}, Rep K F H (L2.wipe σ js ++ as) E fp → (∀ j ∈ js, j < σ.length) → (∀ j ∈ js, E[j]? = some Sl.no) → Rep K F H (σ ++ as) E fp
  | [], E, fp, R, _, _ => R
  | j :: js, E, fp, R, h, hn => by
    have hj : j < (L2.wipe σ js).length := by rw [L2.wipe_length]; exact h j List.mem_cons_self
    have R1 := Rep.forget (((L2.wipe σ js))[j]?.getD none) (show Rep K F H ((L2.wipe σ js).set j none ++ as) E fp from R) (hn j List.mem_cons_self)
    rw [← set_app (by rw [List.length_set]; exact hj), List.set_set] at R1
    have back : (L2.wipe σ js).set j ((L2.wipe σ js)[j]?.getD none) = L2.wipe σ js := by
      apply List.ext_getElem?
      intro i
      by_cases ij : j = i
      · subst ij
        rw [List.getElem?_set_self hj, List.getElem?_eq_getElem hj]; rfl
      · rw [List.getElem?_set_ne ij]
    rw [back] at R1
    exact Rep.unwipe R1 (fun k hk => h k (List.mem_cons_of_mem _ hk)) fun k hk => hn k (List.mem_cons_of_mem _ hk)
/-- a target that stores to js alone -/
def EvGw (K : PySem.W.Frag) (n : Nat) (js : List Nat) (g : TG) (bd : Rs → En → Option En) : Prop :=
  ∀ {as : Ro} {F H : Hp} {σ : L2.St} {E E' : En} {fp : List Addr} {v : V} {r : Rs}, σ.length = n → Rep K F H (σ ++ as) E fp → RsAt K F H (σ ++ as) E v r [] → bd r E = some E' → ∀ {Q : L2.St → Hp → Prop},
    (∀ (σ' : L2.St) F' H' fp', σ'.length = n → wipe σ' js = wipe σ js → Grow F H fp F' H' fp' → Rep K F' H' (σ' ++ as) E' fp' → Q σ' H') → g v σ H Q
theorem gw_name {i : Nat} (hi : i < n) (hm : i ∈ js) : EvGw K n js (gName i) (bName i) := by
  intro as F H σ E E' fp v r L R a e Q q
  have hl : i < (σ ++ as).length := by rw [List.length_append]; omega
  cases r with
  | val s =>
    cases e
    obtain ⟨fq, R2, sb⟩ := R.setSlot (e := .own s) (fr := []) hl a R.nd (fun _ m => nomatch m)
    exact q _ F H fq (by rw [List.length_set]; exact L) (wipe_set hm) ((Grow.refl R.sub fp).less fun a m => by simpa using sb a m) (by rw [set_app (by omega)]; exact R2)
  | pl p =>
    unfold bName at e
    dsimp only at e
    split at e
    · cases e
    · next hp =>
      cases e
      obtain ⟨a1, a2, a3⟩ := a
      obtain ⟨fq, R2, sb⟩ := R.setSlot (e := .bor p) (fr := []) hl ⟨rfl, hp, a2, a3⟩ R.nd (fun _ m => nomatch m)
      exact q _ F H fq (by rw [List.length_set]; exact L) (wipe_set hm) ((Grow.refl R.sub fp).less fun a m => by simpa using sb a m) (by rw [set_app (by omega)]; exact R2)
def EvGsw (K : PySem.W.Frag) (n : Nat) (js : List Nat) (g : TGs) (bd : List PyData → En → Option En) : Prop :=
  ∀ {as : Ro} {F H : Hp} {σ : L2.St} {E E' : En} {fp : List Addr} {vs : List V} {ds : List PyData}, σ.length = n → Rep K F H (σ ++ as) E fp → DqAll K F vs ds → bd ds E = some E' → ∀ {Q : L2.St → Hp → Prop},
    (∀ (σ' : L2.St) F' H' fp', σ'.length = n → wipe σ' js = wipe σ js → Grow F H fp F' H' fp' → Rep K F' H' (σ' ++ as) E' fp' → Q σ' H') → g vs σ H Q
theorem gsw_nil : EvGsw K n js gNil bNil := by
  intro as F H σ E E' fp vs ds L R a e Q q
  cases a with
  | nil => cases e; exact ⟨rfl, q σ F H fp L rfl (.refl R.sub fp) R⟩
  | cons _ _ => cases e
theorem gsw_cons {g : TG} {gs : TGs} {b : Rs → En → Option En} {bs : List PyData → En → Option En} (hg : EvGw K n js g b) (hs : EvGsw K n js gs bs) : EvGsw K n js (gCons g gs) (bCons b bs) := by
  intro as F H σ E E' fp vs ds L R a e Q q
  cases a with
  | nil => cases e
  | @cons v vs d ds h t =>
    simp only [bCons] at e
    split at e
    · next E1 e1 =>
      exact ⟨v, vs, rfl, hg L R (r := .val (.dat d)) (Own.dat h) e1 fun σ1 F1 H1 fp1 L1 w1 g1 R1 => hs L1 R1 (DqAll.mono g1.f t) e fun σ2 F2 H2 fp2 L2 w2 g2 R2 => q σ2 F2 H2 fp2 L2 (w2.trans w1) (g1.trans g2) R2⟩
    · cases e
theorem gw_tup {gs : TGs} {bs : List PyData → En → Option En} {k : Nat} (hs : EvGsw K n js gs bs) : EvGw K n js (gTup K k gs) (bTup k bs) := by
  intro as F H σ E E' fp v r L R a e Q q
  unfold bTup at e
  split at e
  · next ds =>
    split at e
    · next hk =>
      obtain ⟨ad, xs, rfl, hq, da⟩ := Mv.Dq.tuple_inv ((show Own K F H v _ [] from a).dat_inv rfl).1
      exact ⟨ad, xs, rfl, SqT.mono R.sub hq, (Mv.DqAll.len da).trans hk, hs L R da e q⟩
    · cases e
  · cases e
def dLcG (rd : En → Nat → Option (Option Rs)) (js : List Nat) (bd : Rs → En → Option En) (dt : En → Option (Bool × En)) (de : En → Option (S × En)) : Nat → Nat → List S → En → Option (List S × En)
  | fuel, i, acc, E => match rd E i with
    | none => none
    | some none => some (acc, E)
    | some (some r) => match fuel with
      | 0 => none
      | fuel + 1 => match bd r E with
        | none => none
        | some E1 => match dt E1 with
          | some (true, E2) => match de E2 with
            | some (s, E3) => if acc.length < 100000 then dLcG rd js bd dt de fuel (i + 1) (acc ++ [s]) (wipeE E3 js) else none
            | none => none
          | some (false, E2) => dLcG rd js bd dt de fuel (i + 1) acc (wipeE E2 js)
          | none => none
def eLcG (src : En → Option Src) (js : List Nat) (bd : Rs → En → Option En) (dt : En → Option (Bool × En)) (de : En → Option (S × En)) (E : En) : Option (S × En) := match src E with
  | some c => match dLcG c.rd js bd dt de c.fuel 0 [] (wipeE (c.env ++ c.exE) js) with
    | some (acc, E') => some (.lst acc, stripE c E')
    | none => none
  | none => none
theorem e_lcG {wi : TI} {g : TG} {bd : Rs → En → Option En} {src : En → Option Src} (hjs : ∀ j ∈ js, j < n) (hi : EvI K n as wi src) (hg : EvGw K n js g bd) (ht : ∀ as, EvTE K n as tt dte) (he : ∀ as, EvE K n as te de) : EvE K n as (tLc wi g tt te js) (eLcG src js bd dte de) := by
  intro F H σ E fp L R s0 E0 e Q q
  unfold eLcG at e
  split at e
  · next c ec =>
    split at e
    · next acc0 E9 hd =>
      cases e
      refine hi L R ec fun J F1 H1 ex fpx g1' R1 hx spec => fun D hD => ?_
      have gD : Grow F1 H1 [] F1 (upd H1 D (.lst [])) [D] := Grow.alloc R1.sub hD
      have lt : ∀ {τ : L2.St}, τ.length = n → ∀ j ∈ js, j < τ.length := fun h j m => by rw [h]; exact hjs j m
      obtain ⟨fw, Rw, sbw⟩ := (R1.grow gD).wipeN js (lt L)
      have noOf : ∀ {ρ : Ro} {τ : L2.St} {F H : Hp} {X : En} {fq : List Addr}, τ.length = n → Rep K F H (τ ++ ρ) X fq → ∀ j ∈ js, (wipeE X js)[j]? = some Sl.no := fun {ρ τ F H X fq} hl RR => wipeE_no fun j m => by
        rw [RR.core.len, List.length_append]
        have := lt hl j m
        omega
      refine ⟨fun i m Hm => ∃ Fm Em fpm accV accS fa, Grow F1 H1 fpx Fm Hm (D :: (fa ++ fpm)) ∧ Rep K Fm Hm (wipe σ js ++ (as ++ ex.map some)) Em fpm ∧ (∀ j ∈ js, Em[j]? = some Sl.no) ∧ Hm D = some (.lst accV) ∧ OwnL K Fm Hm accV accS fa ∧
          (D :: (fa ++ fpm)).Nodup ∧ (∀ a ∈ D :: fa, Fm a = none) ∧ dLcG c.rd js bd dte de m i accS Em = some (acc0, E9),
        ⟨c.fuel, F1, _, fw, [], [], [], ?_, Rw, noOf L (R1.grow gD), upd_same, .nil, ?_, ?_, hd⟩, fun i m Hm hW => ?_⟩
      · have := gD.wide (fq := fpx) (fr := D :: ([] ++ fw)) (fun _ m => nomatch m) fun a m => ?_
        · exact this
        · rcases List.mem_cons.mp m with rfl | m
          · exact .inr hD
          · exact .inl (sbw a (by simpa using m))
      · refine List.nodup_cons.mpr ⟨fun m => ?_, by simpa using Rw.nd⟩
        obtain ⟨o, eo⟩ := R1.there D (sbw D (by simpa using m))
        rw [hD] at eo; cases eo
      · intro a m
        rw [List.mem_singleton.mp m]
        cases h : F1 D with
        | none => rfl
        | some o => rw [R1.sub D o h] at hD; cases hD
      · obtain ⟨Fm, Em, fpm, accV, accS, fa, gm, Rm, hno, hHD, lacc, nd, off, hl⟩ := hW
        have gm' : Grow F1 H1 fpx Fm Hm fpm := gm.less fun a m => List.mem_cons_of_mem _ (List.mem_append_right _ m)
        have Lw : (wipe σ js).length = n := by rw [wipe_length]; exact L
        obtain ⟨sp1, sp2⟩ := spec Fm Hm (wipe σ js) Em fpm Lw gm' Rm i
        rw [dLcG.eq_def] at hl
        dsimp only at hl
        have subD : (D :: fa ++ fpm).Nodup := by simpa using nd
        cases hr : c.rd Em i with
        | none => rw [hr] at hl; cases hl
        | some r0 => cases r0 with
          | none =>
            rw [hr] at hl
            cases hl
            refine .inl ⟨sp2 hr, ?_⟩
            have R3 : Rep K Fm Hm (σ ++ (as ++ ex.map some)) E9 fpm := Rm.unwipe (lt L) hno
            obtain ⟨fq9, R4, sb9⟩ := stripE_rep R3 hx
            refine q (.ref D) Fm Hm (D :: fa) fq9 (g1'.trans (gm.less fun a m => (List.mem_append.mp m).elim (fun m => (List.mem_cons.mp m).elim (fun z => by rw [z]; exact List.mem_cons_self) fun m => List.mem_cons_of_mem _ (List.mem_append_left _ m)) fun m => List.mem_cons_of_mem _ (List.mem_append_right _ (sb9 a m)))) R4 (Own.node (s := .lst acc0) (ex := []) hHD (show Head _ Hm D (.lst accV) (.lst acc0) [] from rfl) lacc) ?_ off
            have nd' := List.nodup_append.mp (show (D :: fa ++ fpm).Nodup by simpa using nd)
            exact List.nodup_append.mpr ⟨nd'.1, R4.nd, fun a m b m2 => nd'.2.2 a m b (sb9 b m2)⟩
          | some r =>
            rw [hr] at hl
            dsimp only at hl
            obtain ⟨go, yl⟩ := sp1 r hr
            cases m with
            | zero => cases hl
            | succ m =>
              dsimp only at hl
              refine .inr ⟨go, fun H' => ∃ Fm Em fpm accV accS fa, Grow F1 H1 fpx Fm H' (D :: (fa ++ fpm)) ∧ Rep K Fm H' (wipe σ js ++ (as ++ ex.map some)) Em fpm ∧ (∀ j ∈ js, Em[j]? = some Sl.no) ∧ H' D = some (.lst accV) ∧ OwnL K Fm H' accV accS fa ∧
                (D :: (fa ++ fpm)).Nodup ∧ (∀ a ∈ D :: fa, Fm a = none) ∧ dLcG c.rd js bd dte de m (i + 1) accS Em = some (acc0, E9), fun H' hN => ⟨m, Nat.lt_succ_self m, hN⟩, fun x H' hy => ?_⟩
              obtain ⟨rfl, ar⟩ := yl x H' hy
              split at hl
              · cases hl
              · next E1 e1 =>
                refine hg Lw Rm ar e1 fun σ1 Fg Hg fq L1 w1 gg R1' => ?_
                have w1' : wipe σ1 js = wipe σ js := w1.trans (wipe_wipe σ js)
                refine ⟨w1', ?_⟩
                -- D and what is made so far stand aside
                have aside0 : ∀ a ∈ D :: fa, a ∉ fpm := fun a m m2 => (List.nodup_append.mp subD).2.2 a m a m2 rfl
                have th0 : ∀ a ∈ D :: fa, ∃ o, H' a = some o := fun a m => by
                  rcases List.mem_cons.mp m with rfl | m
                  · exact ⟨_, hHD⟩
                  · exact lacc.there a m
                have hHDg : Hg D = some (.lst accV) := gg.keep D _ hHD (aside0 D List.mem_cons_self)
                have laccg : OwnL K Fg Hg accV accS fa := lacc.frame gg.f gg.sub fun a m o e => gg.keep a o e (aside0 a (List.mem_cons_of_mem _ m))
                have offg : ∀ a ∈ D :: fa, Fg a = none := fun a m => by
                  obtain ⟨o, eo⟩ := th0 a m
                  exact gg.off a (by rw [eo]; exact fun z => nomatch z) (aside0 a m) (off a m)
                have asideD : ∀ a ∈ D :: fa, a ∉ fq := fun a m m2 => by
                  rcases gg.new a m2 with z | z
                  · exact aside0 a m z
                  · obtain ⟨o, eo⟩ := th0 a m
                    rw [eo] at z; cases z
                have thD : ∀ a ∈ D :: fa, ∃ o, Hg a = some o := fun a m => by
                  rcases List.mem_cons.mp m with rfl | m
                  · exact ⟨_, hHDg⟩
                  · exact laccg.there a m
                have gfq : Grow F1 H1 fpx Fg Hg (D :: fa ++ fq) := by
                  have g0 : Grow F1 H1 fpx Fm H' (D :: fa ++ fpm) := gm.less fun a m => by simpa using m
                  exact g0.trans (gg.beside (D :: fa))
                have keepD : ∀ {F3 H3 fp3}, Grow Fg Hg fq F3 H3 fp3 → H3 D = some (.lst accV) ∧ OwnL K F3 H3 accV accS fa ∧ (∀ a ∈ D :: fa, F3 a = none) ∧ (∀ a ∈ D :: fa, a ∉ fp3) := fun {F3 H3 fp3} g3 => by
                  refine ⟨g3.keep D _ hHDg (asideD D List.mem_cons_self), laccg.frame g3.f g3.sub fun a m o e => g3.keep a o e (asideD a (List.mem_cons_of_mem _ m)), fun a m => ?_, fun a m m2 => ?_⟩
                  · obtain ⟨o, eo⟩ := thD a m
                    exact g3.off a (by rw [eo]; exact fun z => nomatch z) (asideD a m) (offg a m)
                  · rcases g3.new a m2 with z | z
                    · exact asideD a m z
                    · obtain ⟨o, eo⟩ := thD a m
                      rw [eo] at z; cases z
                have ndD : (D :: fa).Nodup := (List.nodup_append.mp subD).1
                split at hl
                · next E2 e2 =>
                  split at hl
                  · next s3 E3 e3 =>
                    split at hl
                    · next hlen =>
                      refine ht _ L1 R1' e2 fun F3 H3 fp3 g3 R3 => iteT (he _ L1 R3 e3 fun y F4 H4 fr fp4 g4 R4 ow nd4 of4 => ?_)
                      have g34 : Grow Fg Hg fq F4 H4 (fr ++ fp4) := g3.trans g4
                      obtain ⟨kD, kacc, koff, kas⟩ := keepD g34
                      refine ⟨accV, kD, by rw [lacc.length, sizeLine_eq]; omega, ?_⟩
                      obtain ⟨fq5, R5, sb5⟩ := R4.wipeN js (lt L1)
                      rw [w1'] at R5
                      have gw : Grow F4 H4 [D] F4 (upd H4 D (.lst (accV ++ [y]))) [D] := Grow.write R4.sub (koff D List.mem_cons_self)
                      have D4 : D ∉ fr ++ fp4 := kas D List.mem_cons_self
                      have R6 := R5.grow2 gw (fun a m m2 => D4 (by rw [← List.mem_singleton.mp m2]; exact List.mem_append_right _ (sb5 a m)))
                      have nDfa : D ∉ fa := (List.nodup_cons.mp ndD).1
                      have ow6 : Own K F4 (upd H4 D (.lst (accV ++ [y]))) y s3 fr := ow.grow gw fun a m m2 => D4 (by rw [← List.mem_singleton.mp m2]; exact List.mem_append_left _ m)
                      have acc6 : OwnL K F4 (upd H4 D (.lst (accV ++ [y]))) accV accS fa := kacc.frame gw.f gw.sub fun a m o e => gw.keep a o e fun m2 => nDfa (by rw [← List.mem_singleton.mp m2]; exact m)
                      have lall := acc6.append (OwnL.cons ow6 .nil)
                      rw [List.append_nil] at lall
                      refine ⟨F4, wipeE E3 js, fq5, accV ++ [y], accS ++ [s3], fa ++ fr, ?_, R6, noOf L1 R4, upd_same, lall, ?_, ?_, hl⟩
                      · have ga : Grow F1 H1 fpx F4 H4 (D :: fa ++ (fr ++ fp4)) := gfq.trans (g34.beside (D :: fa))
                        have gb : Grow F4 H4 (D :: fa ++ (fr ++ fp4)) F4 (upd H4 D (.lst (accV ++ [y]))) (D :: (fa ++ fr ++ fq5)) := gw.wide (fun a m => by rw [List.mem_singleton.mp m]; exact List.mem_append_left _ List.mem_cons_self) fun a m => by
                          left
                          rcases List.mem_cons.mp m with rfl | m
                          · exact List.mem_append_left _ List.mem_cons_self
                          · rcases List.mem_append.mp m with m | m
                            · rcases List.mem_append.mp m with m | m
                              · exact List.mem_append_left _ (List.mem_cons_of_mem _ m)
                              · exact List.mem_append_right _ (List.mem_append_left _ m)
                            · exact List.mem_append_right _ (List.mem_append_right _ (sb5 a m))
                        exact ga.trans gb
                      · refine List.nodup_cons.mpr ⟨fun m => ?_, ?_⟩
                        · rcases List.mem_append.mp m with m | m
                          · rcases List.mem_append.mp m with m | m
                            · exact nDfa m
                            · exact D4 (List.mem_append_left _ m)
                          · exact D4 (List.mem_append_right _ (sb5 D m))
                        · refine nodup_two (nodup_two (List.nodup_cons.mp ndD).2 (List.nodup_append.mp nd4).1 fun a m b m2 z => ?_) R5.nd fun a m b m2 z => ?_
                          · subst z; exact kas a (List.mem_cons_of_mem _ m) (List.mem_append_left _ m2)
                          · subst z
                            rcases List.mem_append.mp m with m | m
                            · exact kas a (List.mem_cons_of_mem _ m) (List.mem_append_right _ (sb5 a m2))
                            · exact (List.nodup_append.mp nd4).2.2 a m a (sb5 a m2) rfl
                      · intro a m
                        rcases List.mem_cons.mp m with rfl | m
                        · exact koff a List.mem_cons_self
                        · rcases List.mem_append.mp m with m | m
                          · exact koff a (List.mem_cons_of_mem _ m)
                          · exact of4 a m
                    · cases hl
                  · cases hl
                · next E2 e2 =>
                  refine ht _ L1 R1' e2 fun F3 H3 fp3 g3 R3 => iteF ?_
                  obtain ⟨kD, kacc, koff, kas⟩ := keepD g3
                  obtain ⟨fq5, R5, sb5⟩ := R3.wipeN js (lt L1)
                  rw [w1'] at R5
                  refine ⟨F3, wipeE E2 js, fq5, accV, accS, fa, ?_, R5, noOf L1 R3, kD, kacc, ?_, koff, hl⟩
                  · exact (gfq.trans (g3.beside (D :: fa))).less fun a m => by
                      rcases List.mem_cons.mp m with rfl | m
                      · exact List.mem_append_left _ List.mem_cons_self
                      · rcases List.mem_append.mp m with m | m
                        · exact List.mem_append_left _ (List.mem_cons_of_mem _ m)
                        · exact List.mem_append_right _ (sb5 a m)
                  · have : (D :: fa ++ fq5).Nodup := nodup_two ndD R5.nd fun a m b m2 z => by subst z; exact kas a m (sb5 a m2)
                    simpa using this
                · cases hl
    · cases e
  · cases e
end Mv
/-! t * n as a locked row; d.update(e); o.m( *xs); o.m(..) that may raise -/
namespace L2
open PySem PySem.Spec PyProof.Rows
section
variable {X : Cx}
def rRepF (K : PySem.W.Frag) : R2 := fun x y H Q => ∃ l k xs, x = .ref l ∧ y = .int k ∧ SqT K H l xs ∧ xs ≠ [] ∧ 2 ≤ k ∧ k ≤ 1000 ∧ xs.length ≤ 1000 ∧ ∀ (p : Addr) (ob : Obj), H p = none → ob.dict = none → Q (.ref p) (upd H p (.frz ob (.tup (List.replicate k.toNat xs).flatten)))
theorem op_repF : OpR X (binaryOp .Mult) (rRepF X.K) := by
  intro pins s σ H x y v u Q I rx ry h
  obtain ⟨l, k, xs, rfl, rfl, hT, hne, h1, h2, hz, q⟩ := h
  cases rx
  obtain ⟨t, rfl⟩ := ry
  obtain ⟨its, r, ⟨⟨cls, dd, data, sl⟩, ho, hc, n, hd⟩, hs⟩ := I.tuple hT
  simp only at hc hd
  subst hc hd
  have hle : its.length = xs.length := r.length.symm
  have hn : its ≠ [] := fun e => hne (List.eq_nil_of_length_eq_zero (by rw [← hle, e]; rfl))
  have hi : its.toArray.isEmpty = false := by
    cases its with
    | nil => exact absurd rfl hn
    | cons a b => rfl
  have hsz0 : its.toArray.size = xs.length := by rw [List.size_toArray, hle]
  have hm : ((its.toArray.size : Nat) : Int) * k ≤ 1000000 := by
    rw [hsz0]
    have a1 : ((xs.length : Nat) : Int) * k ≤ 1000 * k := Int.mul_le_mul_of_nonneg_right (by omega) (by omega)
    omega
  have fz : k.toNat * xs.length ≤ sizeLine := by
    rw [sizeLine_eq]
    have a1 : k.toNat * xs.length ≤ 1000 * 1000 := Nat.mul_le_mul (by omega) hz
    omega
  have flen : (List.replicate k.toNat its).flatten.length ≤ sizeLine := by
    rw [PyProof.Rows.lm_len_rep_flat, hle]; exact fz
  have c0 : (decide (k < -(2 ^ 63)) || decide (k ≥ 2 ^ 63)) = false := by
    rw [decide_eq_false (by omega), decide_eq_false (by omega)] <;> rfl
  have c1 : (its.toArray.isEmpty || k == 1) = false := by
    rw [hi, Bool.false_or]
    exact beq_eq_false_iff_ne.mpr (by omega)
  have c2 : (decide (k ≤ 0) || its.toArray.isEmpty) = false := by
    rw [hi, Bool.or_false]
    exact decide_eq_false (by omega)
  have c4 : Builtin.Tuple.tupleTooMany (((its.toArray.size : Nat) : Int) * k) = false := by
    unfold Builtin.Tuple.tupleTooMany
    rw [sizeLine_eq]
    exact decide_eq_false (by omega)
  refine wpAny_binaryOp_repeat_ref (T := "tuple") (U := "int") (by decide) ⟨_, ho, rfl⟩ (fun s' => typeIs_int s' k t) noFill_tuple_mul F.fills_int_mul F.slot_int_rmul repeat_tuple F.slot_int_index.lookup
    (call_meets F.slot_int_rmul (typeIs_int s k t) F.entry_int_rmul (F.args_int_rmul_2 _ _) (int_rmul_tuple k t l its.toArray n dd sl)
      ⟨ho, rfl, ⟨_, ho, rfl⟩, call_meets F.slot_tuple_mul ⟨_, ho, rfl⟩ F.entry_tuple_mul (F.args_tuple_mul_2 _ _) (tuple_mulW l its.toArray n dd sl k t c0 c1 c2 (by omega) c4 (by rw [size_rep, List.size_toArray]; exact flen)) ⟨ho, ?_⟩⟩)
  rw [size_rep]
  refine ⟨.ref s.heap.objs.size, _, I.laid (t' := s.toks) (o := .frz _ (.tup (List.replicate k.toNat xs).flatten)) (fun b ob q => Heap.get?_push_of_some _ q) (Nat.le_refl _) ⟨Heap.get?_push_size s.heap rfl, ?_, _, r.rep k.toNat, ⟨_, Heap.get?_push_size s.heap rfl, rfl, _, rfl⟩⟩, rfl, q _ _ (I.hok.fresh (Nat.le_refl _)) rfl⟩
  rw [PyProof.Rows.lm_len_rep_flat]; exact fz
end
/-! ### d.update(e), e another dict -/
section
variable {X : Cx} {o e : Expr} {apos cpos : Pos} {td te : TE}
theorem merge_loc {more : List (Key × V)} {rs : List (Key × Value)} {kvs : List (Key × V)} {vs : List (Key × Value)} (a : KV more rs) (b : KV kvs vs) : KV (mergeK kvs more) (merged vs rs) := a.merge b
def tDUpd (td te : TE) : TE := fun σ H Q => td σ H fun x H1 => ∃ a, x = .ref a ∧ IsD H1 a ∧ te σ H1 fun y H2 => ∃ b kvs more, y = .ref b ∧ a ≠ b ∧ H2 a = some (.dK kvs) ∧ H2 b = some (.dK more) ∧ kvs.length + more.length ≤ sizeLine ∧ Q .non (upd H2 a (.dK (mergeK kvs more)))
theorem pe_dupd (ho : PE X o td) (he : PE X e te) (m : M1 X o "update" apos e cpos) : PE X (.Call (.Attribute o "update" apos) [e] [] cpos) (tDUpd td te) := by
  refine ⟨fun pins s σ H Q I h => ?_⟩
  refine wpAny_Call_method m.base m.few m.line PySem.F.plainAttrs_dict PySem.F.slot_dict_update PySem.F.type_dict_update (thn (ho.run pins s σ H _ I h) fun u s1 ⟨x, H1, I1, rx, a, ex, d, q1⟩ => ?_)
  subst ex
  obtain rfl : u = Value.ref a := rx
  obtain ⟨t1, t2, _⟩ := isD_at I1 d
  refine ⟨t1, t2, ?_⟩
  rw [m.trees]
  refine Calls.callWith_builtin rfl (Calls.evalArgs_plain (Calls.spliced_cons (thn (he.run pins s1 σ H1 _ I1 q1) fun iv s2 ⟨y, H2, I2, ry, b, kvs, more, ey, hab, ha, hb, hz, q2⟩ => Calls.spliced_nil ?_)))
  subst ey
  obtain rfl : iv = Value.ref b := ry
  obtain ⟨z1, lo1, vs1, r1, dd1⟩ := dk_of I2.hok ha
  obtain ⟨z2, lo2, vs2, r2, dd2⟩ := dk_of I2.hok hb
  have l1 := r1.length
  have l2 := r2.length
  refine call_meetsIn PySem.F.slot_dict_update dd1.typeIs PySem.F.entry_dict_update (PySem.F.args_dict_update_2 _ _) (meets_dict_update (mixKind X.prog X.w) a b hab lo2) ⟨vs1, vs2, dd1, dd2, by omega, fun h' d1 d2 hs => ?_⟩
  have he' : ∃ q, h'.get? a = some q := let ⟨q, _, _, hq, _⟩ := d1; ⟨q, hq⟩
  have hz3 : (mergeK kvs more).length ≤ sizeLine := Nat.le_trans (length_mergeK more kvs) hz
  exact ⟨.non, _, d_write (t' := s2.toks) I2 (by rw [ha]; exact True.intro) hs he' (dk_new hz3 lo1 (merge_loc r2 r1) d1), rfl, q2⟩
end
/-! ### o.m( *xs), xs a list -/
section
variable {X : Cx} {CX : CXT} {k : Nat} {C g f : Addr} {fd : FuncData} {ps : List Str} {m : Str} {sp : Sp} {E : XK} {ES : St → XK} {o e : Expr} {es : List Expr} {ta te : TE} {t : TA} {p apos pos : Pos}
def tMethL (K : PySem.W.Frag) (C : Addr) (m : Str) (g : Addr) (sp : Sp) (E : XK) (ta te : TE) : TE := fun σ H Q => ta σ H fun x H1 => ∃ a dx fs, x = .ref a ∧ H1 a = some (.ins C dx fs) ∧ fs.lookup m = none ∧
  ∀ q, H1 q = none → te σ (upd H1 q (.met g a)) fun y H2 => ∃ b vs, y = .ref b ∧ SqL K H2 b vs ∧ H2 q = some (.met g a) ∧ sp (.ref a :: vs) H2 Q E
theorem pe_methL (he : PE X o ta) (c : Cls X.K C) (b : BMeth X.K C m g) (F : FnOk X.prog X.w X.K X.mg X.base CX k g fd ps sp) (hb : Binds X.K fd ps []) (hr : Room k X.A)
    (hx : Passes CX X E) (ha : PE X e te) (hbase : attributeBase o m X.env (eval o X.env) = eval o X.env := by rfl) : PE X (.Call (.Attribute o m apos) [.Starred e p] [] pos) (tMethL X.K C m g sp E ta te) := by
  refine ⟨fun pins s σ H Q I h => ?_⟩
  refine starcall_of hbase (thn (he.run pins s σ H _ I h) fun u s1 ⟨x, H1, I1, rx, a, dx, fs, ex, ea, l, q⟩ => ?_)
  subst ex
  obtain rfl : u = Value.ref a := rx
  refine getbound_ok I1 ea c b l fun q1 s2 hq1 I2 => ?_
  refine PySem.W.ks_call (P := PySem.W.MethP X.K q1 g (.ref a)) rfl (PySem.W.keeps_M b.fi) (PySem.W.ks_lone ?_)
  refine thn (ha.run pins s2 σ _ _ I2 (q q1 hq1)) fun v s3 ⟨y, H2, I3, ry, t, vs, ey, ht, hm, hsp⟩ => ?_
  subst ey
  obtain rfl : v = Value.ref t := ry
  refine StX.star_any I3 (.inr ht) fun us s4 I4 rv => ⟨met_P I4 hm, ?_⟩
  have r2 : Vals (V.ref a :: vs) (Value.ref a :: us) := .cons rfl rv
  have hl : (Value.ref a :: us).length = ps.length := by rw [← r2.length]; exact F.len _ _ _ _ hsp
  have bnd := hb s4 (Value.ref a :: us) I4.kIn (by rw [List.append_nil]; exact hl)
  rw [List.append_nil] at bnd
  refine wpAny_call (PySem.W.method_call (met_P I4 hm).1 (codeAny_mono (F.run X.A X.stack s4 H2 ⟨Value.ref a :: us, []⟩ (Value.ref a :: us) (V.ref a :: vs) Q E hr I4.env0 bnd r2 hsp) fun r s' hq => ?_))
  cases r with
  | error e => exact hx pins σ H2 s4 e s' I4 hq
  | ok fl =>
    cases fl with
    | ret u => exact I4.after hq
    | next => exact False.elim hq
    | brk => exact False.elim hq
    | cont => exact False.elim hq
/-! ### o.m(..) that may raise -/
def tMethX (C : Addr) (m : Str) (sp : Sp) (E : St → XK) (ta : TE) (t : TA) : TE := fun σ H Q => ta σ H fun x H1 => ∃ a dx fs, x = .ref a ∧ H1 a = some (.ins C dx fs) ∧ fs.lookup m = none ∧ t σ H1 fun vs H2 => sp (x :: vs) H2 Q (E σ)
theorem pe_methX {pl : Sem Bool} (he : PE X o ta) (c : Cls X.K C) (hm : Meth X.K C m f) (F : FnOk X.prog X.w X.K X.mg X.base CX k f fd ps sp) (hr : Room k X.A) (hb : Binds X.K fd ps []) (hx : ∀ σ, PassesAt CX X σ (ES σ)) (ha : PA X (e :: es) t)
    (hst : starEach (e :: es) X.env = (false, eval e X.env) :: starEach es X.env := by rfl) (hpl : (backTo pos (starEach es X.env)).any (·.1) = false := by rfl)
    (ht : eval (.Call (.Attribute o m apos) (e :: es) [] pos) X.env = (do
      let ov ← eval o X.env
      standAt apos.atName
      let (f, first) ← holding [ov] (getMethod ov m pl)
      callWith pos f first (backTo pos (starEach (e :: es) X.env)) (backToKw pos (keywordEach [] X.env))) := by rfl) :
    PE X (.Call (.Attribute o m apos) (e :: es) [] pos) (tMethX C m sp ES ta t) := by
  refine ⟨fun pins s σ H Q I h => ?_⟩
  refine PySem.W.methodCall_KW (pl := pl) (thn (he.run pins s σ H _ I h) fun u s1 ⟨x, H1, I1, rx, a, dx, fs, ex, ea, l, q⟩ => ?_) ht
  subst ex
  obtain rfl : u = Value.ref a := rx
  refine getmeth_ok I1 ea c hm l ?_
  refine PySem.W.callWith_K (first := [.ref a]) (h₀ := X.base) I.ok.mod.kin hm.kp (thn (ha.run pos pins s1 σ H1 _ I1 q) fun us s2 ⟨vs, H2, I2, r, q2⟩ => ⟨I2.kIn, ?_⟩) hst hpl
  exact run_fnS (us := .ref a :: us) (vs := .ref a :: vs) F hr hb (hx σ) I2 (.cons rfl r) q2
end
end L2
/-! set(t) of a tuple of ints; xs + ys of any lists -/
namespace PySem
section
variable {P : Program} {w : World} {A : Around} {E : Value → Shared → Prop} {s : Shared}
open L2 PyProof.Rows in
theorem hx_set_tuple {l : Addr} {items : Array Value} (ns : List Int) {Q : Value → Shared → Prop} (hh : A.handled = none) (hl : s.heap.IsTuple l items) (hit : IntsAre items.toList ns) (hb : ns.length + 1 < scanBound)
    (h : ∀ (h' : Heap) (tk c : Nat), SetR w h' s.heap.objs.size (fun j => decide (j ∈ ns)) c → c ≤ ns.length → (∀ b o, s.heap.get? b = some o → h'.get? b = some o) → Q (.ref s.heap.objs.size) { s with heap := h', toks := tk }) :
    wpAny (model P w) A (call (.type "set") [.ref l]) Q E s := by
  have hisz : items.size = ns.length := (Array.length_toList ▸ IntsAre.length hit :)
  obtain ⟨c, tl, hmro⟩ := F.called_set.mro; have hmade := F.called_set.made; have hsub := F.called_set.sub
  refine wpAny_call (codeAny_of_tree (show wpAny _ _ (callAny (.type "set") _) _ _ _ from wpAny_pure ⟨Code.quiet_builtin _ (by decide +kernel), codeAny_builtin F.entry_type_call ?_⟩))
  rw [Around.under_plain (weight_type_call_type "set" [.ref l] []) rfl]
  have h1 := F.called_set.notType; have h2 := F.called_set.canCreate; have hct := F.typeCall_set_1 (.ref l)
  repeat (any_goals (first | assumption | wp_step))
  refine codeAny_mono (code_set_led1 (.ref l) (E := E) (Q₁ := fun obj s₁ => obj = .ref s.heap.objs.size ∧ s₁ = { s with heap := s.heap.push (emptySetO w) }) ⟨rfl, rfl⟩) fun r s₁ hr => ?_
  cases r with
  | error e => exact hr
  | ok fl =>
    cases fl with
    | ret obj =>
      obtain ⟨rfl, rfl⟩ := hr
      have hS : (s.heap.push (emptySetO w)).get? s.heap.objs.size = some (emptySetO w) := Heap.get?_push_size _ rfl
      have hT : Shared.TypeIs { s with heap := s.heap.push (emptySetO w) } (.ref s.heap.objs.size) "set" := ⟨_, hS, rfl⟩
      have hli := F.called_set.init.lookup; have hbi := F.called_set.init.bind (.ref s.heap.objs.size)
      repeat (any_goals (first | assumption | wp_step))
      refine codeAny_mono (codeAny_call_builtin (R := wants (fun r s₂ => r = .none ∧ ∃ h' tk c, s₂ = { s with heap := h', toks := tk } ∧ SetR w h' s.heap.objs.size (fun j => decide (j ∈ ns)) c ∧ c ≤ ns.length ∧ (∀ b o, s.heap.get? b = some o → h'.get? b = some o)) E)
        F.called_set.init.plain F.entry_set_init (check_set_init_1 hT ?_)) fun r₂ s₂ hr₂ => ?_
      · obtain ⟨⟨ocls, odict, odata, oslots⟩, hol, hcl, nl, hdl⟩ := hl
        simp only at hcl hdl; subst hcl; subst hdl
        have hol' : (s.heap.push (emptySetO w)).get? l = some { cls := .type "tuple", dict := odict, data := .seq items nl, slots := oslots } := Heap.get?_push_of_some _ hol
        have hsls := F.sub_tuple_set; have hslf := F.sub_tuple_frozenset; have hne : (Value.type "tuple" == Value.type "dict") = false := by decide
        have hl1 : (s.heap.push (emptySetO w)).IsTuple l items := ⟨_, hol', rfl, nl, rfl⟩
        unfold Builtin.«set.__init__» noKeywords Builtin.Frozenset.updateFrom; generalize hPI : pyIter = PI
        wp_walk
        subst hPI
        refine wpAny_pyIter_tuple hl1 (wpAny_bind (wpAny_runValue ?_))
        have hlS : l < s.heap.objs.size := Heap.lt_size hol
        have hneI : l ≠ (s.heap.push (emptySetO w)).objs.size := by rw [Heap.size_push]; exact Nat.ne_of_lt (Nat.lt_succ_of_lt hlS)
        have hSf : s.heap.objs.size ∉ [(s.heap.push (emptySetO w)).objs.size, l] := by
          rw [Heap.size_push]; intro z; simp only [List.mem_cons, List.not_mem_nil, or_false] at z
          exact z.elim (fun e => Nat.ne_of_lt (Nat.lt_succ_self _) e) (fun e => Nat.ne_of_gt hlS e)
        refine set_update_ints ((Walks.tuple (by simp [hh]) _ l hneI items).toS) s.heap.objs.size hSf ns hisz hb (fun i v hv => ?_) (items.size - 0) 0 _ (by omega) (Nat.zero_le _)
          ⟨⟨_, Heap.get?_push_size _ rfl, rfl, rfl⟩, (hl1.push _)⟩ ⟨0, Nat.le_refl 0, setR_new_at (Heap.get?_push_of_some _ hS)⟩ (fun s' c' hm hc' hS' => ?_)
        · have hi : i < ns.length := by rw [← hisz]; exact (Array.getElem?_eq_some_iff.mp hv).1
          obtain ⟨t, e⟩ := PyProof.Rows.IntsAre.int_at hit i v (by rw [Array.getElem?_toList]; exact hv)
          exact ⟨ns[i], t, List.getElem?_eq_getElem hi, by rw [e, List.getD_eq_getElem?_getD, List.getElem?_eq_getElem hi] <;> rfl⟩
        · obtain ⟨h', g2, d', tk', os'⟩ := s'
          have eg : g2 = s.gens := hm.gens; have ed : d' = s.drawn := hm.drawn; have eo : os' = s.os := hm.os
          subst eg; subst ed; subst eo
          show wpAny _ _ _ _ _ _
          refine wpAny_pure (show wpAny _ _ (ret Value.none) _ _ _ from ?_)
          rw [hisz] at hc'
          refine wpAny_pure ⟨rfl, h', tk', c', rfl, hS', hc', fun b o e => hm.heap b o ?_ (Heap.get?_push_of_some _ (Heap.get?_push_of_some _ e))⟩
          have hb0 : b < s.heap.objs.size := Heap.lt_size e
          intro z; rw [Heap.size_push] at z; simp only [List.mem_cons, List.not_mem_nil, or_false] at z
          exact z.elim (fun e => Nat.ne_of_lt hb0 e) (fun e => Nat.ne_of_lt (Nat.lt_succ_of_lt hb0) e)
      · cases r₂ with
        | error e => exact hr₂
        | ok fl₂ =>
          cases fl₂ with
          | ret r =>
            obtain ⟨rfl, h', tk, c', rfl, hS', hc', hk'⟩ := hr₂
            repeat (any_goals (first | assumption | wp_step))
            exact h _ _ _ hS' hc' hk'
          | _ => exact hr₂.elim
    | _ => exact hr.elim
end
theorem hx_list_add (l : Addr) (items : Array Value) (n : Nat) (dd : Option Addr) (sl : Array (Option Value)) (b : Addr) (items2 : Array Value) (n2 : Nat) (dd2 : Option Addr) (sl2 : Array (Option Value)) (hc0 : items.size + items2.size ≤ sizeLine) :
    Meets (Builtin.«list.__add__» ⟨[.ref l, .ref b], []⟩) (fun _ R s => s.heap.get? l = some { cls := .type "list", dict := dd, data := .seq items n, slots := sl } ∧ s.heap.get? b = some { cls := .type "list", dict := dd2, data := .seq items2 n2, slots := sl2 } ∧ R (.ok (.ret (Value.ref s.heap.objs.size))) { s with heap := s.heap.push { cls := Value.type "list", data := Data.seq (items ++ items2) }, toks := s.toks }) :=
  .of_wp fun prog w A R s h => by obtain ⟨hp, g, d, tk, os⟩ := s; obtain ⟨hl, hb, h⟩ := h; have f1 := AutoSeq1.idx_int; have f2 := AutoSeq1.sub_tuple_tuple; have f3 := AutoSeq1.sub_list_list; have f4 := AutoSeq1.sub_tuple_list; have f5 := AutoSeq1.sub_list_tuple; wp_walk using AutoSeq1.wpAny_loadPart' hl, AutoSeq1.wpAny_loadPart' hb; exact ⟨_, rfl, h⟩
end PySem
namespace L2
open PySem PySem.Spec PyProof.Rows
section
variable {X : Cx}
def rSetT (K : PySem.W.Frag) (w : World) : List V → Hp → VK → Prop := fun xs H Q => ∃ (l : Addr) (ns : List Int), xs = [V.ref l] ∧ SqT K H l (ns.map V.int) ∧ ns.length < 64 ∧
  ∀ a c, H a = none → c ≤ ns.length → Q (.ref a) (upd H a (SetO w a (fun j => decide (j ∈ ns)) c))
theorem cr_setT (hc : X.calm = true) : CallR X (.type "set") (rSetT X.K X.w) := by
  intro pins s σ H xs us Q I r h
  obtain ⟨l, ns, rfl, hs, h64, q⟩ := h
  rw [Vals.ref1 r]
  obtain ⟨its, rv, hl, hlen⟩ := I.tuple hs
  have hi : IntsAre its.toArray.toList ns := by simpa using ints_of_vals rv
  refine PySem.hx_set_tuple ns (I.ok.hd hc) ?_ hi (by unfold scanBound; omega) fun h' tk c R hc' kp => ?_
  · exact hl
  · have hn : H s.heap.objs.size = none := I.hok.fresh (Nat.le_refl _)
    exact ⟨.ref _, _, I.laid (t' := tk) (fun b o e => kp b o e) (Nat.le_refl _) (setO_new R), rfl, q _ c hn hc'⟩
def rCatS (K : PySem.W.Frag) : R2 := fun x y H Q => ∃ l b xs zs, x = .ref l ∧ y = .ref b ∧ SqL K H l xs ∧ SqL K H b zs ∧ xs.length + zs.length ≤ sizeLine ∧ ∀ p, H p = none → Q (.ref p) (upd H p (.lst (xs ++ zs)))
theorem op_catS : OpR X (binaryOp .Add) (rCatS X.K) := by
  intro pins s σ H x y v u Q I rx ry h
  obtain ⟨l, b, xs, zs, rfl, rfl, hH, hB, hz, q⟩ := h
  cases rx
  cases ry
  obtain ⟨its, r, ⟨⟨c1, d1, t1, s1⟩, n, e, hc, hd, hs⟩, z⟩ := I.list hH
  obtain ⟨its2, r2, ⟨⟨c2, d2, t2, s2⟩, n2, e2, hc2, hd2, hs2⟩, z2⟩ := I.list hB
  simp only at hc hd hs hc2 hd2 hs2
  subst hc hd hs hc2 hd2 hs2
  have l1 := r.length
  have l2 := r2.length
  refine concat_meets ⟨_, e, rfl⟩ ⟨_, e2, rfl⟩ noFill_list_add seq_list_add PySem.F.slot_list_add PySem.F.entry_list_add (PySem.F.args_list_add_2 _ _) (hx_list_add l its.toArray n none s1 b its2.toArray n2 none s2 (by rw [List.size_toArray, List.size_toArray]; omega)) ⟨e, e2, ?_⟩
  have ea : its.toArray ++ its2.toArray = (its ++ its2).toArray := by simp
  rw [ea]
  exact ⟨.ref _, _, I.lnew (t' := s.toks) (r.append r2) (by rw [List.length_append]; omega), rfl, q _ I.fresh⟩
end
end L2
/-! rules more: rows repeated, joined, sets of rows, x in rows of rows, the greater one, keys sorted and listed, stars, calls by a row, d.update, displays of dicts, stores with effects in keys -/
namespace Mv
open PySem PySem.Spec PyProof.Rows L2
variable {K : PySem.W.Frag} {F F' F1 F2 F3 H H' H1 H2 H3 : Hp} {v u x y w : V} {vs ws xs : List V} {s t c : S} {ss tts : List S} {fp fq fr fp' fp1 fp2 f1 f2 : List Addr} {ρ as : Ro} {E E' : En} {n : Nat}
variable {W : WXm} {te ta tb tc tk tv td : TE} {d da db dc dk dv : En → Option Rs} {tr : TA} {dr : En → Option (List Rs)} {de df : En → Option (S × En)} {tt : TT} {dte : En → Option (Bool × En)} {Q : VK} {dl : En → Option (Nat × En)} {js : List Nat} {ds : List PyData}

/-! ### t * n -/
theorem DqAll.rep {F : Hp} (h : DqAll K F xs ds) : ∀ k : Nat, DqAll K F (List.replicate k xs).flatten (List.replicate k ds).flatten
  | 0 => .nil
  | k + 1 => by
    rw [List.replicate_succ, List.replicate_succ, List.flatten_cons, List.flatten_cons]
    have go : ∀ {xs : List V} {ds : List PyData} {ys : List V} {es : List PyData}, DqAll K F xs ds → DqAll K F ys es → DqAll K F (xs ++ ys) (ds ++ es) := by
      intro xs ds ys es a b
      induction xs generalizing ds with
      | nil => cases a; exact b
      | cons x xs ih => cases a with | cons a1 a2 => exact .cons a1 (ih a2)
    exact go h (DqAll.rep h k)
def fRepT : S → S → Option S
  | .dat (.tuple (d :: ds)), .dat (.int k) => if 2 ≤ k ∧ k ≤ 1000 ∧ ds.length < 1000 then some (.dat (.tuple (List.replicate k.toNat (d :: ds)).flatten)) else none
  | _, _ => none
theorem rv_repT : RvS2 K (rRepF K) fRepT := by
  intro F H x y a b c f1 f2 sub o1 o2 e Q m
  unfold fRepT at e
  split at e
  · next d ds k =>
    split at e
    · next h =>
      cases e
      obtain ⟨ad, xs, rfl, hq, da⟩ := Mv.Dq.tuple_inv (o1.dat_inv rfl).1
      cases (o2.dat_inv rfl).1
      have hl := Mv.DqAll.len da
      refine ⟨ad, k, xs, rfl, rfl, SqT.mono sub hq, fun z => ?_, h.1, h.2.1, ?_, mk_tup sub (DqAll.rep da k.toNat) m⟩
      · rw [z] at hl; simp at hl
      · rw [hl, List.length_cons]; omega
    · cases e
  · cases e
/-! ### xs + ys, any rows of data -/
def fCatL (a b : S) : Option S := match a.seqL with
  | some ds => match b.seqL with
    | some es => if ds.length + es.length < 100000 then some (.lst ((ds ++ es).map S.dat)) else none
    | none => none
  | none => none
theorem rv_catL : RvS2 K (rCatS K) fCatL := by
  intro F H x y a b c f1 f2 sub o1 o2 e Q m
  unfold fCatL at e
  split at e
  · next ds e1 =>
    split at e
    · next es e2 =>
      split at e
      · next hl =>
        cases e
        obtain ⟨l, xs, rfl, h1, da1⟩ := o1.sqL sub e1
        obtain ⟨l', zs, rfl, h2, da2⟩ := o2.sqL sub e2
        refine ⟨l, l', xs, zs, rfl, rfl, h1, h2, by rw [Mv.DqAll.len da1, Mv.DqAll.len da2, sizeLine_eq]; omega, mk_lst sub ?_ m⟩
        rw [List.map_append]
        simpa using (dats_own da1).append (dats_own da2)
      · cases e
    · cases e
  · cases e
/-! ### sorted(set(t)), t a tuple -/
def fSortSetT : List S → Option S
  | [s] => match s.seqT with
    | some ds => match intsD ds with
      | some ns => if ns.length < 64 then some (.lst ((sortSet ns).map fun i => .dat (.int i))) else none
      | none => none
    | none => none
  | _ => none
theorem p_sortSetT {w : World} (h : EvP K n as te d) : EvP K n as (tCB (rSortedSet w) (tCons (tCB (rSetT K w) (tCons te tNil)) tNil)) (dCS fSortSetT (dCons d dNil)) := by
  intro F H σ E fp L R r1 e Q q
  unfold dCS dCons dNil at e
  cases hd : d E with
  | none => rw [hd] at e; cases e
  | some r =>
    rw [hd] at e
    dsimp only at e
    cases hs : r.at E with
    | none => simp only [atAll, hs] at e; cases e
    | some s =>
      simp only [atAll, hs] at e
      obtain ⟨c, ec, rfl⟩ := Option.map_eq_some_iff.mp e
      unfold fSortSetT at ec
      cases hq : s.seqT with
      | none => simp only [hq] at ec; cases ec
      | some ds =>
        simp only [hq] at ec
        cases hn : intsD ds with
        | none => simp only [hn] at ec; cases ec
        | some ns =>
          simp only [hn] at ec
          split at ec
          · next h64 =>
            cases ec
            refine h L R hd fun v F1 H1 f1 g1 a1 n1 o1 => ?_
            have R1 := R.grow g1
            obtain ⟨fq, ow⟩ := a1.own R1 hs
            obtain ⟨p, xs, rfl, hsq, da⟩ := ow.sqT R1.sub hq
            obtain rfl := intsD_dp da hn
            refine ⟨p, ns, rfl, hsq, h64, fun b c hb hc => ?_⟩
            have g2 : Grow F1 H1 [] F1 (upd H1 b (SetO w b (fun j => decide (j ∈ ns)) c)) [] := (Grow.alloc R1.sub hb).drop
            refine ⟨b, _, c, rfl, upd_same, by omega, fun ns' p2 hp hm hlen hn2 => ?_⟩
            have e2 : ns' = sortSet ns := sortSet_uniq hp fun k => by rw [hm k]; simp
            rw [e2]
            exact mk_lst (R1.grow g2).sub (ints_own _) (fun v F' H' fr g o nd of => q v F' H' fr (by simpa using (g1.drop.seq0 g2).seq0 g) o nd of) p2 hn2
          · cases ec
/-! ### x in rows of data -/
def fInD (neg : Bool) (a b : S) : Option S := match a with
  | .dat d => match b.seqL with
    | some es => if SeqAt.shaped d = true ∧ SeqAt.shaped (.list es) = true then some (.dat (.bool ((es.any fun z => PyData.eqv z d) != neg))) else none
    | none => none
  | _ => none
theorem rv_inD : RvS2 K (rInD K) (fInD false) := by
  intro F H x y a b c f1 f2 sub o1 o2 e Q m
  unfold fInD at e
  split at e
  · next d =>
    split at e
    · next es hs =>
      split at e
      · next h =>
        cases e
        obtain ⟨l, xs, rfl, h1, da1⟩ := o2.sqL sub hs
        refine ⟨d, es, (Dq.mono sub (o1.dat_inv rfl).1).dp, .lst h1 (DqAll.mono sub da1).dp, h.1, h.2, ?_⟩
        rw [Bool.bne_false] at m
        exact mk_dat sub (.bl _) m
      · cases e
    · cases e
  · cases e
theorem rv_notInD : RvS2 K (rNotInD K) (fInD true) := by
  intro F H x y a b c f1 f2 sub o1 o2 e Q m
  unfold fInD at e
  split at e
  · next d =>
    split at e
    · next es hs =>
      split at e
      · next h =>
        cases e
        obtain ⟨l, xs, rfl, h1, da1⟩ := o2.sqL sub hs
        refine ⟨d, es, (Dq.mono sub (o1.dat_inv rfl).1).dp, .lst h1 (DqAll.mono sub da1).dp, h.1, h.2, ?_⟩
        rw [Bool.bne_true] at m
        exact mk_dat sub (.bl _) m
      · cases e
    · cases e
  · cases e
/-! ### max(a, b), rows of numbers -/
def fMax2D : List S → Option S
  | [.dat a, .dat b] => if tupI a = true ∧ tupI b = true then some (.dat (if PySem.W.dataLt a b = true then b else a)) else none
  | _ => none
theorem rc_max2D {X : Cx} (hu : X.A.units + 64 < cLine) (hK : X.K = K) : RvSC K (rMax2D X) fMax2D := by
  subst hK
  intro F H vs ss c sub o e Q m
  unfold fMax2D at e
  split at e
  · next a b =>
    split at e
    · next h =>
      cases e
      obtain ⟨v, w, f, g, rfl, o1, o2⟩ := o.two
      have d1 := (o1.dat_inv rfl).1
      have d2 := (o2.dat_inv rfl).1
      have hal : ∀ z ∈ [a, b], tupI z = true := fun z hz => by
        rcases List.mem_cons.mp hz with rfl | hz
        · exact h.1
        · rw [List.mem_singleton.mp hz]; exact h.2
      refine ⟨v, w, a, b, rfl, (Dq.mono sub d1).dp, (Dq.mono sub d2).dp, ⟨fun x hx y hy => alike_tupI (hal x hx) (hal y hy), fun x hx z => by have := hal x hx; rw [z] at this; cases this⟩, ?_, ?_⟩
      · have := depthAll_tupI [a, b] (by simp [h.1, h.2])
        omega
      · by_cases hb : PySem.W.dataLt a b = true
        · rw [if_pos hb] at m ⊢; exact mk_dat sub d2 m
        · rw [if_neg hb] at m ⊢; exact mk_dat sub d1 m
    · cases e
  · cases e
/-! ### sorted(d), list(d) -/
def keysI : List Key → Option (List Int)
  | [] => some []
  | .inl i :: r => (keysI r).map (i :: ·)
  | _ => none
theorem keysI_eq : ∀ {ks : List Key} {ns : List Int}, keysI ks = some ns → ks = ns.map Sum.inl
  | [], ns, h => by cases h; rfl
  | .inl i :: r, ns, h => by
    obtain ⟨m, hm, rfl⟩ := Option.map_eq_some_iff.mp h
    rw [keysI_eq hm]; rfl
  | .inr _ :: _, _, h => by simp [keysI] at h
def fSortedD : List S → Option S
  | [.dct _ kss] => match keysI (kss.map (·.1)) with
    | some ns => if ns.length < 64 then some (.lst ((sortU ns).map fun i => .dat (.int i))) else none
    | none => none
  | _ => none
theorem rc_sortedD : RvSC K (fun xs H Q => ∃ (a : Addr) (kvs : List (Key × V)) (ks : List Int), xs = [.ref a] ∧ Rd H a (.dK kvs) ∧ kvs.map (·.1) = ks.map Sum.inl ∧ ks.length < 64 ∧ ∀ (ys : List Int) (p : Addr), ys.Perm ks → ys.Pairwise (· ≤ ·) → H p = none → Q (.ref p) (upd H p (.lst (ys.map V.int)))) fSortedD := by
  intro F H vs ss c sub o e Q m
  unfold fSortedD at e
  split at e
  · next l kss =>
    split at e
    · next ns hk =>
      split at e
      · next h64 =>
        cases e
        obtain ⟨v, f, rfl, o'⟩ := o.one
        obtain ⟨a, kvs, u, fq, rfl, hH, hkk, rd, hks, ll, _⟩ := o'.dct_inv rfl
        refine ⟨a, kvs, ns, rfl, rd, hks.trans (keysI_eq hk), h64, fun ys p hp hw hn => ?_⟩
        rw [sortU_uniq hp hw]
        exact mk_lst sub (ints_own _) m p hn
      · cases e
    · cases e
  · cases e
theorem keys_own (F H : Hp) : ∀ ks : List Key, OwnL K F H (ks.map kV) (ks.map fun k => S.dat (keyD k)) []
  | [] => .nil
  | .inl i :: r => .cons (fp := []) (.dat (.int i)) (keys_own F H r)
  | .inr x :: r => .cons (fp := []) (.dat (.str x)) (keys_own F H r)
def fListD : List S → Option S
  | [.dct _ kss] => some (.lst ((kss.map (·.1)).map fun k => .dat (keyD k)))
  | _ => none
theorem rc_listD : RvSC K (fun xs H Q => ∃ (a : Addr) (kvs : List (Key × V)), xs = [.ref a] ∧ Rd H a (.dK kvs) ∧ ∀ p, H p = none → Q (.ref p) (upd H p (.lst (kvs.map fun kv => kV kv.1)))) fListD := by
  intro F H vs ss c sub o e Q m
  unfold fListD at e
  split at e
  · next l kss =>
    cases e
    obtain ⟨v, f, rfl, o'⟩ := o.one
    obtain ⟨a, kvs, u, fq, rfl, hH, hkk, rd, hks, ll, _⟩ := o'.dct_inv rfl
    refine ⟨a, kvs, rfl, rd, ?_⟩
    rw [show (kvs.map fun kv => kV kv.1) = (kss.map (·.1)).map kV by rw [← hks, List.map_map]; rfl]
    exact mk_lst sub (keys_own F H _) m
  · cases e
/-! ### a name of the module that holds data -/
theorem p_cq {v : V} {d : PyData} (h : ∀ F, Dq K F v d) : EvP K n as (tC v) (dC d) := by
  intro F H σ E fp L R r e Q q
  cases e
  exact q v F H [] (.refl R.sub []) (.dat (h F)) List.nodup_nil (fun _ m => nomatch m)
/-! ### x, *r = a row -/
def bStar (i j : Nat) (r : Rs) (E : En) : Option En := match r with
  | .val (.dat (.tuple (d :: ds))) => some (slotSet (slotSet E i (.own (.dat d))) j (.own (.lst (ds.map S.dat))))
  | _ => none
theorem g_star {i j : Nat} (hi : i < n) (hj : j < n) : EvG K n (gStar K i j) (bStar i j) := by
  intro as F H σ E E' fp v r L R a e Q q
  unfold bStar at e
  split at e
  · next d ds =>
    cases e
    obtain ⟨ad, xs, rfl, hq, da⟩ := Mv.Dq.tuple_inv ((show Own K F H v _ [] from a).dat_inv rfl).1
    cases da with
    | @cons x1 xs1 d1 ds1 h1 h2 =>
      refine ⟨ad, x1, xs1, rfl, SqT.mono R.sub hq, fun p hp => ?_⟩
      have hl : i < (σ ++ as).length := by rw [List.length_append]; omega
      have g1 : Grow F H [] F (upd H p (.lst xs1)) [p] := Grow.alloc R.sub hp
      have R1 := R.grow g1
      obtain ⟨fq, R2, sb⟩ := R1.setSlot (e := .own (.dat d)) (v := x1) (fr := []) hl (.dat (Dq.mono g1.f h1)) R1.nd (fun _ m => nomatch m)
      rw [← set_app (by omega)] at R2
      have hl2 : j < (σ.set i (some x1) ++ as).length := by rw [List.length_append, List.length_set]; omega
      have ow : Own K F (upd H p (.lst xs1)) (.ref p) (.lst (ds.map S.dat)) [p] := lst_write ((dats_own (H := H) h2).frame (fun _ _ h => h) g1.sub fun _ z => nomatch z)
      have np : p ∉ fq := fun m => by
        obtain ⟨o, eo⟩ := R.there p (by simpa using sb p m)
        rw [hp] at eo; cases eo
      obtain ⟨fz, R3, sb3⟩ := R2.setSlot (e := .own (.lst (ds.map S.dat))) (v := .ref p) (fr := [p]) hl2 ow (by simpa using List.nodup_cons.mpr ⟨np, R2.nd⟩) (fun a m => by rw [List.mem_singleton.mp m]; exact fresh_none R.sub hp)
      rw [← set_app (by rw [List.length_set]; omega)] at R3
      refine q _ F _ fz (by rw [List.length_set, List.length_set]; exact L) ((g1.ours fp).less fun a m => ?_) R3
      rcases List.mem_append.mp (sb3 a m) with m | m
      · exact List.mem_append_left _ m
      · exact List.mem_append_right _ (by simpa using sb a m)
  · cases e
/-! ### displays with a row's items -/
def dStarA (da : En → Option Rs) (dr : En → Option (List Rs)) (E : En) : Option (List Rs) := match da E, dr E with
  | some r, some rs => match r.at E with
    | some s => match (s.seqL <|> s.seqT) with
      | some ds => some (ds.map (fun d => .val (.dat d)) ++ rs)
      | none => none
    | none => none
  | _, _ => none
theorem rs_dats (da : DqAll K F xs ds) {rs : List Rs} {ys : List V} {f : List Addr} (a : RsAll K F H ρ E ys rs f) : RsAll K F H ρ E (xs ++ ys) (ds.map (fun d => Rs.val (.dat d)) ++ rs) f := by
  induction xs generalizing ds with
  | nil => cases da; exact a
  | cons x xs ih => cases da with
    | cons h t => exact RsAll.cons (f := []) (Own.dat h) (ih t)
theorem p_star1 (ha : EvP K n as ta da) (hr : EvA K n as tr dr) : EvA K n as (StX.tStar K ta tr) (dStarA da dr) := by
  intro F H σ E fp L R rs e Q q
  unfold dStarA at e
  split at e
  · next r rs' ea er =>
    split at e
    · next s es =>
      split at e
      · next ds hd =>
        cases e
        refine ha L R ea fun v F1 H1 f1 g1 a1 n1 o1 => ?_
        have R1 := R.grow g1
        obtain ⟨fq, ow⟩ := a1.own R1 es
        obtain ⟨a, xs, rfl, hq, dd⟩ := ow.sq R1.sub hd
        refine ⟨a, xs, rfl, hq.symm, hr L R1 er fun ys F2 H2 f2 g2 a2 n2 o2 => ?_⟩
        exact q (xs ++ ys) F2 H2 f2 (by simpa using g1.drop.seq0 g2) (rs_dats (DqAll.mono g2.f dd) a2) n2 o2
      · cases e
    · cases e
  · cases e
/-! ### o.m( *xs) -/
theorem call_here {m : Nat} {g : List S → Option (S × List S)} {EX : XK} {rs : List Rs} {s' : S} {ss' : List S} (R1 : Rep K F1 H1 ρ E fp) (a : RsAll K F1 H1 ρ E vs rs []) (ok : placesOk rs = true) (ess : argS E rs = some ss) (hm : rs.length = m) (eg : g ss = some (s', ss'))
    (q : ∀ v F2 H2 fr2 fp2, Grow F1 H1 fp F2 H2 (fr2 ++ fp2) → Rep K F2 H2 ρ (killAll (putAll E rs ss') rs) fp2 → Own K F2 H2 v s' fr2 → (fr2 ++ fp2).Nodup → (∀ b ∈ fr2, F2 b = none) → Q v H2) : spMv K m g vs H1 Q EX := by
  obtain ⟨fa, fh, E1, l, c1, pm, keep, close⟩ := takeAll a R1.core ok ess
  have nda : ([] ++ fp).Nodup := by simpa using R1.nd
  have ndall : (fa ++ fh).Nodup := pm.nodup_iff.mp nda
  have memA : ∀ b ∈ fa, b ∈ [] ++ fp := fun b m => pm.mem_iff.mpr (List.mem_append_left _ m)
  have offAll : ∀ b ∈ [] ++ fp, F1 b = none := fun b m => R1.off b (by simpa using m)
  have g1' : Grow F1 H1 fp F1 H1 (fa ++ fh) := (Grow.refl R1.sub fp).less fun b m => by simpa using pm.mem_iff.mpr m
  refine ⟨by rw [l.length, argS_len ess, hm], F1, ss, fa, s', ss', R1.sub, l, (List.nodup_append.mp ndall).1, fun b m => offAll b (memA b m), eg, fun v F2 H2 fr2 fa2 g2 l2 ow nd2 of2 => ?_⟩
  obtain ⟨fz, R2, gg, nn⟩ := call_close R1 a ok nda offAll c1 pm keep close g2 l2 nd2 of2
  exact q v F2 H2 fr2 (fz ++ fh) (g1'.trans gg) R2 ow nn fun b m => of2 b (List.mem_append_left _ m)
def eMethL (c : Nat) (g : List S → Option (S × List S)) (da db : En → Option Rs) (m : Nat) (E : En) : Option (S × En) := match da E, db E with
  | some (.pl p), some rb => match eget E p, rb.at E with
    | some (.ins c' _), some sb => if c' = c then match sb.seqL with
        | some ds => if ds.length + 1 = m then match argS E (.pl p :: ds.map fun d => .val (.dat d)) with
            | some ss => match g ss with
              | some (s, ss') => some (s, killAll (putAll E (.pl p :: ds.map fun d => .val (.dat d)) ss') (.pl p :: ds.map fun d => .val (.dat d)))
              | none => none
            | none => none
          else none
        | none => none
      else none
    | _, _ => none
  | _, _ => none
theorem placesOk_dats (p : List Nat) (ds : List PyData) : placesOk (.pl p :: ds.map fun d => Rs.val (.dat d)) = true := by
  have h1 : ∀ ds : List PyData, apartAll p (ds.map fun d => Rs.val (.dat d)) = true := fun ds => by
    induction ds with
    | nil => rfl
    | cons d ds ih => simpa [apartAll] using ih
  have h2 : ∀ ds : List PyData, placesOk (ds.map fun d => Rs.val (.dat d)) = true := fun ds => by
    induction ds with
    | nil => rfl
    | cons d ds ih => simpa [placesOk] using ih
  simp [placesOk, h1, h2]
theorem e_methL {c m : Nat} {C ga : Addr} {mn : Str} {g : List S → Option (S × List S)} {EX : XK} (hC : clsOf K c C) (hf : fixN (clsFld c) mn = none) (ha : EvP K n as ta da) (hb : EvP K n as tb db) : EvE K n as (tMethL K C mn ga (spMv K m g) EX ta tb) (eMethL c g da db m) := by
  intro F H σ E fp L R s0 E0 e Q q
  unfold eMethL at e
  split at e
  · next p rb ea eb =>
    split at e
    · next c' ss sb es esb =>
      split at e
      · next hc =>
        subst hc
        split at e
        · next ds hd =>
          split at e
          · next hm =>
            split at e
            · next ss1 ess =>
              split at e
              · next s1 ss' eg =>
                cases e
                refine ha L R ea fun x F1 H1 f1 g1 a1 n1 o1 => ?_
                have R1 := R.grow g1
                obtain ⟨fq, o⟩ := a1.own R1 (show (Rs.pl p).at E = _ from es)
                obtain ⟨a, C', dx, fs, fq', rfl, hH, hC', _, hn, _, ll, _⟩ := o.ins_inv rfl
                cases hC.one hC'
                obtain ⟨z1, z2, z3⟩ := a1
                subst z1
                refine ⟨a, dx, fs, rfl, hH, by rw [lookup_fix, hn, fixN_take_none _ hf]; rfl, fun mq hmq => ?_⟩
                have g2 : Grow F1 H1 [] F1 (upd H1 mq (.met ga a)) [] := (Grow.alloc R1.sub hmq).drop
                have R2 := R1.grow g2
                refine hb L R2 eb fun y F3 H3 f3 g3 a3 n3 o3 => ?_
                have R3 := R2.grow g3
                obtain ⟨fq3, ow3⟩ := a3.own R3 esb
                obtain ⟨b, ys, rfl, hsq, dd⟩ := ow3.sqL R3.sub hd
                have r0 : RsAt K F1 H1 (σ ++ as) E (.ref a) (.pl p) [] := ⟨rfl, z2, z3⟩
                have r3 := (r0.grow R1 g2).grow R2 g3
                refine ⟨b, ys, rfl, hsq, g3.keep mq _ upd_same (fun z => nomatch z), ?_⟩
                have ra := rs_dats dd (RsAll.nil (K := K) (F := F3) (H := H3) (ρ := σ ++ as) (E := E))
                rw [List.append_nil, List.append_nil] at ra
                have gz : Grow F H fp F3 H3 fp := g1.mine.trans (g2.mine.trans (g3.mine))
                exact call_here R3 (RsAll.cons (f := []) (g := []) r3 ra) (placesOk_dats p ds) ess (by rw [List.length_cons, List.length_map]; exact hm) eg fun v F4 H4 fr4 fp4 g4 R4 ow4 nd4 of4 => q v F4 H4 fr4 fp4 (gz.trans g4) R4 ow4 nd4 of4
              · cases e
            · cases e
          · cases e
        · cases e
      · cases e
    · cases e
  · cases e
end Mv
/-! displays of dicts; d.update; statements whose parts have effects; o.f op= e -/
namespace Mv
open PySem PySem.Spec PyProof.Rows L2
variable {K : PySem.W.Frag} {F F' F1 F2 F3 H H' H1 H2 H3 : Hp} {v u x y w : V} {vs ws xs : List V} {s t c : S} {ss tts : List S} {fp fq fr fp' fp1 fp2 f1 f2 : List Addr} {ρ as : Ro} {E E' : En} {n : Nat}
variable {W : WXm} {te ta tb tc tk tv td : TE} {d da db dc dk dv : En → Option Rs} {tr : TA} {dr : En → Option (List Rs)} {de df : En → Option (S × En)} {tt : TT} {dte : En → Option (Bool × En)} {Q : VK} {dl : En → Option (Nat × En)} {js : List Nat} {ds : List PyData}

/-! ### {k: v, ..} -/
def flatP : List (V × V) → List V
  | [] => []
  | (x, y) :: r => x :: y :: flatP r
def EvD (K : PySem.W.Frag) (n : Nat) (as : Ro) (trs : List (TE × TE)) (dl : En → Option (Nat × En)) : Prop :=
  ∀ {F H : Hp} {σ : L2.St} {E : En} {fp : List Addr}, σ.length = n → Rep K F H (σ ++ as) E fp → ∀ {k : Nat} {E' : En}, dl E = some (k, E') → ∀ {Q : List (V × V) → Hp → Prop},
    (∀ ps F' H' fp', (flatP ps).length = k → Grow F H fp F' H' fp' → Rep K F' H' (σ ++ (as ++ (flatP ps).map some)) E' fp' → Q ps H') → tPairs trs σ H Q
theorem d_nil : EvD K n as [] lNil := by
  intro F H σ E fp L R k E' e Q q
  cases e
  exact q [] F H fp rfl (.refl R.sub fp) (by simpa [flatP] using R)
def lPair (dk dv : En → Option (S × En)) (dl : En → Option (Nat × En)) (E : En) : Option (Nat × En) := match dk E with
  | some (sk, E1) => match dv (E1 ++ [.own sk]) with
    | some (sv, E2) => up1 (up1 (dl (E2 ++ [.own sv])))
    | none => none
  | none => none
theorem d_cons {trs : List (TE × TE)} (hk : EvE K n as tk de) (hv : ∀ as, EvE K n as tv df) (hr : ∀ as, EvD K n as trs dl) : EvD K n as ((tk, tv) :: trs) (lPair de df dl) := by
  intro F H σ E fp L R k E' e Q q
  unfold lPair at e
  split at e
  · next sk E1 ek =>
    split at e
    · next sv E2 ev =>
      obtain ⟨⟨k1, E3⟩, e2, e3⟩ := Option.map_eq_some_iff.mp e
      obtain ⟨⟨k2, E4⟩, e4, e5⟩ := Option.map_eq_some_iff.mp e2
      cases e3
      cases e5
      refine hk L R ek fun v F1 H1 fr fp1 g1 R1 ov nd of => hv (as ++ [some v]) L (R1.push ov nd of) ev fun w F2 H2 fr2 fp2 g2 R2 ov2 nd2 of2 => hr (as ++ [some v] ++ [some w]) L (R2.push ov2 nd2 of2) e4 fun ps F3 H3 fp3 hk3 g3 R3 => ?_
      exact q ((v, w) :: ps) F3 H3 fp3 (by simp [flatP, hk3]) (g1.trans (g2.trans g3)) (by simpa [flatP] using R3)
    · cases e
  · cases e
def kvS : List S → Option (List (Key × S))
  | [] => some []
  | k :: v :: r => match keyS k, kvS r with
    | some k, some m => some ((k, v) :: m)
    | _, _ => none
  | _ => none
theorem own_key {k : Key} (o : Own K F H v s fp) (h : keyS s = some k) : v = kV k ∧ fp = [] := by
  cases s with
  | dat d =>
    obtain ⟨dd, hf⟩ := o.dat_inv rfl
    cases d with
    | int i => cases h; cases dd; exact ⟨rfl, hf⟩
    | str x => cases h; cases dd; exact ⟨rfl, hf⟩
    | _ => cases h
  | _ => cases h
theorem kv_own : ∀ {ps : List (V × V)} {ss : List S} {fp : List Addr} {kss : List (Key × S)}, OwnL K F H (flatP ps) ss fp → kvS ss = some kss → ∃ kvs : List (Key × V), ps = kvs.map (fun kv => (kV kv.1, kv.2)) ∧ kvs.map (·.1) = kss.map (·.1) ∧ OwnL K F H (kvs.map (·.2)) (kss.map (·.2)) fp
  | [], ss, fp, kss, o, h => by
    cases o
    cases h
    exact ⟨[], rfl, rfl, .nil⟩
  | (x, y) :: ps, ss, fp, kss, o, h => by
    cases o with
    | @cons _ _ s1 ss1 g1 g2 o1 o2 =>
      cases o2 with
      | @cons _ _ s2 ss2 g3 g4 o3 o4 =>
        simp only [kvS] at h
        split at h
        · next k m ek em =>
          cases h
          obtain ⟨rfl, rfl⟩ := own_key o1 ek
          obtain ⟨kvs, e1, e2, l⟩ := kv_own o4 em
          refine ⟨(k, y) :: kvs, by rw [e1]; rfl, by rw [List.map_cons, List.map_cons, e2], ?_⟩
          rw [List.map_cons, List.map_cons, List.nil_append]
          exact .cons o3 l
        · cases h
theorem mergeK_fresh : ∀ (more acc : List (Key × V)), ((acc ++ more).map (·.1)).Nodup → mergeK acc more = acc ++ more
  | [], acc, _ => by show acc = _; simp
  | p :: r, acc, nd => by
    have e : putK acc p.1 p.2 = acc ++ [p] := by
      have ndA : (acc.map (·.1)).Nodup := by
        rw [List.map_append] at nd
        exact (List.nodup_append.mp nd).1
      rw [putK_kix _ _ ndA]
      unfold putS
      have : kix (acc.map (·.1)) p.1 = none := by
        cases h : kix (acc.map (·.1)) p.1 with
        | none => rfl
        | some i =>
          exfalso
          have go : ∀ (ks : List Key) (i : Nat), kix ks p.1 = some i → p.1 ∈ ks := by
            intro ks
            induction ks with
            | nil => intro i h; simp [kix] at h
            | cons a r ih =>
              intro i h
              unfold kix at h
              split at h
              · next e => rw [e]; exact List.mem_cons_self
              · obtain ⟨j, hj, _⟩ := Option.map_eq_some_iff.mp h
                exact List.mem_cons_of_mem _ (ih j hj)
          have m := go _ _ h
          rw [List.map_append, List.map_cons] at nd
          exact (List.nodup_append.mp nd).2.2 p.1 m p.1 List.mem_cons_self rfl
      rw [this]
    show mergeK (putK acc p.1 p.2) r = acc ++ p :: r
    rw [e, mergeK_fresh r (acc ++ [p]) (by rw [List.append_assoc]; exact nd), List.append_assoc]
    rfl
def eDisp (dl : En → Option (Nat × En)) (E : En) : Option (S × En) := match dl (E ++ [.own (.dct false [])]) with
  | some (k, E1) => match popS (k + 1) E1 with
    | some (.dct false [] :: ss, E2) => match kvS ss with
      | some kss => if nodupK (kss.map (·.1)) = true ∧ kss.length ≤ 15 then some (.dct false kss, E2) else none
      | none => none
    | _ => none
  | none => none
theorem e_disp {trs : List (TE × TE)} (hl : ∀ as, EvD K n as trs dl) : EvE K n as (tDisp trs) (eDisp dl) := by
  intro F H σ E fp L R s E' e Q q
  unfold eDisp at e
  split at e
  · next k E1 el =>
    split at e
    · next ss E2 ep =>
      split at e
      · next kss ek =>
        split at e
        · next hh =>
          cases e
          refine fun p hp => ?_
          have g0 : Grow F H [] F (upd H p (.dK [])) [p] := Grow.alloc R.sub hp
          have ow0 : Own K F (upd H p (.dK [])) (.ref p) (.dct false []) [p] := dct_write (kvs := []) (kss := []) rfl .nil
          have R0 := (R.grow g0).push ow0 (R.apart_new g0 (by simp)) (fun a m => by rw [List.mem_singleton.mp m]; exact fresh_none R.sub hp)
          refine hl (as ++ [some (.ref p)]) L R0 el fun ps F2 H2 fp2 hk g2 R2 => ?_
          have R2' : Rep K F2 H2 (σ ++ (as ++ (V.ref p :: flatP ps).map some)) E1 fp2 := by simpa using R2
          obtain ⟨h1, h2, l, R3, pm⟩ := R2'.popN (k + 1) (by rw [List.length_cons, hk]) ep
          cases l with
          | @cons _ _ _ _ g1 g3 o1 o2 =>
            obtain ⟨a, kvs0, u, fq, ea, hH, hkk, rd, hks, ll, z⟩ := o1.dct_inv rfl
            cases ea
            have hk0 : kvs0 = [] := by cases kvs0 with | nil => rfl | cons a b => simp at hks
            subst hk0
            obtain ⟨hHp, rfl⟩ := z rfl
            cases ll
            obtain ⟨kvs, e1, e2, l2⟩ := kv_own o2 ek
            have hlen : kvs.length = kss.length := by have := congrArg List.length e2; simpa using this
            refine ⟨hHp, kvs, e1, by omega, ?_⟩
            have ndk : (kvs.map (·.1)).Nodup := by rw [e2]; exact nodupK_ok hh.1
            rw [mergeK_fresh kvs [] (by simpa using ndk), List.nil_append]
            have nd := pm.nodup_iff.mp R2'.nd
            have offp : ∀ a ∈ [p] ++ g3 ++ h1, F2 a = none := fun a m => R2'.off a (pm.mem_iff.mpr m)
            have fp0 : F2 p = none := offp p (by simp)
            have npg : p ∉ g3 := fun m => by
              have := (List.nodup_append.mp (List.nodup_append.mp nd).1).2.2 p (by simp) p m
              exact this rfl
            have nph : p ∉ h1 := fun m => (List.nodup_append.mp nd).2.2 p (by simp) p m rfl
            have gw : Grow F2 H2 [p] F2 (upd H2 p (.dK kvs)) [p] := Grow.write R3.sub fp0
            have R4 := R3.grow2 gw fun a m m2 => nph (by rw [← List.mem_singleton.mp m2]; exact m)
            have l3 := l2.off R3.sub (o := .dK kvs) fp0 npg
            refine q (.ref p) F2 _ (p :: g3) h1 ?_ R4 (dct_write e2 l3) (by simpa using nd) fun a m => offp a (by
              rcases List.mem_cons.mp m with rfl | m
              · simp
              · simp [m])
            have ga : Grow F H fp F2 H2 ([p] ++ g3 ++ h1) := ((g0.ours fp).trans g2).less fun a m => pm.mem_iff.mpr m
            have gb : Grow F2 H2 ([p] ++ g3 ++ h1) F2 (upd H2 p (.dK kvs)) (p :: g3 ++ h1) := gw.wide (fun a m => by simp [List.mem_singleton.mp m]) fun a m => .inl (by simpa using m)
            exact ga.trans gb
        · cases e
      · cases e
    · cases e
  · cases e

/-! ### d.update({..}), keys that are new -/
def oDUpd : S → S → Option (S × S)
  | .dct false kss, .dct false mss => if nodupK ((kss ++ mss).map (·.1)) = true ∧ kss.length + mss.length < 100000 then some (.dct false (kss ++ mss), .dat .none) else none
  | _, _ => none
def rDUpdV (u y : V) (H : Hp) (Q : VK) : Prop := ∃ a b kvs more, u = .ref a ∧ y = .ref b ∧ a ≠ b ∧ H a = some (.dK kvs) ∧ H b = some (.dK more) ∧ kvs.length + more.length ≤ sizeLine ∧ Q .non (upd H a (.dK (mergeK kvs more)))
theorem nd_dupd : Nd1 K rDUpdV oDUpd := by
  intro F H u y t s t' c fp1 fr sub ot os nd of e Q q
  unfold oDUpd at e
  split at e
  · next kss mss =>
    split at e
    · next hh =>
      cases e
      obtain ⟨a, kvs, u1, fq, rfl, hH, hk, rd, hks, ll, z⟩ := ot.dct_inv rfl
      obtain ⟨hHa, rfl⟩ := z rfl
      obtain ⟨b, more, u2, fm, rfl, hH2, hk2, rd2, hms, lm, z2⟩ := os.dct_inv rfl
      obtain ⟨hHb, rfl⟩ := z2 rfl
      have hab : a ≠ b := fun e => (List.nodup_append.mp nd).2.2 b List.mem_cons_self b (by rw [e]; exact List.mem_cons_self) rfl
      have l1 : kvs.length = kss.length := by have := congrArg List.length hks; simpa using this
      have l2 : more.length = mss.length := by have := congrArg List.length hms; simpa using this
      have hkeys : (kvs ++ more).map (·.1) = (kss ++ mss).map (·.1) := by rw [List.map_append, List.map_append, hks, hms]
      refine ⟨a, b, kvs, more, rfl, rfl, hab, hHa, hHb, by rw [sizeLine_eq]; omega, ?_⟩
      rw [mergeK_fresh more kvs (by rw [hkeys]; exact nodupK_ok hh.1)]
      have fa : F a = none := of a (List.mem_append_right _ List.mem_cons_self)
      have nd1 := List.nodup_append.mp nd
      have naq : a ∉ fq := (List.nodup_cons.mp nd1.2.1).1
      have nam : a ∉ fm := fun m => nd1.2.2 a (List.mem_cons_of_mem _ m) a List.mem_cons_self rfl
      have g0 : Grow F H [a] F (upd H a (.dK (kvs ++ more))) [a] := Grow.write sub fa
      have la := ll.off sub (o := .dK (kvs ++ more)) fa naq
      have lb := lm.off sub (o := .dK (kvs ++ more)) fa nam
      have lab := la.append lb
      rw [← List.map_append, ← List.map_append] at lab
      refine q .non F _ [] (a :: (fq ++ fm)) (g0.wide (fun c m => by rw [List.mem_singleton.mp m]; exact List.mem_append_right _ List.mem_cons_self) fun c m => .inl ?_) (dct_write hkeys lab) (.dat .non) ?_ fun c m => ?_
      · rw [List.nil_append] at m
        rcases List.mem_cons.mp m with rfl | m
        · exact List.mem_append_right _ List.mem_cons_self
        · rcases List.mem_append.mp m with m | m
          · exact List.mem_append_right _ (List.mem_cons_of_mem _ m)
          · exact List.mem_append_left _ (List.mem_cons_of_mem _ m)
      · rw [List.nil_append]
        refine List.nodup_cons.mpr ⟨fun m => (List.mem_append.mp m).elim naq nam, nodup_two (List.nodup_cons.mp nd1.2.1).2 (List.nodup_cons.mp nd1.1).2 fun c m d m2 z => ?_⟩
        subst z
        exact nd1.2.2 c (List.mem_cons_of_mem _ m2) c (List.mem_cons_of_mem _ m) rfl
      · rw [List.nil_append] at m
        rcases List.mem_cons.mp m with rfl | m
        · exact fa
        · rcases List.mem_append.mp m with m | m
          · exact of c (List.mem_append_right _ (List.mem_cons_of_mem _ m))
          · exact of c (List.mem_append_left _ (List.mem_cons_of_mem _ m))
    · cases e
  · cases e
def eDUpd (da : En → Option Rs) (db : En → Option (S × En)) (E : En) : Option (S × En) := match da E with
  | some (.pl p) => match eget E p with
    | some (.dct false _) => match db (E ++ [.bor p]) with
      | some (s, E1) => match E1.getLast? with
        | some (.bor p') => match eget E1 p' with
          | some t => match oDUpd t s with
            | some (t', c) => some (c, strip1 (ekill (eput E1 p' t') p'))
            | none => none
          | none => none
        | _ => none
      | none => none
    | _ => none
  | _ => none
theorem e_dupd (ha : EvP K n as ta da) (hb : ∀ as, EvE K n as tb de) : EvE K n as (tDUpd ta tb) (eDUpd da de) := by
  intro F H σ E fp L R s0 E0 e Q q
  unfold eDUpd at e
  split at e
  · next p ea =>
    split at e
    · next kss es =>
      split at e
      · next s E1 e1 =>
        split at e
        · next p' hl =>
          split at e
          · next t ht =>
            split at e
            · next t' c ho =>
              cases e
              refine ha L R ea fun u F1 H1 f1 g1 a1 n1 o1 => ?_
              have R1 := R.grow g1
              obtain ⟨fq, ow⟩ := a1.own R1 (show (Rs.pl p).at E = some (.dct false kss) from es)
              obtain ⟨a, kvs, u1, fq', rfl, hH, hk, rd, hks, ll, zz⟩ := ow.dct_inv rfl
              obtain ⟨z1, z2, z3⟩ := a1
              subst z1
              refine ⟨a, rfl, .inl ⟨kvs, rd⟩, hb (as ++ [some (.ref a)]) L (R1.hold z2 z3) e1 fun y F2 H2 fr fp2 g2 R2 ov nd of => ?_⟩
              have len := R2.core.len
              rw [List.getLast?_eq_getElem?] at hl
              obtain ⟨w, e3, e4, e5⟩ := R2.bor _ _ hl
              have : (σ ++ (as ++ [some (V.ref a)]))[E1.length - 1]? = some (some (.ref a)) := by
                rw [← List.append_assoc, List.getElem?_append_right (by rw [len]; simp), len]
                simp
              rw [this] at e3
              cases e3
              have fin := mut1 nd_dupd R2 (u := .ref a) (f1 := []) ⟨rfl, e4, e5⟩ ov nd of ht ho (Q := Q) fun v F' H' fv fp' g R' ov' nd' of' => ?_
              · obtain ⟨a', b, kvs', more, ea', rfl, hab, h1, h2, h3, h4⟩ := fin
                cases ea'
                exact ⟨b, kvs', more, rfl, hab, h1, h2, h3, h4⟩
              · obtain ⟨fz, R4, sb⟩ := R'.strip1
                refine q v F' H' fv fz ((g1.mine.trans (g2.trans g)).less fun b m => (List.mem_append.mp m).elim (fun m => List.mem_append_left _ m) fun m => List.mem_append_right _ (sb b m)) R4 ov' ?_ of'
                exact List.nodup_append.mpr ⟨(List.nodup_append.mp nd').1, R4.nd, fun b m d m2 => (List.nodup_append.mp nd').2.2 b m d (sb d m2)⟩
            · cases e
          · cases e
        · cases e
      · cases e
    · cases e
  · cases e

/-! ### statements whose parts are held -/
def stripK (k : Nat) : Option Out → Option Out
  | some (.nx E) => some (.nx (stripN k E))
  | some (.rt s E) => some (.rt s (stripN k E))
  | some (.bk E) => some (.bk (stripN k E))
  | some (.ct E) => some (.ct (stripN k E))
  | some (.ex x E) => some (.ex x (stripN k E))
  | none => none
def dEffS (dl : En → Option (Nat × En)) (dc : Nat → En → Option Out) (E : En) : Option Out := match dl E with
  | some (k, E1) => stripK k (dc k E1)
  | none => none
theorem s_eff {C : List V → TS} {dcc : Nat → En → Option Out} (hl : EvL K n as tr dl) (hc : ∀ vs : List V, EvS K n (as ++ vs.map some) W (C vs) (dcc vs.length)) :
    EvS K n as W (fun D σ H => tr σ H fun vs H1 => C vs D σ H1) (dEffS dl dcc) := by
  intro F H σ E fp L R o e D g
  unfold dEffS at e
  split at e
  · next k E1 el =>
    refine hl L R el fun vs F1 H1 fp1 hk g1 R1 => ?_
    subst hk
    cases hd : dcc vs.length E1 with
    | none => rw [hd] at e; cases e
    | some o1 =>
      rw [hd] at e
      refine hc vs L R1 hd ?_
      have gg := g.grow g1
      cases o1 with
      | nx E2 =>
        cases e
        refine fun σ' F' H' fp' L' g' R' => ?_
        obtain ⟨fq, R3, sb⟩ := R'.stripN vs.length rfl
        exact gg σ' F' H' fq L' (g'.less sb) R3
      | bk E2 =>
        cases e
        refine fun σ' F' H' fp' L' g' R' => ?_
        obtain ⟨fq, R3, sb⟩ := R'.stripN vs.length rfl
        exact gg σ' F' H' fq L' (g'.less sb) R3
      | ct E2 =>
        cases e
        refine fun σ' F' H' fp' L' g' R' => ?_
        obtain ⟨fq, R3, sb⟩ := R'.stripN vs.length rfl
        exact gg σ' F' H' fq L' (g'.less sb) R3
      | ex c E2 =>
        cases e
        refine fun C' σ' F' H' fp' hC L' g' R' => ?_
        obtain ⟨fq, R3, sb⟩ := R'.stripN vs.length rfl
        exact gg C' σ' F' H' fq hC L' (g'.less sb) R3
      | rt s E2 =>
        cases e
        refine fun v σ' F' H' fr fp' L' g' R' ow nd of => ?_
        obtain ⟨fq, R3, sb⟩ := R'.stripN vs.length rfl
        refine gg v σ' F' H' fr fq L' (g'.less fun a m => (List.mem_append.mp m).elim (fun m => List.mem_append_left _ m) fun m => List.mem_append_right _ (sb a m)) R3 ow ?_ of
        exact List.nodup_append.mpr ⟨(List.nodup_append.mp nd).1, R3.nd, fun a m b m2 => (List.nodup_append.mp nd).2.2 a m b (sb b m2)⟩
  · cases e
/-- the j-th held, handed back -/
def eGhM (k j : Nat) (E : En) : Option (S × En) := if j < k then match E[E.length - k + j]? with
    | some (.own s) => some (s, slotSet E (E.length - k + j) .no)
    | _ => none
  else none
theorem e_ghM {j : Nat} (hj : vs[j]? = some v) : EvE K n (as ++ vs.map some) (tV v) (eGhM vs.length j) := by
  intro F H σ E fp L R s0 E0 e Q q
  unfold eGhM at e
  rw [if_pos (List.getElem?_eq_some_iff.mp hj).1] at e
  split at e
  · next s he =>
    cases e
    obtain ⟨fr, fq, ow, R2, pm⟩ := R.takeSlot he (gh_at L R hj)
    exact q v F H fr fq ((Grow.refl R.sub fp).less fun a m => pm.mem_iff.mpr m) R2 ow (pm.nodup_iff.mp R.nd) fun a m => R.off a (pm.mem_iff.mpr (List.mem_append_left _ m))
  · cases e
def dWhenS (k m : Nat) (d : En → Option Out) (E : En) : Option Out := if k = m then d E else none
/-- d[k] = v, k with effects -/
theorem s_dputE (hl : EvL K n as (tCons te (tCons ta (tCons tb tNil))) dl) : EvS K n as W (sDPut ta tb te) (dEffS dl fun k => dWhenS k 3 (dDPut (dGh k 1) (dGh k 2) (eGhM k 0))) := by
  have hc : ∀ vs : List V, EvS K n (as ++ vs.map some) W (fun D σ H => match vs with | [v, x, y] => sDPut (tV x) (tV y) (tV v) D σ H | _ => False) (dWhenS vs.length 3 (dDPut (dGh vs.length 1) (dGh vs.length 2) (eGhM vs.length 0))) := by
    intro vs F H σ E fp L R o e D g
    unfold dWhenS at e
    split at e
    · next hk =>
      match vs, hk with
      | [v, x, y], _ => exact s_dput (W := W) (p_gh (vs := [v, x, y]) rfl) (p_gh (vs := [v, x, y]) rfl) (e_ghM (vs := [v, x, y]) rfl) L R e g
    · cases e
  intro F H σ E fp L R o e D g
  exact s_eff (C := fun vs D σ H => match vs with | [v, x, y] => sDPut (tV x) (tV y) (tV v) D σ H | _ => False) (dcc := fun k => dWhenS k 3 (dDPut (dGh k 1) (dGh k 2) (eGhM k 0))) hl hc L R e g
/-! ### o.f op= e, a number -/
theorem s_faug {c j : Nat} {C : Addr} {f : Str} {r : R2} {fo : PyData → PyData → Option PyData} (hC : clsOf K c C) (cl : Cls K C) (na : NoAttr K C f) (hf : fixN (clsFld c) f = some j) (hr : Rv2 K r fo) (ha : EvP K n as ta da) (hb : EvP K n as tb db) :
    EvS K n as W (sFldAug K ta tb r f) (dFAug c j da fo db) := by
  intro F H σ E fp L R o e D g
  unfold dFAug at e
  split at e
  · next p a rv ea ef eb =>
    split at e
    · next b efull =>
      split at e
      · next x ex =>
        unfold dFld at ef
        rw [ea] at ef
        dsimp only at ef
        split at ef
        · next c' ss es =>
          split at ef
          · next hc =>
            subst hc
            split at ef
            · next s hs =>
              unfold stepAt at e
              split at e
              · next t et =>
                split at e
                · next t' c1 eo =>
                  cases e
                  refine ha L R ea fun u F1 H1 f1 g1 a1 n1 o1 => ?_
                  have R1 := R.grow g1
                  obtain ⟨fq, ow⟩ := a1.own R1 es
                  obtain ⟨ad, C', dx, fs, fq', rfl, hH, hC', _, hn, _, ll, _⟩ := ow.ins_inv rfl
                  cases hC.one hC'
                  obtain ⟨w, f', hw, ow2⟩ := ll.nth hs
                  have kd := a1.kid R1 es hH hw hs ow2 ef
                  have dw : Dq K F1 w a := (Own.dat_inv (show Own K F1 H1 w (.dat a) [] from kd) rfl).1
                  refine ⟨ad, C, dx, fs, w, rfl, hH, cl, na, ?_, hb L R1 eb fun y F2 H2 f2 g2 a2 n2 o2 => ?_⟩
                  · rw [lookup_fix, hn, fixN_take _ hf (List.getElem?_eq_some_iff.mp hs).1]; exact hw
                  · have R2 := R1.grow g2
                    refine hr (Dq.mono R2.sub (Dq.mono g2.f dw)) (a2.dp R2 efull) ex fun hsc => ?_
                    have fin := mut1 (nd_fput hC cl na hf) R2 (a1.grow R1 g2) (y := scV x) (s := .dat x) (fr := []) (.dat (scV_dp hsc)) (by simpa using R2.nd) (fun _ m => nomatch m) et eo (Q := fun _ H4 => D.nx σ H4) fun v F' H' fv fp' g4 R4 ov4 nd4 of4 => ?_
                    · obtain ⟨a', C'', dx', fs', ea', h1, h2, h3, h4, h5⟩ := fin
                      cases ea'
                      have hii : H2 ad = some (.ins C'' dx' fs') := h1
                      have hCC : C'' = C := by
                        obtain ⟨fq3, ow3⟩ := (a1.grow R1 g2).own R2 es
                        obtain ⟨ad3, C3, dx3, fs3, fq3', e3, hH3, hC3, _⟩ := ow3.ins_inv rfl
                        cases e3
                        cases hC.one hC3
                        rw [hii] at hH3
                        cases hH3
                        rfl
                      subst hCC
                      exact ⟨dx', fs', h1, h4, h5⟩
                    · refine g σ F' H' fp' L ?_ R4
                      have gg : Grow F H fp F2 H2 fp := ((g1.ours fp).less fun a m => List.mem_append_right _ m).trans ((g2.ours fp).less fun a m => List.mem_append_right _ m)
                      exact (gg.trans g4).less fun a m => List.mem_append_right _ m
                · cases e
              · cases e
            · cases ef
          · cases ef
        · cases ef
      · cases e
    · cases e
  · cases e
end Mv
/-! o.m(), o of one of several classes -/
namespace L2
open PySem PySem.Spec PyProof.Rows
section
variable {X : Cx} {k : Nat} {m : Str} {E : XK} {o : Expr} {ta : TE} {p apos pos : Pos}
/-- a class whose method m keeps sp -/
def AltOk (X : Cx) (m : Str) (k : Nat) (C : Addr) (sp : Sp) : Prop := Cls X.K C ∧ ∃ f fd ps, Meth X.K C m f ∧ FnOk X.prog X.w X.K X.mg X.base CX0 k f fd ps sp ∧ Binds X.K fd ps []
def tMethP (alts : List (Addr × Sp)) (m : Str) (E : XK) (ta : TE) : TE := fun σ H Q => ta σ H fun x H1 => ∃ C sp, (C, sp) ∈ alts ∧ ∃ a dx fs, x = .ref a ∧ H1 a = some (.ins C dx fs) ∧ fs.lookup m = none ∧ sp [x] H1 Q E
theorem pe_meth0P {alts : List (Addr × Sp)} {pl : Sem Bool} (he : PE X o ta) (h : ∀ p ∈ alts, AltOk X m k p.1 p.2) (hr : Room k X.A)
    (ht : eval (.Call (.Attribute o m apos) [] [] pos) X.env = (do
      let ov ← eval o X.env
      standAt apos.atName
      let (f, first) ← holding [ov] (getMethod ov m pl)
      callWith pos f first (backTo pos (starEach [] X.env)) (backToKw pos (keywordEach [] X.env))) := by rfl) :
    PE X (.Call (.Attribute o m apos) [] [] pos) (tMethP alts m E ta) := by
  refine ⟨fun pins s σ H Q I hq => ?_⟩
  refine PySem.W.methodCall_KW (pl := pl) (thn (he.run pins s σ H _ I hq) fun u s1 ⟨x, H1, I1, rx, C, sp, hm, a, dx, fs, ex, ea, l, q⟩ => ?_) ht
  subst ex
  obtain rfl : u = Value.ref a := rx
  obtain ⟨c, f, fd, ps, hmt, F, hb⟩ := h _ hm
  refine getmeth_ok I1 ea c hmt l ?_
  exact PySem.W.callWith_K0 (first := [.ref a]) I1.kIn hmt.kp (run_fn (us := [.ref a]) (vs := [.ref a]) (dvs := []) (ds := []) (E := E) F hr hb .nil pass0 I1 (.cons rfl .nil) (by simpa using q))
end
end L2
/-! rows of things that are had elsewhere, walked; methods of one of several classes -/
namespace Mv
open PySem PySem.Spec PyProof.Rows L2
variable {K : PySem.W.Frag} {F F' F1 F2 F3 H H' H1 H2 H3 : Hp} {v u x y w : V} {vs ws xs : List V} {s t c : S} {ss tts : List S} {fp fq fr fp' fp1 fp2 f1 f2 : List Addr} {ρ as : Ro} {E E' : En} {n : Nat}
variable {W : WXm} {te ta tb tc tk tv td : TE} {d da db dc dk dv : En → Option Rs} {tr : TA} {dr : En → Option (List Rs)} {de df : En → Option (S × En)} {tt : TT} {dte : En → Option (Bool × En)} {Q : VK} {dl : En → Option (Nat × En)} {js : List Nat} {ds : List PyData}

inductive PlAll (H : Hp) (ρ : Ro) (E : En) : List V → List (List Nat) → Prop
  | nil : PlAll H ρ E [] []
  | cons {v : V} {vs : List V} {p : List Nat} {ps : List (List Nat)} : followE H ρ p = some v → (eget E p).isSome = true → PlAll H ρ E vs ps → PlAll H ρ E (v :: vs) (p :: ps)
theorem PlAll.len {vs : List V} {ps : List (List Nat)} (h : PlAll H ρ E vs ps) : vs.length = ps.length := by
  induction h with
  | nil => rfl
  | cons _ _ _ ih => simp [ih]
theorem PlAll.snoc {vs : List V} {ps : List (List Nat)} {p : List Nat} (h : PlAll H ρ E vs ps) (h1 : followE H ρ p = some v) (h2 : (eget E p).isSome = true) : PlAll H ρ E (vs ++ [v]) (ps ++ [p]) := by
  induction h with
  | nil => exact .cons h1 h2 .nil
  | cons a b _ ih => exact .cons a b ih
theorem PlAll.imp {ρ' : Ro} {vs : List V} {ps : List (List Nat)} (h : PlAll H ρ E vs ps) (k : ∀ p ∈ ps, ∀ v, followE H ρ p = some v → (eget E p).isSome = true → followE H' ρ' p = some v ∧ (eget E' p).isSome = true) : PlAll H' ρ' E' vs ps := by
  induction h with
  | nil => exact .nil
  | cons a b _ ih =>
    obtain ⟨a', b'⟩ := k _ List.mem_cons_self _ a b
    exact .cons a' b' (ih fun p m => k p (List.mem_cons_of_mem _ m))
theorem PlAll.grow {vs : List V} {ps : List (List Nat)} (h : PlAll H ρ E vs ps) (R : Rep K F H ρ E fp) (g : Grow F H fq F' H' fr) (dj : ∀ a ∈ fp, a ∉ fq) : PlAll H' ρ E vs ps := h.imp fun p _ v h1 h2 => by
  obtain ⟨t, ht⟩ := Option.isSome_iff_exists.mp h2
  exact ⟨by rw [R.core.follow_keep (fun b o e => g.sub b o (g.f b o e)) ht fun a m o e => g.keep a o e (dj a m)]; exact h1, h2⟩
/-- an expression that makes a row of such -/
def EvAl (K : PySem.W.Frag) (n : Nat) (as : Ro) (te : TE) (d : En → Option (List (List Nat) × En)) : Prop :=
  ∀ {F H : Hp} {σ : L2.St} {E : En} {fp : List Addr}, σ.length = n → Rep K F H (σ ++ as) E fp → ∀ {ps : List (List Nat)} {E' : En}, d E = some (ps, E') → ∀ {Q : VK},
    (∀ a vs F' H' fp', Grow F H fp F' H' fp' → Rep K F' H' (σ ++ as) E' fp' → SqL K F' a vs → PlAll H' (σ ++ as) E' vs ps → Q (.ref a) H') → te σ H Q
def dAl1 (da : En → Option Rs) (E : En) : Option (List (List Nat) × En) := match da E with
  | some (.pl p) => some ([p], E)
  | _ => none
theorem al_one (ha : EvP K n as ta da) : EvAl K n as (tLst (tCons ta tNil)) (dAl1 da) := by
  intro F H σ E fp L R ps E' e Q q
  unfold dAl1 at e
  split at e
  · next p ea =>
    cases e
    refine ha L R ea fun v F1 H1 f1 g1 a1 n1 o1 => ⟨by rw [sizeLine_eq]; simp, fun l hl => ?_⟩
    obtain ⟨rfl, z2, z3⟩ := a1
    have R1 := R.grow g1
    have g2 : Grow F1 H1 [] (upd F1 l (.lst [v])) (upd H1 l (.lst [v])) [] := Grow.share R1.sub hl
    have R2 := R1.grow g2
    have pa : PlAll H1 (σ ++ as) E [v] [p] := .cons z2 z3 .nil
    exact q l [v] _ _ fp (g1.mine.trans g2.mine) R2 (.inl (.inl upd_same)) (pa.grow R1 g2 fun _ _ z => nomatch z)
  · cases e
def dAlLoop (rd : En → Nat → Option (Option Rs)) (j : Nat) (da : En → Option Rs) : Nat → Nat → List (List Nat) → En → Option (List (List Nat) × En)
  | fuel, i, acc, E => match rd E i with
    | none => none
    | some none => some (acc, E)
    | some (some r) => match fuel with
      | 0 => none
      | fuel + 1 => match bName j r E with
        | none => none
        | some E1 => match da E1 with
          | some (.pl p) => if p.head? = some j then none else if acc.length < 1000 then dAlLoop rd j da fuel (i + 1) (acc ++ [p]) (slotSet E1 j .no) else none
          | _ => none
def dAlc (src : En → Option Src) (j : Nat) (da : En → Option Rs) (E : En) : Option (List (List Nat) × En) := match src E with
  | some c => match c.exE with
    | [] => dAlLoop c.rd j da c.fuel 0 [] (slotSet c.env j .no)
    | _ => none
  | none => none
theorem Grow.sealed {D : Addr} {o : HO} (sub : ∀ a o, F a = some o → H a = some o) (hD : H D = some o) (fD : F D = none) : Grow F H [D] (upd F D o) H [] := by
  refine ⟨fun a u e => ?_, fun a u e => ?_, fun a u e _ => e, (fun _ m => nomatch m), fun a h0 m e => ?_⟩
  · rw [upd_ne fun z => by rw [z, fD] at e; cases e]; exact e
  · by_cases ad : a = D
    · subst ad; rw [upd_same] at e; rw [hD]; exact e
    · rw [upd_ne ad] at e; exact sub a u e
  · rw [upd_ne fun z => m (by rw [z]; exact List.mem_singleton.mpr rfl)]; exact e
theorem al_lc {wi : TI} {src : En → Option Src} {j : Nat} (hj : j < n) (hi : EvI K n as wi src) (ha : ∀ as, EvP K n as ta da) : EvAl K n as (tLc wi (gName j) tYes ta [j]) (dAlc src j da) := by
  intro F H σ E fp L R ps0 E0 e Q q
  unfold dAlc at e
  split at e
  · next c ec =>
    split at e
    · next hex =>
      refine hi L R ec fun J F1 H1 ex fpx g1' R1 hx spec => fun D hD => ?_
      rw [hex] at R1 hx
      have exn : ex = [] := List.eq_nil_of_length_eq_zero hx
      subst exn
      rw [List.append_nil] at R1
      have easn : as ++ ([] : List V).map some = as := by simp
      rw [easn] at R1
      have gD : Grow F1 H1 [] F1 (upd H1 D (.lst [])) [D] := Grow.alloc R1.sub hD
      have fD1 : F1 D = none := fresh_none R1.sub hD
      have hjl : j < σ.length := by omega
      have hjm : ∀ k ∈ [j], k < σ.length := fun k m => by rw [List.mem_singleton.mp m]; exact hjl
      obtain ⟨fw, Rw, sbw⟩ := (R1.grow gD).wipeN [j] hjm
      have wj : wipeE c.env [j] = slotSet c.env j .no := rfl
      rw [wj] at Rw
      have noJ : ∀ {ρ : Ro} {F H : Hp} {τ : L2.St} {X : En} {fq : List Addr}, τ.length = n → Rep K F H (τ ++ ρ) X fq → (slotSet X j .no)[j]? = some Sl.no := fun {ρ F H τ X fq} hl RR => by
        unfold slotSet
        rw [List.getElem?_set_self (by rw [List.length_map, RR.core.len, List.length_append]; omega)]
      have Dw : D ∉ fw := fun m => by
        obtain ⟨o, eo⟩ := R1.there D (sbw D m)
        rw [hD] at eo; cases eo
      refine ⟨fun i m Hm => ∃ Fm Em fpm accV accP, Grow F1 H1 fpx Fm Hm (D :: fpm) ∧ Rep K Fm Hm (L2.wipe σ [j] ++ as) Em fpm ∧ Em[j]? = some Sl.no ∧ Hm D = some (.lst accV) ∧ Fm D = none ∧ D ∉ fpm ∧ PlAll Hm (L2.wipe σ [j] ++ as) Em accV accP ∧ (∀ p ∈ accP, p.head? ≠ some j) ∧ dAlLoop c.rd j da m i accP Em = some (ps0, E0),
        ⟨c.fuel, F1, _, fw, [], [], ?_, Rw, noJ L R1, upd_same, fD1, Dw, .nil, (fun _ m => nomatch m), e⟩, fun i m Hm hW => ?_⟩
      · have := gD.wide (fq := fpx) (fr := D :: fw) (fun _ m => nomatch m) fun a m => ?_
        · exact this
        · rcases List.mem_cons.mp m with rfl | m
          · exact .inr hD
          · exact .inl (sbw a m)
      · obtain ⟨Fm, Em, fpm, accV, accP, gm, Rm, hno, hHD, fDm, Dm, pa, hnj, hl⟩ := hW
        have gm' : Grow F1 H1 fpx Fm Hm fpm := gm.less fun a m => List.mem_cons_of_mem _ m
        have Lw : (L2.wipe σ [j]).length = n := by rw [L2.wipe_length]; exact L
        obtain ⟨sp1, sp2⟩ := spec Fm Hm (L2.wipe σ [j]) Em fpm Lw gm' (by rw [easn]; exact Rm) i
        rw [dAlLoop.eq_def] at hl
        dsimp only at hl
        cases hr : c.rd Em i with
        | none => rw [hr] at hl; cases hl
        | some r0 => cases r0 with
          | none =>
            rw [hr] at hl
            cases hl
            refine .inl ⟨sp2 hr, ?_⟩
            have gs : Grow Fm Hm [D] (upd Fm D (.lst accV)) Hm [] := Grow.sealed Rm.sub hHD fDm
            have dj : ∀ a ∈ fpm, a ∉ [D] := fun a m m2 => Dm (by rw [← List.mem_singleton.mp m2]; exact m)
            have Rs := Rm.grow2 gs dj
            have R3 : Rep K (upd Fm D (.lst accV)) Hm (σ ++ as) E0 fpm := Rs.unwipe hjm fun k m => by rw [List.mem_singleton.mp m]; exact hno
            have g3 : Grow F1 H1 fpx (upd Fm D (.lst accV)) Hm fpm := by
              have := gm.trans (gs.wide (fq := D :: fpm) (fr := fpm) (fun a m => by rw [List.mem_singleton.mp m]; exact List.mem_cons_self) fun a m => .inl (List.mem_cons_of_mem _ m))
              exact this
            refine q D accV _ _ fpm (g1'.trans g3) R3 (.inl (.inl upd_same)) (pa.imp fun p hp v h1 h2 => ⟨?_, h2⟩)
            have hn := hnj p hp
            have e1 : followE Hm (L2.wipe σ [j] ++ as) p = followE Hm (σ ++ as) p := by
              show followE Hm (σ.set j none ++ as) p = _
              rw [set_app hjl, followE_set hn]
            rw [← e1]; exact h1
          | some r =>
            rw [hr] at hl
            dsimp only at hl
            obtain ⟨go, yl⟩ := sp1 r hr
            cases m with
            | zero => cases hl
            | succ m =>
              dsimp only at hl
              refine .inr ⟨go, fun H' => ∃ Fm Em fpm accV accP, Grow F1 H1 fpx Fm H' (D :: fpm) ∧ Rep K Fm H' (L2.wipe σ [j] ++ as) Em fpm ∧ Em[j]? = some Sl.no ∧ H' D = some (.lst accV) ∧ Fm D = none ∧ D ∉ fpm ∧ PlAll H' (L2.wipe σ [j] ++ as) Em accV accP ∧ (∀ p ∈ accP, p.head? ≠ some j) ∧ dAlLoop c.rd j da m (i + 1) accP Em = some (ps0, E0), fun H' hN => ⟨m, Nat.lt_succ_self m, hN⟩, fun x H' hy => ?_⟩
              obtain ⟨rfl, ar⟩ := yl x H' hy
              rw [easn] at ar
              split at hl
              · cases hl
              · next E1 e1 =>
                have hLw : ((L2.wipe σ [j]).set j (some x)).length = n := by rw [List.length_set]; exact Lw
                have hjw : j < (L2.wipe σ [j] ++ as).length := by rw [List.length_append]; omega
                have w1' : L2.wipe ((L2.wipe σ [j]).set j (some x)) [j] = L2.wipe σ [j] := (wipe_set (by simp)).trans (wipe_wipe σ [j])
                refine ⟨w1', ?_⟩
                unfold tYes
                refine iteT ?_
                have hR1 : ∃ fq, Rep K Fm H' (((L2.wipe σ [j]).set j (some x)) ++ as) E1 fq ∧ ∀ a ∈ fq, a ∈ fpm := by
                  rw [set_app (by omega)]
                  cases r with
                  | val s =>
                    cases e1
                    obtain ⟨fq, k1, k2⟩ := Rm.setSlot (e := .own s) (fr := []) hjw ar Rm.nd (fun _ m => nomatch m)
                    exact ⟨fq, k1, fun a m => by simpa using k2 a m⟩
                  | pl p =>
                    unfold bName at e1
                    dsimp only at e1
                    split at e1
                    · cases e1
                    · next hp =>
                      cases e1
                      obtain ⟨a1, a2, a3⟩ := ar
                      obtain ⟨fq, k1, k2⟩ := Rm.setSlot (e := .bor p) (fr := []) hjw ⟨rfl, hp, a2, a3⟩ Rm.nd (fun _ m => nomatch m)
                      exact ⟨fq, k1, fun a m => by simpa using k2 a m⟩
                obtain ⟨fq, R1', sb1⟩ := hR1
                split at hl
                · next p ep =>
                  split at hl
                  · cases hl
                  · next hpj =>
                    split at hl
                    · next hlen =>
                      refine ha as hLw R1' ep fun y F4 H4 f4 g4 a4 n4 o4 => ?_
                      obtain ⟨rfl, z2, z3⟩ := a4
                      have R4 := R1'.grow g4
                      have hHD4 : H4 D = some (.lst accV) := g4.keep D _ hHD (fun z => nomatch z)
                      have fD4 : F4 D = none := g4.off D (by rw [hHD]; exact fun z => nomatch z) (fun z => nomatch z) fDm
                      have Dq : D ∉ fq := fun m => Dm (sb1 D m)
                      refine ⟨accV, hHD4, by rw [pa.len, sizeLine_eq]; omega, ?_⟩
                      have hjm1 : ∀ k ∈ [j], k < ((L2.wipe σ [j]).set j (some x)).length := fun k m => by rw [List.mem_singleton.mp m, hLw]; omega
                      obtain ⟨fq5, R5, sb5⟩ := R4.wipeN [j] hjm1
                      rw [w1'] at R5
                      have wj5 : wipeE E1 [j] = slotSet E1 j .no := rfl
                      rw [wj5] at R5
                      have gw : Grow F4 H4 [D] F4 (upd H4 D (.lst (accV ++ [y]))) [D] := Grow.write R4.sub fD4
                      have D5 : D ∉ fq5 := fun m => Dq (sb5 D m)
                      have dj5 : ∀ a ∈ fq5, a ∉ [D] := fun a m m2 => D5 (by rw [← List.mem_singleton.mp m2]; exact m)
                      have R6 := R5.grow2 gw dj5
                      have egE1 : ∀ pp : List Nat, pp.head? ≠ some j → eget E1 pp = eget Em pp := fun pp hp => by
                        unfold bName at e1
                        cases r with
                        | val s => cases e1; exact eget_set hp
                        | pl p' =>
                          dsimp only at e1
                          split at e1
                          · cases e1
                          · cases e1; exact eget_set hp
                      -- what is had so far, at the heap behind
                      have pa4 : PlAll H4 (L2.wipe σ [j] ++ as) Em accV accP := pa.grow Rm g4 fun _ _ z => nomatch z
                      have pa5 : PlAll H4 (L2.wipe σ [j] ++ as) (slotSet E1 j .no) accV accP := pa4.imp fun pp hp v h1 h2 => ⟨h1, by rw [eget_set (hnj pp hp), egE1 pp (hnj pp hp)]; exact h2⟩
                      have new5 : followE H4 (L2.wipe σ [j] ++ as) p = some y := by
                        rw [← z2, set_app (by omega), followE_set hpj]
                      have pa6 := pa5.snoc new5 (show (eget (slotSet E1 j .no) p).isSome = true by rw [eget_set hpj]; exact z3)
                      have pa7 := pa6.grow R5 gw dj5
                      refine ⟨F4, slotSet E1 j .no, fq5, accV ++ [y], accP ++ [p], ?_, R6, noJ hLw R1', upd_same, fD4, D5, pa7, fun pp m => ?_, hl⟩
                      · have g14 : Grow F1 H1 fpx F4 H4 (D :: fpm) := gm.trans ((g4.ours (D :: fpm)).less fun a m => List.mem_append_right _ m)
                        exact g14.trans (gw.wide (fun a m => by rw [List.mem_singleton.mp m]; exact List.mem_cons_self) fun a m => by
                          left
                          rcases List.mem_cons.mp m with rfl | m
                          · exact List.mem_cons_self
                          · exact List.mem_cons_of_mem _ (sb1 a (sb5 a m)))
                      · rcases List.mem_append.mp m with m | m
                        · exact hnj pp m
                        · rw [List.mem_singleton.mp m]; exact hpj
                    · cases hl
                · cases hl
    · cases e
  · cases e
end Mv
/-! a row of things had elsewhere, walked: xs = a + b; for x in xs + c: .. -/
namespace Mv
open PySem PySem.Spec PyProof.Rows L2
variable {K : PySem.W.Frag} {F F' F1 F2 F3 H H' H1 H2 H3 : Hp} {v u x y w : V} {vs ws xs : List V} {s t c : S} {ss tts : List S} {fp fq fr fp' fp1 fp2 f1 f2 : List Addr} {ρ as : Ro} {E E' : En} {n : Nat}
variable {W : WXm} {te ta tb tc tk tv td : TE} {d da db dc dk dv : En → Option Rs} {tr : TA} {dr : En → Option (List Rs)} {de df : En → Option (S × En)} {tt : TT} {dte : En → Option (Bool × En)} {Q : VK} {dl : En → Option (Nat × En)} {js : List Nat} {ds : List PyData}

theorem Rep.holdN {σ : L2.St} : ∀ {vs : List V} {ps : List (List Nat)} {as : Ro} {E : En}, Rep K F H (σ ++ as) E fp → PlAll H (σ ++ as) E vs ps → Rep K F H (σ ++ (as ++ vs.map some)) (E ++ ps.map Sl.bor) fp
  | _, _, as, E, R, .nil => by simpa using R
  | v :: vs, p :: ps, as, E, R, .cons h1 h2 t => by
    have R1 := R.hold h1 h2
    have t1 : PlAll H (σ ++ (as ++ [some v])) (E ++ [.bor p]) vs ps := t.imp fun q _ w k1 k2 => by
      obtain ⟨u, hu⟩ := Option.isSome_iff_exists.mp k2
      obtain ⟨i, r, s, rfl, ei, hr⟩ := eget_some hu
      have hi := (List.getElem?_eq_some_iff.mp ei).1
      refine ⟨?_, by simp only [eget, List.getElem?_append_left hi, ei, hr]; rfl⟩
      unfold followE at k1 ⊢
      dsimp only at k1 ⊢
      rw [← List.append_assoc, List.getElem?_append_left (by rw [← R.core.len]; exact hi)]
      exact k1
    have R2 := Rep.holdN (as := as ++ [some v]) R1 t1
    simpa using R2
def rdGh (k : Nat) (E : En) (i : Nat) : Option (Option Rs) := if i < k then match E[E.length - k + i]? with
    | some (.bor p) => some (some (.pl p))
    | _ => none
  else some none
def dActors (i : Nat) (d1 d2 d3 : En → Option (List (List Nat) × En)) (bd : Rs → En → Option En) (db : En → Option Out) (E : En) : Option Out := match d1 E with
  | some (p1, E1) => match d2 (E1 ++ p1.map Sl.bor) with
    | some (p2, E2) => match d3 (slotSet (E2 ++ p2.map Sl.bor) i .no) with
      | some (p3, E3) => if p1.length + p2.length + p3.length < 1000 then
          stripK (p1.length + p2.length + p3.length) (dLoop (rdGh (p1.length + p2.length + p3.length)) bd db (p1.length + p2.length + p3.length) 0 (E3 ++ p3.map Sl.bor))
        else none
      | none => none
    | none => none
  | none => none
theorem s_actors {i : Nat} {t1 t2 t3 : TE} {g : TG} {tb : TS} {d1 d2 d3 : En → Option (List (List Nat) × En)} {bd : Rs → En → Option En} {db : En → Option Out} (hi : i < n) (h1 : ∀ as, EvAl K n as t1 d1) (h2 : ∀ as, EvAl K n as t2 d2) (h3 : ∀ as, EvAl K n as t3 d3) (hg : EvG K n g bd) (hb : ∀ as, EvS K n as W tb db) :
    EvS K n as W (tSeq (tAsg (tOp (rCatS K) t1 t2) (gName i)) (tFor (iList K (tOp (rCatS K) (tVar i) t3)) g tb)) (dActors i d1 d2 d3 bd db) := by
  intro F H σ E fp L R o e D gg
  unfold dActors at e
  split at e
  · next p1 E1 e1 =>
    split at e
    · next p2 E2 e2 =>
      split at e
      · next p3 E3 e3 =>
        split at e
        · next hk =>
          show tOp (rCatS K) t1 t2 σ H fun x H1 => _
          refine h1 as L R e1 fun a1 v1 F1 H1 fp1 g1 R1 s1 q1 => ?_
          have R1' := R1.holdN q1
          refine h2 (as ++ v1.map some) L R1' e2 fun a2 v2 F2 H2 fp2 g2 R2 s2 q2 => ?_
          have R2' := R2.holdN q2
          have l1 := q1.len
          have l2 := q2.len
          refine ⟨a1, a2, v1, v2, rfl, rfl, SqL.mono R2.sub (SqL.mono g2.f s1), SqL.mono R2.sub s2, by rw [sizeLine_eq]; omega, fun a12 h12 => ?_⟩
          have g3 : Grow F2 H2 [] (upd F2 a12 (.lst (v1 ++ v2))) (upd H2 a12 (.lst (v1 ++ v2))) [] := Grow.share R2.sub h12
          have R3 := R2'.grow g3
          have hl : i < (σ ++ (as ++ v1.map some ++ v2.map some)).length := by rw [List.length_append]; omega
          obtain ⟨fq, R4, sb4⟩ := R3.setSlot (e := .no) (v := .ref a12) (fr := []) hl rfl R3.nd (fun _ m => nomatch m)
          rw [← set_app (by omega)] at R4
          have L4 : (σ.set i (some (V.ref a12))).length = n := by rw [List.length_set]; exact L
          show tFor (iList K (tOp (rCatS K) (tVar i) t3)) g tb D (σ.set i (some (V.ref a12))) (upd H2 a12 (.lst (v1 ++ v2)))
          refine ⟨V.ref a12, by rw [List.getElem?_set_self (by omega)], ?_⟩
          refine h3 (as ++ v1.map some ++ v2.map some) L4 R4 e3 fun a3 v3 F5 H5 fp5 g5 R5 s5 q5 => ?_
          have R5' := R5.holdN q5
          have l3 := q5.len
          have s12 : SqL K F5 a12 (v1 ++ v2) := SqL.mono g5.f (.inl (.inl upd_same))
          refine ⟨a12, a3, v1 ++ v2, v3, rfl, rfl, SqL.mono R5.sub s12, SqL.mono R5.sub s5, by rw [List.length_append, sizeLine_eq]; omega, fun a4 h4 => ?_⟩
          have g6 : Grow F5 H5 [] (upd F5 a4 (.lst (v1 ++ v2 ++ v3))) (upd H5 a4 (.lst (v1 ++ v2 ++ v3))) [] := Grow.share R5.sub h4
          have R6 := R5'.grow g6
          have s6 : SqL K (upd F5 a4 (.lst (v1 ++ v2 ++ v3))) a4 (v1 ++ v2 ++ v3) := .inl (.inl upd_same)
          have eas : as ++ v1.map some ++ v2.map some ++ v3.map some = as ++ (v1 ++ v2 ++ v3).map some := by simp
          rw [eas] at R6
          generalize hvs : v1 ++ v2 ++ v3 = vv at R6 s6 g6 ⊢
          have lv : vv.length = p1.length + p2.length + p3.length := by rw [← hvs]; simp; omega
          generalize hkk : p1.length + p2.length + p3.length = k at e lv
          refine ⟨a4, rfl, ⟨vv, SqL.mono R6.sub s6⟩, ?_⟩
          -- the loop
          have gAll : Grow F H fp (upd F5 a4 (.lst vv)) (upd H5 a4 (.lst vv)) fp5 := by
            have ga : Grow F H fp F2 H2 fp2 := g1.trans g2
            have gb : Grow F H fp (upd F2 a12 (.lst (v1 ++ v2))) (upd H2 a12 (.lst (v1 ++ v2))) fp2 := ga.trans g3.mine
            have gc : Grow F H fp (upd F2 a12 (.lst (v1 ++ v2))) (upd H2 a12 (.lst (v1 ++ v2))) fq := gb.less fun a m => by simpa using sb4 a m
            exact (gc.trans g5).trans g6.mine
          generalize hd : dLoop (rdGh k) bd db k 0 (E3 ++ p3.map Sl.bor) = o1 at e
          refine ⟨fun i m σ2 H2 => ∃ F2 E2 fp2, σ2.length = n ∧ Grow (upd F5 a4 (.lst vv)) (upd H5 a4 (.lst vv)) fp5 F2 H2 fp2 ∧ Rep K F2 H2 (σ2 ++ (as ++ vv.map some)) E2 fp2 ∧ dLoop (rdGh k) bd db m i E2 = o1,
            ⟨k, _, _, fp5, L4, .refl R6.sub fp5, R6, hd⟩, fun j m σ2 Hm hW => ?_⟩
          obtain ⟨Fm, Em, fpm, Lm, gm, Rm, hm⟩ := hW
          have sm : SqL K Fm a4 vv := SqL.mono gm.f s6
          have smH : SqL K Hm a4 vv := SqL.mono Rm.sub sm
          rw [dLoop.eq_def] at hm
          dsimp only at hm
          cases hr : rdGh k Em j with
          | none => rw [hr] at hm; dsimp only at hm; rw [← hm] at e; cases e
          | some r0 => cases r0 with
            | none =>
              rw [hr] at hm
              dsimp only at hm
              rw [← hm] at e
              cases e
              obtain ⟨fz, R7, sb7⟩ := Rm.stripN k lv
              have hjk : k ≤ j := by
                unfold rdGh at hr
                split at hr
                · split at hr <;> cases hr
                · omega
              refine .inl ⟨⟨vv, smH, by omega⟩, gg σ2 Fm Hm fz Lm ((gAll.trans gm).less sb7) R7⟩
            | some r =>
              rw [hr] at hm
              dsimp only at hm
              have hv : ∃ p w, r = .pl p ∧ vv[j]? = some w ∧ RsAt K Fm Hm (σ2 ++ (as ++ vv.map some)) Em w (.pl p) [] := by
                unfold rdGh at hr
                split at hr
                · next hjk =>
                  split at hr
                  · next p hp =>
                    cases hr
                    obtain ⟨w0, hvj⟩ : ∃ w0, vv[j]? = some w0 := ⟨_, List.getElem?_eq_getElem (by omega)⟩
                    have ga := gh_at Lm Rm hvj
                    rw [lv] at ga
                    obtain ⟨w, b1, b2, b3⟩ := Rm.bor _ p hp
                    rw [ga] at b1
                    cases b1
                    exact ⟨p, w0, rfl, hvj, rfl, b2, b3⟩
                  · cases hr
                · cases hr
              obtain ⟨p, w, rfl, hvj, ar⟩ := hv
              cases m with
              | zero => dsimp only at hm; rw [← hm] at e; cases e
              | succ m =>
                dsimp only at hm
                refine .inr ⟨⟨vv, w, smH, hvj⟩, fun σ' H' => ∃ F2 E2 fp2, σ'.length = n ∧ Grow (upd F5 a4 (.lst vv)) (upd H5 a4 (.lst vv)) fp5 F2 H' fp2 ∧ Rep K F2 H' (σ' ++ (as ++ vv.map some)) E2 fp2 ∧ dLoop (rdGh k) bd db m (j + 1) E2 = o1, fun σ' H' hN => ⟨m, Nat.lt_succ_self m, hN⟩, fun x H' hy => ?_⟩
                obtain ⟨rfl, hyx⟩ := hy
                have hx : x = w := Option.some.inj ((hyx vv smH).symm.trans hvj)
                subst hx
                split at hm
                · rw [← hm] at e; cases e
                · next E7 e7 =>
                  refine hg Lm Rm ar e7 fun σ3 F3 H3 fp3 L3 g3' R3' => ?_
                  have g23 := gm.trans g3'
                  split at hm
                  · next E4 e4 => exact hb _ L3 R3' e4 fun σ' F' H' fp' L' g' R' => ⟨F', E4, fp', L', g23.trans g', R', hm⟩
                  · next E4 e4 => exact hb _ L3 R3' e4 fun σ' F' H' fp' L' g' R' => ⟨F', E4, fp', L', g23.trans g', R', hm⟩
                  · next E4 e4 =>
                    rw [← hm] at e
                    cases e
                    refine hb _ L3 R3' e4 fun σ' F' H' fp' L' g' R' => ?_
                    obtain ⟨fz, R7, sb7⟩ := R'.stripN k lv
                    exact gg σ' F' H' fz L' ((gAll.trans (g23.trans g')).less sb7) R7
                  · next s E4 e4 =>
                    rw [← hm] at e
                    cases e
                    refine hb _ L3 R3' e4 fun v σ' F' H' fr fp' L' g' R' ow nd of => ?_
                    obtain ⟨fz, R7, sb7⟩ := R'.stripN k lv
                    refine gg v σ' F' H' fr fz L' ((gAll.trans (g23.trans g')).less fun a m => (List.mem_append.mp m).elim (fun m => List.mem_append_left _ m) fun m => List.mem_append_right _ (sb7 a m)) R7 ow ?_ of
                    exact List.nodup_append.mpr ⟨(List.nodup_append.mp nd).1, R7.nd, fun a m b m2 => (List.nodup_append.mp nd).2.2 a m b (sb7 b m2)⟩
                  · next x E4 e4 =>
                    rw [← hm] at e
                    cases e
                    refine hb _ L3 R3' e4 fun C σ' F' H' fp' hC L' g' R' => ?_
                    obtain ⟨fz, R7, sb7⟩ := R'.stripN k lv
                    exact gg C σ' F' H' fz hC L' ((gAll.trans (g23.trans g')).less sb7) R7
                  · rw [← hm] at e; cases e
        · cases e
      · cases e
    · cases e
  · cases e
/-! ### o.m(), o of one of several classes -/
def eMethP (gs : Nat → Option (List S → Option (S × List S))) (da : En → Option Rs) (E : En) : Option (S × En) := match da E with
  | some (.pl p) => match eget E p with
    | some (.ins c _) => match gs c with
      | some g => eCall g (dCons da dNil) E
      | none => none
    | _ => none
  | _ => none
theorem e_methP {alts : List (Addr × Sp)} {m : Str} {EX : XK} {gs : Nat → Option (List S → Option (S × List S))} (hal : ∀ c g C, gs c = some g → clsOf K c C → (C, spMv K 1 g) ∈ alts) (hf : ∀ c g, gs c = some g → fixN (clsFld c) m = none) (ha : EvP K n as ta da) : EvE K n as (tMethP alts m EX ta) (eMethP gs da) := by
  intro F H σ E fp L R s E' e Q q
  unfold eMethP at e
  split at e
  · next p ea =>
    split at e
    · next c ss es =>
      split at e
      · next g eg =>
        unfold eCall at e
        split at e
        · next rs ers =>
          unfold dCons dNil at ers
          rw [ea] at ers
          cases ers
          split at e
          · next ok =>
            split at e
            · next ss1 ess =>
              split at e
              · next s' ss' egs =>
                cases e
                refine ha L R ea fun x F1 H1 f1 g1 a1 n1 o1 => ?_
                have R1 := R.grow g1
                obtain ⟨fq, o⟩ := a1.own R1 (show (Rs.pl p).at E = _ from es)
                obtain ⟨a, C', dx, fs, fq', rfl, hH, hC', _, hn, _, ll, _⟩ := o.ins_inv rfl
                obtain ⟨z1, z2, z3⟩ := a1
                subst z1
                refine ⟨C', spMv K 1 g, hal c g C' eg hC', a, dx, fs, rfl, hH, by rw [lookup_fix, hn, fixN_take_none _ (hf c g eg)]; rfl, ?_⟩
                exact call_here R1 (RsAll.cons (f := []) (g := []) (show RsAt K F1 H1 (σ ++ as) E (.ref a) (.pl p) [] from ⟨rfl, z2, z3⟩) .nil) ok ess rfl egs fun v F4 H4 fr4 fp4 g4 R4 ow4 nd4 of4 => q v F4 H4 fr4 fp4 (g1.mine.trans g4) R4 ow4 nd4 of4
              · cases e
            · cases e
          · cases e
        · cases e
      · cases e
    · cases e
  · cases e
end Mv
/-! odds and ends for the terms that are printed -/
namespace Mv
open PySem PySem.Spec PyProof.Rows L2
variable {K : PySem.W.Frag} {F F' F1 F2 F3 H H' H1 H2 H3 : Hp} {v u x y w : V} {vs ws xs : List V} {s t c : S} {ss tts : List S} {fp fq fr fp' fp1 fp2 f1 f2 : List Addr} {ρ as : Ro} {E E' : En} {n : Nat}
variable {W : WXm} {te ta tb tc tk tv td : TE} {d da db dc dk dv : En → Option Rs} {tr : TA} {dr : En → Option (List Rs)} {de df : En → Option (S × En)} {tt : TT} {dte : En → Option (Bool × En)} {Q : VK} {dl : En → Option (Nat × En)} {js : List Nat} {ds : List PyData}
/-- {} -/
def dNewD (_ : En) : Option Rs := some (.val (.dct false []))
theorem p_newD : EvP K n as tDNewK dNewD := by
  intro F H σ E fp L R r e Q q
  cases e
  refine fun p hp => ?_
  have g : Grow F H [] F (upd H p (.dK [])) [p] := Grow.alloc R.sub hp
  exact q (.ref p) F _ [p] g (dct_write (kvs := []) (kss := []) rfl .nil) (by simp) fun a m => by rw [List.mem_singleton.mp m]; exact fresh_none R.sub hp
theorem x_meth {C : Addr} {m : Str} {k : Nat} {g : List S → Option (Rx × List S)} {dd : En → Option (Rx × En)} (h : EvX K n as W (tCallS (spMvX K k g) (WE W) (tCons (tIns C m ta) tr)) dd) : EvX K n as W (tMethX C m (spMvX K k g) (WE W) ta tr) dd := h
/-- the errors of a program, the first one above all of them -/
def catchE (c : Nat) : Bool := 12 ≤ c && c ≤ 15
/-- a, b = x, y: of any -/
def dParL (i j : Nat) (dl : En → Option (Nat × En)) (E : En) : Option Out := match dl E with
  | some (2, E1) => match popS 2 E1 with
    | some ([a, b], E2) => some (.nx (slotSet (slotSet E2 i (.own a)) j (.own b)))
    | _ => none
  | _ => none
theorem s_parL {i j : Nat} (hi : i < n) (hj : j < n) (h : EvL K n as tr dl) : EvS K n as W (tPar i j tr) (dParL i j dl) := by
  intro F H σ E fp L R o e D g
  unfold dParL at e
  split at e
  · next E1 el =>
    split at e
    · next a b E2 ep =>
      cases e
      refine h L R el fun vs F1 H1 fp1 hk g1 R1 => ?_
      match vs, hk with
      | [v, w], _ =>
        obtain ⟨h1, h2, l, R2, pm⟩ := R1.popN 2 (vs := [v, w]) rfl ep
        have nd := pm.nodup_iff.mp R1.nd
        cases l with
        | @cons _ _ _ _ fa fb qa ta => cases ta with
          | @cons _ _ _ _ fc fd qb tb =>
            cases tb
            rw [List.append_nil] at nd pm
            have off : ∀ x ∈ fa ++ fc ++ h1, F1 x = none := fun x m => R1.off x (pm.mem_iff.mpr m)
            have n1 : (fc ++ h1).Nodup := by rw [List.append_assoc] at nd; exact (List.nodup_append.mp nd).2.1
            have na : (fa ++ h1).Nodup := by
              have := List.nodup_append.mp nd
              exact nodup_two (List.nodup_append.mp this.1).1 this.2.1 fun x m y m2 => this.2.2 x (List.mem_append_left _ m) y m2
            obtain ⟨fq, R3, sb⟩ := R2.setSlot (i := i) (e := .own a) (v := v) (fr := fa) (by rw [List.length_append]; omega) qa na fun x m => off x (by simp [m])
            have nb : (fc ++ fq).Nodup := nodup_two (List.nodup_append.mp n1).1 R3.nd fun x m y m2 z => by
              subst z
              rcases List.mem_append.mp (sb x m2) with m3 | m3
              · have := List.nodup_append.mp (List.nodup_append.mp nd).1
                exact this.2.2 x m3 x m rfl
              · exact (List.nodup_append.mp n1).2.2 x m x m3 rfl
            obtain ⟨fz, R4, sc⟩ := R3.setSlot (i := j) (e := .own b) (v := w) (fr := fc) (by rw [List.length_set, List.length_append]; omega) qb nb fun x m => off x (by simp [m])
            refine ⟨v, w, rfl, g _ F1 H1 fz (by rw [List.length_set, List.length_set]; exact L) (g1.less fun x m => ?_) ?_⟩
            · refine pm.mem_iff.mpr ?_
              rcases List.mem_append.mp (sc x m) with m | m
              · simp [m]
              · rcases List.mem_append.mp (sb x m) with m | m <;> simp [m]
            · rw [set_app (by rw [List.length_set]; omega), set_app (by omega)]
              exact R4
    · cases e
  · cases e
/-- a, b, c = x, y, z -/
def dParL3 (i j l : Nat) (dl : En → Option (Nat × En)) (E : En) : Option Out := match dl E with
  | some (3, E1) => match popS 3 E1 with
    | some ([a, b, c], E2) => some (.nx (slotSet (slotSet (slotSet E2 i (.own a)) j (.own b)) l (.own c)))
    | _ => none
  | _ => none
theorem s_parL3 {i j l : Nat} (hi : i < n) (hj : j < n) (hl : l < n) (h : EvL K n as tr dl) : EvS K n as W (tPar3 i j l tr) (dParL3 i j l dl) := by
  intro F H σ E fp L R o e D g
  unfold dParL3 at e
  split at e
  · next E1 el =>
    split at e
    · next a b c E2 ep =>
      cases e
      refine h L R el fun vs F1 H1 fp1 hk g1 R1 => ?_
      match vs, hk with
      | [v, w, u], _ =>
        obtain ⟨h1, h2, lo, R2, pm⟩ := R1.popN 3 (vs := [v, w, u]) rfl ep
        have nd := pm.nodup_iff.mp R1.nd
        cases lo with
        | @cons _ _ _ _ fa fb qa ta => cases ta with
          | @cons _ _ _ _ fc fd qb tb => cases tb with
            | @cons _ _ _ _ fe ff qc tc =>
              cases tc
              simp only [List.append_nil] at nd pm
              have off : ∀ x ∈ fa ++ (fc ++ fe) ++ h1, F1 x = none := fun x m => R1.off x (pm.mem_iff.mpr m)
              have dA := List.nodup_append.mp nd
              have dB := List.nodup_append.mp dA.1
              have dC := List.nodup_append.mp dB.2.1
              have na : (fa ++ h1).Nodup := nodup_two dB.1 dA.2.1 fun x m y m2 => dA.2.2 x (List.mem_append_left _ m) y m2
              obtain ⟨fq, R3, sb⟩ := R2.setSlot (i := i) (e := .own a) (v := v) (fr := fa) (by rw [List.length_append]; omega) qa na fun x m => off x (by simp [m])
              have nb : (fc ++ fq).Nodup := nodup_two dC.1 R3.nd fun x m y m2 z => by
                subst z
                rcases List.mem_append.mp (sb x m2) with m3 | m3
                · exact dB.2.2 x m3 x (List.mem_append_left _ m) rfl
                · exact dA.2.2 x (List.mem_append_right _ (List.mem_append_left _ m)) x m3 rfl
              obtain ⟨fz, R4, sc⟩ := R3.setSlot (i := j) (e := .own b) (v := w) (fr := fc) (by rw [List.length_set, List.length_append]; omega) qb nb fun x m => off x (by simp [m])
              have nc : (fe ++ fz).Nodup := nodup_two dC.2.1 R4.nd fun x m y m2 z => by
                subst z
                rcases List.mem_append.mp (sc x m2) with m3 | m3
                · exact dC.2.2 x m3 x m rfl
                · rcases List.mem_append.mp (sb x m3) with m3 | m3
                  · exact dB.2.2 x m3 x (List.mem_append_right _ m) rfl
                  · exact dA.2.2 x (List.mem_append_right _ (List.mem_append_right _ m)) x m3 rfl
              obtain ⟨fy, R5, sd⟩ := R4.setSlot (i := l) (e := .own c) (v := u) (fr := fe) (by rw [List.length_set, List.length_set, List.length_append]; omega) qc nc fun x m => off x (by simp [m])
              refine ⟨v, w, u, rfl, g _ F1 H1 fy (by rw [List.length_set, List.length_set, List.length_set]; exact L) (g1.less fun x m => ?_) ?_⟩
              · refine pm.mem_iff.mpr ?_
                rcases List.mem_append.mp (sd x m) with m | m
                · simp [m]
                · rcases List.mem_append.mp (sc x m) with m | m
                  · simp [m]
                  · rcases List.mem_append.mp (sb x m) with m | m <;> simp [m]
              · rw [set_app (by rw [List.length_set, List.length_set]; omega), set_app (by rw [List.length_set]; omega), set_app (by omega)]
                exact R5
    · cases e
  · cases e
theorem e_sortSet {w : World} (hl : EvL K n as (tCons te tNil) dl) : EvE K n as (tCB (rSortedSet w) (tCons (tCB (rSetI K w) (tCons te tNil)) tNil)) (eEff dl fun k => dWhen k 1 (ePure (dCS fSortSet (dCons (dGh k 0) dNil)))) :=
  e_un1E (t1 := fun te => tCB (rSortedSet w) (tCons (tCB (rSetI K w) (tCons te tNil)) tNil)) (dop := fun d => dCS fSortSet (dCons d dNil)) (C := fun x H Q => rSetI K w [x] H fun y H2 => rSortedSet w [y] H2 Q) (fun _ _ _ _ => rfl) (fun a => p_sortSet a) hl
theorem e_sortSetT {w : World} (hl : EvL K n as (tCons te tNil) dl) : EvE K n as (tCB (rSortedSet w) (tCons (tCB (rSetT K w) (tCons te tNil)) tNil)) (eEff dl fun k => dWhen k 1 (ePure (dCS fSortSetT (dCons (dGh k 0) dNil)))) :=
  e_un1E (t1 := fun te => tCB (rSortedSet w) (tCons (tCB (rSetT K w) (tCons te tNil)) tNil)) (dop := fun d => dCS fSortSetT (dCons d dNil)) (C := fun x H Q => rSetT K w [x] H fun y H2 => rSortedSet w [y] H2 Q) (fun _ _ _ _ => rfl) (fun a => p_sortSetT a) hl
theorem exm_own {C D : Addr} (h1 : PySem.W.subIn K (.ref D) (.type "BaseException") = some true) (h2 : PySem.W.isClsIn K D = true) (h3 : PySem.W.typeIn K (.ref D) = some (.type "type")) (h4 : PySem.W.subIn K (.ref C) (.ref D) = some true) :
    PySem.W.exmOne K (.ref C) (.ref D) = some true := by
  have e1 : (PySem.W.subIn K (.ref D) (.type "BaseException") == some true) = true := by rw [h1] <;> rfl
  have e2 : ((PySem.W.clsIn K D).isSome && PySem.W.typeIn K (.ref D) == some (.type "type")) = true := by
    have h2' : (PySem.W.clsIn K D).isSome = true := h2
    rw [h2', h3] <;> rfl
  unfold PySem.W.exmOne
  rw [if_pos e1]
  show (if ((PySem.W.clsIn K D).isSome && PySem.W.typeIn K (.ref D) == some (.type "type")) = true then PySem.W.subIn K (.ref C) (.ref D) else none) = some true
  rw [if_pos e2]
  exact h4
theorem room65 {k : Nat} {A : Around} (r : Room k A) : A.units + 65 < cLine := by have := r.un; omega
/-- d[k], k with effects -/
theorem e_dgetE (hl : EvL K n as (tCons ta (tCons tb tNil)) dl) : EvE K n as (tDGet ta tb) (eEff dl fun k => dWhen k 2 (ePure (dDGet (dGh k 0) (dGh k 1)))) := by
  have hc : ∀ vs : List V, EvE K n (as ++ vs.map some) (fun _ H Q => match vs with | [x, y] => ∃ a v, x = .ref a ∧ DGet H a y (some v) ∧ Q v H | _ => False) (dWhen vs.length 2 (ePure (dDGet (dGh vs.length 0) (dGh vs.length 1)))) := by
    intro vs F H σ E fp L R s E' e Q q
    unfold dWhen at e
    split at e
    · next hk =>
      match vs, hk with
      | [x, y], _ => exact e_pure (p_dget (ta := tV x) (tb := tV y) (p_gh (vs := [x, y]) rfl) (p_gh (vs := [x, y]) rfl)) L R e q
    · cases e
  intro F H σ E fp L R s E' e Q q
  exact e_eff (tr := tCons ta (tCons tb tNil)) (C := fun vs H Q => match vs with | [x, y] => ∃ a v, x = .ref a ∧ DGet H a y (some v) ∧ Q v H | _ => False) (dcc := fun k => dWhen k 2 (ePure (dDGet (dGh k 0) (dGh k 1)))) hl hc L R e q
theorem alt3 {X : Cx} {m : Str} {k : Nat} {C1 C2 C3 : Addr} {s1 s2 s3 : Sp} (h1 : AltOk X m k C1 s1) (h2 : AltOk X m k C2 s2) (h3 : AltOk X m k C3 s3) : ∀ p ∈ [(C1, s1), (C2, s2), (C3, s3)], AltOk X m k p.1 p.2 := by
  intro p hp
  rcases List.mem_cons.mp hp with rfl | hp
  · exact h1
  · rcases List.mem_cons.mp hp with rfl | hp
    · exact h2
    · rw [List.mem_singleton.mp hp]; exact h3
theorem fx_Board_now : fixN (clsFld 0) "now" = some 0 := by decide +kernel
theorem fx_Board_lacking : fixN (clsFld 0) "lacking" = some 1 := by decide +kernel
theorem fx_Board_planned : fixN (clsFld 0) "planned" = some 2 := by decide +kernel
theorem fx_Board_known : fixN (clsFld 0) "known" = some 3 := by decide +kernel
theorem fm_Board_come : fixN (clsFld 0) "come" = none := by decide +kernel
theorem fm_Board_farewell : fixN (clsFld 0) "farewell" = none := by decide +kernel
theorem fm_Board_turn : fixN (clsFld 0) "turn" = none := by decide +kernel
theorem fm_Board_hear : fixN (clsFld 0) "hear" = none := by decide +kernel
theorem fm_Board_edition : fixN (clsFld 0) "edition" = none := by decide +kernel
theorem fm_Board_houses : fixN (clsFld 0) "houses" = none := by decide +kernel
theorem fm_Board_letters : fixN (clsFld 0) "letters" = none := by decide +kernel
theorem fm_Board_settled : fixN (clsFld 0) "settled" = none := by decide +kernel
theorem fm_Board_waiting : fixN (clsFld 0) "waiting" = none := by decide +kernel
theorem fm_Board_last_planned : fixN (clsFld 0) "last_planned" = none := by decide +kernel
theorem fm_Board_begin_next : fixN (clsFld 0) "begin_next" = none := by decide +kernel
theorem fx_House_name : fixN (clsFld 1) "name" = some 0 := by decide +kernel
theorem fx_House_now : fixN (clsFld 1) "now" = some 1 := by decide +kernel
theorem fx_House_owned : fixN (clsFld 1) "owned" = some 2 := by decide +kernel
theorem fx_House_held : fixN (clsFld 1) "held" = some 3 := by decide +kernel
theorem fx_House_giving : fixN (clsFld 1) "giving" = some 4 := by decide +kernel
theorem fx_House_takings : fixN (clsFld 1) "takings" = some 5 := by decide +kernel
theorem fx_House_newest : fixN (clsFld 1) "newest" = some 6 := by decide +kernel
theorem fx_House_last_answers : fixN (clsFld 1) "last_answers" = some 7 := by decide +kernel
theorem fx_House_done : fixN (clsFld 1) "done" = some 8 := by decide +kernel
theorem fm_House_hear : fixN (clsFld 1) "hear" = none := by decide +kernel
theorem fm_House_letters : fixN (clsFld 1) "letters" = none := by decide +kernel
theorem fm_House_edition : fixN (clsFld 1) "edition" = none := by decide +kernel
theorem fm_House_serves : fixN (clsFld 1) "serves" = none := by decide +kernel
theorem fm_House_slots : fixN (clsFld 1) "slots" = none := by decide +kernel
theorem fm_House_deeds : fixN (clsFld 1) "deeds" = none := by decide +kernel
theorem fm_House_is_gone : fixN (clsFld 1) "is_gone" = none := by decide +kernel
theorem fm_House_has_edition : fixN (clsFld 1) "has_edition" = none := by decide +kernel
theorem fm_House_is_to_come : fixN (clsFld 1) "is_to_come" = none := by decide +kernel
theorem fm_House_hear_edition : fixN (clsFld 1) "hear_edition" = none := by decide +kernel
theorem fm_House_hear_give : fixN (clsFld 1) "hear_give" = none := by decide +kernel
theorem fm_House_hear_taken : fixN (clsFld 1) "hear_taken" = none := by decide +kernel
theorem fm_House_hear_ask : fixN (clsFld 1) "hear_ask" = none := by decide +kernel
theorem fm_House_do_ask : fixN (clsFld 1) "do_ask" = none := by decide +kernel
theorem fm_House_replies : fixN (clsFld 1) "replies" = none := by decide +kernel
theorem fx_Asker_name : fixN (clsFld 2) "name" = some 0 := by decide +kernel
theorem fx_Asker_now : fixN (clsFld 2) "now" = some 1 := by decide +kernel
theorem fx_Asker_number : fixN (clsFld 2) "number" = some 2 := by decide +kernel
theorem fx_Asker_under_way : fixN (clsFld 2) "under_way" = some 3 := by decide +kernel
theorem fx_Asker_last : fixN (clsFld 2) "last" = some 4 := by decide +kernel
theorem fm_Asker_ask : fixN (clsFld 2) "ask" = none := by decide +kernel
theorem fm_Asker_hear : fixN (clsFld 2) "hear" = none := by decide +kernel
theorem fm_Asker_letters : fixN (clsFld 2) "letters" = none := by decide +kernel
theorem fm_Asker_is_busy : fixN (clsFld 2) "is_busy" = none := by decide +kernel
theorem fm_Asker_answer : fixN (clsFld 2) "answer" = none := by decide +kernel
theorem fm_Asker_book : fixN (clsFld 2) "book" = none := by decide +kernel
theorem fx_World_board : fixN (clsFld 3) "board" = some 0 := by decide +kernel
theorem fx_World_first_book : fixN (clsFld 3) "first_book" = some 1 := by decide +kernel
theorem fx_World_house_named : fixN (clsFld 3) "house_named" = some 2 := by decide +kernel
theorem fx_World_asker_named : fixN (clsFld 3) "asker_named" = some 3 := by decide +kernel
theorem fx_World_road : fixN (clsFld 3) "road" = some 4 := by decide +kernel
theorem fx_World_all_deeds : fixN (clsFld 3) "all_deeds" = some 5 := by decide +kernel
theorem fx_World_all_answers : fixN (clsFld 3) "all_answers" = some 6 := by decide +kernel
theorem fm_World_come : fixN (clsFld 3) "come" = none := by decide +kernel
theorem fm_World_farewell : fixN (clsFld 3) "farewell" = none := by decide +kernel
theorem fm_World_turn : fixN (clsFld 3) "turn" = none := by decide +kernel
theorem fm_World_ask : fixN (clsFld 3) "ask" = none := by decide +kernel
theorem fm_World_send : fixN (clsFld 3) "send" = none := by decide +kernel
theorem fm_World_carry : fixN (clsFld 3) "carry" = none := by decide +kernel
theorem fm_World_twice : fixN (clsFld 3) "twice" = none := by decide +kernel
theorem fm_World_lose : fixN (clsFld 3) "lose" = none := by decide +kernel
theorem fm_World_settle : fixN (clsFld 3) "settle" = none := by decide +kernel
theorem fm_World_deeds : fixN (clsFld 3) "deeds" = none := by decide +kernel
theorem fm_World_answered : fixN (clsFld 3) "answered" = none := by decide +kernel
theorem fm_World_edition : fixN (clsFld 3) "edition" = none := by decide +kernel
theorem fm_World_serving : fixN (clsFld 3) "serving" = none := by decide +kernel
theorem fm_World_gone : fixN (clsFld 3) "gone" = none := by decide +kernel
theorem fm_World_worths : fixN (clsFld 3) "worths" = none := by decide +kernel
theorem fm_World_is_still : fixN (clsFld 3) "is_still" = none := by decide +kernel
theorem fm_World_check_place : fixN (clsFld 3) "check_place" = none := by decide +kernel
theorem fm_World_deliver : fixN (clsFld 3) "deliver" = none := by decide +kernel
theorem fx_Tally_grown : fixN (clsFld 4) "grown" = some 0 := by decide +kernel
theorem fx_Tally_numbers : fixN (clsFld 4) "numbers" = some 1 := by decide +kernel
theorem fx_Tally_make : fixN (clsFld 4) "make" = some 2 := by decide +kernel
theorem fm_Tally_lets : fixN (clsFld 4) "lets" = none := by decide +kernel
theorem fm_Tally_note : fixN (clsFld 4) "note" = none := by decide +kernel
end Mv
/-! xs.extend(a place, all data there); x_j = {k: x_i, ..}, x_i a name for it from then on -/
namespace Mv
open PySem PySem.Spec PyProof.Rows L2
variable {K : PySem.W.Frag} {F F' F1 F2 F3 H H' H1 H2 H3 : Hp} {v u x y w : V} {vs ws xs : List V} {s t c : S} {ss tts : List S} {fp fq fr fp' fp1 fp2 f1 f2 : List Addr} {ρ as : Ro} {E E' : En} {n : Nat}
variable {W : WXm} {te ta tb tc tk tv td : TE} {d da db dc dk dv : En → Option Rs} {tr : TA} {dr : En → Option (List Rs)} {de df : En → Option (S × En)} {tt : TT} {dte : En → Option (Bool × En)} {Q : VK} {dl : En → Option (Nat × En)} {js : List Nat} {ds : List PyData}
theorem set_self {α : Type} : ∀ {l : List α} {i : Nat} {a : α}, l[i]? = some a → l.set i a = l
  | [], _, _, h => by simp at h
  | b :: r, 0, a, h => by simp at h; rw [h]; rfl
  | b :: r, i + 1, a, h => by simp at h; rw [List.set_cons_succ, set_self (by simpa using h)]
def isDat : S → Bool | .dat _ => true | _ => false
theorem OwnL.dats : ∀ {vs : List V} {ss : List S} {fp : List Addr}, OwnL K F H vs ss fp → ss.all isDat = true → fp = []
  | _, _, _, .nil, _ => rfl
  | _, _, _, .cons (s := .dat d) o l, h => by
    have h2 := OwnL.dats l (by simp only [List.all_cons, Bool.and_eq_true] at h; exact h.2)
    rw [h2, (o.dat_inv rfl).2]; rfl
  | _, _, _, .cons (s := .con _) o l, h => by simp [isDat] at h
  | _, _, _, .cons (s := .lst _) o l, h => by simp [isDat] at h
  | _, _, _, .cons (s := .dct _ _) o l, h => by simp [isDat] at h
  | _, _, _, .cons (s := .ins _ _) o l, h => by simp [isDat] at h
def eExt (da db : En → Option Rs) (E : En) : Option (S × En) := match da E with
  | some (.pl p) => match eget E p with
    | some (.lst ss) => match db E with
      | some r => match r.at E with
        | some (.lst tts) => if tts.all isDat = true ∧ ss.length + tts.length < 100000 then some (.dat .none, ekill (eput E p (.lst (ss ++ tts))) p) else none
        | _ => none
      | none => none
    | _ => none
  | _ => none
theorem e_ext (ha : EvP K n as ta da) (hb : EvP K n as tb db) : EvE K n as (tBM K "list" rExtend ta (tCons tb tNil)) (eExt da db) := by
  intro F H σ E fp L R s0 E0 e Q q
  unfold eExt at e
  split at e
  · next p ea =>
    split at e
    · next ss es =>
      split at e
      · next r eb =>
        split at e
        · next tts et =>
          split at e
          · next hh =>
            cases e
            refine ha L R ea fun u F1 H1 f1 g1 a1 n1 o1 => ?_
            have R1 := R.grow g1
            obtain ⟨fq, ow⟩ := a1.own R1 (show (Rs.pl p).at E = some (.lst ss) from es)
            obtain ⟨a, xs, _, rfl, hH, _⟩ := ow.lst_inv rfl
            refine ⟨tyV_list hH, hb L R1 eb fun y F2 H2 f2 g2 a2 n2 o2 => ?_⟩
            have R2 := R1.grow g2
            obtain ⟨fy, oy⟩ := a2.own R2 et
            obtain ⟨b, zs, fz, rfl, hB, lz, _⟩ := oy.lst_inv rfl
            have hz := lz.dats hh.1
            subst hz
            obtain ⟨w, p1, p2, h1, h2, pm, close⟩ := R2.focus2 es
            have a1' := a1.grow R1 g2
            rw [a1'.2.1] at h1
            cases h1
            obtain ⟨a', vs, fv, ea', hA, l, rfl⟩ := h2.lst_inv rfl
            cases ea'
            have fa : F2 a = none := R2.off a (pm.mem_iff.mpr (by simp))
            have nda : (a :: fv).Nodup := (List.nodup_append.mp (pm.nodup_iff.mp R2.nd)).1
            have nq : a ∉ fv := (List.nodup_cons.mp nda).1
            refine ⟨a, b, vs, zs, rfl, rfl, hA, hB, by rw [l.length, lz.length, sizeLine_eq]; omega, ?_⟩
            have l2 := (l.off R2.sub (o := .lst (vs ++ zs)) fa nq).append (lz.off R2.sub (o := .lst (vs ++ zs)) fa (fun m => nomatch m))
            rw [List.append_nil] at l2
            have g0 : Grow F2 H2 [a] F2 (upd H2 a (.lst (vs ++ zs))) [a] := Grow.write R2.sub fa
            have gw : Grow F2 H2 ([] ++ (a :: fv)) F2 (upd H2 a (.lst (vs ++ zs))) ([] ++ (a :: fv)) := g0.wide (fun b m => by rw [List.mem_singleton.mp m]; simp) fun d m => .inl m
            obtain ⟨R', nd', g'⟩ := close F2 _ (.lst (ss ++ tts)) (a :: fv) [] [] gw (fun _ m => nomatch m) (lst_write l2) (by simpa using nda) fun d m => R2.off d (pm.mem_iff.mpr (List.mem_append_left _ m))
            refine q .non F2 _ [] _ ?_ R' (.dat .non) (by simpa using nd') fun _ m => nomatch m
            refine (((g1.ours fp).less fun a m => List.mem_append_right _ m).trans ?_)
            exact ((g2.ours fp).less fun a m => List.mem_append_right _ m).trans g'
          · cases e
        · cases e
      · cases e
    · cases e
  · cases e
/-! x_j = {k: x_i, ..} -/
def lPairMv (de : En → Option (S × En)) (i : Nat) (dl : En → Option (Nat × En)) (E : En) : Option (Nat × En) := match de E with
  | some (sk, E1) => match E1[i]? with
    | some (.own s) => up1 (up1 (dl (slotSet (slotSet (E1 ++ [.own sk]) i .no ++ [.own s]) i (.bor [E1.length + 1]))))
    | _ => none
  | none => none
theorem d_consMv {trs : List (TE × TE)} {i : Nat} (hi : i < n) (hk : EvE K n as tk de) (hr : ∀ as, EvD K n as trs dl) : EvD K n as ((tk, tVar i) :: trs) (lPairMv de i dl) := by
  intro F H σ E fp L R k E' e Q q
  unfold lPairMv at e
  split at e
  · next sk E1 ek =>
    split at e
    · next s he =>
      obtain ⟨⟨k1, E3⟩, e2, e3⟩ := Option.map_eq_some_iff.mp e
      obtain ⟨⟨k2, E4⟩, e4, e5⟩ := Option.map_eq_some_iff.mp e2
      cases e3
      cases e5
      refine hk L R ek fun v F1 H1 fr fp1 g1 R1 ov nd of => ?_
      have R2 := R1.push ov nd of
      have len1 : E1.length = (σ ++ as).length := R1.core.len
      have he2 : (E1 ++ [Sl.own sk])[i]? = some (.own s) := by rw [List.getElem?_append_left (by have := (List.getElem?_eq_some_iff.mp he).1; exact this)]; exact he
      obtain ⟨w, hw⟩ := R2.core.set i _ he2
      have hw' : σ[i]? = some (some w) := by rwa [List.getElem?_append_left (by omega)] at hw
      obtain ⟨fr2, fq, ow, R3, pm⟩ := R2.takeSlot he2 hw
      have R4 := R3.push ow (pm.nodup_iff.mp R2.nd) fun a m => R2.off a (pm.mem_iff.mpr (List.mem_append_left _ m))
      have hli : i < (σ ++ (as ++ [some v] ++ [some w])).length := by rw [List.length_append]; omega
      have hat : (σ ++ (as ++ [some v] ++ [some w]))[E1.length + 1]? = some (some w) := by
        have z : σ ++ (as ++ [some v] ++ [some w]) = ((σ ++ as) ++ [some v]) ++ [some w] := by simp
        rw [len1, z, List.getElem?_append_right (by rw [List.length_append]; simp)]
        have z2 : (σ ++ as).length + 1 - ((σ ++ as) ++ [some v]).length = 0 := by rw [List.length_append (bs := [some v])]; simp
        rw [z2]; rfl
      have hE5 : (slotSet (E1 ++ [Sl.own sk]) i .no ++ [Sl.own s])[E1.length + 1]? = some (.own s) := by
        have hl5 : (slotSet (E1 ++ [Sl.own sk]) i .no).length = E1.length + 1 := by unfold slotSet; simp
        rw [List.getElem?_append_right (by omega), hl5]; simp
      obtain ⟨fz, R5, sb⟩ := R4.setSlot (i := i) (e := .bor [E1.length + 1]) (v := w) (fr := []) hli ⟨rfl, by
        have := (List.getElem?_eq_some_iff.mp he).1
        simp only [List.head?_cons, ne_eq, Option.some.injEq]; omega, by simp only [followE, hat]; exact follow_nil _ _, by simp only [eget, hE5]; rw [S.get_nil]; rfl⟩ R4.nd fun _ m => nomatch m
      have hσ : (σ ++ (as ++ [some v] ++ [some w])).set i (some w) = σ ++ (as ++ [some v] ++ [some w]) := by
        refine set_self ?_
        rw [List.getElem?_append_left (by omega)]; exact hw'
      rw [hσ] at R5
      refine ⟨w, hw', hr (as ++ [some v] ++ [some w]) L R5 e4 fun ps F3 H3 fp3 hk3 g3 R6 => ?_⟩
      refine q ((v, w) :: ps) F3 H3 fp3 (by simp [flatP, hk3]) (g1.trans (Grow.trans ?_ g3)) (by simpa [flatP] using R6)
      refine (Grow.refl R1.sub (fr ++ fp1)).less fun a m => ?_
      have := sb a m
      rw [List.nil_append] at this
      exact pm.mem_iff.mpr this
    · cases e
  · cases e
def dDispMv (j i : Nat) (dl : En → Option (Nat × En)) (E : En) : Option Out := match dl (E ++ [.own (.dct false [])]) with
  | some (k, E1) => match E1[i]? with
    | some (.bor [m]) => if m = E.length + 2 ∧ i ≠ j then match popS (k + 1) E1 with
      | some (.dct false [] :: ss, E2) => match kvS ss with
        | some kss => if nodupK (kss.map (·.1)) = true ∧ kss.length ≤ 15 ∧ kss ≠ [] then some (.nx (slotSet (slotSet E2 j (.own (.dct false kss))) i (.bor [j, 0]))) else none
        | none => none
      | _ => none
      else none
    | _ => none
  | none => none
theorem s_dispMv {trs : List (TE × TE)} {i j : Nat} (hi : i < n) (hj : j < n) (hl : ∀ as, EvD K n as trs dl) : EvS K n as W (tAsg (tDisp trs) (gName j)) (dDispMv j i dl) := by
  intro F H σ E fp L R o e D gg
  unfold dDispMv at e
  split at e
  · next k E1 el =>
    split at e
    · next m hm =>
      split at e
      · next hmi =>
        obtain ⟨rfl, hij⟩ := hmi
        split at e
        · next ss E2 ep =>
          split at e
          · next kss ek =>
            split at e
            · next hh =>
              cases e
              refine fun p hp => ?_
              have g0 : Grow F H [] F (upd H p (.dK [])) [p] := Grow.alloc R.sub hp
              have ow0 : Own K F (upd H p (.dK [])) (.ref p) (.dct false []) [p] := dct_write (kvs := []) (kss := []) rfl .nil
              have R0 := (R.grow g0).push ow0 (R.apart_new g0 (by simp)) (fun a m => by rw [List.mem_singleton.mp m]; exact fresh_none R.sub hp)
              refine hl (as ++ [some (.ref p)]) L R0 el fun ps F2 H2 fp2 hk g2 R2 => ?_
              have R2' : Rep K F2 H2 (σ ++ (as ++ (V.ref p :: flatP ps).map some)) E1 fp2 := by simpa using R2
              obtain ⟨h1, h2, l, R3, pm⟩ := R2'.popN (k + 1) (by rw [List.length_cons, hk]) ep
              cases l with
              | @cons _ _ _ _ g1 g3 o1 o2 =>
                obtain ⟨a, kvs0, u, fq, ea, hH, hkk, rd, hks, ll, z⟩ := o1.dct_inv rfl
                cases ea
                have hk0 : kvs0 = [] := by cases kvs0 with | nil => rfl | cons a b => simp at hks
                subst hk0
                obtain ⟨hHp, rfl⟩ := z rfl
                cases ll
                obtain ⟨kvs, e1, e2, l2⟩ := kv_own o2 ek
                have hlen : kvs.length = kss.length := by have := congrArg List.length e2; simpa using this
                refine ⟨hHp, kvs, e1, by omega, ?_⟩
                have ndk : (kvs.map (·.1)).Nodup := by rw [e2]; exact nodupK_ok hh.1
                rw [mergeK_fresh kvs [] (by simpa using ndk), List.nil_append]
                have nd := pm.nodup_iff.mp R2'.nd
                have offp : ∀ a ∈ [p] ++ g3 ++ h1, F2 a = none := fun a m => R2'.off a (pm.mem_iff.mpr m)
                have fp0 : F2 p = none := offp p (by simp)
                have npg : p ∉ g3 := fun m => by
                  have := (List.nodup_append.mp (List.nodup_append.mp nd).1).2.2 p (by simp) p m
                  exact this rfl
                have nph : p ∉ h1 := fun m => (List.nodup_append.mp nd).2.2 p (by simp) p m rfl
                have gw : Grow F2 H2 [p] F2 (upd H2 p (.dK kvs)) [p] := Grow.write R3.sub fp0
                have R4 := R3.grow2 gw fun a m m2 => nph (by rw [← List.mem_singleton.mp m2]; exact m)
                have l3 := l2.off R3.sub (o := .dK kvs) fp0 npg
                have ga : Grow F H fp F2 H2 ([p] ++ g3 ++ h1) := ((g0.ours fp).trans g2).less fun a m => pm.mem_iff.mpr m
                have gb : Grow F2 H2 ([p] ++ g3 ++ h1) F2 (upd H2 p (.dK kvs)) (p :: g3 ++ h1) := gw.wide (fun a m => by simp [List.mem_singleton.mp m]) fun a m => .inl (by simpa using m)
                -- what x_i is
                obtain ⟨w, w1, w2, _⟩ := R2.bor i _ hm
                have w1' : σ[i]? = some (some w) := by rwa [List.getElem?_append_left (by omega)] at w1
                obtain ⟨kv0, kvr, rfl⟩ : ∃ a b, kvs = a :: b := by
                  cases kvs with
                  | nil => exact absurd (by simpa using e2.symm) hh.2.2
                  | cons a b => exact ⟨a, b, rfl⟩
                have hw : kv0.2 = w := by
                  simp only [followE] at w2
                  have hE : E.length = (σ ++ as).length := R.core.len
                  have hv : (σ ++ (as ++ [some (V.ref p)] ++ (flatP ps).map some))[E.length + 2]? = some (some kv0.2) := by
                    rw [e1, hE, show σ ++ (as ++ [some (V.ref p)] ++ (flatP ((kv0 :: kvr).map (fun kv => (kV kv.1, kv.2)))).map some) = (σ ++ as) ++ ([some (V.ref p)] ++ (flatP ((kv0 :: kvr).map (fun kv => (kV kv.1, kv.2)))).map some) by simp, List.getElem?_append_right (by omega)]
                    simp [flatP]
                  rw [hv] at w2
                  dsimp only at w2
                  rw [follow_nil] at w2
                  exact Option.some.inj w2
                have hlj : j < (σ ++ as).length := by rw [List.length_append]; omega
                have ndX : (p :: g3 ++ h1).Nodup := by simpa using nd
                obtain ⟨fy, R5, sb⟩ := R4.setSlot (i := j) (e := .own (.dct false kss)) (v := .ref p) hlj (dct_write e2 l3) ndX fun a m => offp a (by
                  rcases List.mem_cons.mp m with rfl | m
                  · simp
                  · simp [m])
                have hE2 : (slotSet E2 j (.own (.dct false kss)))[j]? = some (.own (.dct false kss)) := by
                  unfold slotSet
                  rw [List.getElem?_set_self (by rw [List.length_map, R3.core.len]; exact hlj)]
                obtain ⟨k0, kr, rfl⟩ : ∃ a b, kss = a :: b := by
                  cases kss with
                  | nil => exact absurd rfl hh.2.2
                  | cons a b => exact ⟨a, b, rfl⟩
                obtain ⟨fz, R6, sb6⟩ := R5.setSlot (i := i) (e := .bor [j, 0]) (v := w) (fr := []) (by rw [List.length_set, List.length_append]; omega) ⟨rfl, by simpa using fun h => hij h.symm, by
                  simp only [followE, List.getElem?_set_self hlj]
                  rw [follow_node (H := upd H2 p (.dK (kv0 :: kvr))) upd_same (show (kidsV (.dK (kv0 :: kvr)))[0]? = some kv0.2 from rfl), follow_nil, hw], by
                  simp only [eget, hE2]
                  rw [S.get_cons]
                  show (S.get k0.2 []).isSome = true
                  rw [S.get_nil]; rfl⟩ R5.nd fun _ m => nomatch m
                have hσ : ((σ ++ as).set j (some (V.ref p))).set i (some w) = σ.set j (some (V.ref p)) ++ as := by
                  rw [← set_app (by omega)]
                  refine set_self ?_
                  rw [List.getElem?_append_left (by rw [List.length_set]; omega), List.getElem?_set_ne (fun h => hij h.symm)]; exact w1'
                rw [hσ] at R6
                exact gg (σ.set j (some (V.ref p))) F2 _ fz (by rw [List.length_set]; exact L) ((ga.trans gb).less fun a m => sb a (by simpa using sb6 a m)) R6
            · cases e
          · cases e
        · cases e
      · cases e
    · cases e
  · cases e
end Mv
/-! a list of one's own, all data there, that nobody changes any more: data itself -/
namespace Mv
open PySem PySem.Spec PyProof.Rows L2
variable {K : PySem.W.Frag} {F F' F1 F2 F3 H H' H1 H2 H3 : Hp} {v u x y w : V} {vs ws xs : List V} {s t c : S} {ss tts : List S} {fp fq fr fp' fp1 fp2 f1 f2 : List Addr} {ρ as : Ro} {E E' : En} {n : Nat}
variable {W : WXm} {te ta tb tc tk tv td : TE} {d da db dc dk dv : En → Option Rs} {tr : TA} {dr : En → Option (List Rs)} {de df : En → Option (S × En)} {tt : TT} {dte : En → Option (Bool × En)} {Q : VK} {dl : En → Option (Nat × En)} {js : List Nat} {ds : List PyData}
theorem Grow.freeze {a : Addr} {o : HO} (sub : ∀ a o, F a = some o → H a = some o) (hF : F a = none) (hH : H a = some o) : Grow F H [a] (upd F a o) H [] := by
  refine ⟨fun b u e => ?_, fun b u e => ?_, fun b u e _ => e, fun _ m => (nomatch m), fun b h n e => ?_⟩
  · by_cases hb : b = a
    · rw [hb, hF] at e; cases e
    · show (if b = a then some o else F b) = some u
      rw [if_neg hb]; exact e
  · by_cases hb : b = a
    · subst hb
      rw [upd_same] at e
      rw [hH]; exact e
    · have e' : (if b = a then some o else F b) = some u := e
      rw [if_neg hb] at e'; exact sub b u e'
  · have hb : b ≠ a := fun hb => n (by rw [hb]; exact List.mem_cons_self)
    show (if b = a then some o else F b) = none
    rw [if_neg hb]; exact e
theorem freezeL {ds : List PyData} (sub : ∀ a o, F a = some o → H a = some o) (o : Own K F H v (.lst ss) fr) (h : datsS ss = some ds) (of : ∀ a ∈ fr, F a = none) : ∃ a F1, fr = [a] ∧ Grow F H [a] F1 H [] ∧ Own K F1 H v (.dat (.list ds)) [] := by
  obtain ⟨a, vs, fq, rfl, hH, l, rfl⟩ := o.lst_inv rfl
  obtain ⟨da, rfl⟩ := datsS_dp l h
  have fa : F a = none := of a List.mem_cons_self
  have g := Grow.freeze sub fa hH
  exact ⟨a, _, rfl, g, .dat (.lst (.inl (.inl upd_same)) (DqAll.mono g.f da))⟩
def dFrz (d : En → Option Rs) (E : En) : Option Rs := match d E with
  | some (.val (.lst ss)) => (datsS ss).map fun ds => .val (.dat (.list ds))
  | r => r
theorem p_frz (h : EvP K n as te d) : EvP K n as te (dFrz d) := by
  intro F H σ E fp L R r e Q q
  unfold dFrz at e
  split at e
  · next ss hd =>
    obtain ⟨ds, hs, e2⟩ := Option.map_eq_some_iff.mp e
    cases e2
    refine h L R hd fun v F1 H1 f1 g1 a1 n1 o1 => ?_
    obtain ⟨a, F2, rfl, g2, o2⟩ := freezeL g1.sub (show Own K F1 H1 v (.lst ss) f1 from a1) hs o1
    exact q v F2 H1 [] (g1.trans g2) o2 List.nodup_nil fun _ m => nomatch m
  · exact h L R e q
def eFrz (d : En → Option (S × En)) (E : En) : Option (S × En) := match d E with
  | some (.lst ss, E1) => (datsS ss).map fun ds => (.dat (.list ds), E1)
  | r => r
theorem e_frz (h : EvE K n as te de) : EvE K n as te (eFrz de) := by
  intro F H σ E fp L R s E' e Q q
  unfold eFrz at e
  split at e
  · next ss E1 hd =>
    obtain ⟨ds, hs, e2⟩ := Option.map_eq_some_iff.mp e
    cases e2
    refine h L R hd fun v F1 H1 fr fp1 g1 R1 o1 nd of => ?_
    obtain ⟨a, F2, rfl, g2, o2⟩ := freezeL R1.sub o1 hs of
    have na : a ∉ fp1 := (List.nodup_cons.mp nd).1
    refine q v F2 H1 [] fp1 ?_ (R1.grow2 g2 fun b m m2 => na (by rw [← List.mem_singleton.mp m2]; exact m)) o2 R1.nd fun _ m => nomatch m
    refine g1.trans (g2.wide (fun b m => by rw [List.mem_singleton.mp m]; exact List.mem_append_left _ List.mem_cons_self) fun b m => ?_)
    exact .inl (List.mem_append_right _ (by simpa using m))
  · exact h L R e q
end Mv
/-! a list backwards; for with places -/
namespace Mv
open PySem PySem.Spec PyProof.Rows L2
variable {K : PySem.W.Frag} {F F' F1 F2 H H' H1 H2 : Hp} {v u x y : V} {vs ws xs : List V} {s t : S} {ss tts : List S} {fp fq fr fp' fp1 fp2 f1 f2 : List Addr} {ρ as : Ro} {E E' : En} {n : Nat} {ds : List PyData}
variable {W : WXm} {te ta tb tc : TE} {d da db dc : En → Option Rs} {tr : TA} {dr : En → Option (List Rs)} {de df : En → Option (S × En)}

theorem DqAll.rev : ∀ {vs : List V} {ds : List PyData}, DqAll K F vs ds → DqAll K F vs.reverse ds.reverse
  | _, _, .nil => .nil
  | _, _, .cons a t => by
    rw [List.reverse_cons, List.reverse_cons]
    exact Mv.DqAll.append (Mv.DqAll.rev t) (.cons a .nil)
def dRev (d : En → Option Rs) (E : En) : Option Rs := match d E with
  | some r => match r.at E with
    | some s => (s.seqL).map fun ds => .val (.lst (ds.reverse.map S.dat))
    | none => none
  | none => none
theorem p_revL (h : EvP K n as te d) : EvP K n as (tRevL K te) (dRev d) := by
  intro F H σ E fp L R r' e Q q
  unfold dRev at e
  split at e
  · next r0 er =>
    split at e
    · next s es =>
      obtain ⟨ds, hd, rfl⟩ := Option.map_eq_some_iff.mp e
      refine h L R er fun x F1 H1 f1 g1 r1 n1 o1 => ?_
      have R1 := R.grow g1
      obtain ⟨k1, w1⟩ := r1.own R1 es
      obtain ⟨p, xs, rfl, hq, da⟩ := w1.sqL R1.sub hd
      exact ⟨p, xs, rfl, hq, mk_lst R1.sub (dats_own (Mv.DqAll.rev da)) fun v F' H' fr g o nd of => q v F' H' fr (by simpa using g1.drop.seq0 g) o nd of⟩
    · cases e
  · cases e

/-- what iLst walks, for what is asked behind it -/
theorem lst_src (h : EvP K n as te d) {F H : Hp} {σ : L2.St} {E : En} {fp : List Addr} (L : σ.length = n) (R : Rep K F H (σ ++ as) E fp) {c : Src} (e : iLst d E = some c) {Q : V → Hp → Prop}
    (q : ∀ (a : Addr) F1 H1 (ex : List V) fp1, Grow F H fp F1 H1 fp1 → Rep K F1 H1 (σ ++ (as ++ ex.map some)) (c.env ++ c.exE) fp1 → ex.length = c.exE.length → (∃ xs, SqL K H1 a xs) →
      (∀ F2 H2 (σ2 : L2.St) E2 fp2, σ2.length = n → Grow F1 H1 fp1 F2 H2 fp2 → Rep K F2 H2 (σ2 ++ (as ++ ex.map some)) E2 fp2 → ∀ i,
        (∀ r, c.rd E2 i = some (some r) → ∃ xs w, SqL K H2 a xs ∧ xs[i]? = some w ∧ RsAt K F2 H2 (σ2 ++ (as ++ ex.map some)) E2 w r []) ∧ (c.rd E2 i = some none → ∃ xs, SqL K H2 a xs ∧ xs.length ≤ i)) → Q (.ref a) H1) : te σ H Q := by
  unfold iLst at e
  split at e
  · next ds ed =>
    cases e
    refine h L R ed fun v F1 H1 f1 g1 a1 n1 o1 => ?_
    obtain ⟨a, xs, rfl, hq, da⟩ := Mv.Dq.list_inv (Own.dat_inv (show Own K F1 H1 v _ f1 from a1) rfl).1
    refine q a F1 H1 [] fp g1.mine (by simpa using R.grow g1) rfl ⟨xs, SqL.mono g1.sub hq⟩ fun F2 H2 σ2 E2 fp2 L2 g2 R2 i => ?_
    have hq2 : SqL K H2 a xs := SqL.mono g2.sub (SqL.mono g2.f hq)
    have da2 := Mv.DqAll.mono g2.f da
    refine ⟨fun r hr => ?_, fun hr => ⟨xs, hq2, by rw [Mv.DqAll.len da]; exact rdD_stop (E := E2) hr⟩⟩
    obtain ⟨w, hw, ar⟩ := rdD_go (K := K) (H := H2) (E := E2) (ρ := σ2 ++ (as ++ ([] : List V).map some)) da2 hr
    exact ⟨xs, w, hq2, hw, ar⟩
  · next ss ed =>
    obtain ⟨ds, hd, rfl⟩ := Option.map_eq_some_iff.mp e
    refine h L R ed fun v F1 H1 f1 g1 a1 n1 o1 => ?_
    obtain ⟨a, xs, fq, rfl, hH, l, hf⟩ := Own.lst_inv (show Own K F1 H1 v _ f1 from a1) rfl
    obtain ⟨da, rfl⟩ := datsS_dp l hd
    refine q a F1 H1 [] fp g1.mine (by simpa using R.grow g1) rfl ⟨xs, .inl (.inl hH)⟩ fun F2 H2 σ2 E2 fp2 L2 g2 R2 i => ?_
    have na : a ∉ fp := by
      have := R.apart_new g1 n1
      rw [hf] at this
      exact fun m => (List.nodup_append.mp this).2.2 a List.mem_cons_self a m rfl
    have hq2 : SqL K H2 a xs := .inl (.inl (g2.keep a _ hH na))
    have da2 := Mv.DqAll.mono g2.f da
    refine ⟨fun r hr => ?_, fun hr => ⟨xs, hq2, by rw [Mv.DqAll.len da]; exact rdD_stop (E := E2) hr⟩⟩
    obtain ⟨w, hw, ar⟩ := rdD_go (K := K) (H := H2) (E := E2) (ρ := σ2 ++ (as ++ ([] : List V).map some)) da2 hr
    exact ⟨xs, w, hq2, hw, ar⟩
  · next p ed =>
    split at e
    · next ss es =>
      cases e
      refine h L R ed fun v F1 H1 f1 g1 a1 n1 o1 => ?_
      have R1 := R.grow g1
      obtain ⟨fq, ow⟩ := a1.own R1 (show (Rs.pl p).at E = some (.lst ss) from es)
      obtain ⟨a, xs, fq', rfl, hH, l, hf⟩ := ow.lst_inv rfl
      obtain ⟨b1, b2, b3⟩ := a1
      refine q a F1 H1 [.ref a] fp g1.mine (R1.hold b2 b3) rfl ⟨xs, .inl (.inl hH)⟩ fun F2 H2 σ2 E2 fp2 L2 g2 R2 i => ?_
      have len := R2.core.len
      have lastv : (σ2 ++ (as ++ [V.ref a].map some))[E2.length - 1]? = some (some (.ref a)) := by
        rw [← List.append_assoc, List.getElem?_append_right (by rw [len]; simp), len]
        simp
      have key : ∀ p2 ss2, E2.getLast? = some (Sl.bor p2) → eget E2 p2 = some (.lst ss2) → ∃ xs2 f2, H2 a = some (.lst xs2) ∧ OwnL K F2 H2 xs2 ss2 f2 ∧ RsAt K F2 H2 (σ2 ++ (as ++ [V.ref a].map some)) E2 (.ref a) (.pl p2) [] := by
        intro p2 ss2 hl hg
        rw [List.getLast?_eq_getElem?] at hl
        obtain ⟨w, e1, e2, e3⟩ := R2.bor _ p2 hl
        rw [lastv] at e1
        cases e1
        have at2 : RsAt K F2 H2 (σ2 ++ (as ++ [V.ref a].map some)) E2 (.ref a) (.pl p2) [] := ⟨rfl, e2, e3⟩
        obtain ⟨f2, ow2⟩ := at2.own R2 (show (Rs.pl p2).at E2 = some (.lst ss2) from hg)
        obtain ⟨a', xs2, f3, ea, hH2, l2, _⟩ := ow2.lst_inv rfl
        cases ea
        exact ⟨xs2, f3, hH2, l2, at2⟩
      refine ⟨fun r hr => ?_, fun hr => ?_⟩
      · dsimp only at hr
        split at hr
        · next p2 hl =>
          split at hr
          · next ss2 hg =>
            obtain ⟨xs2, f2, hH2, l2, at2⟩ := key p2 ss2 hl hg
            split at hr
            · next s hs =>
              obtain ⟨r', hr', er⟩ := Option.map_eq_some_iff.mp hr
              cases er
              obtain ⟨w, f, hw, ow⟩ := l2.nth hs
              exact ⟨xs2, w, .inl (.inl hH2), hw, at2.kid R2 hg hH2 hw hs ow hr'⟩
            · cases hr
          · cases hr
        · cases hr
      · dsimp only at hr
        split at hr
        · next p2 hl =>
          split at hr
          · next ss2 hg =>
            obtain ⟨xs2, f2, hH2, l2, at2⟩ := key p2 ss2 hl hg
            split at hr
            · next s hs =>
              cases hk : (Rs.pl p2).kid i s with
              | none => rw [hk] at hr; cases hr
              | some r' => rw [hk] at hr; cases hr
            · next hs => exact ⟨xs2, .inl (.inl hH2), by rw [l2.length]; exact List.getElem?_eq_none_iff.mp hs⟩
          · cases hr
        · cases hr
    · cases e
  · cases e

/-- each item with its place -/
def rdEn (rd : En → Nat → Option (Option Rs)) (E : En) (i : Nat) : Option (Option Rs) := match rd E i with
  | some (some r) => match r.at E with
    | some (.dat d) => some (some (.val (.dat (.tuple [.int (i : Nat), d]))))
    | _ => none
  | some none => some none
  | none => none
def iEnumS (d : En → Option Rs) (E : En) : Option Src := (iLst d E).map fun c => ⟨c.env, c.exE, rdEn c.rd, c.fuel⟩
theorem s_forEnum {gs : TGs} {tb : TS} {bs : List PyData → En → Option En} {db : En → Option Out} (h : EvP K n as te d) (hs : EvGs K n gs bs) (hb : ∀ as, EvS K n as W tb db) :
    EvS K n as W (tFor (iEnum K (tCons te tNil)) (gTup K 2 gs) tb) (dFor (iEnumS d) (bTup 2 bs) db) := by
  intro F H σ E fp L R o e D gg
  unfold dFor at e
  split at e
  · next c ec =>
    obtain ⟨c0, e0, rfl⟩ := Option.map_eq_some_iff.mp ec
    refine lst_src h L R e0 fun a F1 H1 ex fpx g1' R1 hx hxs spec => ?_
    obtain ⟨xs0, hxs0⟩ := hxs
    refine ⟨a, xs0, rfl, hxs0, ?_⟩
    dsimp only at e
    generalize hd : dLoop (rdEn c0.rd) (bTup 2 bs) db c0.fuel 0 (c0.env ++ c0.exE) = o1 at e
    refine ⟨fun i m σ2 H2 => ∃ F2 E2 fp2, σ2.length = n ∧ Grow F1 H1 fpx F2 H2 fp2 ∧ Rep K F2 H2 (σ2 ++ (as ++ ex.map some)) E2 fp2 ∧ dLoop (rdEn c0.rd) (bTup 2 bs) db m i E2 = o1,
      ⟨c0.fuel, F1, _, fpx, L, .refl R1.sub fpx, R1, hd⟩, fun i m σ2 H2 hW => ?_⟩
    obtain ⟨F2, E2, fp2, L2, g2, R2, h2⟩ := hW
    obtain ⟨sp1, sp2⟩ := spec F2 H2 σ2 E2 fp2 L2 g2 R2 i
    rw [dLoop.eq_def] at h2
    dsimp only at h2
    cases hr : rdEn c0.rd E2 i with
    | none => rw [hr] at h2; dsimp only at h2; rw [← h2] at e; cases e
    | some r0 => cases r0 with
      | none =>
        rw [hr] at h2
        dsimp only at h2
        rw [← h2] at e
        cases e
        obtain ⟨fq, R3, sb⟩ := stripE_rep (c := c0) R2 hx
        refine .inl ⟨?_, gg σ2 F2 H2 fq L2 ((g1'.trans g2).less sb) R3⟩
        unfold rdEn at hr
        split at hr
        · split at hr
          · cases hr
          · cases hr
        · next hn => exact sp2 hn
        · cases hr
      | some r =>
        rw [hr] at h2
        dsimp only at h2
        unfold rdEn at hr
        split at hr
        · next r1 hr1 =>
          split at hr
          · next dd hdd =>
            cases hr
            obtain ⟨xs, w, hq, hw, ar⟩ := sp1 r1 hr1
            obtain ⟨f3, ow⟩ := ar.own R2 hdd
            have dq := (ow.dat_inv rfl).1
            cases m with
            | zero => dsimp only at h2; rw [← h2] at e; cases e
            | succ m =>
              dsimp only at h2
              refine .inr ⟨⟨xs, w, hq, hw⟩, fun σ' H' => ∃ F2 E2 fp2, σ'.length = n ∧ Grow F1 H1 fpx F2 H' fp2 ∧ Rep K F2 H' (σ' ++ (as ++ ex.map some)) E2 fp2 ∧ dLoop (rdEn c0.rd) (bTup 2 bs) db m (i + 1) E2 = o1, fun σ' H' hN => ⟨m, Nat.lt_succ_self m, hN⟩, fun x H' hy => ?_⟩
              obtain ⟨T, x', rfl, hT, rfl, hall⟩ := hy
              obtain rfl := Option.some.inj ((hall xs hq).symm.trans hw)
              have gA : Grow F2 H2 fp2 F2 (upd H2 T (.tup [.int (i : Nat), x'])) fp2 := (Grow.alloc R2.sub hT).drop.mine
              have R2' := R2.grow (Grow.alloc (o := .tup [.int (i : Nat), x']) R2.sub hT)
              split at h2
              · rw [← h2] at e; cases e
              · next E3 e3 =>
                refine ⟨T, [.int (i : Nat), x'], rfl, .inl (.inl (upd_same ..)), rfl, hs L2 R2' (.cons (.int _) (.cons dq .nil)) e3 fun σ3 F3 H3 fp3 L3 g3 R3 => ?_⟩
                have g23 := g2.trans (gA.trans g3)
                split at h2
                · next E4 e4 => exact hb _ L3 R3 e4 fun σ' F' H' fp' L' g' R' => ⟨F', E4, fp', L', g23.trans g', R', h2⟩
                · next E4 e4 => exact hb _ L3 R3 e4 fun σ' F' H' fp' L' g' R' => ⟨F', E4, fp', L', g23.trans g', R', h2⟩
                · next E4 e4 =>
                  rw [← h2] at e
                  cases e
                  refine hb _ L3 R3 e4 fun σ' F' H' fp' L' g' R' => ?_
                  obtain ⟨fq, R5, sb⟩ := stripE_rep (c := c0) R' hx
                  exact gg σ' F' H' fq L' ((g1'.trans (g23.trans g')).less sb) R5
                · next s E4 e4 =>
                  rw [← h2] at e
                  cases e
                  refine hb _ L3 R3 e4 fun v σ' F' H' fr fp' L' g' R' ow nd of => ?_
                  obtain ⟨fq, R5, sb⟩ := stripE_rep (c := c0) R' hx
                  refine gg v σ' F' H' fr fq L' ((g1'.trans (g23.trans g')).less fun a m => ?_) R5 ow ?_ of
                  · exact List.mem_append.mpr ((List.mem_append.mp m).imp id (sb a))
                  · exact List.nodup_append.mpr ⟨(List.nodup_append.mp nd).1, R5.nd, fun a m b m2 => (List.nodup_append.mp nd).2.2 a m b (sb b m2)⟩
                · next x E4 e4 =>
                  rw [← h2] at e
                  cases e
                  refine hb _ L3 R3 e4 fun C σ' F' H' fp' hC L' g' R' => ?_
                  obtain ⟨fq, R5, sb⟩ := stripE_rep (c := c0) R' hx
                  exact gg C σ' F' H' fq hC L' ((g1'.trans (g23.trans g')).less sb) R5
                · rw [← h2] at e; cases e
          · cases hr
        · cases hr
        · cases hr
  · cases e
end Mv
namespace K16
open PySem PySem.Spec PyProof.Rows L2 Mv
def topS (i : Nat) : Stmt := PySem.Challenge.pw_drainhouse_k16_deeds_judged.main.body.getD i (.Pass ⟨0, 0, 0, 0⟩)
abbrev s_with_more : Stmt := topS 2
theorem sc_with_more : FnScope ["worth", "more"] ["worth", "more"] (defScope s_with_more) := ⟨rfl, rfl, rfl, by decide +kernel, rfl, by decide +kernel, by decide +kernel⟩
abbrev s_judge : Stmt := topS 7
theorem sc_judge : FnScope ["deeds", "tally", "place", "deed"] ["deeds"] (defScope s_judge) := ⟨rfl, rfl, rfl, by decide +kernel, rfl, by decide +kernel, by decide +kernel⟩
abbrev s__law_begun : Stmt := topS 9
theorem sc__law_begun : FnScope ["_law_script", "_law_stirred", "_law_cell"] ["_law_script"] (defScope s__law_begun) := ⟨rfl, rfl, rfl, by decide +kernel, rfl, by decide +kernel, by decide +kernel⟩
abbrev s__law_take : Stmt := topS 10
theorem sc__law_take : FnScope ["_law_box", "_law_many", "_law_number"] ["_law_box", "_law_many"] (defScope s__law_take) := ⟨rfl, rfl, rfl, by decide +kernel, rfl, by decide +kernel, by decide +kernel⟩
abbrev s__law_alike : Stmt := topS 11
theorem sc__law_alike : FnScope ["_law_found", "_law_due_here", "_law_k"] ["_law_found", "_law_due_here"] (defScope s__law_alike) := ⟨rfl, rfl, rfl, by decide +kernel, rfl, by decide +kernel, by decide +kernel⟩
abbrev s__law_deeds : Stmt := topS 12
theorem sc__law_deeds : FnScope ["_law_box", "_law_found", "_law_slots", "_law_numbers", "_law_make", "_law_most", "_law_turn", "_law_slot", "_law_asker", "_law_more", "_law_count", "_law_worth"] ["_law_box"] (defScope s__law_deeds) := ⟨rfl, rfl, rfl, by decide +kernel, rfl, by decide +kernel, by decide +kernel⟩
abbrev s__law_bent : Stmt := topS 13
theorem sc__law_bent : FnScope ["_law_box", "_law_deeds_here", "_law_k", "_law_way", "_law_part", "_law_new"] ["_law_box", "_law_deeds_here"] (defScope s__law_bent) := ⟨rfl, rfl, rfl, by decide +kernel, rfl, by decide +kernel, by decide +kernel⟩
abbrev s__law_due : Stmt := topS 14
theorem sc__law_due : FnScope ["_law_deeds_here", "_law_place", "_law_slot", "_law_count", "_law_asker", "_law_number", "_law_more", "_law_worth", "_law_make", "_law_ahead", "_law_mine", "_law_deed"] ["_law_deeds_here"] (defScope s__law_due) := ⟨rfl, rfl, rfl, by decide +kernel, rfl, by decide +kernel, by decide +kernel⟩
abbrev s_law : Stmt := topS 15
theorem sc_law : FnScope ["_law_script", "_law_box", "_law_turn", "_law_deeds_here", "_law_change", "_law_handed", "_law_again"] ["_law_script"] (defScope s_law) := ⟨rfl, rfl, rfl, by decide +kernel, rfl, by decide +kernel, by decide +kernel⟩
abbrev s_Tally___init__ : Stmt := inClass (topS 5) 0
theorem sc_Tally___init__ : FnScope ["self"] ["self"] (defScope s_Tally___init__) := ⟨rfl, rfl, rfl, by decide +kernel, rfl, by decide +kernel, by decide +kernel⟩
abbrev s_Tally_lets : Stmt := inClass (topS 5) 1
theorem sc_Tally_lets : FnScope ["self", "deed", "slot", "count", "asker", "number", "more", "worth", "make", "ahead", "many"] ["self", "deed"] (defScope s_Tally_lets) := ⟨rfl, rfl, rfl, by decide +kernel, rfl, by decide +kernel, by decide +kernel⟩
abbrev s_Tally_note : Stmt := inClass (topS 5) 2
theorem sc_Tally_note : FnScope ["self", "deed", "slot", "count", "asker", "number", "more", "worth", "make"] ["self", "deed"] (defScope s_Tally_note) := ⟨rfl, rfl, rfl, by decide +kernel, rfl, by decide +kernel, by decide +kernel⟩
structure Txt (K : PySem.W.Frag) (mg : Str → Option Value) where
  n_bool : mg "bool" = none
  n_enumerate : mg "enumerate" = none
  n_int : mg "int" = none
  n_isinstance : mg "isinstance" = none
  n_len : mg "len" = none
  n_list : mg "list" = none
  n_range : mg "range" = none
  n_str : mg "str" = none
  n_tuple : mg "tuple" = none
  t_WORTHS : Tok
  c_WORTHS : mg "WORTHS" = some (.int (1000) t_WORTHS)
  a_NEW_SLOT : Addr
  c_NEW_SLOT : mg "NEW_SLOT" = some (.ref a_NEW_SLOT)
  q_NEW_SLOT : ∀ F, Dq K F (.ref a_NEW_SLOT) (.tuple [.int 0, .int 0])
  C_Tally : Addr
  k_Tally : clsOf K 4 C_Tally
  cl_Tally : Cls K C_Tally
  na_Tally_grown : NoAttr K C_Tally "grown"
  na_Tally_numbers : NoAttr K C_Tally "numbers"
  na_Tally_make : NoAttr K C_Tally "make"
  a_with_more : Addr
  d_with_more : FuncData
  F_with_more : Fun K "with_more" "with_more" s_with_more a_with_more d_with_more
  b_with_more : Binds K d_with_more ["worth", "more"] []
  m_with_more : mg "with_more" = some (.ref a_with_more)
  a_judge : Addr
  d_judge : FuncData
  F_judge : Fun K "judge" "judge" s_judge a_judge d_judge
  b_judge : Binds K d_judge ["deeds"] []
  m_judge : mg "judge" = some (.ref a_judge)
  a__law_begun : Addr
  d__law_begun : FuncData
  F__law_begun : Fun K "_law_begun" "_law_begun" s__law_begun a__law_begun d__law_begun
  b__law_begun : Binds K d__law_begun ["_law_script"] []
  m__law_begun : mg "_law_begun" = some (.ref a__law_begun)
  a__law_take : Addr
  d__law_take : FuncData
  F__law_take : Fun K "_law_take" "_law_take" s__law_take a__law_take d__law_take
  b__law_take : Binds K d__law_take ["_law_box", "_law_many"] []
  m__law_take : mg "_law_take" = some (.ref a__law_take)
  a__law_alike : Addr
  d__law_alike : FuncData
  F__law_alike : Fun K "_law_alike" "_law_alike" s__law_alike a__law_alike d__law_alike
  b__law_alike : Binds K d__law_alike ["_law_found", "_law_due_here"] []
  m__law_alike : mg "_law_alike" = some (.ref a__law_alike)
  a__law_deeds : Addr
  d__law_deeds : FuncData
  F__law_deeds : Fun K "_law_deeds" "_law_deeds" s__law_deeds a__law_deeds d__law_deeds
  b__law_deeds : Binds K d__law_deeds ["_law_box"] []
  m__law_deeds : mg "_law_deeds" = some (.ref a__law_deeds)
  a__law_bent : Addr
  d__law_bent : FuncData
  F__law_bent : Fun K "_law_bent" "_law_bent" s__law_bent a__law_bent d__law_bent
  b__law_bent : Binds K d__law_bent ["_law_box", "_law_deeds_here"] []
  m__law_bent : mg "_law_bent" = some (.ref a__law_bent)
  a__law_due : Addr
  d__law_due : FuncData
  F__law_due : Fun K "_law_due" "_law_due" s__law_due a__law_due d__law_due
  b__law_due : Binds K d__law_due ["_law_deeds_here"] []
  m__law_due : mg "_law_due" = some (.ref a__law_due)
  a_law : Addr
  d_law : FuncData
  F_law : Fun K "law" "law" s_law a_law d_law
  b_law : Binds K d_law ["_law_script"] []
  m_law : mg "law" = some (.ref a_law)
  a_Tally___init__ : Addr
  d_Tally___init__ : FuncData
  F_Tally___init__ : Fun K "__init__" "Tally.__init__" s_Tally___init__ a_Tally___init__ d_Tally___init__
  b_Tally___init__ : Binds K d_Tally___init__ ["self"] []
  M_Tally : Mk K C_Tally a_Tally___init__
  g_Tally : mg "Tally" = some (.ref C_Tally)
  a_Tally_lets : Addr
  d_Tally_lets : FuncData
  F_Tally_lets : Fun K "lets" "Tally.lets" s_Tally_lets a_Tally_lets d_Tally_lets
  b_Tally_lets : Binds K d_Tally_lets ["self", "deed"] []
  mt_Tally_lets : Meth K C_Tally "lets" a_Tally_lets
  a_Tally_note : Addr
  d_Tally_note : FuncData
  F_Tally_note : Fun K "note" "Tally.note" s_Tally_note a_Tally_note d_Tally_note
  b_Tally_note : Binds K d_Tally_note ["self", "deed"] []
  mt_Tally_note : Meth K C_Tally "note" a_Tally_note
end K16
namespace K16
open PySem PySem.Spec PyProof.Rows L2 Mv 
def d_with_more : En → Option Out := (dRet (ePure (dOp fMod (dOp fAdd (dVar 0) (dVar 1)) (dC (.int 1000)))))
def g_with_more : List S → Option (S × List S) := fnG 2 d_with_more
def d_Tally___init__ : En → Option Out := (dSeq (dFPut 4 0 (dVar 0) (ePure dNewD))
    (dSeq (dFPut 4 1 (dVar 0) (ePure dNewD))
    (dFPut 4 2 (dVar 0) (ePure (dC (.int 0))))))
def g_Tally___init__ : List S → Option (S × List S) := fnG 1 d_Tally___init__
def d_Tally_lets : En → Option Out := (dSeq (dAsg (bTup 7 (bCons (bName 2) (bCons (bName 3) (bCons (bName 4) (bCons (bName 5) (bCons (bName 6) (bCons (bName 7) (bCons (bName 8) bNil)))))))) (ePure (dVar 1)))
    (dSeq (dAsg (bTup 2 (bCons (bName 9) (bCons (bName 10) bNil))) (ePure (dDGet2 (dFld 4 0 (dVar 0)) (dVar 2) (dC (.tuple [.int 0, .int 0])))))
    (dSeq (dIf (eOr (ePureT (dTest (dOp fNeS (dVar 3) (dOp fAdd (dVar 10) (dC (.int 1)))))) (eTest (eOp fNeS (ePure (dVar 7)) (eCall g_with_more (dCons (dVar 9) (dCons (dVar 6) dNil)))))) (dRet (ePure (dC (.bool false)))) dNext)
    (dRet (ePure (dAndV (dOp fEqS (dVar 5) (dOp fAdd (dDGet2 (dFld 4 1 (dVar 0)) (dVar 4) (dC (.int 0))) (dC (.int 1)))) (dOp fGe (dVar 8) (dFld 4 2 (dVar 0)))))))))
def g_Tally_lets : List S → Option (S × List S) := fnG 11 d_Tally_lets
def d_Tally_note : En → Option Out := (dSeq (dAsg (bTup 7 (bCons (bName 2) (bCons (bName 3) (bCons (bName 4) (bCons (bName 5) (bCons (bName 6) (bCons (bName 7) (bCons (bName 8) bNil)))))))) (ePure (dVar 1)))
    (dSeq (dDPut (dFld 4 0 (dVar 0)) (dVar 2) (ePure (dTupL (dCons (dVar 7) (dCons (dVar 3) dNil)))))
    (dSeq (dDPut (dFld 4 1 (dVar 0)) (dVar 4) (ePure (dVar 5)))
    (dFPut 4 2 (dVar 0) (ePure (dVar 8))))))
def g_Tally_note : List S → Option (S × List S) := fnG 9 d_Tally_note
def d_judge : En → Option Out := (dSeq (dSet 1 (eEff lNil fun k => dWhen (k + 1) 1 (eMk 4 k g_Tally___init__)))
    (dSeq (dFor (iEnumS (dVar 0)) (bTup 2 (bCons (bName 2) (bCons (bName 3) bNil))) (dSeq (dIf (eNot (eTest (eCall g_Tally_lets (dCons (dIns 4 (dVar 1)) (dCons (dVar 3) dNil))))) (dRet (eMove 2)) dNext)
    (dDrop (eCall g_Tally_note (dCons (dIns 4 (dVar 1)) (dCons (dVar 3) dNil))))))
    (dRet (ePure (dC .none)))))
def g_judge : List S → Option (S × List S) := fnG 4 d_judge
def d__law_begun : En → Option Out := (dSeq (dAlias 1 (dC (.int 0)))
    (dSeq (dFor (iLst (dVar 0)) (bName 2) (dAlias 1 (dOp fMod (dOp fAdd (dOp fAdd (dOp fMul (dVar 1) (dC (.int 48271))) (dOp fMul (dVar 2) (dC (.int 69621)))) (dC (.int 11))) (dC (.int 2147483647)))))
    (dRet (ePure (dLst (dCons (dCS fList (dCons (dVar 0) dNil)) (dCons (dOp fMul (dVar 1) (dCB fInt (dCons (dOp fGt (dLen (dVar 0)) (dC (.int 2))) dNil))) dNil)))))))
def g__law_begun : List S → Option (S × List S) := fnG 3 d__law_begun
def d__law_take : En → Option Out := (dSeq (dIf (ePureT (dTest (dOp fEqD (dIxL (dVar 0) (dC (.int 0))) (dLst dNil)))) (dSeq (dLSet (dVar 0) (dC (.int 1)) (ePure (dOp fMod (dOp fMul (dIxL (dVar 0) (dC (.int 1))) (dC (.int 48271))) (dC (.int 2147483647)))))
    (dRet (ePure (dOp fMod (dOp fDiv (dIxL (dVar 0) (dC (.int 1))) (dC (.int 7))) (dVar 1))))) dNext)
    (dSeq (dAlias 2 (dIxL (dIxL (dVar 0) (dC (.int 0))) (dC (.int 0))))
    (dSeq (dLSet (dIxL (dVar 0) (dC (.int 0))) (dC (.int 0)) (ePure (dOp fDiv (dVar 2) (dVar 1))))
    (dSeq (dIf (ePureT (dOr (dTest (dOp fEqS (dIxL (dIxL (dVar 0) (dC (.int 0))) (dC (.int 0))) (dC (.int 0)))) (dTest (dOp fEqS (dIxL (dIxL (dVar 0) (dC (.int 0))) (dC (.int 0))) (dNeg (dC (.int 1))))))) (dDrop (eBM1 oPopAt (dIxL (dVar 0) (dC (.int 0))) (dC (.int 0)))) dNext)
    (dRet (ePure (dOp fMod (dVar 2) (dVar 1))))))))
def g__law_take : List S → Option (S × List S) := fnG 3 d__law_take
def f__law_alike (g : List S → Option (S × List S)) : En → Option Out := (dSeq (dIf (ePureT (dTest (dOp fIsN (dVar 1) (dC .none)))) (dRet (ePure (dOp fIsN (dVar 0) (dC .none)))) dNext)
    (dSeq (dIf (ePureT (dTest (dIsi .bool (dVar 1)))) (dRet (ePure (dAndV (dIsi .bool (dVar 0)) (dOp fEqD (dVar 0) (dVar 1))))) dNext)
    (dSeq (dIf (ePureT (dTest (dIsi .int (dVar 1)))) (dRet (ePure (dAndV (dIsi .int (dVar 0)) (dAndV (dNotV (dIsi .bool (dVar 0))) (dOp fEqD (dVar 0) (dVar 1)))))) dNext)
    (dSeq (dIf (ePureT (dTest (dIsi .str (dVar 1)))) (dRet (ePure (dAndV (dIsi .str (dVar 0)) (dOp fEqD (dVar 0) (dVar 1))))) dNext)
    (dSeq (dIf (ePureT (dOr (dTest (dOp fNeS (dIsi .tuple (dVar 1)) (dIsi .tuple (dVar 0)))) (dTest (dOp fNeS (dIsi .list (dVar 1)) (dIsi .list (dVar 0)))))) (dRet (ePure (dC (.bool false)))) dNext)
    (dSeq (dIf (ePureT (dTest (dOp fNeS (dLen (dVar 0)) (dLen (dVar 1))))) (dRet (ePure (dC (.bool false)))) dNext)
    (dSeq (dFor (iRange (dLen (dVar 1))) (bName 2) (dIf (eNot (eTest (eCall g (dCons (dIxT (dVar 0) (dVar 2)) (dCons (dIxT (dVar 1) (dVar 2)) dNil))))) (dRet (ePure (dC (.bool false)))) dNext))
    (dRet (ePure (dC (.bool true)))))))))))
def g__law_alike : Nat → List S → Option (S × List S)
  | 0 => gNone
  | k + 1 => fnG 3 (f__law_alike (g__law_alike k))
def d__law_deeds : En → Option Out := (dSeq (dAlias 1 (dLst dNil))
    (dSeq (dParL3 2 3 4 (lConsP dNewD (lConsP dNewD (lConsP (dC (.int 0)) lNil))))
    (dSeq (dSet 5 (eEff (lConsP (dLst (dCons (dC (.int 2)) (dCons (dC (.int 12)) dNil))) (lConsE (eCall g__law_take (dCons (dVar 0) (dCons (dC (.int 2)) dNil))) lNil)) fun k => dWhen k 2 (ePure (dIxL (dGh k 0) (dGh k 1)))))
    (dSeq (dFor (iRangeE (eEff (lConsP (dVar 0) (lConsE (eEff (lConsP (dLst (dCons (dC (.int 31)) (dCons (dC (.int 100)) dNil))) (lConsE (eOp fDiv (eCall g__law_take (dCons (dVar 0) (dCons (dC (.int 3)) dNil))) (ePure (dC (.int 2)))) lNil)) fun k => dWhen k 2 (ePure (dIxL (dGh k 0) (dGh k 1)))) lNil)) fun k => dWhen k 2 (eCall g__law_take (dGhs k)))) (bName 6) (dSeq (dParL3 7 8 9 (lConsE (eCall g__law_take (dCons (dVar 0) (dCons (dVar 5) dNil))) (lConsE (eCall g__law_take (dCons (dVar 0) (dCons (dC (.int 6)) dNil))) (lConsE (eOp fSub (eCall g__law_take (dCons (dVar 0) (dCons (dC (.int 199)) dNil))) (ePure (dC (.int 99)))) lNil))))
    (dSeq (dSet 4 (eOp fAdd (ePure (dVar 4)) (eOp fDiv (eCall g__law_take (dCons (dVar 0) (dCons (dC (.int 6)) dNil))) (ePure (dC (.int 5))))))
    (dSeq (dAsg (bTup 2 (bCons (bName 10) (bCons (bName 11) bNil))) (ePure (dDGet2 (dVar 2) (dVar 7) (dTupL (dCons (dC (.int 0)) (dCons (dC (.int 0)) dNil))))))
    (dSeq (dDPut (dVar 2) (dVar 7) (ePure (dTupL (dCons (dOp fAdd (dVar 10) (dC (.int 1))) (dCons (dOp fMod (dOp fAdd (dVar 11) (dVar 9)) (dC (.int 1000))) dNil)))))
    (dSeq (dDPut (dVar 3) (dVar 8) (ePure (dOp fAdd (dDGet2 (dVar 3) (dVar 8) (dC (.int 0))) (dC (.int 1)))))
    (dDrop (eBM1 oAppend (dVar 1) (dOpS fCatT (dOpS fCatT (dTupL (dCons (dVar 7) (dCons (dOp fAdd (dVar 10) (dC (.int 1))) (dCons (dVar 8) (dCons (dDGet (dVar 3) (dVar 8)) (dCons (dVar 9) dNil)))))) (dSl fSlT (dDGet (dVar 2) (dVar 7)) (dPart (dC (.int 1))) dNoPart)) (dTupL (dCons (dVar 4) dNil)))))))))))
    (dRet (eMove 1))))))
def g__law_deeds : List S → Option (S × List S) := fnG 12 d__law_deeds
def d__law_bent : En → Option Out := (dSeq (dIf (ePureT (dTest (dOp fEqD (dVar 1) (dLst dNil)))) (dRet (eMove 1)) dNext)
    (dSeq (dSet 2 (eCall g__law_take (dCons (dVar 0) (dCons (dLen (dVar 1)) dNil))))
    (dSeq (dSet 3 (eCall g__law_take (dCons (dVar 0) (dCons (dC (.int 5)) dNil))))
    (dSeq (dIf (ePureT (dTest (dOp fEqS (dVar 3) (dC (.int 0))))) (dRet (ePure (dOpS fCatL (dSl fSlL (dVar 1) dNoPart (dPart (dVar 2))) (dSl fSlL (dVar 1) (dPart (dOp fAdd (dVar 2) (dC (.int 1)))) dNoPart)))) dNext)
    (dSeq (dIf (ePureT (dTest (dOp fEqS (dVar 3) (dC (.int 1))))) (dRet (ePure (dOpS fCatL (dSl fSlL (dVar 1) dNoPart (dPart (dOp fAdd (dVar 2) (dC (.int 1))))) (dSl fSlL (dVar 1) (dPart (dVar 2)) dNoPart)))) dNext)
    (dSeq (dIf (ePureT (dTest (dOp fEqS (dVar 3) (dC (.int 2))))) (dRet (ePure (dOpS fCatL (dOpS fCatL (dSl fSlL (dVar 1) dNoPart (dPart (dVar 2))) (dRev (dSl fSlL (dVar 1) (dPart (dVar 2)) (dPart (dOp fAdd (dVar 2) (dC (.int 2))))))) (dSl fSlL (dVar 1) (dPart (dOp fAdd (dVar 2) (dC (.int 2)))) dNoPart)))) dNext)
    (dSeq (dSet 4 (eCall g__law_take (dCons (dVar 0) (dCons (dC (.int 7)) dNil))))
    (dSeq (dSet 5 (eOp fAdd (ePure (dIxT (dIxL (dVar 1) (dVar 2)) (dVar 4))) (eEff (lConsP (dLst (dCons (dC (.int 1)) (dCons (dNeg (dC (.int 1))) (dCons (dC (.int 5)) (dCons (dC (.int 1000)) dNil))))) (lConsE (eCall g__law_take (dCons (dVar 0) (dCons (dC (.int 4)) dNil))) lNil)) fun k => dWhen k 2 (ePure (dIxL (dGh k 0) (dGh k 1))))))
    (dSeq (dIf (ePureT (dTest (dOp fEqS (dVar 4) (dC (.int 0))))) (dAlias 5 (dOp fMod (dOp fAdd (dIxT (dIxL (dVar 1) (dVar 2)) (dC (.int 0))) (dC (.int 1))) (dC (.int 12)))) dNext)
    (dSeq (dIf (ePureT (dTest (dOp fEqS (dVar 4) (dC (.int 2))))) (dAlias 5 (dOp fMod (dOp fAdd (dIxT (dIxL (dVar 1) (dVar 2)) (dC (.int 2))) (dC (.int 1))) (dC (.int 6)))) dNext)
    (dRet (ePure (dOpS fCatL (dOpS fCatL (dSl fSlL (dVar 1) dNoPart (dPart (dVar 2))) (dLst (dCons (dOpS fCatT (dOpS fCatT (dSl fSlT (dIxL (dVar 1) (dVar 2)) dNoPart (dPart (dVar 4))) (dTupL (dCons (dVar 5) dNil))) (dSl fSlT (dIxL (dVar 1) (dVar 2)) (dPart (dOp fAdd (dVar 4) (dC (.int 1)))) dNoPart)) dNil))) (dSl fSlL (dVar 1) (dPart (dOp fAdd (dVar 2) (dC (.int 1)))) dNoPart))))))))))))))
def g__law_bent : List S → Option (S × List S) := fnG 6 d__law_bent
def d__law_due : En → Option Out := (dSeq (dFor (iRange (dLen (dVar 0))) (bName 1) (dSeq (dAsg (bTup 7 (bCons (bName 2) (bCons (bName 3) (bCons (bName 4) (bCons (bName 5) (bCons (bName 6) (bCons (bName 7) (bCons (bName 8) bNil)))))))) (ePure (dIxL (dVar 0) (dVar 1))))
    (dSeq (dAlias 9 (dSl fSlL (dVar 0) dNoPart (dPart (dVar 1))))
    (dSeq (dSet 10 (eLc (iLst (dVar 9)) 11 (ePureT (dTest (dOp fEqS (dIxT (dVar 11) (dC (.int 0))) (dVar 2)))) (ePure (dVar 11))))
    (dSeq (dIf (eTest (eOp fNeS (ePure (dVar 3)) (eOp fAdd (eEff (lConsE (eEff (lConsP (dLst (dCons (dC (.int 0)) dNil)) (lConsE (eLc (iLst (dVar 10)) 11 eYes (ePure (dIxT (dVar 11) (dC (.int 1))))) lNil)) fun k => dWhen k 2 (ePure ((dOpS fCatL) (dGh k 0) (dGh k 1)))) (lConsP (dNeg (dC (.int 1))) lNil)) fun k => dWhen k 2 (ePure (dIxL (dGh k 0) (dGh k 1)))) (ePure (dC (.int 1)))))) (dRet (eMove 1)) dNext)
    (dSeq (dIf (eTest (eOp fNeS (ePure (dVar 7)) (eOp fMod (eOp fAdd (eEff (lConsE (eEff (lConsP (dLst (dCons (dC (.int 0)) dNil)) (lConsE (eLc (iLst (dVar 10)) 11 eYes (ePure (dIxT (dVar 11) (dC (.int 5))))) lNil)) fun k => dWhen k 2 (ePure ((dOpS fCatL) (dGh k 0) (dGh k 1)))) (lConsP (dNeg (dC (.int 1))) lNil)) fun k => dWhen k 2 (ePure (dIxL (dGh k 0) (dGh k 1)))) (ePure (dVar 6))) (ePure (dC (.int 1000)))))) (dRet (eMove 1)) dNext)
    (dSeq (dIf (eTest (eOp fNeS (ePure (dVar 5)) (eOp fAdd (eEff (lConsE (eEff (lConsP (dLst (dCons (dC (.int 0)) dNil)) (lConsE (eLc (iLst (dVar 9)) 11 (ePureT (dTest (dOp fEqS (dIxT (dVar 11) (dC (.int 2))) (dVar 4)))) (ePure (dIxT (dVar 11) (dC (.int 3))))) lNil)) fun k => dWhen k 2 (ePure ((dOpS fCatL) (dGh k 0) (dGh k 1)))) (lConsP (dNeg (dC (.int 1))) lNil)) fun k => dWhen k 2 (ePure (dIxL (dGh k 0) (dGh k 1)))) (ePure (dC (.int 1)))))) (dRet (eMove 1)) dNext)
    (dIf (eTest (eOp fLt (ePure (dVar 8)) (eEff (lConsE (eEff (lConsP (dLst (dCons (dC (.int 0)) dNil)) (lConsE (eLc (iLst (dVar 9)) 11 eYes (ePure (dIxT (dVar 11) (dC (.int 6))))) lNil)) fun k => dWhen k 2 (ePure ((dOpS fCatL) (dGh k 0) (dGh k 1)))) (lConsP (dNeg (dC (.int 1))) lNil)) fun k => dWhen k 2 (ePure (dIxL (dGh k 0) (dGh k 1)))))) (dRet (eMove 1)) dNext))))))))
    (dRet (ePure (dC .none))))
def g__law_due : List S → Option (S × List S) := fnG 12 d__law_due
def d_law : En → Option Out := (dSeq (dSet 1 (eCall g__law_begun (dCons (dVar 0) dNil)))
    (dSeq (dFor (iRange (dC (.int 4))) (bName 2) (dSeq (dSet 3 (eFrz (eCall g__law_deeds (dCons (dVar 1) dNil))))
    (dSeq (dIf (eNot (eTest (eEff (lConsE (eCall g_judge (dCons (dVar 3) dNil)) (lConsP (dC .none) lNil)) fun k => dWhen k 2 (eCall (g__law_alike 1) (dGhs k))))) (dRet (ePure (dC (.bool false)))) dNext)
    (dSeq (dFor (iRangeE (eOp fAdd (ePure (dC (.int 1))) (eCall g__law_take (dCons (dVar 1) (dCons (dC (.int 2)) dNil))))) (bName 4) (dSet 3 (eFrz (eCall g__law_bent (dCons (dVar 1) (dCons (dVar 3) dNil))))))
    (dSeq (dAlias 5 (dFrz (dCS fList (dCons (dVar 3) dNil))))
    (dFor (iRange (dC (.int 2))) (bName 6) (dIf (eOr (eNot (eTest (eEff (lConsE (eCall g_judge (dCons (dVar 5) dNil)) (lConsE (eCall g__law_due (dCons (dVar 3) dNil)) lNil)) fun k => dWhen k 2 (eCall (g__law_alike 1) (dGhs k))))) (ePureT (dTest (dOp fNeD (dVar 5) (dVar 3))))) (dRet (ePure (dC (.bool false)))) dNext)))))))
    (dRet (ePure (dC (.bool true))))))
def g_law : List S → Option (S × List S) := fnG 7 d_law
end K16
namespace K16
open PySem PySem.Spec PyProof.Rows L2 Mv 
section
variable {P : Program} {w : World} {K : PySem.W.Frag} {mg : Str → Option Value} {base : Heap}
theorem ok_with_more (T : Txt K mg) : FnOk P w K mg base CX0 1 T.a_with_more T.d_with_more ["worth", "more"] (spMv K 2 g_with_more) := by
  refine fn_mv T.F_with_more sc_with_more (fun cdv A outer s H E as hr => ?_)
  exact ⟨_, (pss_one (ps_ret (pe_op op_mod (pe_op op_add (pv 0) (pv 1)) (pe_glob (v := .int (1000)) rfl T.c_WORTHS ⟨_, rfl⟩)))),
    fun W => (s_ret (e_pure (p_op rv_mod (p_op rv_add (p_var (i := 0) (by decide)) (p_var (i := 1) (by decide))) (p_c (d := .int 1000)))))⟩
theorem ok_Tally___init__ (T : Txt K mg) : FnOk P w K mg base CX0 1 T.a_Tally___init__ T.d_Tally___init__ ["self"] (spMv K 1 g_Tally___init__) := by
  refine fn_mv T.F_Tally___init__ sc_Tally___init__ (fun cdv A outer s H E as hr => ?_)
  exact ⟨_, (pss_cons (ps_fld (pv 0) pe_dnewK rfl)
    (pss_cons (ps_fld (pv 0) pe_dnewK rfl)
    (pss_one (ps_fld (pv 0) pe_int rfl)))),
    fun W => (s_seq (s_fput T.k_Tally T.cl_Tally T.na_Tally_grown fx_Tally_grown (p_var (i := 0) (by decide)) (e_pure p_newD))
    (s_seq (s_fput T.k_Tally T.cl_Tally T.na_Tally_numbers fx_Tally_numbers (p_var (i := 0) (by decide)) (e_pure p_newD))
    (s_fput T.k_Tally T.cl_Tally T.na_Tally_make fx_Tally_make (p_var (i := 0) (by decide)) (e_pure (p_c (d := .int 0))))))⟩
theorem ok_Tally_lets (T : Txt K mg) : FnOk P w K mg base CX0 2 T.a_Tally_lets T.d_Tally_lets ["self", "deed"] (spMv K 2 g_Tally_lets) := by
  refine fn_mv T.F_Tally_lets sc_Tally_lets (fun cdv A outer s H E as hr => ?_)
  have hu := hu_of hr
  exact ⟨_, (pss_cons (ps_asg (pv 1) (pg_tup rfl (pgs_cons (pg_name (i := 2) sc_Tally_lets.nd rfl (Or.inl rfl)) (pgs_cons (pg_name (i := 3) sc_Tally_lets.nd rfl (Or.inl rfl)) (pgs_cons (pg_name (i := 4) sc_Tally_lets.nd rfl (Or.inl rfl)) (pgs_cons (pg_name (i := 5) sc_Tally_lets.nd rfl (Or.inl rfl)) (pgs_cons (pg_name (i := 6) sc_Tally_lets.nd rfl (Or.inl rfl)) (pgs_cons (pg_name (i := 7) sc_Tally_lets.nd rfl (Or.inl rfl)) (pgs_cons (pg_name (i := 8) sc_Tally_lets.nd rfl (Or.inl rfl)) pgs_nil)))))))))
    (pss_cons (ps_asg (pe_dget2 hu (pe_fld (pv 0) rfl) (pv 2) (pe_glob (v := .ref T.a_NEW_SLOT) rfl T.c_NEW_SLOT rfl) ⟨rfl, rfl, rfl, rfl⟩) (pg_tup rfl (pgs_cons (pg_name (i := 9) sc_Tally_lets.nd rfl (Or.inl rfl)) (pgs_cons (pg_name (i := 10) sc_Tally_lets.nd rfl (Or.inl rfl)) pgs_nil))))
    (pss_cons (ps_if (PW.pt (pw_or (pt_cmpR op_ne (pv 3) (pe_op op_add (pv 10) pe_int) (nomark _)) (pw_or1 (pt_cmpR op_ne (pv 7) (pe_call (ok_with_more T) (hr.mono (by decide)) rfl T.m_with_more T.F_with_more.kp T.b_with_more .nil pass0 (pa_cons (pv 9) (pa_cons (pv 6) pa_nil))) (nomark _))))) (pss_one (ps_ret pe_bl)) pss_nil)
    (pss_one (ps_ret (pe_and (pe_cmpR op_eq (pv 5) (pe_op op_add (pe_dget2 hu (pe_fld (pv 0) rfl) (pv 4) pe_int ⟨rfl, rfl, rfl, rfl⟩) pe_int) (nomark _)) (pe_one (pe_cmpR op_ge (pv 8) (pe_fld (pv 0) rfl) (nomark _))))))))),
    fun W => (s_seq (s_asg (g_tup (gs_cons (g_name (i := 2) (by decide)) (gs_cons (g_name (i := 3) (by decide)) (gs_cons (g_name (i := 4) (by decide)) (gs_cons (g_name (i := 5) (by decide)) (gs_cons (g_name (i := 6) (by decide)) (gs_cons (g_name (i := 7) (by decide)) (gs_cons (g_name (i := 8) (by decide)) gs_nil)))))))) (e_pure (p_var (i := 1) (by decide))))
    (s_seq (s_asg (g_tup (gs_cons (g_name (i := 9) (by decide)) (gs_cons (g_name (i := 10) (by decide)) gs_nil))) (e_pure (p_dget2 (p_fld T.k_Tally T.cl_Tally T.na_Tally_grown fx_Tally_grown (p_var (i := 0) (by decide))) (p_var (i := 2) (by decide)) (p_cq (d := .tuple [.int 0, .int 0]) T.q_NEW_SLOT))))
    (s_seq (s_if (e_or (e_pureT (p_test (p_op rv_ne (p_var (i := 3) (by decide)) (p_op rv_add (p_var (i := 10) (by decide)) (p_c (d := .int 1)))))) (e_test (e_op rv_ne (e_pure (p_var (i := 7) (by decide))) (e_call (p_cons (p_var (i := 9) (by decide)) (p_cons (p_var (i := 6) (by decide)) p_nil)) (dl_cons (dl_cons dl_nil)))))) (s_ret (e_pure (p_c (d := .bool false)))) s_next)
    (s_ret (e_pure (p_andV (p_op rv_eq (p_var (i := 5) (by decide)) (p_op rv_add (p_dget2 (p_fld T.k_Tally T.cl_Tally T.na_Tally_numbers fx_Tally_numbers (p_var (i := 0) (by decide))) (p_var (i := 4) (by decide)) (p_c (d := .int 0))) (p_c (d := .int 1)))) (p_op rv_ge (p_var (i := 8) (by decide)) (p_fld T.k_Tally T.cl_Tally T.na_Tally_make fx_Tally_make (p_var (i := 0) (by decide))))))))))⟩
theorem ok_Tally_note (T : Txt K mg) : FnOk P w K mg base CX0 1 T.a_Tally_note T.d_Tally_note ["self", "deed"] (spMv K 2 g_Tally_note) := by
  refine fn_mv T.F_Tally_note sc_Tally_note (fun cdv A outer s H E as hr => ?_)
  have hu := hu_of hr
  exact ⟨_, (pss_cons (ps_asg (pv 1) (pg_tup rfl (pgs_cons (pg_name (i := 2) sc_Tally_note.nd rfl (Or.inl rfl)) (pgs_cons (pg_name (i := 3) sc_Tally_note.nd rfl (Or.inl rfl)) (pgs_cons (pg_name (i := 4) sc_Tally_note.nd rfl (Or.inl rfl)) (pgs_cons (pg_name (i := 5) sc_Tally_note.nd rfl (Or.inl rfl)) (pgs_cons (pg_name (i := 6) sc_Tally_note.nd rfl (Or.inl rfl)) (pgs_cons (pg_name (i := 7) sc_Tally_note.nd rfl (Or.inl rfl)) (pgs_cons (pg_name (i := 8) sc_Tally_note.nd rfl (Or.inl rfl)) pgs_nil)))))))))
    (pss_cons (ps_dput hu (pe_fld (pv 0) rfl) (pv 2) (pe_tupF (pa_cons (pv 7) (pa_cons (pv 3) pa_nil))) rfl)
    (pss_cons (ps_dput hu (pe_fld (pv 0) rfl) (pv 4) (pv 5) rfl)
    (pss_one (ps_fld (pv 0) (pv 8) rfl))))),
    fun W => (s_seq (s_asg (g_tup (gs_cons (g_name (i := 2) (by decide)) (gs_cons (g_name (i := 3) (by decide)) (gs_cons (g_name (i := 4) (by decide)) (gs_cons (g_name (i := 5) (by decide)) (gs_cons (g_name (i := 6) (by decide)) (gs_cons (g_name (i := 7) (by decide)) (gs_cons (g_name (i := 8) (by decide)) gs_nil)))))))) (e_pure (p_var (i := 1) (by decide))))
    (s_seq (s_dput (p_fld T.k_Tally T.cl_Tally T.na_Tally_grown fx_Tally_grown (p_var (i := 0) (by decide))) (p_var (i := 2) (by decide)) (e_pure (p_tup (p_cons (p_var (i := 7) (by decide)) (p_cons (p_var (i := 3) (by decide)) p_nil)))))
    (s_seq (s_dput (p_fld T.k_Tally T.cl_Tally T.na_Tally_numbers fx_Tally_numbers (p_var (i := 0) (by decide))) (p_var (i := 4) (by decide)) (e_pure (p_var (i := 5) (by decide))))
    (s_fput T.k_Tally T.cl_Tally T.na_Tally_make fx_Tally_make (p_var (i := 0) (by decide)) (e_pure (p_var (i := 8) (by decide)))))))⟩
theorem ok_judge (T : Txt K mg) : FnOk P w K mg base CX0 3 T.a_judge T.d_judge ["deeds"] (spMv K 1 g_judge) := by
  refine fn_mv T.F_judge sc_judge (fun cdv A outer s H E as hr => ?_)
  exact ⟨_, (pss_cons (ps_set (i := 1) sc_judge.nd rfl (Or.inl rfl) (pe_make0 T.M_Tally (ok_Tally___init__ T) (hr.mono (by decide)) (by rfl) T.g_Tally T.b_Tally___init__ .nil pass0))
    (pss_cons (ps_for PassesOwn.never rfl (pi_enum (by rfl) T.n_enumerate (pa_cons (pv 0) pa_nil)) (pg_tup rfl (pgs_cons (pg_name (i := 2) sc_judge.nd rfl (Or.inl rfl)) (pgs_cons (pg_name (i := 3) sc_judge.nd rfl (Or.inl rfl)) pgs_nil))) (pss_cons (ps_if (pt_not (pt_val (pe_meth (pv 1) T.cl_Tally T.mt_Tally_lets (ok_Tally_lets T) (hr.mono (by decide)) T.b_Tally_lets .nil pass0 (pa_cons (pv 3) pa_nil)))) (pss_one (ps_ret (pv 2))) pss_nil)
    (pss_one (ps_expr (pe_meth (pv 1) T.cl_Tally T.mt_Tally_note (ok_Tally_note T) (hr.mono (by decide)) T.b_Tally_note .nil pass0 (pa_cons (pv 3) pa_nil))))))
    (pss_one (ps_ret pe_non)))),
    fun W => (s_seq (s_set (by decide) (e_make T.k_Tally l_nil))
    (s_seq (s_forEnum (p_var (i := 0) (by decide)) (gs_cons (g_name (i := 2) (by decide)) (gs_cons (g_name (i := 3) (by decide)) gs_nil)) (fun _ => (s_seq (s_if (e_not (e_tB (e_meth (e_call (p_cons (p_ins T.k_Tally fm_Tally_lets (p_var (i := 1) (by decide))) (p_cons (p_var (i := 3) (by decide)) p_nil)) (dl_cons (dl_cons dl_nil)))))) (s_ret (e_move (i := 2) (by decide))) s_next)
    (s_drop (e_meth (e_call (p_cons (p_ins T.k_Tally fm_Tally_note (p_var (i := 1) (by decide))) (p_cons (p_var (i := 3) (by decide)) p_nil)) (dl_cons (dl_cons dl_nil))))))))
    (s_ret (e_pure (p_c (d := .none))))))⟩
theorem ok__law_begun (T : Txt K mg) : FnOk P w K mg base CX0 1 T.a__law_begun T.d__law_begun ["_law_script"] (spMv K 1 g__law_begun) := by
  refine fn_mv T.F__law_begun sc__law_begun (fun cdv A outer s H E as hr => ?_)
  exact ⟨_, (pss_cons (ps_set (i := 1) sc__law_begun.nd rfl (Or.inl rfl) pe_int)
    (pss_cons (ps_for PassesOwn.never rfl (pi_list (pv 0)) (pg_name (i := 2) sc__law_begun.nd rfl (Or.inl rfl)) (pss_one (ps_set (i := 1) sc__law_begun.nd rfl (Or.inl rfl) (pe_op op_mod (pe_op op_add (pe_op op_add (pe_op op_mul (pv 1) pe_int) (pe_op op_mul (pv 2) pe_int)) pe_int) pe_int))))
    (pss_one (ps_ret (pe_lst (pa_cons (pe_callTy (r := rListOfK K) call_listK (by rfl) T.n_list (by decide +kernel) (pa_cons (pv 0) pa_nil)) (pa_cons (pe_op op_mul (pv 1) (pe_callTy call_int1 (by rfl) T.n_int (by decide +kernel) (pa_cons (pe_cmpR op_gt (pe_callB (r := rLenK K) call_lenK (by rfl) T.n_len PySem.boot_len (pa_cons (pv 0) pa_nil)) pe_int (nomark _)) pa_nil))) pa_nil))))))),
    fun W => (s_seq (s_alias (by decide) (p_c (d := .int 0)))
    (s_seq (s_for (i_lst (p_var (i := 0) (by decide))) (g_name (i := 2) (by decide)) (fun _ => (s_alias (by decide) (p_op rv_mod (p_op rv_add (p_op rv_add (p_op rv_mul (p_var (i := 1) (by decide)) (p_c (d := .int 48271))) (p_op rv_mul (p_var (i := 2) (by decide)) (p_c (d := .int 69621)))) (p_c (d := .int 11))) (p_c (d := .int 2147483647))))))
    (s_ret (e_pure (p_lst (p_cons (p_cs rc_list (p_cons (p_var (i := 0) (by decide)) p_nil)) (p_cons (p_op rv_mul (p_var (i := 1) (by decide)) (p_cb rc_int (p_cons (p_op rv_gt (p_len (p_var (i := 0) (by decide))) (p_c (d := .int 2))) p_nil))) p_nil)))))))⟩
theorem ok__law_take (T : Txt K mg) : FnOk P w K mg base CX0 1 T.a__law_take T.d__law_take ["_law_box", "_law_many"] (spMv K 2 g__law_take) := by
  refine fn_mv T.F__law_take sc__law_take (fun cdv A outer s H E as hr => ?_)
  exact ⟨_, (pss_cons (ps_if (pt_cmpR (r := rEqD K) (op_eqD hr.units) (pe_ix (r := rIxL K) ix_list (pv 0) pe_int (fun _ _ => rfl)) (pe_lst pa_nil) (nomark _)) (pss_cons (ps_asg (pe_op op_mod (pe_op op_mul (pe_ix (r := rIxL K) ix_list (pv 0) pe_int (fun _ _ => rfl)) pe_int) pe_int) (pg_sub (pv 0) pe_int set_list))
    (pss_one (ps_ret (pe_op op_mod (pe_op op_fdiv (pe_ix (r := rIxL K) ix_list (pv 0) pe_int (fun _ _ => rfl)) pe_int) (pv 1))))) pss_nil)
    (pss_cons (ps_set (i := 2) sc__law_take.nd rfl (Or.inl rfl) (pe_ix (r := rIxL K) ix_list (pe_ix (r := rIxL K) ix_list (pv 0) pe_int (fun _ _ => rfl)) pe_int (fun _ _ => rfl)))
    (pss_cons (ps_asg (pe_op op_fdiv (pv 2) (pv 1)) (pg_sub (pe_ix (r := rIxL K) ix_list (pv 0) pe_int (fun _ _ => rfl)) pe_int set_list))
    (pss_cons (ps_if (PW.pt (pw_or (pt_cmpR op_eq (pe_ix (r := rIxL K) ix_list (pe_ix (r := rIxL K) ix_list (pv 0) pe_int (fun _ _ => rfl)) pe_int (fun _ _ => rfl)) pe_int (nomark _)) (pw_or1 (pt_cmpR op_eq (pe_ix (r := rIxL K) ix_list (pe_ix (r := rIxL K) ix_list (pv 0) pe_int (fun _ _ => rfl)) pe_int (fun _ _ => rfl)) (pe_un un_neg pe_int) (nomark _))))) (pss_one (ps_expr (pe_K (t := fun K => tBM K "list" rPopAt _ _) (pe_bm PySem.F.plainAttrs_list PySem.F.slot_list_pop PySem.F.type_list_pop mt_popAt (pe_ix (r := rIxL K) ix_list (pv 0) pe_int (fun _ _ => rfl)) (pa_cons pe_int pa_nil))))) pss_nil)
    (pss_one (ps_ret (pe_op op_mod (pv 2) (pv 1)))))))),
    fun W => (s_seq (s_if (e_pureT (p_test (p_op rv_eqD (p_ixL (p_var (i := 0) (by decide)) (p_c (d := .int 0))) (p_lst p_nil)))) (s_seq (s_lset (p_var (i := 0) (by decide)) (p_c (d := .int 1)) (e_pure (p_op rv_mod (p_op rv_mul (p_ixL (p_var (i := 0) (by decide)) (p_c (d := .int 1))) (p_c (d := .int 48271))) (p_c (d := .int 2147483647)))))
    (s_ret (e_pure (p_op rv_mod (p_op rv_div (p_ixL (p_var (i := 0) (by decide)) (p_c (d := .int 1))) (p_c (d := .int 7))) (p_var (i := 1) (by decide)))))) s_next)
    (s_seq (s_alias (by decide) (p_ixL (p_ixL (p_var (i := 0) (by decide)) (p_c (d := .int 0))) (p_c (d := .int 0))))
    (s_seq (s_lset (p_ixL (p_var (i := 0) (by decide)) (p_c (d := .int 0))) (p_c (d := .int 0)) (e_pure (p_op rv_div (p_var (i := 2) (by decide)) (p_var (i := 1) (by decide)))))
    (s_seq (s_if (e_pureT (p_or (p_test (p_op rv_eq (p_ixL (p_ixL (p_var (i := 0) (by decide)) (p_c (d := .int 0))) (p_c (d := .int 0))) (p_c (d := .int 0)))) (p_test (p_op rv_eq (p_ixL (p_ixL (p_var (i := 0) (by decide)) (p_c (d := .int 0))) (p_c (d := .int 0))) (p_neg (p_c (d := .int 1))))))) (s_drop (e_bm1 nd_popAt (p_ixL (p_var (i := 0) (by decide)) (p_c (d := .int 0))) (p_c (d := .int 0)))) s_next)
    (s_ret (e_pure (p_op rv_mod (p_var (i := 2) (by decide)) (p_var (i := 1) (by decide)))))))))⟩
theorem step__law_alike (T : Txt K mg) {g : List S → Option (S × List S)} {k : Nat} (G : FnOk P w K mg base CX0 k T.a__law_alike T.d__law_alike ["_law_found", "_law_due_here"] (spMv K 2 g)) : FnOk P w K mg base CX0 (k + 1) T.a__law_alike T.d__law_alike ["_law_found", "_law_due_here"] (spMv K 2 (fnG 3 (f__law_alike g))) := by
  refine fn_mv T.F__law_alike sc__law_alike (fun cdv A outer s H E as hr => ?_)
  exact ⟨_, (pss_cons (ps_if (pt_cmpR op_isN (pv 1) pe_non (nomark _)) (pss_one (ps_ret (pe_cmpR op_isN (pv 0) pe_non (nomark _)))) pss_nil)
    (pss_cons (ps_if (pt_val (pe_callB (r := rIsi K) call_isi (by rfl) T.n_isinstance (by decide +kernel) (pa_cons (pv 1) (pa_cons (pe_bltn (v := .ty "bool") (u := .type "bool") (by rfl) T.n_bool (by decide +kernel) rfl) pa_nil)))) (pss_one (ps_ret (pe_and (pe_callB (r := rIsi K) call_isi (by rfl) T.n_isinstance (by decide +kernel) (pa_cons (pv 0) (pa_cons (pe_bltn (v := .ty "bool") (u := .type "bool") (by rfl) T.n_bool (by decide +kernel) rfl) pa_nil))) (pe_one (pe_cmpR (r := rEqD K) (op_eqD hr.units) (pv 0) (pv 1) (nomark _)))))) pss_nil)
    (pss_cons (ps_if (pt_val (pe_callB (r := rIsi K) call_isi (by rfl) T.n_isinstance (by decide +kernel) (pa_cons (pv 1) (pa_cons (pe_bltn (v := .ty "int") (u := .type "int") (by rfl) T.n_int (by decide +kernel) rfl) pa_nil)))) (pss_one (ps_ret (pe_and (pe_callB (r := rIsi K) call_isi (by rfl) T.n_isinstance (by decide +kernel) (pa_cons (pv 0) (pa_cons (pe_bltn (v := .ty "int") (u := .type "int") (by rfl) T.n_int (by decide +kernel) rfl) pa_nil))) (pe_and (pe_not (pe_callB (r := rIsi K) call_isi (by rfl) T.n_isinstance (by decide +kernel) (pa_cons (pv 0) (pa_cons (pe_bltn (v := .ty "bool") (u := .type "bool") (by rfl) T.n_bool (by decide +kernel) rfl) pa_nil)))) (pe_one (pe_cmpR (r := rEqD K) (op_eqD hr.units) (pv 0) (pv 1) (nomark _))))))) pss_nil)
    (pss_cons (ps_if (pt_val (pe_callB (r := rIsi K) call_isi (by rfl) T.n_isinstance (by decide +kernel) (pa_cons (pv 1) (pa_cons (pe_bltn (v := .ty "str") (u := .type "str") (by rfl) T.n_str (by decide +kernel) rfl) pa_nil)))) (pss_one (ps_ret (pe_and (pe_callB (r := rIsi K) call_isi (by rfl) T.n_isinstance (by decide +kernel) (pa_cons (pv 0) (pa_cons (pe_bltn (v := .ty "str") (u := .type "str") (by rfl) T.n_str (by decide +kernel) rfl) pa_nil))) (pe_one (pe_cmpR (r := rEqD K) (op_eqD hr.units) (pv 0) (pv 1) (nomark _)))))) pss_nil)
    (pss_cons (ps_if (PW.pt (pw_or (pt_cmpR op_ne (pe_callB (r := rIsi K) call_isi (by rfl) T.n_isinstance (by decide +kernel) (pa_cons (pv 1) (pa_cons (pe_bltn (v := .ty "tuple") (u := .type "tuple") (by rfl) T.n_tuple (by decide +kernel) rfl) pa_nil))) (pe_callB (r := rIsi K) call_isi (by rfl) T.n_isinstance (by decide +kernel) (pa_cons (pv 0) (pa_cons (pe_bltn (v := .ty "tuple") (u := .type "tuple") (by rfl) T.n_tuple (by decide +kernel) rfl) pa_nil))) (nomark _)) (pw_or1 (pt_cmpR op_ne (pe_callB (r := rIsi K) call_isi (by rfl) T.n_isinstance (by decide +kernel) (pa_cons (pv 1) (pa_cons (pe_bltn (v := .ty "list") (u := .type "list") (by rfl) T.n_list (by decide +kernel) rfl) pa_nil))) (pe_callB (r := rIsi K) call_isi (by rfl) T.n_isinstance (by decide +kernel) (pa_cons (pv 0) (pa_cons (pe_bltn (v := .ty "list") (u := .type "list") (by rfl) T.n_list (by decide +kernel) rfl) pa_nil))) (nomark _))))) (pss_one (ps_ret pe_bl)) pss_nil)
    (pss_cons (ps_if (pt_cmpR op_ne (pe_callB (r := rLenK K) call_lenK (by rfl) T.n_len PySem.boot_len (pa_cons (pv 0) pa_nil)) (pe_callB (r := rLenK K) call_lenK (by rfl) T.n_len PySem.boot_len (pa_cons (pv 1) pa_nil)) (nomark _)) (pss_one (ps_ret pe_bl)) pss_nil)
    (pss_cons (ps_for PassesOwn.never rfl (pi_range1 (by rfl) T.n_range (pa_cons (pe_callB (r := rLenK K) call_lenK (by rfl) T.n_len PySem.boot_len (pa_cons (pv 1) pa_nil)) pa_nil)) (pg_name (i := 2) sc__law_alike.nd rfl (Or.inl rfl)) (pss_one (ps_if (pt_not (pt_val (pe_call G (hr.mono (Nat.le_refl _)) rfl T.m__law_alike T.F__law_alike.kp T.b__law_alike .nil pass0 (pa_cons (pe_ix (r := rIxT K) ix_tup (pv 0) (pv 2) (fun _ _ => rfl)) (pa_cons (pe_ix (r := rIxT K) ix_tup (pv 1) (pv 2) (fun _ _ => rfl)) pa_nil))))) (pss_one (ps_ret pe_bl)) pss_nil)))
    (pss_one (ps_ret pe_bl))))))))),
    fun W => (s_seq (s_if (e_pureT (p_test (p_op rv_isN (p_var (i := 1) (by decide)) (p_c (d := .none))))) (s_ret (e_pure (p_op rv_isN (p_var (i := 0) (by decide)) (p_c (d := .none))))) s_next)
    (s_seq (s_if (e_pureT (p_tB (p_isi (T := .bool) (p_var (i := 1) (by decide))))) (s_ret (e_pure (p_andV (p_isi (T := .bool) (p_var (i := 0) (by decide))) (p_op rv_eqD (p_var (i := 0) (by decide)) (p_var (i := 1) (by decide)))))) s_next)
    (s_seq (s_if (e_pureT (p_tB (p_isi (T := .int) (p_var (i := 1) (by decide))))) (s_ret (e_pure (p_andV (p_isi (T := .int) (p_var (i := 0) (by decide))) (p_andV (p_notV (p_isi (T := .bool) (p_var (i := 0) (by decide)))) (p_op rv_eqD (p_var (i := 0) (by decide)) (p_var (i := 1) (by decide))))))) s_next)
    (s_seq (s_if (e_pureT (p_tB (p_isi (T := .str) (p_var (i := 1) (by decide))))) (s_ret (e_pure (p_andV (p_isi (T := .str) (p_var (i := 0) (by decide))) (p_op rv_eqD (p_var (i := 0) (by decide)) (p_var (i := 1) (by decide)))))) s_next)
    (s_seq (s_if (e_pureT (p_or (p_test (p_op rv_ne (p_isi (T := .tuple) (p_var (i := 1) (by decide))) (p_isi (T := .tuple) (p_var (i := 0) (by decide))))) (p_test (p_op rv_ne (p_isi (T := .list) (p_var (i := 1) (by decide))) (p_isi (T := .list) (p_var (i := 0) (by decide))))))) (s_ret (e_pure (p_c (d := .bool false)))) s_next)
    (s_seq (s_if (e_pureT (p_test (p_op rv_ne (p_len (p_var (i := 0) (by decide))) (p_len (p_var (i := 1) (by decide)))))) (s_ret (e_pure (p_c (d := .bool false)))) s_next)
    (s_seq (s_for (i_range (p_len (p_var (i := 1) (by decide)))) (g_name (i := 2) (by decide)) (fun _ => (s_if (e_not (e_tB (e_call (p_cons (p_ixT (p_var (i := 0) (by decide)) (p_var (i := 2) (by decide))) (p_cons (p_ixT (p_var (i := 1) (by decide)) (p_var (i := 2) (by decide))) p_nil)) (dl_cons (dl_cons dl_nil))))) (s_ret (e_pure (p_c (d := .bool false)))) s_next)))
    (s_ret (e_pure (p_c (d := .bool true)))))))))))⟩
theorem all__law_alike (T : Txt K mg) : ∀ j : Nat, FnOk P w K mg base CX0 j T.a__law_alike T.d__law_alike ["_law_found", "_law_due_here"] (spMv K 2 (g__law_alike j))
  | 0 => fn_none (ps := ["_law_found", "_law_due_here"])
  | j + 1 => step__law_alike T (all__law_alike T j)
theorem ok__law_alike (T : Txt K mg) : FnOk P w K mg base CX0 1 T.a__law_alike T.d__law_alike ["_law_found", "_law_due_here"] (spMv K 2 (g__law_alike 1)) := all__law_alike T 1
theorem ok__law_deeds (T : Txt K mg) : FnOk P w K mg base CX0 2 T.a__law_deeds T.d__law_deeds ["_law_box"] (spMv K 1 g__law_deeds) := by
  refine fn_mv T.F__law_deeds sc__law_deeds (fun cdv A outer s H E as hr => ?_)
  have hu := hu_of hr
  exact ⟨_, (pss_cons (ps_set (i := 1) sc__law_deeds.nd rfl (Or.inl rfl) (pe_lst pa_nil))
    (pss_cons (ps_par3 (i := 2) (j := 3) (l := 4) (by rfl) sc__law_deeds.nd rfl rfl rfl (by decide) (by decide) (by decide) rfl rfl rfl (pa_cons pe_dnewK (pa_cons pe_dnewK (pa_cons pe_int pa_nil))) (by rfl))
    (pss_cons (ps_set (i := 5) sc__law_deeds.nd rfl (Or.inl rfl) (pe_ix (r := rIxL K) ix_list (pe_lst (pa_cons pe_int (pa_cons pe_int pa_nil))) (pe_call (ok__law_take T) (hr.mono (by decide)) rfl T.m__law_take T.F__law_take.kp T.b__law_take .nil pass0 (pa_cons (pv 0) (pa_cons pe_int pa_nil))) (fun _ _ => rfl)))
    (pss_cons (ps_for PassesOwn.never rfl (pi_range1 (by rfl) T.n_range (pa_cons (pe_call (ok__law_take T) (hr.mono (by decide)) rfl T.m__law_take T.F__law_take.kp T.b__law_take .nil pass0 (pa_cons (pv 0) (pa_cons (pe_ix (r := rIxL K) ix_list (pe_lst (pa_cons pe_int (pa_cons pe_int pa_nil))) (pe_op op_fdiv (pe_call (ok__law_take T) (hr.mono (by decide)) rfl T.m__law_take T.F__law_take.kp T.b__law_take .nil pass0 (pa_cons (pv 0) (pa_cons pe_int pa_nil))) pe_int) (fun _ _ => rfl)) pa_nil))) pa_nil)) (pg_name (i := 6) sc__law_deeds.nd rfl (Or.inl rfl)) (pss_cons (ps_par3 (i := 7) (j := 8) (l := 9) (by rfl) sc__law_deeds.nd rfl rfl rfl (by decide) (by decide) (by decide) rfl rfl rfl (pa_cons (pe_call (ok__law_take T) (hr.mono (by decide)) rfl T.m__law_take T.F__law_take.kp T.b__law_take .nil pass0 (pa_cons (pv 0) (pa_cons (pv 5) pa_nil))) (pa_cons (pe_call (ok__law_take T) (hr.mono (by decide)) rfl T.m__law_take T.F__law_take.kp T.b__law_take .nil pass0 (pa_cons (pv 0) (pa_cons pe_int pa_nil))) (pa_cons (pe_op op_sub (pe_call (ok__law_take T) (hr.mono (by decide)) rfl T.m__law_take T.F__law_take.kp T.b__law_take .nil pass0 (pa_cons (pv 0) (pa_cons pe_int pa_nil))) pe_int) pa_nil))) (by rfl))
    (pss_cons (ps_set (i := 4) sc__law_deeds.nd rfl (Or.inl rfl) (pe_op op_add (pv 4) (pe_op op_fdiv (pe_call (ok__law_take T) (hr.mono (by decide)) rfl T.m__law_take T.F__law_take.kp T.b__law_take .nil pass0 (pa_cons (pv 0) (pa_cons pe_int pa_nil))) pe_int)))
    (pss_cons (ps_asg (pe_dget2 hu (pv 2) (pv 7) (pe_tupF (pa_cons pe_int (pa_cons pe_int pa_nil))) ⟨rfl, rfl, rfl, rfl⟩) (pg_tup rfl (pgs_cons (pg_name (i := 10) sc__law_deeds.nd rfl (Or.inl rfl)) (pgs_cons (pg_name (i := 11) sc__law_deeds.nd rfl (Or.inl rfl)) pgs_nil))))
    (pss_cons (ps_dput hu (pv 2) (pv 7) (pe_tupF (pa_cons (pe_op op_add (pv 10) pe_int) (pa_cons (pe_op op_mod (pe_op op_add (pv 11) (pv 9)) pe_int) pa_nil))) rfl)
    (pss_cons (ps_dput hu (pv 3) (pv 8) (pe_op op_add (pe_dget2 hu (pv 3) (pv 8) pe_int ⟨rfl, rfl, rfl, rfl⟩) pe_int) rfl)
    (pss_one (ps_expr (pe_K (t := fun K => tBM K "list" rAppend _ _) (pe_bm PySem.F.plainAttrs_list PySem.F.slot_list_append PySem.F.type_list_append mt_append (pv 1) (pa_cons (pe_op (r := rCatF K) op_catF (pe_op (r := rCatF K) op_catF (pe_tupF (pa_cons (pv 7) (pa_cons (pe_op op_add (pv 10) pe_int) (pa_cons (pv 8) (pa_cons (pe_dget hu (pv 3) (pv 8) (fun _ _ => rfl)) (pa_cons (pv 9) pa_nil)))))) (pe_slice (r := rSlF K) sl_tupF (pe_dget hu (pv 2) (pv 7) (fun _ _ => rfl)) (po_some pe_int) po_none)) (pe_tupF (pa_cons (pv 4) pa_nil))) pa_nil)))))))))))
    (pss_one (ps_ret (pv 1))))))),
    fun W => (s_seq (s_alias (by decide) (p_lst p_nil))
    (s_seq (s_parL3 (by decide) (by decide) (by decide) (l_consP p_newD (fun _ => (l_consP p_newD (fun _ => (l_consP (p_c (d := .int 0)) (fun _ => l_nil)))))))
    (s_seq (s_set (by decide) (e_op2E (fun a b => p_ixL a b) (l_consP (p_lst (p_cons (p_c (d := .int 2)) (p_cons (p_c (d := .int 12)) p_nil))) (fun _ => (l_consE (e_call (p_cons (p_var (i := 0) (by decide)) (p_cons (p_c (d := .int 2)) p_nil)) (dl_cons (dl_cons dl_nil))) (fun _ => l_nil))))))
    (s_seq (s_for (i_rangeE (e_callE (l_consP (p_var (i := 0) (by decide)) (fun _ => (l_consE (e_op2E (fun a b => p_ixL a b) (l_consP (p_lst (p_cons (p_c (d := .int 31)) (p_cons (p_c (d := .int 100)) p_nil))) (fun _ => (l_consE (e_op rv_div (e_call (p_cons (p_var (i := 0) (by decide)) (p_cons (p_c (d := .int 3)) p_nil)) (dl_cons (dl_cons dl_nil))) (e_pure (p_c (d := .int 2)))) (fun _ => l_nil))))) (fun _ => l_nil)))))) (g_name (i := 6) (by decide)) (fun _ => (s_seq (s_parL3 (by decide) (by decide) (by decide) (l_consE (e_call (p_cons (p_var (i := 0) (by decide)) (p_cons (p_var (i := 5) (by decide)) p_nil)) (dl_cons (dl_cons dl_nil))) (fun _ => (l_consE (e_call (p_cons (p_var (i := 0) (by decide)) (p_cons (p_c (d := .int 6)) p_nil)) (dl_cons (dl_cons dl_nil))) (fun _ => (l_consE (e_op rv_sub (e_call (p_cons (p_var (i := 0) (by decide)) (p_cons (p_c (d := .int 199)) p_nil)) (dl_cons (dl_cons dl_nil))) (e_pure (p_c (d := .int 99)))) (fun _ => l_nil)))))))
    (s_seq (s_set (by decide) (e_op rv_add (e_pure (p_var (i := 4) (by decide))) (e_op rv_div (e_call (p_cons (p_var (i := 0) (by decide)) (p_cons (p_c (d := .int 6)) p_nil)) (dl_cons (dl_cons dl_nil))) (e_pure (p_c (d := .int 5))))))
    (s_seq (s_asg (g_tup (gs_cons (g_name (i := 10) (by decide)) (gs_cons (g_name (i := 11) (by decide)) gs_nil))) (e_pure (p_dget2 (p_var (i := 2) (by decide)) (p_var (i := 7) (by decide)) (p_tup (p_cons (p_c (d := .int 0)) (p_cons (p_c (d := .int 0)) p_nil))))))
    (s_seq (s_dput (p_var (i := 2) (by decide)) (p_var (i := 7) (by decide)) (e_pure (p_tup (p_cons (p_op rv_add (p_var (i := 10) (by decide)) (p_c (d := .int 1))) (p_cons (p_op rv_mod (p_op rv_add (p_var (i := 11) (by decide)) (p_var (i := 9) (by decide))) (p_c (d := .int 1000))) p_nil)))))
    (s_seq (s_dput (p_var (i := 3) (by decide)) (p_var (i := 8) (by decide)) (e_pure (p_op rv_add (p_dget2 (p_var (i := 3) (by decide)) (p_var (i := 8) (by decide)) (p_c (d := .int 0))) (p_c (d := .int 1)))))
    (s_drop (e_bm1 nd_append (p_var (i := 1) (by decide)) (p_opS rv_catT (p_opS rv_catT (p_tup (p_cons (p_var (i := 7) (by decide)) (p_cons (p_op rv_add (p_var (i := 10) (by decide)) (p_c (d := .int 1))) (p_cons (p_var (i := 8) (by decide)) (p_cons (p_dget (p_var (i := 3) (by decide)) (p_var (i := 8) (by decide))) (p_cons (p_var (i := 9) (by decide)) p_nil)))))) (p_sliceT (p_dget (p_var (i := 2) (by decide)) (p_var (i := 7) (by decide))) (p_part (p_c (d := .int 1))) p_noPart)) (p_tup (p_cons (p_var (i := 4) (by decide)) p_nil))))))))))))
    (s_ret (e_move (i := 1) (by decide)))))))⟩
theorem ok__law_bent (T : Txt K mg) : FnOk P w K mg base CX0 2 T.a__law_bent T.d__law_bent ["_law_box", "_law_deeds_here"] (spMv K 2 g__law_bent) := by
  refine fn_mv T.F__law_bent sc__law_bent (fun cdv A outer s H E as hr => ?_)
  exact ⟨_, (pss_cons (ps_if (pt_cmpR (r := rEqD K) (op_eqD hr.units) (pv 1) (pe_lst pa_nil) (nomark _)) (pss_one (ps_ret (pv 1))) pss_nil)
    (pss_cons (ps_set (i := 2) sc__law_bent.nd rfl (Or.inl rfl) (pe_call (ok__law_take T) (hr.mono (by decide)) rfl T.m__law_take T.F__law_take.kp T.b__law_take .nil pass0 (pa_cons (pv 0) (pa_cons (pe_callB (r := rLenK K) call_lenK (by rfl) T.n_len PySem.boot_len (pa_cons (pv 1) pa_nil)) pa_nil))))
    (pss_cons (ps_set (i := 3) sc__law_bent.nd rfl (Or.inl rfl) (pe_call (ok__law_take T) (hr.mono (by decide)) rfl T.m__law_take T.F__law_take.kp T.b__law_take .nil pass0 (pa_cons (pv 0) (pa_cons pe_int pa_nil))))
    (pss_cons (ps_if (pt_cmpR op_eq (pv 3) pe_int (nomark _)) (pss_one (ps_ret (pe_op (r := rCatS K) op_catS (pe_slice (r := rSlL K) sl_list (pv 1) po_none (po_some (pv 2))) (pe_slice (r := rSlL K) sl_list (pv 1) (po_some (pe_op op_add (pv 2) pe_int)) po_none)))) pss_nil)
    (pss_cons (ps_if (pt_cmpR op_eq (pv 3) pe_int (nomark _)) (pss_one (ps_ret (pe_op (r := rCatS K) op_catS (pe_slice (r := rSlL K) sl_list (pv 1) po_none (po_some (pe_op op_add (pv 2) pe_int))) (pe_slice (r := rSlL K) sl_list (pv 1) (po_some (pv 2)) po_none)))) pss_nil)
    (pss_cons (ps_if (pt_cmpR op_eq (pv 3) pe_int (nomark _)) (pss_one (ps_ret (pe_op (r := rCatS K) op_catS (pe_op (r := rCatS K) op_catS (pe_slice (r := rSlL K) sl_list (pv 1) po_none (po_some (pv 2))) (pe_revL (pe_slice (r := rSlL K) sl_list (pv 1) (po_some (pv 2)) (po_some (pe_op op_add (pv 2) pe_int))))) (pe_slice (r := rSlL K) sl_list (pv 1) (po_some (pe_op op_add (pv 2) pe_int)) po_none)))) pss_nil)
    (pss_cons (ps_set (i := 4) sc__law_bent.nd rfl (Or.inl rfl) (pe_call (ok__law_take T) (hr.mono (by decide)) rfl T.m__law_take T.F__law_take.kp T.b__law_take .nil pass0 (pa_cons (pv 0) (pa_cons pe_int pa_nil))))
    (pss_cons (ps_set (i := 5) sc__law_bent.nd rfl (Or.inl rfl) (pe_op op_add (pe_ix (r := rIxT K) ix_tup (pe_ix (r := rIxL K) ix_list (pv 1) (pv 2) (fun _ _ => rfl)) (pv 4) (fun _ _ => rfl)) (pe_ix (r := rIxL K) ix_list (pe_lst (pa_cons pe_int (pa_cons (pe_un un_neg pe_int) (pa_cons pe_int (pa_cons pe_int pa_nil))))) (pe_call (ok__law_take T) (hr.mono (by decide)) rfl T.m__law_take T.F__law_take.kp T.b__law_take .nil pass0 (pa_cons (pv 0) (pa_cons pe_int pa_nil))) (fun _ _ => rfl))))
    (pss_cons (ps_if (pt_cmpR op_eq (pv 4) pe_int (nomark _)) (pss_one (ps_set (i := 5) sc__law_bent.nd rfl (Or.inl rfl) (pe_op op_mod (pe_op op_add (pe_ix (r := rIxT K) ix_tup (pe_ix (r := rIxL K) ix_list (pv 1) (pv 2) (fun _ _ => rfl)) pe_int (fun _ _ => rfl)) pe_int) pe_int))) pss_nil)
    (pss_cons (ps_if (pt_cmpR op_eq (pv 4) pe_int (nomark _)) (pss_one (ps_set (i := 5) sc__law_bent.nd rfl (Or.inl rfl) (pe_op op_mod (pe_op op_add (pe_ix (r := rIxT K) ix_tup (pe_ix (r := rIxL K) ix_list (pv 1) (pv 2) (fun _ _ => rfl)) pe_int (fun _ _ => rfl)) pe_int) pe_int))) pss_nil)
    (pss_one (ps_ret (pe_op (r := rCatS K) op_catS (pe_op (r := rCatS K) op_catS (pe_slice (r := rSlL K) sl_list (pv 1) po_none (po_some (pv 2))) (pe_lst (pa_cons (pe_op (r := rCatF K) op_catF (pe_op (r := rCatF K) op_catF (pe_slice (r := rSlF K) sl_tupF (pe_ix (r := rIxL K) ix_list (pv 1) (pv 2) (fun _ _ => rfl)) po_none (po_some (pv 4))) (pe_tupF (pa_cons (pv 5) pa_nil))) (pe_slice (r := rSlF K) sl_tupF (pe_ix (r := rIxL K) ix_list (pv 1) (pv 2) (fun _ _ => rfl)) (po_some (pe_op op_add (pv 4) pe_int)) po_none)) pa_nil))) (pe_slice (r := rSlL K) sl_list (pv 1) (po_some (pe_op op_add (pv 2) pe_int)) po_none)))))))))))))),
    fun W => (s_seq (s_if (e_pureT (p_test (p_op rv_eqD (p_var (i := 1) (by decide)) (p_lst p_nil)))) (s_ret (e_move (i := 1) (by decide))) s_next)
    (s_seq (s_set (by decide) (e_call (p_cons (p_var (i := 0) (by decide)) (p_cons (p_len (p_var (i := 1) (by decide))) p_nil)) (dl_cons (dl_cons dl_nil))))
    (s_seq (s_set (by decide) (e_call (p_cons (p_var (i := 0) (by decide)) (p_cons (p_c (d := .int 5)) p_nil)) (dl_cons (dl_cons dl_nil))))
    (s_seq (s_if (e_pureT (p_test (p_op rv_eq (p_var (i := 3) (by decide)) (p_c (d := .int 0))))) (s_ret (e_pure (p_opS rv_catL (p_sliceL (p_var (i := 1) (by decide)) p_noPart (p_part (p_var (i := 2) (by decide)))) (p_sliceL (p_var (i := 1) (by decide)) (p_part (p_op rv_add (p_var (i := 2) (by decide)) (p_c (d := .int 1)))) p_noPart)))) s_next)
    (s_seq (s_if (e_pureT (p_test (p_op rv_eq (p_var (i := 3) (by decide)) (p_c (d := .int 1))))) (s_ret (e_pure (p_opS rv_catL (p_sliceL (p_var (i := 1) (by decide)) p_noPart (p_part (p_op rv_add (p_var (i := 2) (by decide)) (p_c (d := .int 1))))) (p_sliceL (p_var (i := 1) (by decide)) (p_part (p_var (i := 2) (by decide))) p_noPart)))) s_next)
    (s_seq (s_if (e_pureT (p_test (p_op rv_eq (p_var (i := 3) (by decide)) (p_c (d := .int 2))))) (s_ret (e_pure (p_opS rv_catL (p_opS rv_catL (p_sliceL (p_var (i := 1) (by decide)) p_noPart (p_part (p_var (i := 2) (by decide)))) (p_revL (p_sliceL (p_var (i := 1) (by decide)) (p_part (p_var (i := 2) (by decide))) (p_part (p_op rv_add (p_var (i := 2) (by decide)) (p_c (d := .int 2))))))) (p_sliceL (p_var (i := 1) (by decide)) (p_part (p_op rv_add (p_var (i := 2) (by decide)) (p_c (d := .int 2)))) p_noPart)))) s_next)
    (s_seq (s_set (by decide) (e_call (p_cons (p_var (i := 0) (by decide)) (p_cons (p_c (d := .int 7)) p_nil)) (dl_cons (dl_cons dl_nil))))
    (s_seq (s_set (by decide) (e_op rv_add (e_pure (p_ixT (p_ixL (p_var (i := 1) (by decide)) (p_var (i := 2) (by decide))) (p_var (i := 4) (by decide)))) (e_op2E (fun a b => p_ixL a b) (l_consP (p_lst (p_cons (p_c (d := .int 1)) (p_cons (p_neg (p_c (d := .int 1))) (p_cons (p_c (d := .int 5)) (p_cons (p_c (d := .int 1000)) p_nil))))) (fun _ => (l_consE (e_call (p_cons (p_var (i := 0) (by decide)) (p_cons (p_c (d := .int 4)) p_nil)) (dl_cons (dl_cons dl_nil))) (fun _ => l_nil)))))))
    (s_seq (s_if (e_pureT (p_test (p_op rv_eq (p_var (i := 4) (by decide)) (p_c (d := .int 0))))) (s_alias (by decide) (p_op rv_mod (p_op rv_add (p_ixT (p_ixL (p_var (i := 1) (by decide)) (p_var (i := 2) (by decide))) (p_c (d := .int 0))) (p_c (d := .int 1))) (p_c (d := .int 12)))) s_next)
    (s_seq (s_if (e_pureT (p_test (p_op rv_eq (p_var (i := 4) (by decide)) (p_c (d := .int 2))))) (s_alias (by decide) (p_op rv_mod (p_op rv_add (p_ixT (p_ixL (p_var (i := 1) (by decide)) (p_var (i := 2) (by decide))) (p_c (d := .int 2))) (p_c (d := .int 1))) (p_c (d := .int 6)))) s_next)
    (s_ret (e_pure (p_opS rv_catL (p_opS rv_catL (p_sliceL (p_var (i := 1) (by decide)) p_noPart (p_part (p_var (i := 2) (by decide)))) (p_lst (p_cons (p_opS rv_catT (p_opS rv_catT (p_sliceT (p_ixL (p_var (i := 1) (by decide)) (p_var (i := 2) (by decide))) p_noPart (p_part (p_var (i := 4) (by decide)))) (p_tup (p_cons (p_var (i := 5) (by decide)) p_nil))) (p_sliceT (p_ixL (p_var (i := 1) (by decide)) (p_var (i := 2) (by decide))) (p_part (p_op rv_add (p_var (i := 4) (by decide)) (p_c (d := .int 1)))) p_noPart)) p_nil))) (p_sliceL (p_var (i := 1) (by decide)) (p_part (p_op rv_add (p_var (i := 2) (by decide)) (p_c (d := .int 1)))) p_noPart))))))))))))))⟩
theorem ok__law_due (T : Txt K mg) : FnOk P w K mg base CX0 1 T.a__law_due T.d__law_due ["_law_deeds_here"] (spMv K 1 g__law_due) := by
  refine fn_mv T.F__law_due sc__law_due (fun cdv A outer s H E as hr => ?_)
  exact ⟨_, (pss_cons (ps_for PassesOwn.never rfl (pi_range1 (by rfl) T.n_range (pa_cons (pe_callB (r := rLenK K) call_lenK (by rfl) T.n_len PySem.boot_len (pa_cons (pv 0) pa_nil)) pa_nil)) (pg_name (i := 1) sc__law_due.nd rfl (Or.inl rfl)) (pss_cons (ps_asg (pe_ix (r := rIxL K) ix_list (pv 0) (pv 1) (fun _ _ => rfl)) (pg_tup rfl (pgs_cons (pg_name (i := 2) sc__law_due.nd rfl (Or.inr rfl)) (pgs_cons (pg_name (i := 3) sc__law_due.nd rfl (Or.inl rfl)) (pgs_cons (pg_name (i := 4) sc__law_due.nd rfl (Or.inr rfl)) (pgs_cons (pg_name (i := 5) sc__law_due.nd rfl (Or.inl rfl)) (pgs_cons (pg_name (i := 6) sc__law_due.nd rfl (Or.inl rfl)) (pgs_cons (pg_name (i := 7) sc__law_due.nd rfl (Or.inl rfl)) (pgs_cons (pg_name (i := 8) sc__law_due.nd rfl (Or.inl rfl)) pgs_nil)))))))))
    (pss_cons (ps_set (i := 9) sc__law_due.nd rfl (Or.inl rfl) (pe_slice (r := rSlL K) sl_list (pv 0) po_none (po_some (pv 1))))
    (pss_cons (ps_setLc (i := 10) (own := [("_law_deed", 11)]) rfl sc__law_due.nd rfl rfl (sw_true rfl rfl rfl (by decide +kernel)) (pi_list (pv 9)) (blkOk_by (N := ["_law_deeds_here", "_law_place", "_law_slot", "_law_count", "_law_asker", "_law_number", "_law_more", "_law_worth", "_law_make", "_law_ahead", "_law_mine", "_law_deed"]) (sc := defScope s__law_due) (by decide +kernel)) (fun _ _ _ _ _ => pg_name (i := 11) sc__law_due.nd rfl (Or.inl rfl)) (fun _ _ _ _ _ => pts_one (pt_cmpR op_eq (pe_ix (r := rIxT K) ix_tup (pv 11) pe_int (fun _ _ => rfl)) (pv 2) (nomark _))) (fun _ _ _ _ _ => (pv 11)))
    (pss_cons (ps_if (pt_cmpR op_ne (pv 3) (pe_op op_add (pe_ix (r := rIxL K) ix_list (pe_op (r := rCatS K) op_catS (pe_lst (pa_cons pe_int pa_nil)) (pe_lc (own := [("_law_deed", 11)]) rfl sc__law_due.nd (pi_list (pv 10)) (blkOk_by (N := ["_law_deeds_here", "_law_place", "_law_slot", "_law_count", "_law_asker", "_law_number", "_law_more", "_law_worth", "_law_make", "_law_ahead", "_law_mine", "_law_deed"]) (sc := defScope s__law_due) (by decide +kernel)) (fun _ _ _ _ _ => pg_name (i := 11) sc__law_due.nd rfl (Or.inl rfl)) (fun _ _ _ _ _ => pts_nil) (fun _ _ _ _ _ => (pe_ix (r := rIxT K) ix_tup (pv 11) pe_int (fun _ _ => rfl))))) (pe_un un_neg pe_int) (fun _ _ => rfl)) pe_int) (nomark _)) (pss_one (ps_ret (pv 1))) pss_nil)
    (pss_cons (ps_if (pt_cmpR op_ne (pv 7) (pe_op op_mod (pe_op op_add (pe_ix (r := rIxL K) ix_list (pe_op (r := rCatS K) op_catS (pe_lst (pa_cons pe_int pa_nil)) (pe_lc (own := [("_law_deed", 11)]) rfl sc__law_due.nd (pi_list (pv 10)) (blkOk_by (N := ["_law_deeds_here", "_law_place", "_law_slot", "_law_count", "_law_asker", "_law_number", "_law_more", "_law_worth", "_law_make", "_law_ahead", "_law_mine", "_law_deed"]) (sc := defScope s__law_due) (by decide +kernel)) (fun _ _ _ _ _ => pg_name (i := 11) sc__law_due.nd rfl (Or.inl rfl)) (fun _ _ _ _ _ => pts_nil) (fun _ _ _ _ _ => (pe_ix (r := rIxT K) ix_tup (pv 11) pe_int (fun _ _ => rfl))))) (pe_un un_neg pe_int) (fun _ _ => rfl)) (pv 6)) pe_int) (nomark _)) (pss_one (ps_ret (pv 1))) pss_nil)
    (pss_cons (ps_if (pt_cmpR op_ne (pv 5) (pe_op op_add (pe_ix (r := rIxL K) ix_list (pe_op (r := rCatS K) op_catS (pe_lst (pa_cons pe_int pa_nil)) (pe_lc (own := [("_law_deed", 11)]) rfl sc__law_due.nd (pi_list (pv 9)) (blkOk_by (N := ["_law_deeds_here", "_law_place", "_law_slot", "_law_count", "_law_asker", "_law_number", "_law_more", "_law_worth", "_law_make", "_law_ahead", "_law_mine", "_law_deed"]) (sc := defScope s__law_due) (by decide +kernel)) (fun _ _ _ _ _ => pg_name (i := 11) sc__law_due.nd rfl (Or.inl rfl)) (fun _ _ _ _ _ => pts_one (pt_cmpR op_eq (pe_ix (r := rIxT K) ix_tup (pv 11) pe_int (fun _ _ => rfl)) (pv 4) (nomark _))) (fun _ _ _ _ _ => (pe_ix (r := rIxT K) ix_tup (pv 11) pe_int (fun _ _ => rfl))))) (pe_un un_neg pe_int) (fun _ _ => rfl)) pe_int) (nomark _)) (pss_one (ps_ret (pv 1))) pss_nil)
    (pss_one (ps_if (pt_cmpR op_lt (pv 8) (pe_ix (r := rIxL K) ix_list (pe_op (r := rCatS K) op_catS (pe_lst (pa_cons pe_int pa_nil)) (pe_lc (own := [("_law_deed", 11)]) rfl sc__law_due.nd (pi_list (pv 9)) (blkOk_by (N := ["_law_deeds_here", "_law_place", "_law_slot", "_law_count", "_law_asker", "_law_number", "_law_more", "_law_worth", "_law_make", "_law_ahead", "_law_mine", "_law_deed"]) (sc := defScope s__law_due) (by decide +kernel)) (fun _ _ _ _ _ => pg_name (i := 11) sc__law_due.nd rfl (Or.inl rfl)) (fun _ _ _ _ _ => pts_nil) (fun _ _ _ _ _ => (pe_ix (r := rIxT K) ix_tup (pv 11) pe_int (fun _ _ => rfl))))) (pe_un un_neg pe_int) (fun _ _ => rfl)) (nomark _)) (pss_one (ps_ret (pv 1))) pss_nil)))))))))
    (pss_one (ps_ret pe_non))),
    fun W => (s_seq (s_for (i_range (p_len (p_var (i := 0) (by decide)))) (g_name (i := 1) (by decide)) (fun _ => (s_seq (s_asg (g_tup (gs_cons (g_name (i := 2) (by decide)) (gs_cons (g_name (i := 3) (by decide)) (gs_cons (g_name (i := 4) (by decide)) (gs_cons (g_name (i := 5) (by decide)) (gs_cons (g_name (i := 6) (by decide)) (gs_cons (g_name (i := 7) (by decide)) (gs_cons (g_name (i := 8) (by decide)) gs_nil)))))))) (e_pure (p_ixL (p_var (i := 0) (by decide)) (p_var (i := 1) (by decide)))))
    (s_seq (s_alias (by decide) (p_sliceL (p_var (i := 0) (by decide)) p_noPart (p_part (p_var (i := 1) (by decide)))))
    (s_seq (s_set (by decide) (e_lc (by decide) (i_lst (p_var (i := 9) (by decide))) (fun _ => (e_pureT (p_test (p_op rv_eq (p_ixT (p_var (i := 11) (by decide)) (p_c (d := .int 0))) (p_var (i := 2) (by decide)))))) (fun _ => (e_pure (p_var (i := 11) (by decide))))))
    (s_seq (s_if (e_test (e_op rv_ne (e_pure (p_var (i := 3) (by decide))) (e_op rv_add (e_op2E (fun a b => p_ixL a b) (l_consE (e_op2E (fun a b => (p_opS rv_catL) a b) (l_consP (p_lst (p_cons (p_c (d := .int 0)) p_nil)) (fun _ => (l_consE (e_lc (by decide) (i_lst (p_var (i := 10) (by decide))) (fun _ => e_yes) (fun _ => (e_pure (p_ixT (p_var (i := 11) (by decide)) (p_c (d := .int 1)))))) (fun _ => l_nil))))) (fun _ => (l_consP (p_neg (p_c (d := .int 1))) (fun _ => l_nil))))) (e_pure (p_c (d := .int 1)))))) (s_ret (e_move (i := 1) (by decide))) s_next)
    (s_seq (s_if (e_test (e_op rv_ne (e_pure (p_var (i := 7) (by decide))) (e_op rv_mod (e_op rv_add (e_op2E (fun a b => p_ixL a b) (l_consE (e_op2E (fun a b => (p_opS rv_catL) a b) (l_consP (p_lst (p_cons (p_c (d := .int 0)) p_nil)) (fun _ => (l_consE (e_lc (by decide) (i_lst (p_var (i := 10) (by decide))) (fun _ => e_yes) (fun _ => (e_pure (p_ixT (p_var (i := 11) (by decide)) (p_c (d := .int 5)))))) (fun _ => l_nil))))) (fun _ => (l_consP (p_neg (p_c (d := .int 1))) (fun _ => l_nil))))) (e_pure (p_var (i := 6) (by decide)))) (e_pure (p_c (d := .int 1000)))))) (s_ret (e_move (i := 1) (by decide))) s_next)
    (s_seq (s_if (e_test (e_op rv_ne (e_pure (p_var (i := 5) (by decide))) (e_op rv_add (e_op2E (fun a b => p_ixL a b) (l_consE (e_op2E (fun a b => (p_opS rv_catL) a b) (l_consP (p_lst (p_cons (p_c (d := .int 0)) p_nil)) (fun _ => (l_consE (e_lc (by decide) (i_lst (p_var (i := 9) (by decide))) (fun _ => (e_pureT (p_test (p_op rv_eq (p_ixT (p_var (i := 11) (by decide)) (p_c (d := .int 2))) (p_var (i := 4) (by decide)))))) (fun _ => (e_pure (p_ixT (p_var (i := 11) (by decide)) (p_c (d := .int 3)))))) (fun _ => l_nil))))) (fun _ => (l_consP (p_neg (p_c (d := .int 1))) (fun _ => l_nil))))) (e_pure (p_c (d := .int 1)))))) (s_ret (e_move (i := 1) (by decide))) s_next)
    (s_if (e_test (e_op rv_lt (e_pure (p_var (i := 8) (by decide))) (e_op2E (fun a b => p_ixL a b) (l_consE (e_op2E (fun a b => (p_opS rv_catL) a b) (l_consP (p_lst (p_cons (p_c (d := .int 0)) p_nil)) (fun _ => (l_consE (e_lc (by decide) (i_lst (p_var (i := 9) (by decide))) (fun _ => e_yes) (fun _ => (e_pure (p_ixT (p_var (i := 11) (by decide)) (p_c (d := .int 6)))))) (fun _ => l_nil))))) (fun _ => (l_consP (p_neg (p_c (d := .int 1))) (fun _ => l_nil))))))) (s_ret (e_move (i := 1) (by decide))) s_next)))))))))
    (s_ret (e_pure (p_c (d := .none)))))⟩
theorem ok_law (T : Txt K mg) : FnOk P w K mg base CX0 4 T.a_law T.d_law ["_law_script"] (spMv K 1 g_law) := by
  refine fn_mv T.F_law sc_law (fun cdv A outer s H E as hr => ?_)
  exact ⟨_, (pss_cons (ps_set (i := 1) sc_law.nd rfl (Or.inl rfl) (pe_call (ok__law_begun T) (hr.mono (by decide)) rfl T.m__law_begun T.F__law_begun.kp T.b__law_begun .nil pass0 (pa_cons (pv 0) pa_nil)))
    (pss_cons (ps_for PassesOwn.never rfl (pi_range1 (by rfl) T.n_range (pa_cons pe_int pa_nil)) (pg_name (i := 2) sc_law.nd rfl (Or.inl rfl)) (pss_cons (ps_set (i := 3) sc_law.nd rfl (Or.inl rfl) (pe_call (ok__law_deeds T) (hr.mono (by decide)) rfl T.m__law_deeds T.F__law_deeds.kp T.b__law_deeds .nil pass0 (pa_cons (pv 1) pa_nil)))
    (pss_cons (ps_if (pt_not (pt_val (pe_call (ok__law_alike T) (hr.mono (by decide)) rfl T.m__law_alike T.F__law_alike.kp T.b__law_alike .nil pass0 (pa_cons (pe_call (ok_judge T) (hr.mono (by decide)) rfl T.m_judge T.F_judge.kp T.b_judge .nil pass0 (pa_cons (pv 3) pa_nil)) (pa_cons pe_non pa_nil))))) (pss_one (ps_ret pe_bl)) pss_nil)
    (pss_cons (ps_for PassesOwn.never rfl (pi_range1 (by rfl) T.n_range (pa_cons (pe_op op_add pe_int (pe_call (ok__law_take T) (hr.mono (by decide)) rfl T.m__law_take T.F__law_take.kp T.b__law_take .nil pass0 (pa_cons (pv 1) (pa_cons pe_int pa_nil)))) pa_nil)) (pg_name (i := 4) sc_law.nd rfl (Or.inl rfl)) (pss_one (ps_set (i := 3) sc_law.nd rfl (Or.inl rfl) (pe_call (ok__law_bent T) (hr.mono (by decide)) rfl T.m__law_bent T.F__law_bent.kp T.b__law_bent .nil pass0 (pa_cons (pv 1) (pa_cons (pv 3) pa_nil))))))
    (pss_cons (ps_set (i := 5) sc_law.nd rfl (Or.inl rfl) (pe_callTy (r := rListOfK K) call_listK (by rfl) T.n_list (by decide +kernel) (pa_cons (pv 3) pa_nil)))
    (pss_one (ps_for PassesOwn.never rfl (pi_range1 (by rfl) T.n_range (pa_cons pe_int pa_nil)) (pg_name (i := 6) sc_law.nd rfl (Or.inl rfl)) (pss_one (ps_if (PW.pt (pw_or (pt_not (pt_val (pe_call (ok__law_alike T) (hr.mono (by decide)) rfl T.m__law_alike T.F__law_alike.kp T.b__law_alike .nil pass0 (pa_cons (pe_call (ok_judge T) (hr.mono (by decide)) rfl T.m_judge T.F_judge.kp T.b_judge .nil pass0 (pa_cons (pv 5) pa_nil)) (pa_cons (pe_call (ok__law_due T) (hr.mono (by decide)) rfl T.m__law_due T.F__law_due.kp T.b__law_due .nil pass0 (pa_cons (pv 3) pa_nil)) pa_nil))))) (pw_or1 (pt_cmpR (r := rNeD K) (op_neD hr.units) (pv 5) (pv 3) (nomark _))))) (pss_one (ps_ret pe_bl)) pss_nil)))))))))
    (pss_one (ps_ret pe_bl)))),
    fun W => (s_seq (s_set (by decide) (e_call (p_cons (p_var (i := 0) (by decide)) p_nil) (dl_cons dl_nil)))
    (s_seq (s_for (i_range (p_c (d := .int 4))) (g_name (i := 2) (by decide)) (fun _ => (s_seq (s_set (by decide) (e_frz (e_call (p_cons (p_var (i := 1) (by decide)) p_nil) (dl_cons dl_nil))))
    (s_seq (s_if (e_not (e_tB (e_callE (l_consE (e_call (p_cons (p_var (i := 3) (by decide)) p_nil) (dl_cons dl_nil)) (fun _ => (l_consP (p_c (d := .none)) (fun _ => l_nil))))))) (s_ret (e_pure (p_c (d := .bool false)))) s_next)
    (s_seq (s_for (i_rangeE (e_op rv_add (e_pure (p_c (d := .int 1))) (e_call (p_cons (p_var (i := 1) (by decide)) (p_cons (p_c (d := .int 2)) p_nil)) (dl_cons (dl_cons dl_nil))))) (g_name (i := 4) (by decide)) (fun _ => (s_set (by decide) (e_frz (e_call (p_cons (p_var (i := 1) (by decide)) (p_cons (p_var (i := 3) (by decide)) p_nil)) (dl_cons (dl_cons dl_nil)))))))
    (s_seq (s_alias (by decide) (p_frz (p_cs rc_list (p_cons (p_var (i := 3) (by decide)) p_nil))))
    (s_for (i_range (p_c (d := .int 2))) (g_name (i := 6) (by decide)) (fun _ => (s_if (e_or (e_not (e_tB (e_callE (l_consE (e_call (p_cons (p_var (i := 5) (by decide)) p_nil) (dl_cons dl_nil)) (fun _ => (l_consE (e_call (p_cons (p_var (i := 3) (by decide)) p_nil) (dl_cons dl_nil)) (fun _ => l_nil))))))) (e_pureT (p_test (p_op rv_neD (p_var (i := 5) (by decide)) (p_var (i := 3) (by decide)))))) (s_ret (e_pure (p_c (d := .bool false)))) s_next)))))))))
    (s_ret (e_pure (p_c (d := .bool true))))))⟩
end
end K16
/-! what all laws share: rows of numbers, dicts with numbers as keys, the law's box -/
namespace Gn
open PySem PySem.Spec PyProof.Rows L2 Mv
theorem canLay_ints : ∀ (ns : List Int), PyData.canLayAll0 (ns.map PyData.int) = true
  | [] => rfl
  | a :: r => by simp [PyData.canLayAll0, PyData.canLay0, canLay_ints r]
theorem depth_ints : ∀ (ns : List Int), PyData.depthAll (ns.map PyData.int) = 0
  | [] => rfl
  | a :: r => by simp [PyData.depthAll, PyData.depth, depth_ints r]
theorem shaped_list (ns : List Int) : SeqAt.shaped (.list (ns.map PyData.int)) = true := by
  unfold SeqAt.shaped
  simp [PyData.canLay0, canLay_ints, PyData.depth, depth_ints]
theorem eqD_self (ns : List Int) : fEqD (.list (ns.map PyData.int)) (.list (ns.map PyData.int)) = some (.bool true) := by
  unfold fEqD
  rw [if_pos ⟨shaped_list ns, shaped_list ns⟩, SeqAt.eqv_refl _ (by simp [PyData.canLay0, canLay_ints])]
theorem neD_self (ns : List Int) : fNeD (.list (ns.map PyData.int)) (.list (ns.map PyData.int)) = some (.bool false) := by
  unfold fNeD
  rw [if_pos ⟨shaped_list ns, shaped_list ns⟩, SeqAt.eqv_refl _ (by simp [PyData.canLay0, canLay_ints])]; rfl
theorem lI_toD (ns : List Int) : (lI ns).toD = some (.list (ns.map .int)) := by
  show (S.toDs _).map PyData.list = _
  have : (ns.map fun i => S.dat (.int i)) = (ns.map PyData.int).map S.dat := by simp
  rw [this, toDs_dats]; rfl
theorem lI_seqL (ns : List Int) : (lI ns).seqL = some (ns.map .int) := by
  show datsS _ = _
  have : (ns.map fun i => S.dat (.int i)) = (ns.map PyData.int).map S.dat := by simp
  rw [this, datsS_dats]
theorem dCB_go {E : En} {f : List PyData → Option PyData} {dr : En → Option (List Rs)} {rs : List Rs} {ds : List PyData} {c : PyData} (h : dr E = some rs) (h2 : fulls E rs = some ds) (h3 : f ds = some c) : dCB f dr E = some (.val (.dat c)) := by
  unfold dCB; rw [h]; simp only [h2, h3]; rfl
theorem dOp_go {E : En} {f : PyData → PyData → Option PyData} {da db : En → Option Rs} {a b : Rs} {x y c : PyData} (ha : da E = some a) (hb : db E = some b) (hx : a.full E = some x) (hy : b.full E = some y) (h : f x y = some c) : dOp f da db E = some (.val (.dat c)) := by
  unfold dOp; rw [ha, hb]; simp only [hx, hy, h]; rfl
theorem ixL_I {E : En} {da db : En → Option Rs} {ns : List Int} {k : Nat} {v : Int} {r : Rs} (ha : da E = some r) (hr : r.at E = some (lI ns)) (hb : db E = some (.val (.dat (.int (k : Int))))) (h : ns[k]? = some v) : dIxL da db E = some (.val (.dat (.int v))) := by
  unfold dIxL
  rw [ha, hb]
  have hk := (List.getElem?_eq_some_iff.mp h).1
  have e1 : ixN (ns.map fun i => S.dat (.int i)).length (k : Int) = some k := ixN_in (by simpa using hk)
  simp only [hr, lI, e1, List.getElem?_map, h, Option.map_some]
  cases r <;> rfl
/-- dicts with numbers as keys -/
def kN {α : Type} (f : α → PyData) (m : List (Int × α)) : List (Key × S) := m.map fun p => (.inl p.1, .dat (f p.2))
def dL {α : Type} (f : α → PyData) (m : List α) : S := .lst (m.map fun d => S.dat (f d))
/-! dicts: their parts by key -/
def ixK {α : Type} : List (Int × α) → Int → Option Nat
  | [], _ => none
  | p :: r, k => if p.1 = k then some 0 else (ixK r k).map (· + 1)
def getK {α : Type} : List (Int × α) → Int → Option α
  | [], _ => none
  | p :: r, k => if p.1 = k then some p.2 else getK r k
def putN {α : Type} : List (Int × α) → Int → α → List (Int × α)
  | [], k, x => [(k, x)]
  | p :: r, k, x => if p.1 = k then (p.1, x) :: r else p :: putN r k x
def delN {α : Type} : List (Int × α) → Int → List (Int × α)
  | [], _ => []
  | p :: r, k => if p.1 = k then r else p :: delN r k
section
variable {α : Type} {f : α → PyData} {m : List (Int × α)} {k : Int}
theorem kix_N : kix ((kN f m).map (·.1)) (.inl k) = ixK m k := by
  induction m with
  | nil => rfl
  | cons p r ih =>
    show kix (Sum.inl p.1 :: (kN f r).map (·.1)) _ = _
    rw [kix, ih, ixK]
    by_cases h : p.1 = k
    · rw [if_pos h, if_pos (by rw [h])]
    · rw [if_neg h, if_neg (fun e => h (Sum.inl.inj e))]
theorem nodupK_N : nodupK ((kN f m).map (·.1)) = true ↔ (m.map (·.1)).Nodup := by
  induction m with
  | nil => simp [kN, nodupK]
  | cons p r ih =>
    show ((kix ((kN f r).map (·.1)) (.inl p.1)).isNone && nodupK ((kN f r).map (·.1))) = true ↔ _
    rw [Bool.and_eq_true, ih, kix_N, List.map_cons, List.nodup_cons]
    refine and_congr_left fun _ => ?_
    have go : ∀ (m : List (Int × α)) (k : Int), (ixK m k).isNone = true ↔ k ∉ m.map (·.1) := by
      intro m k
      induction m with
      | nil => simp [ixK]
      | cons q t ih2 =>
        by_cases h : q.1 = k
        · simp [ixK, h]
        · simp only [ixK, if_neg h, List.map_cons, List.mem_cons]
          constructor
          · intro z
            have : (ixK t k).isNone = true := by cases hh : ixK t k with | none => rfl | some _ => rw [hh] at z; cases z
            rintro (e | e)
            · exact h e.symm
            · exact ih2.mp this e
          · intro z
            have := ih2.mpr fun e => z (.inr e)
            cases hh : ixK t k with
            | none => rfl
            | some _ => rw [hh] at this; cases this
    exact go r p.1
theorem len_N : (kN f m).length = m.length := by simp [kN]
theorem getI_N : ∀ {m : List (Int × α)}, (match ixK m k with | some i => ((kN f m).map (·.2))[i]? | none => none) = (getK m k).map fun x => S.dat (f x)
  | [] => rfl
  | p :: r => by
    by_cases h : p.1 = k
    · simp [ixK, getK, h, kN]
    · have ih := getI_N (m := r)
      simp only [ixK, getK, if_neg h]
      cases hi : ixK r k with
      | none => rw [hi] at ih; simpa using ih
      | some i => rw [hi] at ih; simpa [kN] using ih
theorem ixK_iff : ∀ {m : List (Int × α)}, (ixK m k).isSome = (getK m k).isSome
  | [] => rfl
  | p :: r => by
    by_cases h : p.1 = k
    · simp [ixK, getK, h]
    · simp only [ixK, getK, if_neg h]
      rw [← ixK_iff (m := r)]
      cases ixK r k <;> rfl
theorem putS_N {x : α} : ∀ {m : List (Int × α)}, putS (kN f m) (.inl k) (.dat (f x)) = kN f (putN m k x)
  | [] => rfl
  | p :: r => by
    have ih := putS_N (x := x) (m := r)
    unfold putS at ih ⊢
    rw [kix_N] at ih ⊢
    by_cases h : p.1 = k
    · simp [ixK, putN, h, kN, setSnd]
    · simp only [ixK, putN, if_neg h]
      cases hi : ixK r k with
      | none => rw [hi] at ih; simp only [Option.map_none]; simpa [kN] using ih
      | some i => rw [hi] at ih; simp only [Option.map_some]; simpa [kN, setSnd] using ih
theorem del_N : ∀ {m : List (Int × α)} {i : Nat}, ixK m k = some i → (kN f m).eraseIdx i = kN f (delN m k)
  | [], _, h => by cases h
  | p :: r, i, h => by
    by_cases e : p.1 = k
    · simp only [ixK, if_pos e] at h
      cases h
      simp [kN, delN, e]
    · simp only [ixK, if_neg e] at h
      obtain ⟨j, hj, rfl⟩ := Option.map_eq_some_iff.mp h
      have := del_N hj
      simp only [delN, if_neg e]
      show (_ :: kN f r).eraseIdx (j + 1) = _ :: _
      rw [List.eraseIdx_cons_succ, this]; rfl
end
/-! the dicts' rules, over such dicts -/
section
variable {α : Type} {f : α → PyData} {m : List (Int × α)} {k : Int} {E E1 : En} {r : Rs} {p : List Nat} {da db dx : En → Option Rs} {de : En → Option (S × En)}
theorem kid_dat (r : Rs) (i : Nat) (d : PyData) : r.kid i (.dat d) = some (.val (.dat d)) := by cases r <;> rfl
theorem dget_go (h1 : da E = some r) (h2 : r.at E = some (.dct false (kN f m))) (h3 : db E = some (.val (.dat (.int k)))) {x : α} (hx : getK m k = some x) : dDGet da db E = some (.val (.dat (f x))) := by
  unfold dDGet
  rw [h1, h3]
  have g := getI_N (f := f) (k := k) (m := m)
  simp only [h2, show (Rs.val (.dat (.int k))).key = some (Sum.inl k) from rfl, kix_N]
  cases hi : ixK m k with
  | none => rw [hi, hx] at g; cases g
  | some i => rw [hi, hx] at g; simp only at g ⊢; rw [g]; exact kid_dat ..
theorem dget1_go (h1 : da E = some r) (h2 : r.at E = some (.dct false (kN f m))) (h3 : db E = some (.val (.dat (.int k)))) : dDGet1 da db E = some (.val (.dat (match getK m k with | some x => f x | none => .none))) := by
  unfold dDGet1
  rw [h1, h3]
  have g := getI_N (f := f) (k := k) (m := m)
  simp only [h2, show (Rs.val (.dat (.int k))).key = some (Sum.inl k) from rfl, kix_N]
  cases hi : ixK m k with
  | none =>
    have := ixK_iff (m := m) (k := k)
    rw [hi] at this
    cases hg : getK m k with
    | none => rfl
    | some x => rw [hg] at this; cases this
  | some i =>
    rw [hi] at g
    cases hg : getK m k with
    | none => have := ixK_iff (m := m) (k := k); rw [hi, hg] at this; cases this
    | some x => rw [hg] at g; simp only at g ⊢; rw [g]; exact kid_dat ..
theorem dget2_go {d : PyData} (h1 : da E = some r) (h2 : r.at E = some (.dct false (kN f m))) (h3 : db E = some (.val (.dat (.int k)))) (h4 : dx E = some (.val (.dat d))) : dDGet2 da db dx E = some (.val (.dat (match getK m k with | some x => f x | none => d))) := by
  unfold dDGet2
  rw [h1, h3, h4]
  have g := getI_N (f := f) (k := k) (m := m)
  simp only [h2, show (Rs.val (.dat (.int k))).key = some (Sum.inl k) from rfl, kix_N]
  cases hi : ixK m k with
  | none =>
    have := ixK_iff (m := m) (k := k)
    rw [hi] at this
    cases hg : getK m k with
    | none => rfl
    | some x => rw [hg] at this; cases this
  | some i =>
    rw [hi] at g
    cases hg : getK m k with
    | none => have := ixK_iff (m := m) (k := k); rw [hi, hg] at this; cases this
    | some x => rw [hg] at g; simp only at g ⊢; rw [g]; exact kid_dat ..
theorem din_go {neg : Bool} (h1 : da E = some r) (h2 : r.at E = some (.dct false (kN f m))) (h3 : db E = some (.val (.dat (.int k)))) : dDIn neg db da E = some (.val (.dat (.bool ((getK m k).isSome != neg)))) := by
  unfold dDIn
  rw [h1, h3]
  simp only [h2, show (Rs.val (.dat (.int k))).key = some (Sum.inl k) from rfl, kix_N, ixK_iff]
theorem dput_go {x : α} (he : de E = some (.dat (f x), E1)) (h1 : da E1 = some (.pl p)) (h2 : eget E1 p = some (.dct false (kN f m))) (h3 : db E1 = some (.val (.dat (.int k)))) (nd : (m.map (·.1)).Nodup) (hl : m.length < 100000) :
    dDPut da db de E = some (.nx (ekill (eput E1 p (.dct false (kN f (putN m k x)))) p)) := by
  unfold dDPut
  rw [he]
  simp only [h1, h3, show (Rs.val (.dat (.int k))).key = some (Sum.inl k) from rfl]
  unfold stepAt oDPut
  simp only [h2, if_pos (nodupK_N.mpr nd), len_N, if_pos hl, putS_N]
theorem dpop_go {x : α} (h1 : da E = some (.pl p)) (h2 : eget E p = some (.dct false (kN f m))) (h3 : db E = some (.val (.dat (.int k)))) (nd : (m.map (·.1)).Nodup) (hx : getK m k = some x) :
    eDPop da db E = some (.dat (f x), ekill (eput E p (.dct false (kN f (delN m k)))) p) := by
  unfold eDPop
  rw [h1, h3]
  have g := getI_N (f := f) (k := k) (m := m)
  simp only [show (Rs.val (.dat (.int k))).key = some (Sum.inl k) from rfl, h2]
  unfold oDPop
  simp only [if_pos (nodupK_N.mpr nd), kix_N]
  cases hi : ixK m k with
  | none => rw [hi, hx] at g; cases g
  | some i => rw [hi, hx] at g; simp only at g ⊢; rw [g]; simp only [Option.map_some, del_N hi]
end
def d__law_begun : En → Option Out := (dSeq (dAlias 1 (dC (.int 0)))
    (dSeq (dFor (iLst (dVar 0)) (bName 2) (dAlias 1 (dOp fMod (dOp fAdd (dOp fAdd (dOp fMul (dVar 1) (dC (.int 48271))) (dOp fMul (dVar 2) (dC (.int 69621)))) (dC (.int 11))) (dC (.int 2147483647)))))
    (dRet (ePure (dLst (dCons (dCS fList (dCons (dVar 0) dNil)) (dCons (dOp fMul (dVar 1) (dCB fInt (dCons (dOp fGt (dLen (dVar 0)) (dC (.int 2))) dNil))) dNil)))))))
def g__law_begun : List S → Option (S × List S) := fnG 3 d__law_begun
def d__law_take : En → Option Out := (dSeq (dIf (ePureT (dTest (dOp fEqD (dIxL (dVar 0) (dC (.int 0))) (dLst dNil)))) (dSeq (dLSet (dVar 0) (dC (.int 1)) (ePure (dOp fMod (dOp fMul (dIxL (dVar 0) (dC (.int 1))) (dC (.int 48271))) (dC (.int 2147483647)))))
    (dRet (ePure (dOp fMod (dOp fDiv (dIxL (dVar 0) (dC (.int 1))) (dC (.int 7))) (dVar 1))))) dNext)
    (dSeq (dAlias 2 (dIxL (dIxL (dVar 0) (dC (.int 0))) (dC (.int 0))))
    (dSeq (dLSet (dIxL (dVar 0) (dC (.int 0))) (dC (.int 0)) (ePure (dOp fDiv (dVar 2) (dVar 1))))
    (dSeq (dIf (ePureT (dOr (dTest (dOp fEqS (dIxL (dIxL (dVar 0) (dC (.int 0))) (dC (.int 0))) (dC (.int 0)))) (dTest (dOp fEqS (dIxL (dIxL (dVar 0) (dC (.int 0))) (dC (.int 0))) (dNeg (dC (.int 1))))))) (dDrop (eBM1 oPopAt (dIxL (dVar 0) (dC (.int 0))) (dC (.int 0)))) dNext)
    (dRet (ePure (dOp fMod (dVar 2) (dVar 1))))))))
def g__law_take : List S → Option (S × List S) := fnG 3 d__law_take
def bx (ns : List Int) (st : Int) : S := .lst [lI ns, .dat (.int st)]
theorem mulR {i j : Int} (h : -1000000 < j ∧ j < 1000000) : fMul (.int i) (.int j) = some (.int (i * j)) := by
  show (if (-(2 ^ 64) < i ∧ i < 2 ^ 64) ∨ (-(2 ^ 64) < j ∧ j < 2 ^ 64) then some (PyData.int (i * j)) else none) = _
  exact if_pos (.inr ⟨by omega, by omega⟩)
theorem modP {i j : Int} (h : 0 < j) : fMod (.int i) (.int j) = some (.int (i % j)) := if_pos h
theorem divP {i j : Int} (h : 0 < j) (h2 : j < 1073741824) : fDiv (.int i) (.int j) = some (.int (i / j)) := if_pos ⟨h, by omega⟩
def eBg (ns : List Int) (st : Int) (s2 : Sl) : En := [.own (.dat (.list (ns.map .int))), .own (.dat (.int st)), s2, .own (.dat (.list (ns.map .int)))]
theorem v_begun {ns : List Int} (hl : ns.length < 1000) : ∃ st, g__law_begun [.dat (.list (ns.map .int))] = some (bx ns st, [.dat (.list (ns.map .int))]) := by
  have hloop := loop_inv (rd := rdD (ns.map .int)) (bd := bName 2) (db := dAlias 1 (dOp fMod (dOp fAdd (dOp fAdd (dOp fMul (dVar 1) (dC (.int 48271))) (dOp fMul (dVar 2) (dC (.int 69621)))) (dC (.int 11))) (dC (.int 2147483647))))
    (fun i E => ∃ st s2, E = eBg ns st s2) ns.length
    (fun i E hi hJ => by
      obtain ⟨st, s2, rfl⟩ := hJ
      have hv : ns[i]? = some ns[i] := List.getElem?_eq_getElem _
      generalize ns[i] = x at hv
      let E1 : En := [.own (.dat (.list (ns.map .int))), .own (.dat (.int st)), .own (.dat (.int x)), .own (.dat (.list (ns.map .int)))]
      have a1 : dOp fMul (dVar 1) (dC (.int 48271)) E1 = some (.val (.dat (.int (st * 48271)))) := dOp_go rfl rfl rfl rfl (mulR (by omega))
      have a2 : dOp fMul (dVar 2) (dC (.int 69621)) E1 = some (.val (.dat (.int (x * 69621)))) := dOp_go rfl rfl rfl rfl (mulR (by omega))
      have a3 : dOp fMod (dOp fAdd (dOp fAdd (dOp fMul (dVar 1) (dC (.int 48271))) (dOp fMul (dVar 2) (dC (.int 69621)))) (dC (.int 11))) (dC (.int 2147483647)) E1 = some (.val (.dat (.int ((st * 48271 + x * 69621 + 11) % 2147483647)))) :=
        dOp_go (dOp_go (dOp_go a1 a2 rfl rfl rfl) rfl rfl rfl rfl) rfl rfl rfl (modP (by omega))
      refine ⟨_, E1, eBg ns ((st * 48271 + x * 69621 + 11) % 2147483647) (.own (.dat (.int x))), rdD_I hv, rfl, ?_, _, _, rfl⟩
      unfold dAlias
      rw [a3]; rfl)
    (fun E _ => rdD_end (Nat.le_refl _)) ns.length 0 (ns.map PyData.int).length (eBg ns 0 .no) (by omega) (by simp) ⟨0, .no, rfl⟩
  obtain ⟨E', hE, st, s2, rfl⟩ := hloop
  have c2 := dFor_go (src := iLst (dVar 0)) (E := eBg ns 0 .no) (c := ⟨eBg ns 0 .no, [], rdD (ns.map .int), (ns.map PyData.int).length⟩) rfl hE
  have hll : (ns.map PyData.int).length = ns.length := by simp
  refine ⟨st * (if decide ((2 : Int) < (ns.length : Int)) = true then 1 else 0), ?_⟩
  have b1 : dCS fList (dCons (dVar 0) dNil) (eBg ns st s2) = some (.val (lI ns)) := by
    show (some (S.lst ((ns.map PyData.int).map S.dat))).map Rs.val = _
    simp [lI]
  have b2 : dCB fInt (dCons (dOp fGt (dLen (dVar 0)) (dC (.int 2))) dNil) (eBg ns st s2) = some (.val (.dat (.int (if decide ((2 : Int) < (ns.length : Int)) = true then 1 else 0)))) := by
    refine dCB_go (dcons_go (dOp_go (x := .int (ns.length : Int)) (show dLen (dVar 0) (eBg ns st s2) = some (.val (.dat (.int (ns.length : Int)))) from ?_) rfl rfl rfl rfl) rfl) rfl rfl
    show some (Rs.val (.dat (.int ((ns.map PyData.int).length : Nat)))) = _
    rw [hll]
  have b3 : dOp fMul (dVar 1) (dCB fInt (dCons (dOp fGt (dLen (dVar 0)) (dC (.int 2))) dNil)) (eBg ns st s2) = some (.val (.dat (.int (st * (if decide ((2 : Int) < (ns.length : Int)) = true then 1 else 0))))) :=
    dOp_go rfl b2 rfl rfl (mulR (by split <;> omega))
  have c3 : dRet (ePure (dLst (dCons (dCS fList (dCons (dVar 0) dNil)) (dCons (dOp fMul (dVar 1) (dCB fInt (dCons (dOp fGt (dLen (dVar 0)) (dC (.int 2))) dNil))) dNil)))) (eBg ns st s2) = some (.rt (bx ns (st * (if decide ((2 : Int) < (ns.length : Int)) = true then 1 else 0))) (eBg ns st s2)) := by
    unfold dRet ePure dLst
    rw [dcons_go b1 (dcons_go b3 rfl)]; rfl
  exact fnG_rt (dSeq_go (E1 := eBg ns 0 .no) rfl (dSeq_go c2 c3)) rfl
theorem v_take {ns : List Int} {st many : Int} (h0 : 0 < many) (h1 : many < 1073741824) (hl : ns.length < 1000) : ∃ r ns' st', 0 ≤ r ∧ r < many ∧ ns'.length ≤ ns.length ∧ g__law_take [bx ns st, .dat (.int many)] = some (.dat (.int r), [bx ns' st', .dat (.int many)]) := by
  cases ns with
  | nil =>
    let E0 : En := [.bor [3], .own (.dat (.int many)), .no, .own (bx [] st), .own (.dat (.int many))]
    have hc : ePureT (dTest (dOp fEqD (dIxL (dVar 0) (dC (.int 0))) (dLst dNil))) E0 = some (true, E0) := by
      have a1 : dOp fEqD (dIxL (dVar 0) (dC (.int 0))) (dLst dNil) E0 = some (.val (.dat (.bool true))) := dOp_go (a := .pl [3, 0]) (b := .val (.lst [])) (x := .list []) (y := .list []) rfl rfl rfl rfl (eqD_self [])
      unfold ePureT dTest
      rw [a1]; rfl
    have a0 : dIxL (dVar 0) (dC (.int 1)) E0 = some (.val (.dat (.int st))) := rfl
    have a1 : dOp fMod (dOp fMul (dIxL (dVar 0) (dC (.int 1))) (dC (.int 48271))) (dC (.int 2147483647)) E0 = some (.val (.dat (.int (st * 48271 % 2147483647)))) :=
      dOp_go (dOp_go a0 rfl rfl rfl (mulR (by omega))) rfl rfl rfl (modP (by omega))
    generalize hst : st * 48271 % 2147483647 = st' at a1
    have a2 : dLSet (dVar 0) (dC (.int 1)) (ePure (dOp fMod (dOp fMul (dIxL (dVar 0) (dC (.int 1))) (dC (.int 48271))) (dC (.int 2147483647)))) E0 = some (.nx [.bor [3], .own (.dat (.int many)), .no, .own (bx [] st'), .own (.dat (.int many))]) := by
      have e1 : ePure (dOp fMod (dOp fMul (dIxL (dVar 0) (dC (.int 1))) (dC (.int 48271))) (dC (.int 2147483647))) E0 = some (.dat (.int st'), E0) := by unfold ePure; rw [a1]
      unfold dLSet
      rw [e1]; rfl
    let E1 : En := [.bor [3], .own (.dat (.int many)), .no, .own (bx [] st'), .own (.dat (.int many))]
    have a3 : dOp fMod (dOp fDiv (dIxL (dVar 0) (dC (.int 1))) (dC (.int 7))) (dVar 1) E1 = some (.val (.dat (.int (st' / 7 % many)))) :=
      dOp_go (dOp_go (x := .int st') rfl rfl rfl rfl (divP (by omega) (by omega))) rfl rfl rfl (modP h0)
    have a4 : dRet (ePure (dOp fMod (dOp fDiv (dIxL (dVar 0) (dC (.int 1))) (dC (.int 7))) (dVar 1))) E1 = some (.rt (.dat (.int (st' / 7 % many))) E1) := by
      unfold dRet ePure
      rw [a3]
    exact ⟨st' / 7 % many, [], st', Int.emod_nonneg _ (by omega), Int.emod_lt_of_pos _ h0, Nat.le_refl _, fnG_rt (dSeq_rt (dIf_t hc (dSeq_go a2 a4))) rfl⟩
  | cons a t =>
    let E0 : En := [.bor [3], .own (.dat (.int many)), .no, .own (bx (a :: t) st), .own (.dat (.int many))]
    have hc : ePureT (dTest (dOp fEqD (dIxL (dVar 0) (dC (.int 0))) (dLst dNil))) E0 = some (false, E0) := by
      have a1 : dOp fEqD (dIxL (dVar 0) (dC (.int 0))) (dLst dNil) E0 = some (.val (.dat (.bool false))) := by
        refine dOp_go (a := .pl [3, 0]) (b := .val (.lst [])) (x := .list ((a :: t).map .int)) (y := .list []) rfl rfl (lI_toD (a :: t)) rfl ?_
        unfold fEqD
        rw [if_pos ⟨shaped_list (a :: t), shaped_list []⟩]; rfl
      unfold ePureT dTest
      rw [a1]; rfl
    let E1 : En := [.bor [3], .own (.dat (.int many)), .own (.dat (.int a)), .own (bx (a :: t) st), .own (.dat (.int many))]
    have hix : ∀ (b : Int) (E : En), dVar 0 E = some (.pl [3]) → eget E [3] = some (bx (b :: t) st) → eget E [3, 0] = some (lI (b :: t)) → dIxL (dIxL (dVar 0) (dC (.int 0))) (dC (.int 0)) E = some (.val (.dat (.int b))) := fun b E e1 e2 e3 => by
      have i1 : dIxL (dVar 0) (dC (.int 0)) E = some (.pl [3, 0]) := by
        unfold dIxL
        rw [e1]
        show (match eget E [3] with | some (.lst ss) => _ | some (.dat (.list ds)) => _ | _ => none) = _
        rw [e2]; rfl
      exact ixL_I (k := 0) (ns := b :: t) i1 e3 rfl rfl
    have c1 : dAlias 2 (dIxL (dIxL (dVar 0) (dC (.int 0))) (dC (.int 0))) E0 = some (.nx E1) := by
      unfold dAlias
      rw [hix a E0 rfl rfl rfl]; rfl
    have a2 : dOp fDiv (dVar 2) (dVar 1) E1 = some (.val (.dat (.int (a / many)))) := dOp_go rfl rfl rfl rfl (divP h0 (by omega))
    generalize hq : a / many = q at a2
    let E2 : En := [.bor [3], .own (.dat (.int many)), .own (.dat (.int a)), .own (bx (q :: t) st), .own (.dat (.int many))]
    have c2 : dLSet (dIxL (dVar 0) (dC (.int 0))) (dC (.int 0)) (ePure (dOp fDiv (dVar 2) (dVar 1))) E1 = some (.nx E2) := by
      have e1 : ePure (dOp fDiv (dVar 2) (dVar 1)) E1 = some (.dat (.int q), E1) := by unfold ePure; rw [a2]
      have e2 : oLSet 0 (lI (a :: t)) (.dat (.int q)) = some (lI (q :: t), .dat .none) := by
        have : ixN ((a :: t).map fun i => S.dat (.int i)).length ((0 : Nat) : Int) = some 0 := ixN_in (by simp)
        show (match ixN ((a :: t).map fun i => S.dat (.int i)).length ((0 : Nat) : Int) with | some j => some (S.lst (((a :: t).map fun i => S.dat (.int i)).set j (.dat (.int q))), S.dat PyData.none) | none => none) = _
        rw [this]; rfl
      unfold dLSet
      rw [e1]
      show stepAt (oLSet 0) E1 [3, 0] (.dat (.int q)) = _
      show (match oLSet 0 (lI (a :: t)) (.dat (.int q)) with | some (t', _) => some (Out.nx (ekill (eput E1 [3, 0] t') [3, 0])) | none => none) = _
      rw [e2]; rfl
    have hor : ePureT (dOr (dTest (dOp fEqS (dIxL (dIxL (dVar 0) (dC (.int 0))) (dC (.int 0))) (dC (.int 0)))) (dTest (dOp fEqS (dIxL (dIxL (dVar 0) (dC (.int 0))) (dC (.int 0))) (dNeg (dC (.int 1)))))) E2 = some (decide (q = 0) || decide (q = -1), E2) := by
      unfold ePureT dOr dTest
      rw [dOp_go (hix q E2 rfl rfl rfl) rfl rfl rfl rfl, dOp_go (hix q E2 rfl rfl rfl) rfl rfl rfl rfl]
      by_cases z : q = 0
      · simp [z]
      · simp [z]
    have c4 : ∀ E : En, dVar 2 E = some (.val (.dat (.int a))) → dVar 1 E = some (.val (.dat (.int many))) → dRet (ePure (dOp fMod (dVar 2) (dVar 1))) E = some (.rt (.dat (.int (a % many))) E) := fun E e1 e2 => by
      unfold dRet ePure
      rw [dOp_go e1 e2 rfl rfl (modP h0)]
    cases hb : (decide (q = 0) || decide (q = -1)) with
    | true =>
      rw [hb] at hor
      let E3 : En := [.bor [3], .own (.dat (.int many)), .own (.dat (.int a)), .own (bx t st), .own (.dat (.int many))]
      have c3 : dDrop (eBM1 oPopAt (dIxL (dVar 0) (dC (.int 0))) (dC (.int 0))) E2 = some (.nx E3) := by
        have e2 : oPopAt (lI (q :: t)) (.dat (.int 0)) = some (lI t, .dat (.int q)) := by
          have : ixN ((q :: t).map fun i => S.dat (.int i)).length ((0 : Nat) : Int) = some 0 := ixN_in (by simp)
          show (match ixN ((q :: t).map fun i => S.dat (.int i)).length ((0 : Nat) : Int) with | some j => (match ((q :: t).map fun i => S.dat (.int i))[j]? with | some s => if ((q :: t).map fun i => S.dat (.int i)).length < 100000 then some (S.lst (((q :: t).map fun i => S.dat (.int i)).eraseIdx j), s) else none | none => none) | none => none) = _
          rw [this]
          show (if ((q :: t).map fun i => S.dat (.int i)).length < 100000 then some (lI t, S.dat (.int q)) else none) = _
          exact if_pos (by simp at hl ⊢; omega)
        refine dDrop_go (s := .dat (.int q)) ?_
        show (match oPopAt (lI (q :: t)) (.dat (.int 0)) with | some (t', c) => some (c, ekill (eput E2 [3, 0] t') [3, 0]) | none => none) = _
        rw [e2]; rfl
      exact ⟨a % many, t, st, Int.emod_nonneg _ (by omega), Int.emod_lt_of_pos _ h0, by simp, fnG_rt (dSeq_go (dIf_f hc rfl) (dSeq_go c1 (dSeq_go c2 (dSeq_go (dIf_t hor c3) (c4 E3 rfl rfl))))) rfl⟩
    | false =>
      rw [hb] at hor
      exact ⟨a % many, q :: t, st, Int.emod_nonneg _ (by omega), Int.emod_lt_of_pos _ h0, by simp, fnG_rt (dSeq_go (dIf_f hc rfl) (dSeq_go c1 (dSeq_go c2 (dSeq_go (dIf_f hor rfl) (c4 E2 rfl rfl))))) rfl⟩
/-! targets of a tuple, one by one -/
theorem bGo {i : Nat} {d : PyData} {ds : List PyData} {bs : List PyData → En → Option En} {E E1 : En} {r : Option En} (h : slotSet E i (.own (.dat d)) = E1) (h2 : bs ds E1 = r) : bCons (bName i) bs (d :: ds) E = r := by
  subst h; exact h2
theorem bEnd {E : En} : bNil [] E = some E := rfl
theorem dAsg_tup {k : Nat} {ds : List PyData} {bs : List PyData → En → Option En} {de : En → Option (S × En)} {E E0 E1 : En} (h : de E = some (.dat (.tuple ds), E0)) (hk : ds.length = k) (hb : bs ds E0 = some E1) : dAsg (bTup k bs) de E = some (.nx E1) := by
  unfold dAsg
  rw [h]
  show (if ds.length = k then bs ds E0 else none).map Out.nx = _
  rw [if_pos hk, hb]; rfl
/-! effects, and what is behind them -/
section
variable {E E1 E2 : En} {s : S} {de : En → Option (S × En)} {da : En → Option Rs} {dl : En → Option (Nat × En)}
theorem eEff_go {dl : En → Option (Nat × En)} {dc : Nat → En → Option (S × En)} {k : Nat} (h : dl E = some (k, E1)) (h2 : dc k E1 = some (s, E2)) : eEff dl dc E = some (s, stripN k E2) := by unfold eEff; rw [h]; simp only [h2]
theorem when_go {k : Nat} {r : Option (S × En)} (h : de E = r) : dWhen k k de E = r := by unfold dWhen; rw [if_pos rfl]; exact h
def frs (n : Nat) : Sl → Bool
  | .bor (i :: _) => decide (i < n)
  | _ => true
theorem kill_frs {n j : Nat} (hj : n ≤ j) : ∀ {E : En}, E.all (frs n) = true → E.map (killHead j) = E
  | [], _ => rfl
  | e :: r, h => by
    simp only [List.all_cons, Bool.and_eq_true] at h
    rw [List.map_cons, kill_frs hj h.2]
    congr 1
    cases e with
    | no => rfl
    | own s => rfl
    | bor q => cases q with
      | nil => rfl
      | cons i q =>
        have : i < n := by simpa [frs] using h.1
        exact if_neg (by simp; omega)
theorem strip1_app (E : En) (x : Sl) : strip1 (E ++ [x]) = E.map (killHead E.length) := by
  have hl : (E ++ [x]).length - 1 = E.length := by simp
  unfold strip1 slotSet
  rw [hl, List.map_append, List.set_append_right _ _ (by simp)]
  simp
theorem strip_app {E : En} (h : E.all (frs E.length) = true) : ∀ (k : Nat) (G : En), G.length = k → stripN k (E ++ G) = E
  | 0, G, hg => by rw [List.eq_nil_of_length_eq_zero hg, List.append_nil]; rfl
  | k + 1, G, hg => by
    rcases List.eq_nil_or_concat G with rfl | ⟨G', x, rfl⟩
    · cases hg
    · rw [List.concat_eq_append, ← List.append_assoc]
      show stripN k (strip1 _) = E
      rw [strip1_app, List.map_append, kill_frs (by simp) h]
      exact strip_app h k _ (by simpa using hg)
theorem lE_go {k : Nat} (h : de E = some (s, E1)) (h2 : dl (E1 ++ [.own s]) = some (k, E2)) : lConsE de dl E = some (k + 1, E2) := by unfold lConsE; rw [h]; simp only [h2]; rfl
theorem lP_own {k : Nat} (h : da E = some (.val s)) (h2 : dl (E ++ [.own s]) = some (k, E2)) : lConsP da dl E = some (k + 1, E2) := by unfold lConsP; rw [h]; simp only [h2]; rfl
theorem lP_bor {k : Nat} {p : List Nat} (h : da E = some (.pl p)) (h2 : dl (E ++ [.bor p]) = some (k, E2)) : lConsP da dl E = some (k + 1, E2) := by unfold lConsP; rw [h]; simp only [h2]; rfl
theorem dFor_rt {src : En → Option Src} {bd : Rs → En → Option En} {db : En → Option Out} {c : Src} (h : src E = some c) (h2 : dLoop c.rd bd db c.fuel 0 (c.env ++ c.exE) = some (.rt s E1)) : dFor src bd db E = some (.rt s (stripE c E1)) := by
  unfold dFor; rw [h]; simp only [h2]; rfl
theorem dOpS_go {f : S → S → Option S} {da db : En → Option Rs} {a b : Rs} {s t u : S} (ha : da E = some a) (hb : db E = some b) (hx : a.at E = some s) (hy : b.at E = some t) (h : f s t = some u) : dOpS f da db E = some (.val u) := by
  unfold dOpS; rw [ha, hb]; simp only [hx, hy, h]; rfl
theorem tupL_go {dr : En → Option (List Rs)} {rs : List Rs} {ds : List PyData} (h : dr E = some rs) (hl : rs.length < 1000) (h2 : tupD E rs = some ds) : dTupL dr E = some (.val (.dat (.tuple ds))) := by
  unfold dTupL; rw [h]; simp only [if_pos hl]; unfold dTup; rw [h]; simp only [h2]; rfl
theorem append_go {α : Type} {f : α → PyData} {xs : List α} {x : α} {da db : En → Option Rs} {p : List Nat} (ha : da E = some (.pl p)) (hp : eget E p = some (dL f xs)) (hb : db E = some (.val (.dat (f x)))) (hl : xs.length < 100000) : eBM1 oAppend da db E = some (.dat .none, ekill (eput E p (dL f (xs ++ [x]))) p) := by
  have hap : oAppend (dL f xs) (.dat (f x)) = some (dL f (xs ++ [x]), .dat .none) := by
    show (if (xs.map fun d => S.dat (f d)).length < 100000 then some (S.lst ((xs.map fun d => S.dat (f d)) ++ [S.dat (f x)]), S.dat .none) else none) = _
    rw [if_pos (by rw [List.length_map]; omega)]
    simp [dL]
  unfold eBM1
  rw [ha]
  simp only [hp]
  show (match (some (dL f xs) : Option S) with | some (.lst _) => eMut1 oAppend da db E | _ => none) = _
  show eMut1 oAppend da db E = _
  unfold eMut1
  rw [ha, hb]
  simp only [hp, hap]
/-- effects, and what was made for them gone again -/
theorem eff_go {dc : Nat → En → Option (S × En)} {k : Nat} {A B G G2 : En} (h : dl E = some (k, A ++ G)) (h2 : dc k (A ++ G) = some (s, B ++ G2)) (hB : B.all (frs B.length) = true) (hG : G2.length = k) : eEff dl dc E = some (s, B) := by
  rw [eEff_go h h2, strip_app hB k G2 hG]
theorem lN {E : En} : lNil E = some (0, E) := rfl
theorem ePure_go {d : PyData} (h : da E = some (.val (.dat d))) : ePure da E = some (.dat d, E) := by unfold ePure; rw [h]
theorem eOp_go {f : PyData → PyData → Option PyData} {da db : En → Option (S × En)} {x y c : PyData} (h : da E = some (.dat x, E1)) (h2 : db E1 = some (.dat y, E2)) (h3 : f x y = some c) : eOp f da db E = some (.dat c, E2) := by
  unfold eOp
  rw [h]
  simp only [h2]
  show (f x y).map (fun c => (S.dat c, E2)) = _
  rw [h3]; rfl
theorem rdP_at {α : Type} {f : α → PyData} {l : List α} {p : List Nat} {i : Nat} {x : α} (h1 : E.getLast? = some (.bor p)) (h2 : eget E p = some (dL f l)) (h3 : l[i]? = some x) : rdP E i = some (some (.val (.dat (f x)))) := by
  unfold rdP
  simp only [h1, h2, dL, List.getElem?_map, h3, Option.map_some]
  rfl
theorem rdP_en {α : Type} {f : α → PyData} {l : List α} {p : List Nat} {i : Nat} (h1 : E.getLast? = some (.bor p)) (h2 : eget E p = some (dL f l)) (h3 : l.length ≤ i) : rdP E i = some none := by
  unfold rdP
  simp only [h1, h2, dL, List.getElem?_map, List.getElem?_eq_none_iff.mpr h3, Option.map_none]
/-- a comprehension over data, with a test -/
theorem lcF {α : Type} {xs : List α} {f : α → PyData} {p : α → Bool} {g : α → S} {rd : En → Nat → Option (Option Rs)} {j : Nat} {dt : En → Option (Bool × En)} {E0 : En} (hn : xs.length < 100000)
    (hrd : ∀ i a, xs[i]? = some a → rd E0 i = some (some (.val (.dat (f a))))) (hend : rd E0 xs.length = some none)
    (hs : ∀ a ∈ xs, ∃ E1, bName j (.val (.dat (f a))) E0 = some E1 ∧ dt E1 = some (p a, E1) ∧ (p a = true → de E1 = some (g a, E1)) ∧ slotSet E1 j .no = E0) :
    ∀ (m i fuel : Nat) (acc : List S), i + m = xs.length → m ≤ fuel → acc.length ≤ i → dLcLoop rd j dt de fuel i acc E0 = some (acc ++ ((xs.drop i).filter p).map g, E0) := by
  intro m
  induction m with
  | zero =>
    intro i fuel acc hi _ _
    have : i = xs.length := by omega
    subst this
    rw [lcLoop_end hend]; simp
  | succ m ih =>
    intro i fuel acc hi hf ha
    cases fuel with
    | zero => omega
    | succ fuel =>
      have hil : i < xs.length := by omega
      have hv : xs[i]? = some xs[i] := List.getElem?_eq_getElem hil
      obtain ⟨E1, h1, h2, h3, h4⟩ := hs xs[i] (List.getElem_mem _)
      rw [List.drop_eq_getElem_cons hil]
      cases hp : p xs[i] with
      | true =>
        rw [hp] at h2
        rw [lcLoop_yes (hrd i _ hv) h1 h2 (h3 hp) (by omega), h4, ih (i + 1) fuel (acc ++ [g xs[i]]) (by omega) (by omega) (by simp; omega), List.filter_cons_of_pos hp, List.map_cons, List.append_assoc]; rfl
      | false =>
        rw [hp] at h2
        rw [lcLoop_no (hrd i _ hv) h1 h2, h4, ih (i + 1) fuel acc (by omega) (by omega) (by omega), List.filter_cons_of_neg (by rw [hp]; exact Bool.false_ne_true)]
/-- such a comprehension over a list at a place -/
theorem lcP {α : Type} {xs : List α} {f : α → PyData} {p : α → Bool} {g : α → S} {q : List Nat} {j : Nat} {src : En → Option Src} {dt : En → Option (Bool × En)} {E0 : En} (hn : xs.length < 100000) (hsrc : src E = some ⟨E, [.bor q], rdP, xs.length⟩)
    (h0 : slotSet (E ++ [.bor q]) j .no = E0) (hl : E0.getLast? = some (.bor q)) (hq : eget E0 q = some (dL f xs))
    (hs : ∀ a ∈ xs, ∃ E1, bName j (.val (.dat (f a))) E0 = some E1 ∧ dt E1 = some (p a, E1) ∧ (p a = true → de E1 = some (g a, E1)) ∧ slotSet E1 j .no = E0) :
    eLc src j dt de E = some (.lst ((xs.filter p).map g), stripN 1 E0) := by
  refine eLc_go hsrc ?_
  show dLcLoop rdP j dt de xs.length 0 [] (slotSet (E ++ [.bor q]) j .no) = _
  rw [h0, lcF (f := f) (p := p) (g := g) hn (fun i a h => rdP_at hl hq h) (rdP_en hl hq (Nat.le_refl _)) hs xs.length 0 xs.length [] (by omega) (Nat.le_refl _) (Nat.le_refl _)]
  simp
end
/-! rows of data: parts, items, put together -/
section
variable {α : Type} {f : α → PyData} {xs ys : List α} {E : En} {da db dl dh : En → Option Rs} {r r2 : Rs} {k l : Nat}
theorem dL_seqL : (dL f xs).seqL = some (xs.map f) := by
  show datsS _ = _
  have : (xs.map fun d => S.dat (f d)) = (xs.map f).map S.dat := by simp
  rw [this, datsS_dats]
theorem dL_len : (xs.map fun d => S.dat (f d)).length = xs.length := by simp
theorem dL_back (xs : List α) : S.lst ((xs.map f).map S.dat) = dL f xs := by simp [dL]
theorem dL_toD : (dL f xs).toD = some (.list (xs.map f)) := by
  show (S.toDs _).map PyData.list = _
  have : (xs.map fun d => S.dat (f d)) = (xs.map f).map S.dat := by simp
  rw [this, toDs_dats]; rfl
theorem slL_gen {lo hi : Option Int} {dlo dhi : En → Option (Option Int)} (ha : da E = some r) (hr : r.at E = some (dL f xs)) (h1 : dlo E = some lo) (h2 : dhi E = some hi) : dSl fSlL da dlo dhi E = some (.val (dL f (Mv.cutD xs lo hi))) := by
  unfold dSl
  rw [ha, h1, h2]
  show (match r.at E with | some s => (fSlL s lo hi).map Rs.val | none => none) = _
  rw [hr]
  show ((dL f xs).seqL.map fun ds => S.lst ((Mv.cutD ds lo hi).map S.dat)).map Rs.val = _
  rw [dL_seqL, Option.map_some, Option.map_some]
  have : Mv.cutD (xs.map f) lo hi = (Mv.cutD xs lo hi).map f := by
    unfold Mv.cutD
    rw [List.length_map, ← List.map_drop, ← List.map_take]
  rw [this, dL_back]
theorem part_go {i : Int} (h : dl E = some (.val (.dat (.int i)))) : dPart dl E = some (some i) := by unfold dPart; rw [h]
theorem cut_pre (h : k ≤ xs.length) : Mv.cutD xs none (some (k : Int)) = xs.take k := by
  unfold Mv.cutD
  rw [HT.sIx_nat, HT.sIx_none, Nat.min_eq_left h]; simp
theorem cut_suf : Mv.cutD xs (some (k : Int)) none = xs.drop k := by
  by_cases h : k ≤ xs.length
  · exact cutD_from h
  · unfold Mv.cutD
    rw [HT.sIx_nat, HT.sIx_none, Nat.min_eq_right (by omega), List.drop_length, List.drop_eq_nil_of_le (by omega)]; simp
theorem cut_mid (h : k ≤ xs.length) : Mv.cutD xs (some (k : Int)) (some ((k + l : Nat) : Int)) = (xs.drop k).take l := by
  unfold Mv.cutD
  rw [HT.sIx_nat, HT.sIx_nat, Nat.min_eq_left h]
  by_cases h2 : k + l ≤ xs.length
  · rw [Nat.min_eq_left h2, show k + l - k = l by omega]
  · rw [Nat.min_eq_right (by omega), List.take_of_length_le (by simp), List.take_of_length_le (by simp; omega)]
theorem slL_pre (ha : da E = some r) (hr : r.at E = some (dL f xs)) (h : dl E = some (.val (.dat (.int (k : Int))))) (hk : k ≤ xs.length) : dSl fSlL da dNoPart (dPart dl) E = some (.val (dL f (xs.take k))) := by
  rw [slL_gen ha hr rfl (part_go h), cut_pre hk]
theorem slL_suf (ha : da E = some r) (hr : r.at E = some (dL f xs)) (h : dl E = some (.val (.dat (.int (k : Int))))) : dSl fSlL da (dPart dl) dNoPart E = some (.val (dL f (xs.drop k))) := by
  rw [slL_gen ha hr (part_go h) rfl, cut_suf]
theorem slL_mid (ha : da E = some r) (hr : r.at E = some (dL f xs)) (h : dl E = some (.val (.dat (.int (k : Int))))) (h2 : dh E = some (.val (.dat (.int ((k + l : Nat) : Int))))) (hk : k ≤ xs.length) : dSl fSlL da (dPart dl) (dPart dh) E = some (.val (dL f ((xs.drop k).take l))) := by
  rw [slL_gen ha hr (part_go h) (part_go h2), cut_mid hk]
theorem catL_go (ha : da E = some r) (hr : r.at E = some (dL f xs)) (hb : db E = some r2) (hs : r2.at E = some (dL f ys)) (hl : xs.length + ys.length < 100000) : dOpS fCatL da db E = some (.val (dL f (xs ++ ys))) := by
  unfold dOpS
  rw [ha, hb]
  show (match r.at E, r2.at E with | some s, some t => (fCatL s t).map Rs.val | _, _ => none) = _
  rw [hr, hs]
  show (match (dL f xs).seqL with | some ds => (match (dL f ys).seqL with | some es => if ds.length + es.length < 100000 then some (S.lst ((ds ++ es).map S.dat)) else none | none => none) | none => none).map Rs.val = _
  rw [dL_seqL, dL_seqL]
  show (if (xs.map f).length + (ys.map f).length < 100000 then some (S.lst ((xs.map f ++ ys.map f).map S.dat)) else none).map Rs.val = _
  rw [if_pos (by simpa using hl), ← List.map_append, dL_back]; rfl
theorem rev_go (ha : da E = some r) (hr : r.at E = some (dL f xs)) : dRev da E = some (.val (dL f xs.reverse)) := by
  unfold dRev
  rw [ha]
  simp only [hr, dL_seqL, Option.map_some, ← List.map_reverse, dL_back]
theorem ixL_go {a : α} (ha : da E = some r) (hr : r.at E = some (dL f xs)) (hb : db E = some (.val (.dat (.int (k : Int))))) (h : xs[k]? = some a) : dIxL da db E = some (.val (.dat (f a))) := by
  unfold dIxL
  rw [ha, hb]
  have hk := (List.getElem?_eq_some_iff.mp h).1
  have e1 : ixN (xs.map fun d => S.dat (f d)).length (k : Int) = some k := ixN_in (by simpa using hk)
  simp only [hr, dL, e1, List.getElem?_map, h, Option.map_some]
  cases r <;> rfl
theorem ixN_last {n : Nat} (h : 0 < n) : ixN n (-1) = some (n - 1) := by
  unfold ixN
  rw [if_neg (by omega), if_pos (by omega)]
  congr 1
  omega
theorem ixL_last {a : α} (ha : da E = some r) (hr : r.at E = some (dL f (a :: xs))) (hb : db E = some (.val (.dat (.int (-1))))) : dIxL da db E = some (.val (.dat (f ((a :: xs).getLast (List.cons_ne_nil _ _))))) := by
  unfold dIxL
  rw [ha, hb]
  have e1 : ixN ((a :: xs).map fun d => S.dat (f d)).length (-1) = some xs.length := by rw [ixN_last (by simp)]; simp
  have e2 : (a :: xs)[xs.length]? = some ((a :: xs).getLast (List.cons_ne_nil _ _)) := by
    rw [List.getLast_eq_getElem]
    simp
  simp only [hr, dL, e1, List.getElem?_map, e2, Option.map_some]
  cases r <;> rfl
theorem len_go (ha : da E = some r) (hr : r.at E = some (dL f xs)) : dLen da E = some (.val (.dat (.int (xs.length : Nat)))) := by
  unfold dLen
  rw [ha]
  simp only [hr]
  show some (Rs.val (.dat (.int ((xs.map fun d => S.dat (f d)).length : Nat)))) = _
  rw [List.length_map]
end
def killR (n m : Nat) : Sl → Sl
  | .bor (j :: q) => if n ≤ j ∧ j < n + m then .no else .bor (j :: q)
  | e => e
theorem pop_app : ∀ (m : Nat) (E : En) (ss : List S), ss.length = m → popS m (E ++ ss.map Sl.own) = some (ss, E.map (killR E.length m))
  | 0, E, ss, h => by
    have : ss = [] := List.eq_nil_of_length_eq_zero h
    subst this
    have : E.map (killR E.length 0) = E := by
      have hk : ∀ e : Sl, killR E.length 0 e = e := by
        intro e
        cases e with
        | no => rfl
        | own s => rfl
        | bor q => cases q with
          | nil => rfl
          | cons j q => exact if_neg (by omega)
      rw [show killR E.length 0 = id from funext hk, List.map_id]
    rw [this]
    simp [popS]
  | m + 1, E, ss, h => by
    rcases List.eq_nil_or_concat ss with rfl | ⟨ss', s, rfl⟩
    · cases h
    · rw [List.concat_eq_append] at h ⊢
      have hm : ss'.length = m := by simpa using h
      have hk : ∀ (j : Nat) (l : List S), (l.map Sl.own).map (killHead j) = l.map Sl.own := by
        intro j l
        rw [List.map_map]; rfl
      have e1 : E ++ (ss' ++ [s]).map Sl.own = (E ++ ss'.map Sl.own) ++ [.own s] := by simp
      rw [e1]
      unfold popS
      simp only [List.getLast?_append, List.getLast?_singleton, Option.some_or, List.dropLast_concat]
      have hl : ((E ++ ss'.map Sl.own) ++ [Sl.own s]).length - 1 = E.length + m := by simp [hm]
      rw [hl, List.map_append, hk, pop_app m _ ss' hm]
      simp only [List.length_map, List.map_map]
      congr 3
      funext e
      cases e with
      | no => rfl
      | own s => rfl
      | bor q => cases q with
        | nil => rfl
        | cons j q =>
          show killR E.length m (if some j = some (E.length + m) then .no else .bor (j :: q)) = if E.length ≤ j ∧ j < E.length + (m + 1) then .no else .bor (j :: q)
          by_cases hj : j = E.length + m
          · rw [if_pos (by rw [hj]), if_pos (by omega)]; rfl
          · rw [if_neg (by simpa using hj)]
            show (if E.length ≤ j ∧ j < E.length + m then Sl.no else .bor (j :: q)) = _
            by_cases hh : E.length ≤ j ∧ j < E.length + m
            · rw [if_pos hh, if_pos (by omega)]
            · rw [if_neg hh, if_neg (by omega)]
theorem par3_go {E E1 E2 E3 E4 E5 : En} {dl : En → Option (Nat × En)} {i j l : Nat} {a b c : S} (h : dl E = some (3, E1)) (hp : popS 3 E1 = some ([a, b, c], E2)) (h1 : slotSet E2 i (.own a) = E3) (h2 : slotSet E3 j (.own b) = E4) (h3 : slotSet E4 l (.own c) = E5) : dParL3 i j l dl E = some (.nx E5) := by
  subst h1 h2 h3
  unfold dParL3
  simp only [h, hp]
theorem par2_go {E E1 E2 E3 E4 : En} {dl : En → Option (Nat × En)} {i j : Nat} {a b : S} (h : dl E = some (2, E1)) (hp : popS 2 E1 = some ([a, b], E2)) (h1 : slotSet E2 i (.own a) = E3) (h2 : slotSet E3 j (.own b) = E4) : dParL i j dl E = some (.nx E4) := by
  subst h1 h2
  unfold dParL
  simp only [h, hp]
theorem pop_go {E E1 : En} {ss : List S} {m : Nat} (h : ss.length = m) (h2 : E.map (killR E.length m) = E1) : popS m (E ++ ss.map Sl.own) = some (ss, E1) := by subst h2; exact pop_app m E ss h
theorem canLay_map {α : Type} {f : α → PyData} (h : ∀ a, (f a).canLay0 = true) : ∀ (xs : List α), PyData.canLayAll0 (xs.map f) = true
  | [] => rfl
  | a :: r => by rw [List.map_cons, PyData.canLayAll0, h a, canLay_map h r]; rfl
theorem depth_map {α : Type} {f : α → PyData} {k : Nat} (h : ∀ a, (f a).depth ≤ k) : ∀ (xs : List α), PyData.depthAll (xs.map f) ≤ k
  | [] => Nat.zero_le _
  | a :: r => by rw [List.map_cons, PyData.depthAll]; exact Nat.max_le.mpr ⟨h a, depth_map h r⟩
theorem shaped_rows {α : Type} {f : α → PyData} {k : Nat} (h : ∀ a, (f a).canLay0 = true) (h2 : ∀ a, (f a).depth ≤ k) (hk : k < 64) (xs : List α) : SeqAt.shaped (.list (xs.map f)) = true := by
  unfold SeqAt.shaped
  have := depth_map h2 xs
  rw [PyData.canLay0, canLay_map h xs, PyData.depth, Bool.true_and]
  exact decide_eq_true (by omega)
theorem eqD_nil {α : Type} {f : α → PyData} {k : Nat} (h : ∀ a, (f a).canLay0 = true) (h2 : ∀ a, (f a).depth ≤ k) (hk : k < 64) (xs : List α) : fEqD (.list (xs.map f)) (.list []) = some (.bool (decide (xs.length = 0))) := by
  unfold fEqD
  rw [if_pos ⟨shaped_rows h h2 hk xs, rfl⟩]
  cases xs with
  | nil => rfl
  | cons a r => simp [PyData.eqv, PyData.eqvAll]
theorem neD_same {α : Type} {f : α → PyData} {k : Nat} (h : ∀ a, (f a).canLay0 = true) (h2 : ∀ a, (f a).depth ≤ k) (hk : k < 64) (xs : List α) : fNeD (.list (xs.map f)) (.list (xs.map f)) = some (.bool false) := by
  unfold fNeD
  rw [if_pos ⟨shaped_rows h h2 hk xs, shaped_rows h h2 hk xs⟩, SeqAt.eqv_refl _ (by rw [PyData.canLay0]; exact canLay_map h xs)]; rfl
/-! the same of lists that are data -/
section
variable {α : Type} {f : α → PyData} {xs ys : List α} {E : En} {da db dl dh : En → Option Rs} {r r2 : Rs} {k l : Nat}
theorem slD_gen {lo hi : Option Int} {dlo dhi : En → Option (Option Int)} (ha : da E = some (.val (.dat (.list (xs.map f))))) (h1 : dlo E = some lo) (h2 : dhi E = some hi) : dSl fSlL da dlo dhi E = some (.val (dL f (Mv.cutD xs lo hi))) := by
  unfold dSl
  rw [ha, h1, h2]
  show some (Rs.val (S.lst ((Mv.cutD (xs.map f) lo hi).map S.dat))) = _
  have : Mv.cutD (xs.map f) lo hi = (Mv.cutD xs lo hi).map f := by
    unfold Mv.cutD
    rw [List.length_map, ← List.map_drop, ← List.map_take]
  rw [this, dL_back]
theorem slD_pre (ha : da E = some (.val (.dat (.list (xs.map f))))) (h : dl E = some (.val (.dat (.int (k : Int))))) (hk : k ≤ xs.length) : dSl fSlL da dNoPart (dPart dl) E = some (.val (dL f (xs.take k))) := by
  rw [slD_gen ha rfl (part_go h), cut_pre hk]
theorem slD_suf (ha : da E = some (.val (.dat (.list (xs.map f))))) (h : dl E = some (.val (.dat (.int (k : Int))))) : dSl fSlL da (dPart dl) dNoPart E = some (.val (dL f (xs.drop k))) := by
  rw [slD_gen ha (part_go h) rfl, cut_suf]
theorem slD_mid (ha : da E = some (.val (.dat (.list (xs.map f))))) (h : dl E = some (.val (.dat (.int (k : Int))))) (h2 : dh E = some (.val (.dat (.int ((k + l : Nat) : Int))))) (hk : k ≤ xs.length) : dSl fSlL da (dPart dl) (dPart dh) E = some (.val (dL f ((xs.drop k).take l))) := by
  rw [slD_gen ha (part_go h) (part_go h2), cut_mid hk]
theorem ixD_go {a : α} (ha : da E = some (.val (.dat (.list (xs.map f))))) (hb : db E = some (.val (.dat (.int (k : Int))))) (h : xs[k]? = some a) : dIxL da db E = some (.val (.dat (f a))) := by
  unfold dIxL
  rw [ha, hb]
  have hk := (List.getElem?_eq_some_iff.mp h).1
  have e1 : ixN (xs.map f).length (k : Int) = some k := ixN_in (by simpa using hk)
  show (match ixN (xs.map f).length (k : Int) with | some j => ((xs.map f)[j]?).map fun d => Rs.val (.dat d) | none => none) = _
  rw [e1]
  simp only [List.getElem?_map, h, Option.map_some]
theorem len_dat (ha : da E = some (.val (.dat (.list (xs.map f))))) : dLen da E = some (.val (.dat (.int (xs.length : Nat)))) := by
  unfold dLen
  rw [ha]
  show some (Rs.val (.dat (.int ((xs.map f).length : Nat)))) = _
  rw [List.length_map]
theorem rdD_at {i : Nat} {x : α} (h3 : xs[i]? = some x) : rdD (xs.map f) E i = some (some (.val (.dat (f x)))) := by
  unfold rdD
  rw [List.getElem?_map, h3]; rfl
theorem rdD_en {i : Nat} (h3 : xs.length ≤ i) : rdD (xs.map f) E i = some none := by
  unfold rdD
  rw [List.getElem?_map, List.getElem?_eq_none_iff.mpr h3]; rfl
theorem frzE_go {de : En → Option (S × En)} {E1 : En} (h : de E = some (dL f xs, E1)) : eFrz de E = some (.dat (.list (xs.map f)), E1) := by
  unfold eFrz
  rw [h]
  show (datsS (xs.map fun d => S.dat (f d))).map _ = _
  have : (xs.map fun d => S.dat (f d)) = (xs.map f).map S.dat := by simp
  rw [this, datsS_dats]; rfl
theorem frzE_dat {de : En → Option (S × En)} {E1 : En} {d : PyData} (h : de E = some (.dat d, E1)) : eFrz de E = some (.dat d, E1) := by
  unfold eFrz
  rw [h]
theorem frz_go (h : da E = some (.val (dL f xs))) : dFrz da E = some (.val (.dat (.list (xs.map f)))) := by
  unfold dFrz
  rw [h]
  show (datsS (xs.map fun d => S.dat (f d))).map _ = _
  have : (xs.map fun d => S.dat (f d)) = (xs.map f).map S.dat := by simp
  rw [this, datsS_dats]; rfl
end
end Gn
/-! k16: what the program does, over plain records -/
namespace K16
open PySem PySem.Spec PyProof.Rows L2 Mv Gn
structure De where
  slot : Int
  count : Int
  asker : Int
  num : Int
  more : Int
  worth : Int
  make : Int
deriving DecidableEq
def De.d (e : De) : PyData := .tuple [.int e.slot, .int e.count, .int e.asker, .int e.num, .int e.more, .int e.worth, .int e.make]
def t2 (p : Int × Int) : PyData := .tuple [.int p.1, .int p.2]
def iD (n : Int) : PyData := .int n
structure Ty where
  grown : List (Int × (Int × Int))
  numbers : List (Int × Int)
  make : Int
def Ty.s (t : Ty) : S := .ins 4 [.dct false (kN t2 t.grown), .dct false (kN iD t.numbers), .dat (.int t.make)]
def Ty.at (t : Ty) (slot : Int) : Int × Int := (getK t.grown slot).getD (0, 0)
def Ty.num (t : Ty) (a : Int) : Int := (getK t.numbers a).getD 0
def Ty.lets (t : Ty) (e : De) : Bool := decide (e.count = (t.at e.slot).2 + 1) && decide (e.worth = ((t.at e.slot).1 + e.more) % 1000) && decide (e.num = t.num e.asker + 1) && decide (t.make ≤ e.make)
def Ty.note (t : Ty) (e : De) : Ty := ⟨putN t.grown e.slot (e.worth, e.count), putN t.numbers e.asker e.num, e.make⟩
structure Ty.Ok (t : Ty) (k : Nat) : Prop where
  n1 : (t.grown.map (·.1)).Nodup
  n2 : (t.numbers.map (·.1)).Nodup
  l1 : t.grown.length ≤ k
  l2 : t.numbers.length ≤ k
theorem putN_len {α : Type} (x : α) (k : Int) : ∀ (m : List (Int × α)), (putN m k x).length ≤ m.length + 1
  | [] => by simp [putN]
  | p :: r => by
    unfold putN
    split
    · simp
    · have := putN_len x k r
      simp only [List.length_cons]; omega
theorem putN_keys {α : Type} (x : α) (k : Int) : ∀ (m : List (Int × α)) (j : Int), j ∈ (putN m k x).map (·.1) → j ∈ m.map (·.1) ∨ j = k
  | [], j, h => by simp [putN] at h; exact .inr h
  | p :: r, j, h => by
    unfold putN at h
    split at h
    · exact .inl (by simpa using h)
    · rcases List.mem_cons.mp h with e | h
      · exact .inl (by rw [e]; exact List.mem_cons_self)
      · rcases putN_keys x k r j h with h | h
        · exact .inl (List.mem_cons_of_mem _ h)
        · exact .inr h
theorem putN_nodup {α : Type} (x : α) (k : Int) : ∀ {m : List (Int × α)}, (m.map (·.1)).Nodup → ((putN m k x).map (·.1)).Nodup
  | [], _ => by simp [putN]
  | p :: r, h => by
    unfold putN
    split
    · simpa using h
    · next ne =>
      obtain ⟨h1, h2⟩ := List.nodup_cons.mp h
      refine List.nodup_cons.mpr ⟨fun m => ?_, putN_nodup x k h2⟩
      rcases putN_keys x k r _ m with m | m
      · exact h1 m
      · exact ne m
theorem getK_put {α : Type} (x : α) (k j : Int) : ∀ (m : List (Int × α)), getK (putN m k x) j = if k = j then some x else getK m j
  | [] => by by_cases h : k = j <;> simp [putN, getK, h]
  | p :: r => by
    have ih := getK_put x k j r
    unfold putN
    split
    · next e =>
      by_cases h : k = j
      · simp [getK, e, h]
      · have : p.1 ≠ j := by rw [e]; exact h
        simp [getK, h, this]
    · next ne =>
      by_cases h : p.1 = j
      · have : k ≠ j := fun z => ne (h.trans z.symm)
        simp [getK, h, this]
      · simp only [getK, if_neg h, ih]
theorem Ty.Ok.note {t : Ty} {k : Nat} (h : t.Ok k) (e : De) : (t.note e).Ok (k + 1) :=
  ⟨putN_nodup _ _ h.n1, putN_nodup _ _ h.n2, by have := putN_len (e.worth, e.count) e.slot t.grown; have := h.l1; simp only [Ty.note]; omega, by have := putN_len e.num e.asker t.numbers; have := h.l2; simp only [Ty.note]; omega⟩

theorem v_more {a b : Int} : g_with_more [.dat (.int a), .dat (.int b)] = some (.dat (.int ((a + b) % 1000)), [.dat (.int a), .dat (.int b)]) := by
  refine fnG_rt (E := entry 2 [.dat (.int a), .dat (.int b)]) ?_ rfl
  have a1 : dOp fMod (dOp fAdd (dVar 0) (dVar 1)) (dC (.int 1000)) (entry 2 [.dat (.int a), .dat (.int b)]) = some (.val (.dat (.int ((a + b) % 1000)))) :=
    dOp_go (dOp_go rfl rfl rfl rfl rfl) rfl rfl rfl (modP (by omega))
  unfold d_with_more dRet ePure
  rw [a1]
theorem v_init : g_Tally___init__ [.ins 4 []] = some (.dat .none, [Ty.s ⟨[], [], 0⟩]) := rfl

def eLe (t : Ty) (e : De) (s9 s10 : Sl) : En := [.bor [11], .own (.dat e.d), .own (.dat (.int e.slot)), .own (.dat (.int e.count)), .own (.dat (.int e.asker)), .own (.dat (.int e.num)), .own (.dat (.int e.more)), .own (.dat (.int e.worth)), .own (.dat (.int e.make)), s9, s10, .own t.s, .own (.dat e.d)]
theorem v_lets {t : Ty} {e : De} : g_Tally_lets [t.s, .dat e.d] = some (.dat (.bool (t.lets e)), [t.s, .dat e.d]) := by
  let o (i : Int) : Sl := .own (.dat (.int i))
  let F (a b c d f g h : Sl) : En := [.bor [11], .own (.dat e.d), a, b, c, d, f, g, h, .no, .no, .own t.s, .own (.dat e.d)]
  have s1 : dAsg (bTup 7 (bCons (bName 2) (bCons (bName 3) (bCons (bName 4) (bCons (bName 5) (bCons (bName 6) (bCons (bName 7) (bCons (bName 8) bNil)))))))) (ePure (dVar 1)) (entry 11 [t.s, .dat e.d]) = some (.nx (eLe t e .no .no)) :=
    dAsg_tup (E0 := F .no .no .no .no .no .no .no) rfl rfl (bGo (E1 := F (o e.slot) .no .no .no .no .no .no) rfl (bGo (E1 := F (o e.slot) (o e.count) .no .no .no .no .no) rfl (bGo (E1 := F (o e.slot) (o e.count) (o e.asker) .no .no .no .no) rfl (bGo (E1 := F (o e.slot) (o e.count) (o e.asker) (o e.num) .no .no .no) rfl (bGo (E1 := F (o e.slot) (o e.count) (o e.asker) (o e.num) (o e.more) .no .no) rfl (bGo (E1 := F (o e.slot) (o e.count) (o e.asker) (o e.num) (o e.more) (o e.worth) .no) rfl (bGo (E1 := F (o e.slot) (o e.count) (o e.asker) (o e.num) (o e.more) (o e.worth) (o e.make)) rfl bEnd)))))))
  have a2 : dDGet2 (dFld 4 0 (dVar 0)) (dVar 2) (dC (.tuple [.int 0, .int 0])) (eLe t e .no .no) = some (.val (.dat (t2 (t.at e.slot)))) := by
    rw [dget2_go (f := t2) (m := t.grown) (k := e.slot) (r := .pl [11, 0]) (d := .tuple [.int 0, .int 0]) rfl rfl rfl rfl]
    unfold Ty.at
    cases getK t.grown e.slot <;> rfl
  let E2 : En := eLe t e (.own (.dat (.int (t.at e.slot).1))) (.own (.dat (.int (t.at e.slot).2)))
  have s2 : dAsg (bTup 2 (bCons (bName 9) (bCons (bName 10) bNil))) (ePure (dDGet2 (dFld 4 0 (dVar 0)) (dVar 2) (dC (.tuple [.int 0, .int 0])))) (eLe t e .no .no) = some (.nx E2) := by
    unfold dAsg ePure
    rw [a2]; rfl
  have t1 : ePureT (dTest (dOp fNeS (dVar 3) (dOp fAdd (dVar 10) (dC (.int 1))))) E2 = some (!decide (e.count = (t.at e.slot).2 + 1), E2) := by
    unfold ePureT dTest
    rw [dOp_go (f := fNeS) (x := .int e.count) (y := .int ((t.at e.slot).2 + 1)) (c := .bool (!decide (e.count = (t.at e.slot).2 + 1))) rfl (dOp_go rfl rfl rfl rfl rfl) rfl rfl rfl]; rfl
  have t2' : eTest (eOp fNeS (ePure (dVar 7)) (eCall g_with_more (dCons (dVar 9) (dCons (dVar 6) dNil)))) E2 = some (!decide (e.worth = ((t.at e.slot).1 + e.more) % 1000), E2) := by
    have c : eCall g_with_more (dCons (dVar 9) (dCons (dVar 6) dNil)) E2 = some (.dat (.int (((t.at e.slot).1 + e.more) % 1000)), E2) :=
      eCall_go (rs := [.val (.dat (.int (t.at e.slot).1)), .val (.dat (.int e.more))]) rfl rfl rfl v_more
    refine eTest_go ?_
    unfold eOp
    rw [show ePure (dVar 7) E2 = some (.dat (.int e.worth), E2) from rfl]
    simp only [c]; rfl
  have a3 : dDGet2 (dFld 4 1 (dVar 0)) (dVar 4) (dC (.int 0)) E2 = some (.val (.dat (.int (t.num e.asker)))) := by
    rw [dget2_go (f := iD) (m := t.numbers) (k := e.asker) (r := .pl [11, 1]) (d := .int 0) rfl rfl rfl rfl]
    unfold Ty.num
    cases getK t.numbers e.asker <;> rfl
  have b1 : dOp fEqS (dVar 5) (dOp fAdd (dDGet2 (dFld 4 1 (dVar 0)) (dVar 4) (dC (.int 0))) (dC (.int 1))) E2 = some (.val (.dat (.bool (decide (e.num = t.num e.asker + 1))))) :=
    dOp_go (x := .int e.num) (y := .int (t.num e.asker + 1)) rfl (dOp_go a3 rfl rfl rfl rfl) rfl rfl rfl
  have b2 : dOp fGe (dVar 8) (dFld 4 2 (dVar 0)) E2 = some (.val (.dat (.bool (decide (t.make ≤ e.make))))) := rfl
  have s4 : dRet (ePure (dAndV (dOp fEqS (dVar 5) (dOp fAdd (dDGet2 (dFld 4 1 (dVar 0)) (dVar 4) (dC (.int 0))) (dC (.int 1)))) (dOp fGe (dVar 8) (dFld 4 2 (dVar 0))))) E2 = some (.rt (.dat (.bool (decide (e.num = t.num e.asker + 1) && decide (t.make ≤ e.make)))) E2) := by
    refine dRet_go ?_
    unfold ePure dAndV
    rw [b1]
    cases decide (e.num = t.num e.asker + 1)
    · rfl
    · simp only [b2]; rfl
  refine fnG_rt (E := E2) (dSeq_go s1 (dSeq_go s2 ?_)) rfl
  by_cases h1 : e.count = (t.at e.slot).2 + 1
  · by_cases h2 : e.worth = ((t.at e.slot).1 + e.more) % 1000
    · refine dSeq_go (E1 := E2) (dIf_f (E1 := E2) ?_ rfl) ?_
      · rw [decide_eq_true h1] at t1
        rw [decide_eq_true h2] at t2'
        exact eOr_f t1 t2'
      · rw [s4]
        unfold Ty.lets
        rw [decide_eq_true h1, decide_eq_true h2]; rfl
    · refine dSeq_rt ?_
      unfold Ty.lets
      rw [decide_eq_false h2]
      refine dIf_t (E1 := E2) ?_ ?_
      · rw [decide_eq_true h1] at t1
        rw [decide_eq_false h2] at t2'
        exact eOr_f t1 t2'
      · simp; rfl
  · refine dSeq_rt ?_
    unfold Ty.lets
    rw [decide_eq_false h1]
    refine dIf_t (E1 := E2) ?_ ?_
    · rw [decide_eq_false h1] at t1
      unfold eOr
      rw [t1]; rfl
    · rfl
theorem v_note {t : Ty} {e : De} {k : Nat} (h : t.Ok k) (hk : k < 1000) : g_Tally_note [t.s, .dat e.d] = some (.dat .none, [(t.note e).s, .dat e.d]) := by
  let eN (t : Ty) : En := [.bor [9], .own (.dat e.d), .own (.dat (.int e.slot)), .own (.dat (.int e.count)), .own (.dat (.int e.asker)), .own (.dat (.int e.num)), .own (.dat (.int e.more)), .own (.dat (.int e.worth)), .own (.dat (.int e.make)), .own t.s, .own (.dat e.d)]
  let o (i : Int) : Sl := .own (.dat (.int i))
  let F (a b c d f g h : Sl) : En := [.bor [9], .own (.dat e.d), a, b, c, d, f, g, h, .own t.s, .own (.dat e.d)]
  have s1 : dAsg (bTup 7 (bCons (bName 2) (bCons (bName 3) (bCons (bName 4) (bCons (bName 5) (bCons (bName 6) (bCons (bName 7) (bCons (bName 8) bNil)))))))) (ePure (dVar 1)) (entry 9 [t.s, .dat e.d]) = some (.nx (eN t)) :=
    dAsg_tup (E0 := F .no .no .no .no .no .no .no) rfl rfl (bGo (E1 := F (o e.slot) .no .no .no .no .no .no) rfl (bGo (E1 := F (o e.slot) (o e.count) .no .no .no .no .no) rfl (bGo (E1 := F (o e.slot) (o e.count) (o e.asker) .no .no .no .no) rfl (bGo (E1 := F (o e.slot) (o e.count) (o e.asker) (o e.num) .no .no .no) rfl (bGo (E1 := F (o e.slot) (o e.count) (o e.asker) (o e.num) (o e.more) .no .no) rfl (bGo (E1 := F (o e.slot) (o e.count) (o e.asker) (o e.num) (o e.more) (o e.worth) .no) rfl (bGo (E1 := F (o e.slot) (o e.count) (o e.asker) (o e.num) (o e.more) (o e.worth) (o e.make)) rfl bEnd)))))))
  have h1 := h.l1
  have h2 := h.l2
  have s2 : dDPut (dFld 4 0 (dVar 0)) (dVar 2) (ePure (dTupL (dCons (dVar 7) (dCons (dVar 3) dNil)))) (eN t) = some (.nx (eN ⟨putN t.grown e.slot (e.worth, e.count), t.numbers, t.make⟩)) :=
    dput_go (f := t2) (x := (e.worth, e.count)) (m := t.grown) (k := e.slot) (p := [9, 0]) (E1 := eN t) rfl rfl rfl rfl h.n1 (by omega)
  have s3 : dDPut (dFld 4 1 (dVar 0)) (dVar 4) (ePure (dVar 5)) (eN ⟨putN t.grown e.slot (e.worth, e.count), t.numbers, t.make⟩) = some (.nx (eN ⟨putN t.grown e.slot (e.worth, e.count), putN t.numbers e.asker e.num, t.make⟩)) :=
    dput_go (f := iD) (x := e.num) (m := t.numbers) (k := e.asker) (p := [9, 1]) (E1 := eN ⟨putN t.grown e.slot (e.worth, e.count), t.numbers, t.make⟩) rfl rfl rfl rfl h.n2 (by omega)
  have s4 : dFPut 4 2 (dVar 0) (ePure (dVar 8)) (eN ⟨putN t.grown e.slot (e.worth, e.count), putN t.numbers e.asker e.num, t.make⟩) = some (.nx (eN (t.note e))) := rfl
  exact fnG_nx (E := eN (t.note e)) (dSeq_go s1 (dSeq_go s2 (dSeq_go s3 s4))) rfl
end K16
/-! k16: judge -/
namespace K16
open PySem PySem.Spec PyProof.Rows L2 Mv Gn
def R (ds : List De) : S := dL De.d ds
def L (ds : List De) : S := .dat (.list (ds.map De.d))
def oN : Option Nat → PyData | none => .none | some k => .int (k : Int)
def jF (t : Ty) : List De → Nat → Option Nat
  | [], _ => none
  | e :: r, i => if t.lets e then jF (t.note e) r (i + 1) else some i
def t0 : Ty := ⟨[], [], 0⟩
theorem t0_ok : t0.Ok 0 := ⟨List.nodup_nil, List.nodup_nil, Nat.le_refl _, Nat.le_refl _⟩
abbrev jBody : En → Option Out := dSeq (dIf (eNot (eTest (eCall g_Tally_lets (dCons (dIns 4 (dVar 1)) (dCons (dVar 3) dNil))))) (dRet (eMove 2)) dNext)
    (dDrop (eCall g_Tally_note (dCons (dIns 4 (dVar 1)) (dCons (dVar 3) dNil))))
abbrev jTg : Rs → En → Option En := bTup 2 (bCons (bName 2) (bCons (bName 3) bNil))
def eJ (ds : List De) (t : Ty) (s2 s3 : Sl) : En := [.own (L ds), .own t.s, s2, s3, .own (L ds)]
theorem rdEn_L {ds : List De} {t : Ty} {s2 s3 : Sl} {i : Nat} {e : De} (h : ds[i]? = some e) : rdEn (rdD (ds.map De.d)) (eJ ds t s2 s3) i = some (some (.val (.dat (.tuple [.int (i : Nat), e.d])))) := by
  unfold rdEn
  rw [rdD_at (f := De.d) h]; rfl
theorem rdEn_end {ds : List De} {t : Ty} {s2 s3 : Sl} {i : Nat} (h : ds.length ≤ i) : rdEn (rdD (ds.map De.d)) (eJ ds t s2 s3) i = some none := by
  unfold rdEn
  rw [rdD_en (f := De.d) h]
theorem j_loop {ds : List De} (hl : ds.length < 900) : ∀ (m i fuel : Nat) (t : Ty) (s2 s3 : Sl), i + m = ds.length → m ≤ fuel → t.Ok i →
    ∃ t' s2' s3', dLoop (rdEn (rdD (ds.map De.d))) jTg jBody fuel i (eJ ds t s2 s3) = some (match jF t (ds.drop i) i with | none => .nx (eJ ds t' s2' s3') | some k => .rt (.dat (.int (k : Int))) (eJ ds t' s2' s3')) := by
  intro m
  induction m with
  | zero =>
    intro i fuel t s2 s3 hi _ _
    have : i = ds.length := by omega
    subst this
    refine ⟨t, s2, s3, ?_⟩
    rw [dLoop_end (rdEn_end (Nat.le_refl _)), List.drop_length]; rfl
  | succ m ih =>
    intro i fuel t s2 s3 hi hf ok
    cases fuel with
    | zero => omega
    | succ fuel =>
      have hil : i < ds.length := by omega
      have hv : ds[i]? = some ds[i] := List.getElem?_eq_getElem hil
      rw [List.drop_eq_getElem_cons hil]
      generalize ds[i] = e at hv
      let F (t : Ty) (a b : Sl) : En := [.own (L ds), .own t.s, a, b, .own (L ds)]
      have hb : jTg (.val (.dat (.tuple [.int (i : Nat), e.d]))) (eJ ds t s2 s3) = some (F t (.own (.dat (.int (i : Nat)))) (.own (.dat e.d))) :=
        bGo (E1 := F t (.own (.dat (.int (i : Nat)))) (killHead 2 s3)) rfl (bGo (E1 := F t (.own (.dat (.int (i : Nat)))) (.own (.dat e.d))) rfl bEnd)
      have c1 : eNot (eTest (eCall g_Tally_lets (dCons (dIns 4 (dVar 1)) (dCons (dVar 3) dNil)))) (F t (.own (.dat (.int (i : Nat)))) (.own (.dat e.d))) = some (!t.lets e, F t (.own (.dat (.int (i : Nat)))) (.own (.dat e.d))) :=
        eNot_go (eTest_go (eCall_go (rs := [.pl [1], .val (.dat e.d)]) rfl rfl rfl v_lets))
      unfold jF
      cases hle : t.lets e with
      | true =>
        rw [hle] at c1
        have c2 : dDrop (eCall g_Tally_note (dCons (dIns 4 (dVar 1)) (dCons (dVar 3) dNil))) (F t (.own (.dat (.int (i : Nat)))) (.own (.dat e.d))) = some (.nx (F (t.note e) (.own (.dat (.int (i : Nat)))) (.own (.dat e.d)))) :=
          dDrop_go (eCall_go (rs := [.pl [1], .val (.dat e.d)]) rfl rfl rfl (v_note ok (by omega)))
        rw [dLoop_nx (rdEn_L hv) hb (dSeq_go (dIf_f c1 rfl) c2)]
        exact ih (i + 1) fuel (t.note e) _ _ (by omega) (by omega) (ok.note e)
      | false =>
        rw [hle] at c1
        refine ⟨t, .no, .own (.dat e.d), ?_⟩
        rw [dLoop_rt (s := .dat (.int (i : Nat))) (E2 := F t .no (.own (.dat e.d))) (rdEn_L hv) hb (dSeq_rt (dIf_t c1 rfl))]; rfl
theorem v_judge {ds : List De} (hl : ds.length < 900) : g_judge [L ds] = some (.dat (oN (jF t0 ds 0)), [L ds]) := by
  have s1 : dSet 1 (eEff lNil fun k => dWhen (k + 1) 1 (eMk 4 k g_Tally___init__)) (entry 4 [L ds]) = some (.nx [.own (L ds), .own t0.s, .no, .no, .own (L ds)]) := rfl
  have hsrc : iEnumS (dVar 0) [.own (L ds), .own t0.s, .no, .no, .own (L ds)] = some ⟨[.own (L ds), .own t0.s, .no, .no, .own (L ds)], [], rdEn (rdD (ds.map De.d)), (ds.map De.d).length⟩ := rfl
  obtain ⟨t', s2', s3', h⟩ := j_loop hl ds.length 0 (ds.map De.d).length t0 .no .no (by omega) (by simp) t0_ok
  rw [List.drop_zero] at h
  cases hj : jF t0 ds 0 with
  | none =>
    rw [hj] at h
    have c2 := dFor_go hsrc h
    exact fnG_rt (dSeq_go s1 (dSeq_go c2 (dRet_go rfl))) rfl
  | some k =>
    rw [hj] at h
    have c2 : dFor (iEnumS (dVar 0)) jTg jBody [.own (L ds), .own t0.s, .no, .no, .own (L ds)] = some (.rt (.dat (.int (k : Int))) (stripE ⟨[.own (L ds), .own t0.s, .no, .no, .own (L ds)], [], rdEn (rdD (ds.map De.d)), (ds.map De.d).length⟩ (eJ ds t' s2' s3'))) := by
      unfold dFor
      rw [hsrc]
      simp only []
      rw [show ([.own (L ds), .own t0.s, .no, .no, .own (L ds)] : En) ++ [] = eJ ds t0 .no .no from rfl, h]; rfl
    exact fnG_rt (dSeq_go s1 (dSeq_rt c2)) rfl
end K16
/-! ([0] + [..])[-1] -/
namespace Gn
open PySem PySem.Spec PyProof.Rows L2 Mv
def lastI (ns : List Int) : Int := (0 :: ns).getLast (List.cons_ne_nil _ _)
abbrev lastOf (de : En → Option (S × En)) : En → Option (S × En) := eEff (lConsE (eEff (lConsP (dLst (dCons (dC (.int 0)) dNil)) (lConsE de lNil)) fun k => dWhen k 2 (ePure ((dOpS fCatL) (dGh k 0) (dGh k 1)))) (lConsP (dNeg (dC (.int 1))) lNil)) fun k => dWhen k 2 (ePure (dIxL (dGh k 0) (dGh k 1)))
theorem gh0 {E : En} {a b : Sl} {r : Rs} (h : dVar E.length (E ++ [a, b]) = some r) : dGh 2 0 (E ++ [a, b]) = some r := by
  unfold dGh
  rw [if_pos (by omega)]
  have : (E ++ [a, b]).length - 2 + 0 = E.length := by simp
  rw [this]; exact h
theorem gh1 {E : En} {a b : Sl} {r : Rs} (h : dVar (E.length + 1) (E ++ [a, b]) = some r) : dGh 2 1 (E ++ [a, b]) = some r := by
  unfold dGh
  rw [if_pos (by omega)]
  have : (E ++ [a, b]).length - 2 + 1 = E.length + 1 := by simp
  rw [this]; exact h
theorem at_app0 {E : En} {a b : Sl} : (E ++ [a, b])[E.length]? = some a := by simp
theorem at_app1 {E : En} {a b : Sl} : (E ++ [a, b])[E.length + 1]? = some b := by simp
theorem var_l {E : En} {i : Nat} {ns : List Int} (h : E[i]? = some (.own (lI ns))) : dVar i E = some (.pl [i]) := by unfold dVar; rw [h]; rfl
theorem var_i {E : En} {i : Nat} {x : Int} (h : E[i]? = some (.own (.dat (.int x)))) : dVar i E = some (.val (.dat (.int x))) := by unfold dVar; rw [h]
theorem at_l {E : En} {i : Nat} {s : S} (h : E[i]? = some (.own s)) : (Rs.pl [i]).at E = some s := by
  show eget E [i] = some s
  unfold eget
  simp only [h]
  exact S.get_nil s
theorem v_lastOf {E : En} {de : En → Option (S × En)} {ns : List Int} (hE : E.all (frs E.length) = true) (hn : ns.length < 1000) (h : de (E ++ [.own (lI [0])]) = some (lI ns, E ++ [.own (lI [0])])) :
    lastOf de E = some (.dat (.int (lastI ns)), E) := by
  have i1 : lConsP (dLst (dCons (dC (.int 0)) dNil)) (lConsE de lNil) E = some (2, E ++ [.own (lI [0]), .own (lI ns)]) :=
    lP_own (s := lI [0]) (k := 1) rfl (lE_go (k := 0) h (by rw [List.append_assoc]; rfl))
  have i2 : (ePure ((dOpS fCatL) (dGh 2 0) (dGh 2 1))) (E ++ [.own (lI [0]), .own (lI ns)]) = some (lI (0 :: ns), E ++ [.own (lI [0]), .own (lI ns)]) := by
    have := catL_go (f := PyData.int) (xs := [0]) (ys := ns) (E := E ++ [.own (lI [0]), .own (lI ns)]) (gh0 (var_l (ns := [0]) at_app0)) (at_l at_app0) (gh1 (var_l (ns := ns) at_app1)) (at_l at_app1) (by simp; omega)
    unfold ePure
    rw [this]; rfl
  have i3 : eEff (lConsP (dLst (dCons (dC (.int 0)) dNil)) (lConsE de lNil)) (fun k => dWhen k 2 (ePure ((dOpS fCatL) (dGh k 0) (dGh k 1)))) E = some (lI (0 :: ns), E) := by
    rw [eEff_go (dc := fun k => dWhen k 2 (ePure ((dOpS fCatL) (dGh k 0) (dGh k 1)))) i1 (when_go i2), strip_app hE 2 _ rfl]
  have j1 : lConsE (eEff (lConsP (dLst (dCons (dC (.int 0)) dNil)) (lConsE de lNil)) fun k => dWhen k 2 (ePure ((dOpS fCatL) (dGh k 0) (dGh k 1)))) (lConsP (dNeg (dC (.int 1))) lNil) E = some (2, E ++ [.own (lI (0 :: ns)), .own (.dat (.int (-1)))]) :=
    lE_go (k := 1) i3 (lP_own (s := .dat (.int (-1))) (k := 0) rfl (by rw [List.append_assoc]; rfl))
  have j2 : (ePure (dIxL (dGh 2 0) (dGh 2 1))) (E ++ [.own (lI (0 :: ns)), .own (.dat (.int (-1)))]) = some (.dat (.int (lastI ns)), E ++ [.own (lI (0 :: ns)), .own (.dat (.int (-1)))]) :=
    ePure_go (ixL_last (f := PyData.int) (xs := ns) (E := E ++ [.own (lI (0 :: ns)), .own (.dat (.int (-1)))]) (gh0 (var_l (ns := 0 :: ns) at_app0)) (at_l at_app0) (gh1 (var_i at_app1)))
  exact (eEff_go (dc := fun k => dWhen k 2 (ePure (dIxL (dGh k 0) (dGh k 1)))) j1 (when_go j2)).trans (by rw [strip_app hE 2 _ rfl])

end Gn
/-! k16: the law's own judge -/
namespace K16
open PySem PySem.Spec PyProof.Rows L2 Mv Gn

/-- the list of one number of each deed, of those that are meant -/
def sel (p : De → Bool) (g : De → Int) (l : List De) : List Int := (l.filter p).map g
def eD (ds : List De) (i : Int) (e : De) (s9 s10 s11 : Sl) : En := [.own (L ds), .own (.dat (.int i)), .own (.dat (.int e.slot)), .own (.dat (.int e.count)), .own (.dat (.int e.asker)), .own (.dat (.int e.num)), .own (.dat (.int e.more)), .own (.dat (.int e.worth)), .own (.dat (.int e.make)), s9, s10, s11, .own (L ds)]
theorem ixT_d {E : En} {da : En → Option Rs} {a : De} {k : Nat} {v : Int} (h : da E = some (.val (.dat a.d))) (hv : [a.slot, a.count, a.asker, a.num, a.more, a.worth, a.make][k]? = some v) : dIxT da (dC (.int (k : Int))) E = some (.val (.dat (.int v))) :=
  ixT_I (ns := [a.slot, a.count, a.asker, a.num, a.more, a.worth, a.make]) h rfl hv
theorem tst_eq {E : En} {da db : En → Option Rs} {x y : Int} (h1 : da E = some (.val (.dat (.int x)))) (h2 : db E = some (.val (.dat (.int y)))) : ePureT (dTest (dOp fEqS da db)) E = some (decide (x = y), E) := by
  unfold ePureT dTest
  rw [dOp_go (c := .bool (decide (x = y))) h1 h2 rfl rfl rfl]; rfl
/-- a comprehension over what lies in slot 9 or 10, no test -/
theorem comp_all {ds : List De} {i : Int} {e : De} {ah mi : List De} {k q : Nat} {xs : List De} {g : De → Int} (hx : (q = 9 ∧ xs = ah) ∨ (q = 10 ∧ xs = mi)) (hl : xs.length < 1000)
    (hg : ∀ a : De, [a.slot, a.count, a.asker, a.num, a.more, a.worth, a.make][k]? = some (g a)) :
    eLc (iLst (dVar q)) 11 eYes (ePure (dIxT (dVar 11) (dC (.int (k : Int))))) (eD ds i e (.own (R ah)) (.own (R mi)) .no ++ [.own (lI [0])]) = some (lI (xs.map g), eD ds i e (.own (R ah)) (.own (R mi)) .no ++ [.own (lI [0])]) := by
  have key : ∀ (E0 : En), E0 = eD ds i e (.own (R ah)) (.own (R mi)) .no ++ [.own (lI [0]), .bor [q]] → ∀ a : De, ∃ E1, bName 11 (.val (.dat a.d)) E0 = some E1 ∧ eYes E1 = some (true, E1) ∧ (true = true → (ePure (dIxT (dVar 11) (dC (.int (k : Int))))) E1 = some (.dat (.int (g a)), E1)) ∧ slotSet E1 11 .no = E0 := by
    intro E0 h0 a
    subst h0
    refine ⟨eD ds i e (.own (R ah)) (.own (R mi)) (.own (.dat a.d)) ++ [.own (lI [0]), .bor [q]], ?_, rfl, fun _ => ePure_go (ixT_d rfl (hg a)), ?_⟩
    · rcases hx with ⟨rfl, _⟩ | ⟨rfl, _⟩ <;> rfl
    · rcases hx with ⟨rfl, _⟩ | ⟨rfl, _⟩ <;> rfl
  have fin := lcP (xs := xs) (f := De.d) (p := fun _ => true) (g := fun a => S.dat (.int (g a))) (q := [q]) (j := 11) (src := iLst (dVar q)) (dt := eYes) (de := ePure (dIxT (dVar 11) (dC (.int (k : Int))))) (E := eD ds i e (.own (R ah)) (.own (R mi)) .no ++ [.own (lI [0])]) (E0 := eD ds i e (.own (R ah)) (.own (R mi)) .no ++ [.own (lI [0]), .bor [q]]) (by omega)
    (by rw [← dL_len (f := De.d) (xs := xs)]; rcases hx with ⟨rfl, rfl⟩ | ⟨rfl, rfl⟩ <;> rfl) (by rcases hx with ⟨rfl, rfl⟩ | ⟨rfl, rfl⟩ <;> rfl) rfl (by rcases hx with ⟨rfl, rfl⟩ | ⟨rfl, rfl⟩ <;> rfl) (fun a _ => key _ rfl a)
  rw [fin]
  have e1 : (xs.filter fun _ => true).map (fun a => S.dat (.int (g a))) = (xs.map g).map fun i => S.dat (.int i) := by
    rw [List.filter_eq_self.mpr (fun _ _ => rfl), List.map_map]; rfl
  rw [e1]
  rfl
theorem comp_sel {ds : List De} {i : Int} {e : De} {ah mi : List De} (hl : ah.length < 1000) :
    eLc (iLst (dVar 9)) 11 (ePureT (dTest (dOp fEqS (dIxT (dVar 11) (dC (.int 2))) (dVar 4)))) (ePure (dIxT (dVar 11) (dC (.int 3)))) (eD ds i e (.own (R ah)) (.own (R mi)) .no ++ [.own (lI [0])]) = some (lI (sel (fun a => decide (a.asker = e.asker)) De.num ah), eD ds i e (.own (R ah)) (.own (R mi)) .no ++ [.own (lI [0])]) := by
  have fin := lcP (xs := ah) (f := De.d) (p := fun a => decide (a.asker = e.asker)) (g := fun a => S.dat (.int a.num)) (q := [9]) (j := 11) (src := iLst (dVar 9)) (dt := ePureT (dTest (dOp fEqS (dIxT (dVar 11) (dC (.int 2))) (dVar 4)))) (de := ePure (dIxT (dVar 11) (dC (.int 3)))) (E := eD ds i e (.own (R ah)) (.own (R mi)) .no ++ [.own (lI [0])]) (E0 := eD ds i e (.own (R ah)) (.own (R mi)) .no ++ [.own (lI [0]), .bor [9]]) (by omega)
    (by rw [← dL_len (f := De.d) (xs := ah)]; rfl) rfl rfl rfl (fun a _ => by
      refine ⟨eD ds i e (.own (R ah)) (.own (R mi)) (.own (.dat a.d)) ++ [.own (lI [0]), .bor [9]], rfl, tst_eq (ixT_d (k := 2) rfl rfl) rfl, fun _ => ePure_go (ixT_d (k := 3) rfl rfl), rfl⟩)
  rw [fin]
  have e1 : (ah.filter fun a => decide (a.asker = e.asker)).map (fun a => S.dat (.int a.num)) = (sel (fun a => decide (a.asker = e.asker)) De.num ah).map fun i => S.dat (.int i) := by simp [sel]
  rw [e1]
  rfl
theorem comp_mine {ds : List De} {i : Int} {e : De} {ah : List De} {s10 s11 : Sl} (hl : ah.length < 1000) :
    ∃ s10', eLc (iLst (dVar 9)) 11 (ePureT (dTest (dOp fEqS (dIxT (dVar 11) (dC (.int 0))) (dVar 2)))) (ePure (dVar 11)) (eD ds i e (.own (R ah)) s10 s11) = some (R (ah.filter fun a => decide (a.slot = e.slot)), eD ds i e (.own (R ah)) s10' .no) := by
  have fin := lcP (xs := ah) (f := De.d) (p := fun a => decide (a.slot = e.slot)) (g := fun a => S.dat a.d) (q := [9]) (j := 11) (src := iLst (dVar 9)) (dt := ePureT (dTest (dOp fEqS (dIxT (dVar 11) (dC (.int 0))) (dVar 2)))) (de := ePure (dVar 11)) (E := eD ds i e (.own (R ah)) s10 s11) (E0 := eD ds i e (.own (R ah)) (killHead 11 s10) .no ++ [.bor [9]]) (by omega)
    (by rw [← dL_len (f := De.d) (xs := ah)]; rfl) rfl rfl rfl (fun a _ => by
      have hk : killHead 11 (killHead 11 s10) = killHead 11 s10 := by
        cases s10 with
        | no => rfl
        | own s => rfl
        | bor q =>
          by_cases h : q.head? = some 11
          · simp [killHead, h]
          · simp [killHead, h]
      refine ⟨eD ds i e (.own (R ah)) (killHead 11 s10) (.own (.dat a.d)) ++ [.bor [9]], ?_, ?_, fun _ => rfl, ?_⟩
      · show some (eD ds i e (.own (R ah)) (killHead 11 (killHead 11 s10)) (.own (.dat a.d)) ++ [.bor [9]]) = _
        rw [hk]
      · exact tst_eq (ixT_d (k := 0) rfl rfl) rfl
      · show eD ds i e (.own (R ah)) (killHead 11 (killHead 11 s10)) .no ++ [.bor [9]] = _
        rw [hk])
  refine ⟨killHead 13 (killHead 11 s10), ?_⟩
  rw [fin]
  rfl

/-! the turn -/
abbrev dTg : List PyData → En → Option En := bCons (bName 2) (bCons (bName 3) (bCons (bName 4) (bCons (bName 5) (bCons (bName 6) (bCons (bName 7) (bCons (bName 8) bNil))))))
abbrev cAll (q k : Nat) : En → Option (S × En) := eLc (iLst (dVar q)) 11 eYes (ePure (dIxT (dVar 11) (dC (.int (k : Int)))))
abbrev dBody : En → Option Out := dSeq (dAsg (bTup 7 dTg) (ePure (dIxL (dVar 0) (dVar 1))))
    (dSeq (dAlias 9 (dSl fSlL (dVar 0) dNoPart (dPart (dVar 1))))
    (dSeq (dSet 10 (eLc (iLst (dVar 9)) 11 (ePureT (dTest (dOp fEqS (dIxT (dVar 11) (dC (.int 0))) (dVar 2)))) (ePure (dVar 11))))
    (dSeq (dIf (eTest (eOp fNeS (ePure (dVar 3)) (eOp fAdd (lastOf (cAll 10 1)) (ePure (dC (.int 1)))))) (dRet (eMove 1)) dNext)
    (dSeq (dIf (eTest (eOp fNeS (ePure (dVar 7)) (eOp fMod (eOp fAdd (lastOf (cAll 10 5)) (ePure (dVar 6))) (ePure (dC (.int 1000)))))) (dRet (eMove 1)) dNext)
    (dSeq (dIf (eTest (eOp fNeS (ePure (dVar 5)) (eOp fAdd (lastOf (eLc (iLst (dVar 9)) 11 (ePureT (dTest (dOp fEqS (dIxT (dVar 11) (dC (.int 2))) (dVar 4)))) (ePure (dIxT (dVar 11) (dC (.int 3)))))) (ePure (dC (.int 1)))))) (dRet (eMove 1)) dNext)
    (dIf (eTest (eOp fLt (ePure (dVar 8)) (lastOf (cAll 9 6)))) (dRet (eMove 1)) dNext))))))
theorem due_is : d__law_due = dSeq (dFor (iRange (dLen (dVar 0))) (bName 1) dBody) (dRet (ePure (dC .none))) := rfl
/-- whether the law lets a deed, by those ahead of it -/
def lawLets (ah : List De) (e : De) : Bool :=
  decide (e.count = lastI (sel (fun a => decide (a.slot = e.slot)) De.count ah) + 1) && decide (e.worth = (lastI (sel (fun a => decide (a.slot = e.slot)) De.worth ah) + e.more) % 1000) &&
  decide (e.num = lastI (sel (fun a => decide (a.asker = e.asker)) De.num ah) + 1) && decide (lastI (ah.map De.make) ≤ e.make)
theorem tst_ne {E : En} {da db : En → Option (S × En)} {x y : Int} (h1 : da E = some (.dat (.int x), E)) (h2 : db E = some (.dat (.int y), E)) : eTest (eOp fNeS da db) E = some (!decide (x = y), E) :=
  eTest_go (eOp_go h1 h2 rfl)
theorem v_rest {ds : List De} {i : Nat} {e : De} {s10 : Sl} (hl : ds.length < 900) :
    dSeq (dSet 10 (eLc (iLst (dVar 9)) 11 (ePureT (dTest (dOp fEqS (dIxT (dVar 11) (dC (.int 0))) (dVar 2)))) (ePure (dVar 11))))
    (dSeq (dIf (eTest (eOp fNeS (ePure (dVar 3)) (eOp fAdd (lastOf (cAll 10 1)) (ePure (dC (.int 1)))))) (dRet (eMove 1)) dNext)
    (dSeq (dIf (eTest (eOp fNeS (ePure (dVar 7)) (eOp fMod (eOp fAdd (lastOf (cAll 10 5)) (ePure (dVar 6))) (ePure (dC (.int 1000)))))) (dRet (eMove 1)) dNext)
    (dSeq (dIf (eTest (eOp fNeS (ePure (dVar 5)) (eOp fAdd (lastOf (eLc (iLst (dVar 9)) 11 (ePureT (dTest (dOp fEqS (dIxT (dVar 11) (dC (.int 2))) (dVar 4)))) (ePure (dIxT (dVar 11) (dC (.int 3)))))) (ePure (dC (.int 1)))))) (dRet (eMove 1)) dNext)
    (dIf (eTest (eOp fLt (ePure (dVar 8)) (lastOf (cAll 9 6)))) (dRet (eMove 1)) dNext)))) (eD ds (i : Nat) e (.own (R (ds.take i))) s10 .no) =
      some (if lawLets (ds.take i) e then .nx (eD ds (i : Nat) e (.own (R (ds.take i))) (.own (R ((ds.take i).filter fun a => decide (a.slot = e.slot)))) .no) else .rt (.dat (.int (i : Nat))) ((eD ds (i : Nat) e (.own (R (ds.take i))) (.own (R ((ds.take i).filter fun a => decide (a.slot = e.slot)))) .no).set 1 .no)) := by
  have hah : (ds.take i).length < 1000 := by rw [List.length_take]; omega
  generalize ds.take i = ah at hah
  have hmi : (ah.filter fun a => decide (a.slot = e.slot)).length < 1000 := Nat.lt_of_le_of_lt (List.length_filter_le _ _) hah
  obtain ⟨s10', c0⟩ := comp_mine (ds := ds) (i := (i : Int)) (e := e) (s10 := s10) (s11 := .no) hah
  have b0 : dSet 10 (eLc (iLst (dVar 9)) 11 (ePureT (dTest (dOp fEqS (dIxT (dVar 11) (dC (.int 0))) (dVar 2)))) (ePure (dVar 11))) (eD ds (i : Nat) e (.own (R ah)) s10 .no) = some (.nx (eD ds (i : Nat) e (.own (R ah)) (.own (R (ah.filter fun a => decide (a.slot = e.slot)))) .no)) :=
    (dSet_go c0).trans rfl
  unfold lawLets sel
  generalize (ah.filter fun a => decide (a.slot = e.slot)) = mi at b0 hmi
  let E : En := eD ds (i : Nat) e (.own (R ah)) (.own (R mi)) .no
  have hE : E.all (frs E.length) = true := rfl
  have l1 : lastOf (cAll 10 1) E = some (.dat (.int (lastI (mi.map De.count))), E) := v_lastOf hE (by simpa using hmi) (comp_all (k := 1) (xs := mi) (g := De.count) (.inr ⟨rfl, rfl⟩) hmi (fun _ => rfl))
  have l5 : lastOf (cAll 10 5) E = some (.dat (.int (lastI (mi.map De.worth))), E) := v_lastOf hE (by simpa using hmi) (comp_all (k := 5) (xs := mi) (g := De.worth) (.inr ⟨rfl, rfl⟩) hmi (fun _ => rfl))
  have l6 : lastOf (cAll 9 6) E = some (.dat (.int (lastI (ah.map De.make))), E) := v_lastOf hE (by simpa using hah) (comp_all (k := 6) (xs := ah) (g := De.make) (.inl ⟨rfl, rfl⟩) hah (fun _ => rfl))
  have l3 : lastOf (eLc (iLst (dVar 9)) 11 (ePureT (dTest (dOp fEqS (dIxT (dVar 11) (dC (.int 2))) (dVar 4)))) (ePure (dIxT (dVar 11) (dC (.int 3))))) E = some (.dat (.int (lastI (sel (fun a => decide (a.asker = e.asker)) De.num ah))), E) :=
    v_lastOf hE (by unfold sel; rw [List.length_map]; exact Nat.lt_of_le_of_lt (List.length_filter_le _ _) hah) (comp_sel hah)
  unfold sel at l3
  have t1 := tst_ne (E := E) (x := e.count) (da := ePure (dVar 3)) rfl (eOp_go (f := fAdd) l1 (show ePure (dC (.int 1)) E = some (.dat (.int 1), E) from rfl) rfl)
  have t5 := tst_ne (E := E) (x := e.worth) (da := ePure (dVar 7)) rfl (eOp_go (f := fMod) (eOp_go (f := fAdd) l5 (show ePure (dVar 6) E = some (.dat (.int e.more), E) from rfl) rfl) (show ePure (dC (.int 1000)) E = some (.dat (.int 1000), E) from rfl) (modP (by omega)))
  have t3 := tst_ne (E := E) (x := e.num) (da := ePure (dVar 5)) rfl (eOp_go (f := fAdd) l3 (show ePure (dC (.int 1)) E = some (.dat (.int 1), E) from rfl) rfl)
  have t6 : eTest (eOp fLt (ePure (dVar 8)) (lastOf (cAll 9 6))) E = some (decide (e.make < lastI (ah.map De.make)), E) := eTest_go (eOp_go (x := .int e.make) rfl l6 rfl)
  refine dSeq_go b0 ?_
  have out : dRet (eMove 1) E = some (.rt (.dat (.int (i : Nat))) (E.set 1 .no)) := rfl
  generalize lastI (mi.map De.count) = x1 at t1 ⊢
  generalize lastI (mi.map De.worth) = x5 at t5 ⊢
  generalize lastI ((ah.filter fun a => decide (a.asker = e.asker)).map De.num) = x3 at t3 ⊢
  generalize lastI (ah.map De.make) = x6 at t6 ⊢
  by_cases h1 : e.count = x1 + 1
  · rw [decide_eq_true h1] at t1 ⊢
    refine dSeq_go (E1 := E) (dIf_f t1 rfl) ?_
    by_cases h5 : e.worth = (x5 + e.more) % 1000
    · rw [decide_eq_true h5] at t5 ⊢
      refine dSeq_go (E1 := E) (dIf_f t5 rfl) ?_
      by_cases h3 : e.num = x3 + 1
      · rw [decide_eq_true h3] at t3 ⊢
        refine dSeq_go (E1 := E) (dIf_f t3 rfl) ?_
        by_cases h6 : e.make < x6
        · rw [decide_eq_true h6] at t6
          rw [decide_eq_false (show ¬ x6 ≤ e.make by omega)]
          exact dIf_t t6 out
        · rw [decide_eq_false h6] at t6
          rw [decide_eq_true (show x6 ≤ e.make by omega)]
          exact dIf_f t6 rfl
      · rw [decide_eq_false h3] at t3 ⊢
        rw [Bool.and_false, Bool.false_and]
        exact dSeq_rt (dIf_t t3 out)
    · rw [decide_eq_false h5] at t5 ⊢
      rw [Bool.and_false, Bool.false_and, Bool.false_and]
      exact dSeq_rt (dIf_t t5 out)
  · rw [decide_eq_false h1] at t1 ⊢
    rw [Bool.false_and, Bool.false_and, Bool.false_and]
    exact dSeq_rt (dIf_t t1 out)
end K16
/-! k16: the law's own judge tells what judge tells -/
namespace K16
open PySem PySem.Spec PyProof.Rows L2 Mv Gn
def dF (ah : List De) : List De → Nat → Option Nat
  | [], _ => none
  | e :: r, i => if lawLets ah e then dF (ah ++ [e]) r (i + 1) else some i
theorem v_tg {E0 : En} {ds : List De} {i : Nat} {e : De} {s2 s3 s4 s5 s6 s7 s8 s9 s10 : Sl} (q : ∀ s ∈ [s2, s3, s4, s5, s6, s7, s8, s9, s10], ∀ j, killHead j s = s) (hv : ds[i]? = some e) :
    dAsg (bTup 7 dTg) (ePure (dIxL (dVar 0) (dVar 1))) [.own (L ds), .own (.dat (.int (i : Nat))), s2, s3, s4, s5, s6, s7, s8, s9, s10, .no, .own (L ds)] = some (.nx (eD ds (i : Nat) e s9 s10 .no)) := by
  let o (i : Int) : Sl := .own (.dat (.int i))
  let F (a b c d f g h : Sl) : En := [.own (L ds), .own (.dat (.int (i : Nat))), a, b, c, d, f, g, h, s9, s10, .no, .own (L ds)]
  have k3 := q s3 (by simp)
  have k4 := q s4 (by simp)
  have k5 := q s5 (by simp)
  have k6 := q s6 (by simp)
  have k7 := q s7 (by simp)
  have k8 := q s8 (by simp)
  have k9 := q s9 (by simp)
  have k10 := q s10 (by simp)
  have ko : ∀ (j : Nat) (s : S), killHead j (.own s) = .own s := fun _ _ => rfl
  have h0 : ePure (dIxL (dVar 0) (dVar 1)) (F s2 s3 s4 s5 s6 s7 s8) = some (.dat e.d, F s2 s3 s4 s5 s6 s7 s8) := ePure_go (ixD_go (f := De.d) (xs := ds) rfl rfl hv)
  refine dAsg_tup (E0 := F s2 s3 s4 s5 s6 s7 s8) h0 rfl
    (bGo (E1 := F (o e.slot) s3 s4 s5 s6 s7 s8) ?_ (bGo (E1 := F (o e.slot) (o e.count) s4 s5 s6 s7 s8) ?_ (bGo (E1 := F (o e.slot) (o e.count) (o e.asker) s5 s6 s7 s8) ?_ (bGo (E1 := F (o e.slot) (o e.count) (o e.asker) (o e.num) s6 s7 s8) ?_ (bGo (E1 := F (o e.slot) (o e.count) (o e.asker) (o e.num) (o e.more) s7 s8) ?_ (bGo (E1 := F (o e.slot) (o e.count) (o e.asker) (o e.num) (o e.more) (o e.worth) s8) ?_ (bGo (E1 := F (o e.slot) (o e.count) (o e.asker) (o e.num) (o e.more) (o e.worth) (o e.make)) ?_ bEnd))))))) <;>
    (simp only [slotSet, F, o, List.map_cons, List.map_nil, ko, k3, k4, k5, k6, k7, k8, k9, k10]; rfl)
theorem v_turn {ds : List De} {i : Nat} {e : De} {s2 s3 s4 s5 s6 s7 s8 s9 s10 : Sl} (q : ∀ s ∈ [s2, s3, s4, s5, s6, s7, s8, s9, s10], ∀ j, killHead j s = s) (hl : ds.length < 900) (hv : ds[i]? = some e) :
    dBody [.own (L ds), .own (.dat (.int (i : Nat))), s2, s3, s4, s5, s6, s7, s8, s9, s10, .no, .own (L ds)] =
      some (if lawLets (ds.take i) e then .nx (eD ds (i : Nat) e (.own (R (ds.take i))) (.own (R ((ds.take i).filter fun a => decide (a.slot = e.slot)))) .no) else .rt (.dat (.int (i : Nat))) ((eD ds (i : Nat) e (.own (R (ds.take i))) (.own (R ((ds.take i).filter fun a => decide (a.slot = e.slot)))) .no).set 1 .no)) := by
  have hi := (List.getElem?_eq_some_iff.mp hv).1
  have b1 := v_tg (E0 := []) q hv
  have b2 : dAlias 9 (dSl fSlL (dVar 0) dNoPart (dPart (dVar 1))) (eD ds (i : Nat) e s9 s10 .no) = some (.nx (eD ds (i : Nat) e (.own (R (ds.take i))) s10 .no)) := by
    have : dSl fSlL (dVar 0) dNoPart (dPart (dVar 1)) (eD ds (i : Nat) e s9 s10 .no) = some (.val (R (ds.take i))) := slD_pre (f := De.d) (xs := ds) (k := i) rfl rfl (by omega)
    unfold dAlias
    rw [this]
    have k10 := q s10 (by simp) 9
    show some (Out.nx [_, _, _, _, _, _, _, _, _, _, killHead 9 s10, _, _]) = _
    rw [k10]; rfl
  exact dSeq_go b1 (dSeq_go b2 (v_rest hl))
theorem no_q : ∀ j, killHead j Sl.no = Sl.no := fun _ => rfl
theorem d_loop {ds : List De} (hl : ds.length < 900) : ∀ (m i fuel : Nat) (s1 s2 s3 s4 s5 s6 s7 s8 s9 s10 : Sl), (∀ s ∈ [s2, s3, s4, s5, s6, s7, s8, s9, s10], ∀ j, killHead j s = s) → i + m = ds.length → m ≤ fuel →
    ∃ E', dLoop (fun _ i => some (if i < ds.length then some (.val (.dat (.int (i : Nat)))) else none)) (bName 1) dBody fuel i [.own (L ds), s1, s2, s3, s4, s5, s6, s7, s8, s9, s10, .no, .own (L ds)] = some (match dF (ds.take i) (ds.drop i) i with | none => .nx E' | some k => .rt (.dat (.int (k : Int))) E') ∧ ownSs (E'.drop 12) = some [L ds] := by
  intro m
  induction m with
  | zero =>
    intro i fuel s1 s2 s3 s4 s5 s6 s7 s8 s9 s10 q hi _
    have : i = ds.length := by omega
    subst this
    exact ⟨_, by rw [dLoop_end (rng_end (E := [])), List.drop_length]; rfl, rfl⟩
  | succ m ih =>
    intro i fuel s1 s2 s3 s4 s5 s6 s7 s8 s9 s10 q hi hf
    cases fuel with
    | zero => omega
    | succ fuel =>
      have hil : i < ds.length := by omega
      have hv : ds[i]? = some ds[i] := List.getElem?_eq_getElem hil
      have ht : ds.take (i + 1) = ds.take i ++ [ds[i]] := by rw [List.take_succ, hv]; rfl
      rw [List.drop_eq_getElem_cons hil]
      generalize ds[i] = e at hv ht
      have hb : bName 1 (.val (.dat (.int (i : Nat)))) [.own (L ds), s1, s2, s3, s4, s5, s6, s7, s8, s9, s10, .no, .own (L ds)] = some [.own (L ds), .own (.dat (.int (i : Nat))), s2, s3, s4, s5, s6, s7, s8, s9, s10, .no, .own (L ds)] := by
        show some [_, _, killHead 1 s2, killHead 1 s3, killHead 1 s4, killHead 1 s5, killHead 1 s6, killHead 1 s7, killHead 1 s8, killHead 1 s9, killHead 1 s10, _, _] = _
        rw [q s2 (by simp), q s3 (by simp), q s4 (by simp), q s5 (by simp), q s6 (by simp), q s7 (by simp), q s8 (by simp), q s9 (by simp), q s10 (by simp)]; rfl
      have ht2 := v_turn (i := i) (e := e) q hl hv
      unfold dF
      cases hle : lawLets (ds.take i) e with
      | true =>
        rw [hle, if_pos rfl] at ht2
        rw [dLoop_nx (rng_rd (E := []) hil) hb ht2, if_pos rfl, ← ht]
        exact ih (i + 1) fuel _ _ _ _ _ _ _ _ _ _ (by
          intro s hs j
          simp only [List.mem_cons, List.not_mem_nil, or_false] at hs
          rcases hs with rfl | rfl | rfl | rfl | rfl | rfl | rfl | rfl | rfl <;> rfl) (by omega) (by omega)
      | false =>
        rw [hle, if_neg Bool.false_ne_true] at ht2
        refine ⟨(eD ds (i : Nat) e (.own (R (ds.take i))) (.own (R ((ds.take i).filter fun a => decide (a.slot = e.slot)))) .no).set 1 .no, ?_, rfl⟩
        rw [dLoop_rt (rng_rd (E := []) hil) hb ht2, if_neg Bool.false_ne_true]
theorem v_due {ds : List De} (hl : ds.length < 900) : g__law_due [L ds] = some (.dat (oN (dF [] ds 0)), [L ds]) := by
  have hlen : dLen (dVar 0) (entry 12 [L ds]) = some (.val (.dat (.int (ds.length : Nat)))) := len_dat (f := De.d) (xs := ds) rfl
  have hsrc := iRange_go hlen (by omega) (by omega)
  rw [Int.toNat_natCast] at hsrc
  obtain ⟨E', h, ho⟩ := d_loop hl ds.length 0 ds.length .no .no .no .no .no .no .no .no .no .no (by
    intro s hs j
    simp only [List.mem_cons, List.not_mem_nil, or_false] at hs
    rcases hs with rfl | rfl | rfl | rfl | rfl | rfl | rfl | rfl | rfl <;> rfl) (by omega) (Nat.le_refl _)
  rw [List.drop_zero, List.take_zero] at h
  unfold g__law_due
  rw [due_is]
  cases hj : dF [] ds 0 with
  | none =>
    rw [hj] at h
    exact fnG_rt (dSeq_go (dFor_go hsrc h) (dRet_go rfl)) ho
  | some k =>
    rw [hj] at h
    exact fnG_rt (dSeq_rt (dFor_rt hsrc h)) ho
/-! both tell the same -/
structure Same (t : Ty) (ah : List De) : Prop where
  s : ∀ k, t.at k = (lastI (sel (fun a => decide (a.slot = k)) De.worth ah), lastI (sel (fun a => decide (a.slot = k)) De.count ah))
  n : ∀ k, t.num k = lastI (sel (fun a => decide (a.asker = k)) De.num ah)
  m : t.make = lastI (ah.map De.make)
theorem lastI_snoc (ns : List Int) (x : Int) : lastI (ns ++ [x]) = x := by
  unfold lastI
  simp [List.getLast_cons]
theorem sel_snoc (p : De → Bool) (g : De → Int) (ah : List De) (e : De) : sel p g (ah ++ [e]) = if p e then sel p g ah ++ [g e] else sel p g ah := by
  unfold sel
  rw [List.filter_append, List.map_append]
  cases h : p e <;> simp [h]
theorem Same.note {t : Ty} {ah : List De} (h : Same t ah) (e : De) : Same (t.note e) (ah ++ [e]) := by
  refine ⟨fun k => ?_, fun k => ?_, ?_⟩
  · unfold Ty.at Ty.note
    simp only []
    rw [getK_put, sel_snoc, sel_snoc]
    by_cases z : e.slot = k
    · rw [if_pos z, if_pos (by simpa using z), if_pos (by simpa using z), lastI_snoc, lastI_snoc]; rfl
    · rw [if_neg z, if_neg (by simpa using z), if_neg (by simpa using z)]
      exact h.s k
  · unfold Ty.num Ty.note
    simp only []
    rw [getK_put, sel_snoc]
    by_cases z : e.asker = k
    · rw [if_pos z, if_pos (by simpa using z), lastI_snoc]; rfl
    · rw [if_neg z, if_neg (by simpa using z)]
      exact h.n k
  · rw [List.map_append]
    exact (lastI_snoc _ _).symm
theorem Same.lets {t : Ty} {ah : List De} (h : Same t ah) (e : De) : t.lets e = lawLets ah e := by
  unfold Ty.lets lawLets
  rw [h.s, h.n, h.m]
theorem same_t0 : Same t0 [] := ⟨fun _ => rfl, fun _ => rfl, rfl⟩
theorem jd {t : Ty} : ∀ {ds : List De} {ah : List De} {i : Nat}, Same t ah → jF t ds i = dF ah ds i := by
  intro ds
  induction ds generalizing t with
  | nil => intros; rfl
  | cons e r ih =>
    intro ah i h
    unfold jF dF
    rw [h.lets e, ih (h.note e)]
end K16
/-! k16: the law's deeds that may be -/
namespace K16
open PySem PySem.Spec PyProof.Rows L2 Mv
open Gn hiding g__law_take g__law_begun d__law_take d__law_begun
theorem take_go {ns : List Int} {st many : Int} (h0 : 0 < many) (h1 : many < 1073741824) (hl : ns.length < 1000) : ∃ r ns' st', 0 ≤ r ∧ r < many ∧ ns'.length < 1000 ∧ g__law_take [bx ns st, .dat (.int many)] = some (.dat (.int r), [bx ns' st', .dat (.int many)]) := by
  obtain ⟨r, ns', st', a, b, c, d⟩ := v_take (st := st) h0 h1 hl
  exact ⟨r, ns', st', a, b, by omega, d⟩
theorem jF_snoc {e : De} : ∀ {l : List De} {t : Ty} {i : Nat}, jF t l i = none → (l.foldl Ty.note t).lets e = true → jF t (l ++ [e]) i = none
  | [], t, i, _, h => by
    show (if t.lets e then jF (t.note e) [] (i + 1) else some i) = none
    rw [if_pos (by exact h)]; rfl
  | a :: l, t, i, h1, h2 => by
    unfold jF at h1
    split at h1
    · next ha =>
      show (if t.lets a then jF (t.note a) (l ++ [e]) (i + 1) else some i) = none
      rw [if_pos ha]
      exact jF_snoc h1 h2
    · cases h1
/-- what the law keeps of the deeds that it made -/
structure Kp (found : List De) (sl : List (Int × (Int × Int))) (nu : List (Int × Int)) (mk : Int) : Prop where
  j : jF t0 found 0 = none
  s : ∀ k, (found.foldl Ty.note t0).at k = (((getK sl k).getD (0, 0)).2, ((getK sl k).getD (0, 0)).1)
  n : ∀ k, (found.foldl Ty.note t0).num k = (getK nu k).getD 0
  m : (found.foldl Ty.note t0).make ≤ mk
  n1 : (sl.map (·.1)).Nodup
  n2 : (nu.map (·.1)).Nodup
  l1 : sl.length ≤ found.length
  l2 : nu.length ≤ found.length
def cAt (sl : List (Int × (Int × Int))) (k : Int) : Int × Int := (getK sl k).getD (0, 0)
def nAt (nu : List (Int × Int)) (k : Int) : Int := (getK nu k).getD 0
/-- the deed that is made next -/
def nextDe (sl : List (Int × (Int × Int))) (nu : List (Int × Int)) (slot asker more mk : Int) : De := ⟨slot, (cAt sl slot).1 + 1, asker, nAt nu asker + 1, more, ((cAt sl slot).2 + more) % 1000, mk⟩
theorem Kp.next {found : List De} {sl : List (Int × (Int × Int))} {nu : List (Int × Int)} {mk mk' slot asker more : Int} (h : Kp found sl nu mk) (hm : mk ≤ mk') :
    Kp (found ++ [nextDe sl nu slot asker more mk']) (putN sl slot ((cAt sl slot).1 + 1, ((cAt sl slot).2 + more) % 1000)) (putN nu asker (nAt nu asker + 1)) mk' := by
  have e1 : (found ++ [nextDe sl nu slot asker more mk']).foldl Ty.note t0 = (found.foldl Ty.note t0).note (nextDe sl nu slot asker more mk') := by rw [List.foldl_append]; rfl
  refine ⟨jF_snoc h.j ?_, fun k => ?_, fun k => ?_, ?_, putN_nodup _ _ h.n1, putN_nodup _ _ h.n2, ?_, ?_⟩
  · unfold Ty.lets
    rw [h.s, h.n]
    have := h.m
    simp only [nextDe, cAt, nAt, decide_true, Bool.true_and]
    exact decide_eq_true (by omega)
  · rw [e1]
    unfold Ty.at Ty.note
    simp only []
    rw [getK_put, getK_put]
    by_cases z : slot = k
    · rw [if_pos (show (nextDe sl nu slot asker more mk').slot = k from z), if_pos z]; rfl
    · rw [if_neg (show ¬ (nextDe sl nu slot asker more mk').slot = k from z), if_neg z]
      exact h.s k
  · rw [e1]
    unfold Ty.num Ty.note
    simp only []
    rw [getK_put, getK_put]
    by_cases z : asker = k
    · rw [if_pos (show (nextDe sl nu slot asker more mk').asker = k from z), if_pos z]; rfl
    · rw [if_neg (show ¬ (nextDe sl nu slot asker more mk').asker = k from z), if_neg z]
      exact h.n k
  · rw [e1]; exact Int.le_refl _
  · have := putN_len ((cAt sl slot).1 + 1, ((cAt sl slot).2 + more) % 1000) slot sl
    have := h.l1
    simp only [List.length_append, List.length_cons, List.length_nil]; omega
  · have := putN_len (nAt nu asker + 1) asker nu
    have := h.l2
    simp only [List.length_append, List.length_cons, List.length_nil]; omega
theorem kp0 : Kp [] [] [] 0 := ⟨rfl, fun _ => rfl, fun _ => rfl, Int.le_refl _, List.nodup_nil, List.nodup_nil, Nat.le_refl _, Nat.le_refl _⟩

def sl1 (b : Bool) (x : Int) : Sl := match b with | true => .own (.dat (.int x)) | false => .no
def eB (b c : Bool) (B : S) (found : List De) (sl : List (Int × (Int × Int))) (nu : List (Int × Int)) (mk most : Int) (s6 : Sl) (a7 a8 a9 a10 a11 : Int) : En :=
  [.bor [12], .own (R found), .own (.dct false (kN t2 sl)), .own (.dct false (kN iD nu)), .own (.dat (.int mk)), .own (.dat (.int most)), s6, sl1 b a7, sl1 b a8, sl1 b a9, sl1 c a10, sl1 c a11, .own B]
abbrev tk (da : En → Option Rs) : En → Option (S × En) := eCall g__law_take (dCons (dVar 0) (dCons da dNil))
abbrev bS1 : En → Option Out := dParL3 7 8 9 (lConsE (tk (dVar 5)) (lConsE (tk (dC (.int 6))) (lConsE (eOp fSub (tk (dC (.int 199))) (ePure (dC (.int 99)))) lNil)))
abbrev bS2 : En → Option Out := dSet 4 (eOp fAdd (ePure (dVar 4)) (eOp fDiv (tk (dC (.int 6))) (ePure (dC (.int 5)))))
abbrev bS3 : En → Option Out := dAsg (bTup 2 (bCons (bName 10) (bCons (bName 11) bNil))) (ePure (dDGet2 (dVar 2) (dVar 7) (dTupL (dCons (dC (.int 0)) (dCons (dC (.int 0)) dNil)))))
abbrev bS4 : En → Option Out := dDPut (dVar 2) (dVar 7) (ePure (dTupL (dCons (dOp fAdd (dVar 10) (dC (.int 1))) (dCons (dOp fMod (dOp fAdd (dVar 11) (dVar 9)) (dC (.int 1000))) dNil))))
abbrev bS5 : En → Option Out := dDPut (dVar 3) (dVar 8) (ePure (dOp fAdd (dDGet2 (dVar 3) (dVar 8) (dC (.int 0))) (dC (.int 1))))
abbrev bS6 : En → Option Out := dDrop (eBM1 oAppend (dVar 1) (dOpS fCatT (dOpS fCatT (dTupL (dCons (dVar 7) (dCons (dOp fAdd (dVar 10) (dC (.int 1))) (dCons (dVar 8) (dCons (dDGet (dVar 3) (dVar 8)) (dCons (dVar 9) dNil)))))) (dSl fSlT (dDGet (dVar 2) (dVar 7)) (dPart (dC (.int 1))) dNoPart)) (dTupL (dCons (dVar 4) dNil))))
abbrev bBody : En → Option Out := dSeq bS1 (dSeq bS2 (dSeq bS3 (dSeq bS4 (dSeq bS5 bS6))))
abbrev bS0 : En → Option Out := dSet 5 (eEff (lConsP (dLst (dCons (dC (.int 2)) (dCons (dC (.int 12)) dNil))) (lConsE (tk (dC (.int 2))) lNil)) fun k => dWhen k 2 (ePure (dIxL (dGh k 0) (dGh k 1))))
abbrev bSrc : En → Option Src := iRangeE (eEff (lConsP (dVar 0) (lConsE (eEff (lConsP (dLst (dCons (dC (.int 31)) (dCons (dC (.int 100)) dNil))) (lConsE (eOp fDiv (tk (dC (.int 3))) (ePure (dC (.int 2)))) lNil)) fun k => dWhen k 2 (ePure (dIxL (dGh k 0) (dGh k 1)))) lNil)) fun k => dWhen k 2 (eCall g__law_take (dGhs k)))
theorem deeds_is : d__law_deeds = dSeq (dAlias 1 (dLst dNil)) (dSeq (dParL3 2 3 4 (lConsP dNewD (lConsP dNewD (lConsP (dC (.int 0)) lNil)))) (dSeq bS0 (dSeq (dFor bSrc (bName 6) bBody) (dRet (eMove 1))))) := rfl
end K16
/-! k16: a deed made -/
namespace K16
open PySem PySem.Spec PyProof.Rows L2 Mv
open Gn hiding g__law_take g__law_begun d__law_take d__law_begun
section
variable {b c : Bool} {ns : List Int} {st : Int} {found : List De} {sl : List (Int × (Int × Int))} {nu : List (Int × Int)} {mk most t a7 a8 a9 a10 a11 : Int}
theorem v_bS1 (hl : ns.length < 1000) (h0 : 0 < most) (h1 : most < 1000) : ∃ r7 r8 r9 ns' st', ns'.length < 1000 ∧
    bS1 (eB b c (bx ns st) found sl nu mk most (.own (.dat (.int t))) a7 a8 a9 a10 a11) = some (.nx (eB true c (bx ns' st') found sl nu mk most (.own (.dat (.int t))) r7 r8 r9 a10 a11)) := by
  obtain ⟨r1, n1, s1, _, _, l1, e1⟩ := take_go (st := st) h0 (by omega) hl
  obtain ⟨r2, n2, s2, _, _, l2, e2⟩ := take_go (st := s1) (many := 6) (by omega) (by omega) l1
  obtain ⟨r3, n3, s3, _, _, l3, e3⟩ := take_go (st := s2) (many := 199) (by omega) (by omega) l2
  refine ⟨r1, r2, r3 - 99, n3, s3, l3, ?_⟩
  let E (B : S) : En := eB b c B found sl nu mk most (.own (.dat (.int t))) a7 a8 a9 a10 a11
  have c1 : tk (dVar 5) (E (bx ns st)) = some (.dat (.int r1), E (bx n1 s1)) := by
    cases b <;> cases c <;> exact eCall_go (rs := [.pl [12], .val (.dat (.int most))]) rfl rfl rfl e1
  have c2 : tk (dC (.int 6)) (E (bx n1 s1) ++ [.own (.dat (.int r1))]) = some (.dat (.int r2), E (bx n2 s2) ++ [.own (.dat (.int r1))]) := by
    cases b <;> cases c <;> exact eCall_go (rs := [.pl [12], .val (.dat (.int 6))]) rfl rfl rfl e2
  have c3 : tk (dC (.int 199)) (E (bx n2 s2) ++ [.own (.dat (.int r1)), .own (.dat (.int r2))]) = some (.dat (.int r3), E (bx n3 s3) ++ [.own (.dat (.int r1)), .own (.dat (.int r2))]) := by
    cases b <;> cases c <;> exact eCall_go (rs := [.pl [12], .val (.dat (.int 199))]) rfl rfl rfl e3
  have c4 : eOp fSub (tk (dC (.int 199))) (ePure (dC (.int 99))) (E (bx n2 s2) ++ [.own (.dat (.int r1)), .own (.dat (.int r2))]) = some (.dat (.int (r3 - 99)), E (bx n3 s3) ++ [.own (.dat (.int r1)), .own (.dat (.int r2))]) := eOp_go c3 rfl rfl
  have hl : lConsE (tk (dVar 5)) (lConsE (tk (dC (.int 6))) (lConsE (eOp fSub (tk (dC (.int 199))) (ePure (dC (.int 99)))) lNil)) (E (bx ns st)) = some (3, E (bx n3 s3) ++ [.dat (.int r1), .dat (.int r2), .dat (.int (r3 - 99))].map Sl.own) :=
    lE_go c1 (lE_go c2 (lE_go (by rw [List.append_assoc]; exact c4) (by rw [List.append_assoc]; rfl)))
  have hp : popS 3 (E (bx n3 s3) ++ [.dat (.int r1), .dat (.int r2), .dat (.int (r3 - 99))].map Sl.own) = some ([.dat (.int r1), .dat (.int r2), .dat (.int (r3 - 99))], E (bx n3 s3)) :=
    pop_go rfl (by cases b <;> cases c <;> rfl)
  let G (x y z : Sl) : En := [.bor [12], .own (R found), .own (.dct false (kN t2 sl)), .own (.dct false (kN iD nu)), .own (.dat (.int mk)), .own (.dat (.int most)), .own (.dat (.int t)), x, y, z, sl1 c a10, sl1 c a11, .own (bx n3 s3)]
  refine par3_go hl hp (E3 := G (.own (.dat (.int r1))) (sl1 b a8) (sl1 b a9)) ?_ (E4 := G (.own (.dat (.int r1))) (.own (.dat (.int r2))) (sl1 b a9)) ?_ ?_ <;> (cases b <;> cases c <;> rfl)
theorem v_bS2 (hl : ns.length < 1000) : ∃ mk' ns' st', ns'.length < 1000 ∧ mk ≤ mk' ∧
    bS2 (eB true c (bx ns st) found sl nu mk most (.own (.dat (.int t))) a7 a8 a9 a10 a11) = some (.nx (eB true c (bx ns' st') found sl nu mk' most (.own (.dat (.int t))) a7 a8 a9 a10 a11)) := by
  obtain ⟨r, n1, s1, r0, _, l1, e1⟩ := take_go (st := st) (many := 6) (by omega) (by omega) hl
  refine ⟨mk + r / 5, n1, s1, l1, by omega, ?_⟩
  let E (B : S) : En := eB true c B found sl nu mk most (.own (.dat (.int t))) a7 a8 a9 a10 a11
  have c1 : tk (dC (.int 6)) (E (bx ns st)) = some (.dat (.int r), E (bx n1 s1)) := by
    cases c <;> exact eCall_go (rs := [.pl [12], .val (.dat (.int 6))]) rfl rfl rfl e1
  have c2 : eOp fAdd (ePure (dVar 4)) (eOp fDiv (tk (dC (.int 6))) (ePure (dC (.int 5)))) (E (bx ns st)) = some (.dat (.int (mk + r / 5)), E (bx n1 s1)) :=
    eOp_go (x := .int mk) rfl (eOp_go c1 rfl (divP (by omega) (by omega))) rfl
  refine (dSet_go c2).trans ?_
  cases c <;> rfl
theorem v_bS3 : bS3 (eB true c (bx ns st) found sl nu mk most (.own (.dat (.int t))) a7 a8 a9 a10 a11) = some (.nx (eB true true (bx ns st) found sl nu mk most (.own (.dat (.int t))) a7 a8 a9 (cAt sl a7).1 (cAt sl a7).2)) := by
  have a2 : dDGet2 (dVar 2) (dVar 7) (dTupL (dCons (dC (.int 0)) (dCons (dC (.int 0)) dNil))) (eB true c (bx ns st) found sl nu mk most (.own (.dat (.int t))) a7 a8 a9 a10 a11) = some (.val (.dat (t2 (cAt sl a7)))) := by
    rw [dget2_go (f := t2) (m := sl) (k := a7) (r := .pl [2]) (d := .tuple [.int 0, .int 0]) rfl rfl rfl rfl]
    unfold cAt
    cases getK sl a7 <;> rfl
  let G (x y : Sl) : En := [.bor [12], .own (R found), .own (.dct false (kN t2 sl)), .own (.dct false (kN iD nu)), .own (.dat (.int mk)), .own (.dat (.int most)), .own (.dat (.int t)), .own (.dat (.int a7)), .own (.dat (.int a8)), .own (.dat (.int a9)), x, y, .own (bx ns st)]
  refine dAsg_tup (ePure_go a2) rfl (bGo (E1 := G (.own (.dat (.int (cAt sl a7).1))) (sl1 c a11)) ?_ (bGo (E1 := G (.own (.dat (.int (cAt sl a7).1))) (.own (.dat (.int (cAt sl a7).2)))) ?_ bEnd)) <;> (cases c <;> rfl)
end
end K16
/-! k16: the deeds made -/
namespace K16
open PySem PySem.Spec PyProof.Rows L2 Mv
open Gn hiding g__law_take g__law_begun d__law_take d__law_begun
section
variable {b c : Bool} {ns : List Int} {st : Int} {found : List De} {sl : List (Int × (Int × Int))} {nu : List (Int × Int)} {mk most t a7 a8 a9 a10 a11 : Int}
theorem getK_self {α : Type} {x : α} {k : Int} {m : List (Int × α)} : getK (putN m k x) k = some x := by rw [getK_put, if_pos rfl]
theorem v_rest6 (h : Kp found sl nu mk) (hl : found.length < 200) :
    dSeq bS4 (dSeq bS5 bS6) (eB true true (bx ns st) found sl nu mk most (.own (.dat (.int t))) a7 a8 a9 (cAt sl a7).1 (cAt sl a7).2) =
      some (.nx (eB true true (bx ns st) (found ++ [nextDe sl nu a7 a8 a9 mk]) (putN sl a7 ((cAt sl a7).1 + 1, ((cAt sl a7).2 + a9) % 1000)) (putN nu a8 (nAt nu a8 + 1)) mk most (.own (.dat (.int t))) a7 a8 a9 (cAt sl a7).1 (cAt sl a7).2)) := by
  have h1 := h.l1
  have h2 := h.l2
  generalize hc : cAt sl a7 = cw
  let E (f : List De) (sl : List (Int × (Int × Int))) (nu : List (Int × Int)) : En := eB true true (bx ns st) f sl nu mk most (.own (.dat (.int t))) a7 a8 a9 cw.1 cw.2
  let nw : Int × Int := (cw.1 + 1, (cw.2 + a9) % 1000)
  have b1 : dTupL (dCons (dOp fAdd (dVar 10) (dC (.int 1))) (dCons (dOp fMod (dOp fAdd (dVar 11) (dVar 9)) (dC (.int 1000))) dNil)) (E found sl nu) = some (.val (.dat (t2 nw))) := by
    have m1 : dOp fMod (dOp fAdd (dVar 11) (dVar 9)) (dC (.int 1000)) (E found sl nu) = some (.val (.dat (.int ((cw.2 + a9) % 1000)))) := dOp_go (dOp_go rfl rfl rfl rfl rfl) rfl rfl rfl (modP (by omega))
    exact tupL_go (dcons_go (show dOp fAdd (dVar 10) (dC (.int 1)) (E found sl nu) = some (.val (.dat (.int (cw.1 + 1)))) from rfl) (dcons_go m1 rfl)) (by simp) rfl
  have s4 : bS4 (E found sl nu) = some (.nx (E found (putN sl a7 nw) nu)) :=
    dput_go (f := t2) (x := nw) (m := sl) (k := a7) (p := [2]) (E1 := E found sl nu) (ePure_go b1) rfl rfl rfl h.n1 (by omega)
  have b2 : dDGet2 (dVar 3) (dVar 8) (dC (.int 0)) (E found (putN sl a7 nw) nu) = some (.val (.dat (.int (nAt nu a8)))) := by
    rw [dget2_go (f := iD) (m := nu) (k := a8) (r := .pl [3]) (d := .int 0) rfl rfl rfl rfl]
    unfold nAt
    cases getK nu a8 <;> rfl
  have s5 : bS5 (E found (putN sl a7 nw) nu) = some (.nx (E found (putN sl a7 nw) (putN nu a8 (nAt nu a8 + 1)))) :=
    dput_go (f := iD) (x := nAt nu a8 + 1) (m := nu) (k := a8) (p := [3]) (E1 := E found (putN sl a7 nw) nu) (ePure_go (dOp_go b2 rfl rfl rfl rfl)) rfl rfl rfl h.n2 (by omega)
  let E2 : En := E found (putN sl a7 nw) (putN nu a8 (nAt nu a8 + 1))
  have g3 : dDGet (dVar 3) (dVar 8) E2 = some (.val (.dat (iD (nAt nu a8 + 1)))) := dget_go (f := iD) (m := putN nu a8 (nAt nu a8 + 1)) (k := a8) (r := .pl [3]) rfl rfl rfl getK_self
  have g2 : dDGet (dVar 2) (dVar 7) E2 = some (.val (.dat (t2 nw))) := dget_go (f := t2) (m := putN sl a7 nw) (k := a7) (r := .pl [2]) rfl rfl rfl getK_self
  have x1 : dTupL (dCons (dVar 7) (dCons (dOp fAdd (dVar 10) (dC (.int 1))) (dCons (dVar 8) (dCons (dDGet (dVar 3) (dVar 8)) (dCons (dVar 9) dNil))))) E2 = some (.val (tI [a7, cw.1 + 1, a8, nAt nu a8 + 1, a9])) := by
    have r0 : dCons (dVar 7) (dCons (dOp fAdd (dVar 10) (dC (.int 1))) (dCons (dVar 8) (dCons (dDGet (dVar 3) (dVar 8)) (dCons (dVar 9) dNil)))) E2 = some [.val (.dat (.int a7)), .val (.dat (.int (cw.1 + 1))), .val (.dat (.int a8)), .val (.dat (.int (nAt nu a8 + 1))), .val (.dat (.int a9))] :=
      dcons_go rfl (dcons_go rfl (dcons_go rfl (dcons_go g3 (dcons_go rfl rfl))))
    exact tupL_go r0 (by simp) rfl
  have x2 : dSl fSlT (dDGet (dVar 2) (dVar 7)) (dPart (dC (.int 1))) dNoPart E2 = some (.val (tI [nw.2])) := slT_from (ns := [nw.1, nw.2]) (k := 1) g2 rfl (by simp)
  have x3 : dTupL (dCons (dVar 4) dNil) E2 = some (.val (tI [mk])) := rfl
  have x4 : dOpS fCatT (dOpS fCatT (dTupL (dCons (dVar 7) (dCons (dOp fAdd (dVar 10) (dC (.int 1))) (dCons (dVar 8) (dCons (dDGet (dVar 3) (dVar 8)) (dCons (dVar 9) dNil)))))) (dSl fSlT (dDGet (dVar 2) (dVar 7)) (dPart (dC (.int 1))) dNoPart)) (dTupL (dCons (dVar 4) dNil)) E2 = some (.val (.dat (nextDe sl nu a7 a8 a9 mk).d)) := by
    have y : dOpS fCatT (dTupL (dCons (dVar 7) (dCons (dOp fAdd (dVar 10) (dC (.int 1))) (dCons (dVar 8) (dCons (dDGet (dVar 3) (dVar 8)) (dCons (dVar 9) dNil)))))) (dSl fSlT (dDGet (dVar 2) (dVar 7)) (dPart (dC (.int 1))) dNoPart) E2 = some (.val (tI [a7, cw.1 + 1, a8, nAt nu a8 + 1, a9, nw.2])) := dOpS_go x1 x2 rfl rfl rfl
    refine dOpS_go y x3 rfl rfl ?_
    unfold nextDe
    rw [hc]; rfl
  have s6 : bS6 E2 = some (.nx (E (found ++ [nextDe sl nu a7 a8 a9 mk]) (putN sl a7 nw) (putN nu a8 (nAt nu a8 + 1)))) := by
    exact (dDrop_go (append_go (f := De.d) (xs := found) (p := [1]) rfl rfl x4 (by omega))).trans rfl
  exact dSeq_go s4 (dSeq_go s5 s6)
end
end K16
/-! k16: a row of deeds that may be -/
namespace K16
open PySem PySem.Spec PyProof.Rows L2 Mv
open Gn hiding g__law_take g__law_begun d__law_take d__law_begun
/-- one of two numbers, by the box -/
theorem pick2 {E : En} {x y r : Int} (h0 : 0 ≤ r) (h1 : r < 2) : (ePure (dIxL (dGh 2 0) (dGh 2 1))) (E ++ [.own (lI [x, y]), .own (.dat (.int r))]) = some (.dat (.int (if r = 0 then x else y)), E ++ [.own (lI [x, y]), .own (.dat (.int r))]) := by
  have hc : ([x, y] : List Int)[r.toNat]? = some (if r = 0 then x else y) := by
    have : r = 0 ∨ r = 1 := by omega
    rcases this with rfl | rfl <;> rfl
  have hr : ((r.toNat : Nat) : Int) = r := Int.toNat_of_nonneg h0
  refine ePure_go (ixL_go (f := PyData.int) (xs := [x, y]) (k := r.toNat) (E := E ++ [.own (lI [x, y]), .own (.dat (.int r))]) (gh0 (var_l (ns := [x, y]) at_app0)) (at_l at_app0) ?_ hc)
  rw [hr]
  exact gh1 (var_i at_app1)
theorem v_deeds {ns : List Int} {st : Int} (hl : ns.length < 1000) : ∃ found ns' st', ns'.length < 1000 ∧ found.length < 100 ∧ jF t0 found 0 = none ∧ g__law_deeds [bx ns st] = some (R found, [bx ns' st']) := by
  let E0 (m5 : Sl) (B : S) : En := [.bor [12], .own (R []), .own (.dct false (kN t2 [])), .own (.dct false (kN iD [])), .own (.dat (.int 0)), m5, .no, .no, .no, .no, .no, .no, .own B]
  have s1 : dAlias 1 (dLst dNil) (entry 12 [bx ns st]) = some (.nx [.bor [12], .own (R []), .no, .no, .no, .no, .no, .no, .no, .no, .no, .no, .own (bx ns st)]) := rfl
  let G (x y z : Sl) : En := [.bor [12], .own (R []), x, y, z, .no, .no, .no, .no, .no, .no, .no, .own (bx ns st)]
  have s2 : dParL3 2 3 4 (lConsP dNewD (lConsP dNewD (lConsP (dC (.int 0)) lNil))) [.bor [12], .own (R []), .no, .no, .no, .no, .no, .no, .no, .no, .no, .no, .own (bx ns st)] = some (.nx (E0 .no (bx ns st))) :=
    par3_go (E1 := G .no .no .no ++ [.dct false [], .dct false [], .dat (.int 0)].map Sl.own) (E2 := G .no .no .no) rfl (pop_go rfl rfl)
      (E3 := G (.own (.dct false [])) .no .no) rfl (E4 := G (.own (.dct false [])) (.own (.dct false [])) .no) rfl rfl
  obtain ⟨r1, n1, b1, p1, q1, l1, e1⟩ := take_go (st := st) (many := 2) (by omega) (by omega) hl
  have c1 : tk (dC (.int 2)) (E0 .no (bx ns st) ++ [.own (lI [2, 12])]) = some (.dat (.int r1), E0 .no (bx n1 b1) ++ [.own (lI [2, 12])]) :=
    eCall_go (rs := [.pl [12], .val (.dat (.int 2))]) rfl rfl rfl e1
  generalize hm : (if r1 = 0 then (2 : Int) else 12) = most
  have hmost : 0 < most ∧ most < 1000 := by rw [← hm]; split <;> omega
  have c2 : eEff (lConsP (dLst (dCons (dC (.int 2)) (dCons (dC (.int 12)) dNil))) (lConsE (tk (dC (.int 2))) lNil)) (fun k => dWhen k 2 (ePure (dIxL (dGh k 0) (dGh k 1)))) (E0 .no (bx ns st)) = some (.dat (.int most), E0 .no (bx n1 b1)) := by
    have i1 : lConsP (dLst (dCons (dC (.int 2)) (dCons (dC (.int 12)) dNil))) (lConsE (tk (dC (.int 2))) lNil) (E0 .no (bx ns st)) = some (2, E0 .no (bx n1 b1) ++ [.own (lI [2, 12]), .own (.dat (.int r1))]) :=
      lP_own (s := lI [2, 12]) (k := 1) rfl (lE_go c1 (by rw [List.append_assoc]; rfl))
    rw [eEff_go (dc := fun k => dWhen k 2 (ePure (dIxL (dGh k 0) (dGh k 1)))) i1 (when_go (pick2 p1 q1)), hm, strip_app (E := E0 .no (bx n1 b1)) rfl 2 _ rfl]
  have s3 : bS0 (E0 .no (bx ns st)) = some (.nx (E0 (.own (.dat (.int most))) (bx n1 b1))) := (dSet_go c2).trans rfl
  let E1 (B : S) : En := E0 (.own (.dat (.int most))) B
  obtain ⟨r2, n2, b2, p2, q2, l2, e2⟩ := take_go (st := b1) (many := 3) (by omega) (by omega) l1
  have d1 : tk (dC (.int 3)) (E1 (bx n1 b1) ++ [.bor [12], .own (lI [31, 100])]) = some (.dat (.int r2), E1 (bx n2 b2) ++ [.bor [12], .own (lI [31, 100])]) :=
    eCall_go (rs := [.pl [12], .val (.dat (.int 3))]) rfl rfl rfl e2
  have d2 : eOp fDiv (tk (dC (.int 3))) (ePure (dC (.int 2))) (E1 (bx n1 b1) ++ [.bor [12], .own (lI [31, 100])]) = some (.dat (.int (r2 / 2)), E1 (bx n2 b2) ++ [.bor [12], .own (lI [31, 100])]) :=
    eOp_go d1 rfl (divP (by omega) (by omega))
  generalize hk : (if r2 / 2 = 0 then (31 : Int) else 100) = many
  have hmany : 0 < many ∧ many ≤ 100 := by rw [← hk]; split <;> omega
  have d3 : eEff (lConsP (dLst (dCons (dC (.int 31)) (dCons (dC (.int 100)) dNil))) (lConsE (eOp fDiv (tk (dC (.int 3))) (ePure (dC (.int 2)))) lNil)) (fun k => dWhen k 2 (ePure (dIxL (dGh k 0) (dGh k 1)))) (E1 (bx n1 b1) ++ [.bor [12]]) = some (.dat (.int many), E1 (bx n2 b2) ++ [.bor [12]]) := by
    have i1 : lConsP (dLst (dCons (dC (.int 31)) (dCons (dC (.int 100)) dNil))) (lConsE (eOp fDiv (tk (dC (.int 3))) (ePure (dC (.int 2)))) lNil) (E1 (bx n1 b1) ++ [.bor [12]]) = some (2, (E1 (bx n2 b2) ++ [.bor [12]]) ++ [.own (lI [31, 100]), .own (.dat (.int (r2 / 2)))]) :=
      lP_own (s := lI [31, 100]) (k := 1) rfl (lE_go (by rw [List.append_assoc]; exact d2) (by rw [List.append_assoc, List.append_assoc]; rfl))
    have i2 := pick2 (E := E1 (bx n2 b2) ++ [.bor [12]]) (x := 31) (y := 100) (r := r2 / 2) (by omega) (by omega)
    rw [hk] at i2
    exact eff_go (dc := fun k => dWhen k 2 (ePure (dIxL (dGh k 0) (dGh k 1)))) (A := E1 (bx n2 b2) ++ [.bor [12]]) (B := E1 (bx n2 b2) ++ [.bor [12]]) (G := [.own (lI [31, 100]), .own (.dat (.int (r2 / 2)))]) (G2 := [.own (lI [31, 100]), .own (.dat (.int (r2 / 2)))]) i1 (when_go i2) rfl rfl
  obtain ⟨r3, n3, b3, p3, q3, l3, e3⟩ := take_go (st := b2) (many := many) hmany.1 (by omega) l2
  have d4 : eEff (lConsP (dVar 0) (lConsE (eEff (lConsP (dLst (dCons (dC (.int 31)) (dCons (dC (.int 100)) dNil))) (lConsE (eOp fDiv (tk (dC (.int 3))) (ePure (dC (.int 2)))) lNil)) fun k => dWhen k 2 (ePure (dIxL (dGh k 0) (dGh k 1)))) lNil)) (fun k => dWhen k 2 (eCall g__law_take (dGhs k))) (E1 (bx n1 b1)) = some (.dat (.int r3), E1 (bx n3 b3)) := by
    have i1 : lConsP (dVar 0) (lConsE (eEff (lConsP (dLst (dCons (dC (.int 31)) (dCons (dC (.int 100)) dNil))) (lConsE (eOp fDiv (tk (dC (.int 3))) (ePure (dC (.int 2)))) lNil)) fun k => dWhen k 2 (ePure (dIxL (dGh k 0) (dGh k 1)))) lNil) (E1 (bx n1 b1)) = some (2, E1 (bx n2 b2) ++ [.bor [12], .own (.dat (.int many))]) :=
      lP_bor (p := [12]) (k := 1) rfl (lE_go d3 (by rw [List.append_assoc]; rfl))
    have i2 : eCall g__law_take (dGhs 2) (E1 (bx n2 b2) ++ [.bor [12], .own (.dat (.int many))]) = some (.dat (.int r3), E1 (bx n3 b3) ++ [.bor [12], .own (.dat (.int many))]) :=
      eCall_go (rs := [.pl [12], .val (.dat (.int many))]) rfl rfl rfl e3
    rw [eEff_go (dc := fun k => dWhen k 2 (eCall g__law_take (dGhs k))) i1 (when_go i2), strip_app (E := E1 (bx n3 b3)) rfl 2 _ rfl]
  have hsrc := iRangeE_go d4 p3 (by omega)
  let J (i : Nat) (E : En) : Prop := ∃ b found sl nu mk ns st s6 a7 a8 a9 a10 a11, E = eB b b (bx ns st) found sl nu mk most s6 a7 a8 a9 a10 a11 ∧ (s6 = .no ∨ ∃ t, s6 = .own (.dat (.int t))) ∧ ns.length < 1000 ∧ found.length = i ∧ Kp found sl nu mk
  have hloop := loop_inv (rd := fun _ i => some (if i < r3.toNat then some (.val (.dat (.int (i : Nat)))) else none)) (bd := bName 6) (db := bBody) J r3.toNat
    (fun i E hi hJ => by
      obtain ⟨b, found, sl, nu, mk, ns, st, s6, a7, a8, a9, a10, a11, rfl, _, hn, hf, kp⟩ := hJ
      obtain ⟨r7, r8, r9, m1, t1, k1, x1⟩ := v_bS1 (b := b) (c := b) (st := st) (found := found) (sl := sl) (nu := nu) (mk := mk) (t := (i : Nat)) (a7 := a7) (a8 := a8) (a9 := a9) (a10 := a10) (a11 := a11) hn hmost.1 hmost.2
      obtain ⟨mk', m2, t2', k2, hmk, x2⟩ := v_bS2 (c := b) (st := t1) (found := found) (sl := sl) (nu := nu) (mk := mk) (most := most) (t := (i : Nat)) (a7 := r7) (a8 := r8) (a9 := r9) (a10 := a10) (a11 := a11) k1
      have kp' : Kp found sl nu mk' := { kp with m := by have := kp.m; omega }
      refine ⟨_, _, _, rng_rd (E := []) hi, ?_, dSeq_go x1 (dSeq_go x2 (dSeq_go v_bS3 (v_rest6 kp' (by omega)))), true, _, _, _, _, _, _, _, _, _, _, _, _, rfl, .inr ⟨_, rfl⟩, k2, by simp [hf], ?_⟩
      · cases b <;> rfl
      · exact kp'.next (Int.le_refl _))
    (fun E _ => rng_end (E := [])) r3.toNat 0 r3.toNat (E1 (bx n3 b3)) (by omega) (Nat.le_refl _) ⟨false, [], [], [], 0, n3, b3, .no, 0, 0, 0, 0, 0, rfl, .inl rfl, l3, rfl, kp0⟩
  obtain ⟨E', hE, b, found, sl, nu, mk, nsf, stf, s6, a7, a8, a9, a10, a11, rfl, h6, hn, hf, kp⟩ := hloop
  refine ⟨found, nsf, stf, hn, by omega, kp.j, ?_⟩
  unfold g__law_deeds
  rw [deeds_is]
  have s4 := dFor_go hsrc (by rw [List.append_nil]; exact hE)
  refine fnG_rt (E := (eB b b (bx nsf stf) found sl nu mk most s6 a7 a8 a9 a10 a11).set 1 .no) (dSeq_go s1 (dSeq_go s2 (dSeq_go s3 (dSeq_go s4 (dRet_go ?_))))) ?_
  · rcases h6 with rfl | ⟨t, rfl⟩ <;> cases b <;> rfl
  · cases b <;> rfl
end K16
/-! k16: a row with one thing otherwise -/
namespace K16
open PySem PySem.Spec PyProof.Rows L2 Mv
open Gn hiding g__law_take g__law_begun d__law_take d__law_begun
theorem de_lay (e : De) : e.d.canLay0 = true := rfl
theorem de_depth (e : De) : e.d.depth ≤ 1 := by
  show (PyData.tuple _).depth ≤ 1
  simp [PyData.depth, PyData.depthAll]
def De.l (e : De) : List Int := [e.slot, e.count, e.asker, e.num, e.more, e.worth, e.make]
theorem De.d_l (e : De) : e.d = .tuple (e.l.map .int) := rfl
theorem de_of (e : De) (k : Nat) (x : Int) (hk : k < 7) : ∃ e' : De, e'.l = e.l.take k ++ [x] ++ e.l.drop (k + 1) := by
  have : k = 0 ∨ k = 1 ∨ k = 2 ∨ k = 3 ∨ k = 4 ∨ k = 5 ∨ k = 6 := by omega
  rcases this with rfl | rfl | rfl | rfl | rfl | rfl | rfl
  · exact ⟨{ e with slot := x }, rfl⟩
  · exact ⟨{ e with count := x }, rfl⟩
  · exact ⟨{ e with asker := x }, rfl⟩
  · exact ⟨{ e with num := x }, rfl⟩
  · exact ⟨{ e with more := x }, rfl⟩
  · exact ⟨{ e with worth := x }, rfl⟩
  · exact ⟨{ e with make := x }, rfl⟩
section
variable {ns : List Int} {st : Int} {ds : List De}
def eT (ds : List De) (B : S) (s2 s3 s4 s5 : Sl) : En := [.bor [6], .own (L ds), s2, s3, s4, s5, .own B, .own (L ds)]
def oi (i : Int) : Sl := .own (.dat (.int i))
theorem pick4 {E : En} {w x y z r : Int} (h0 : 0 ≤ r) (h1 : r < 4) : ∃ v, (ePure (dIxL (dGh 2 0) (dGh 2 1))) (E ++ [.own (lI [w, x, y, z]), .own (.dat (.int r))]) = some (.dat (.int v), E ++ [.own (lI [w, x, y, z]), .own (.dat (.int r))]) := by
  have hlt : r.toNat < ([w, x, y, z] : List Int).length := by show r.toNat < 4; omega
  have hr : ((r.toNat : Nat) : Int) = r := Int.toNat_of_nonneg h0
  refine ⟨_, ePure_go (ixL_go (f := PyData.int) (xs := [w, x, y, z]) (k := r.toNat) (E := E ++ [.own (lI [w, x, y, z]), .own (.dat (.int r))]) (gh0 (var_l (ns := [w, x, y, z]) at_app0)) (at_l at_app0) ?_ (List.getElem?_eq_getElem hlt))⟩
  rw [hr]
  exact gh1 (var_i at_app1)
abbrev nL (B C : En → Option Rs) : En → Option Rs := dOpS fCatL B C
theorem v_bent (hl : ns.length < 1000) (hd : ds.length < 200) : ∃ ds' ns' st' s, ns'.length < 1000 ∧ ds'.length ≤ ds.length + 1 ∧ (s = L ds' ∨ s = R ds') ∧ g__law_bent [bx ns st, L ds] = some (s, [bx ns' st', L ds]) := by
  let E0 : En := eT ds (bx ns st) .no .no .no .no
  have t0 : ePureT (dTest (dOp fEqD (dVar 1) (dLst dNil))) E0 = some (decide (ds.length = 0), E0) := by
    unfold ePureT dTest
    rw [dOp_go (a := .val (L ds)) (b := .val (.lst [])) (x := .list (ds.map De.d)) (y := .list []) rfl rfl rfl rfl (eqD_nil de_lay de_depth (by omega) ds)]; rfl
  by_cases hz : ds.length = 0
  · rw [decide_eq_true hz] at t0
    exact ⟨ds, ns, st, L ds, hl, by omega, .inl rfl, fnG_rt (E := (eT ds (bx ns st) .no .no .no .no).set 1 .no) (dSeq_rt (dIf_t t0 rfl)) rfl⟩
  rw [decide_eq_false hz] at t0
  have hlen : ∀ B s2 s3 s4 s5, dLen (dVar 1) (eT ds B s2 s3 s4 s5) = some (.val (.dat (.int (ds.length : Nat)))) := fun _ _ _ _ _ => len_dat (f := De.d) (xs := ds) rfl
  obtain ⟨r1, n1, b1, p1, q1, l1, e1⟩ := take_go (st := st) (many := (ds.length : Nat)) (by omega) (by omega) hl
  have hr1 : ((r1.toNat : Nat) : Int) = r1 := Int.toNat_of_nonneg p1
  generalize hk : r1.toNat = k at hr1
  subst hr1
  have hkl : k < ds.length := by omega
  have c1 : eCall g__law_take (dCons (dVar 0) (dCons (dLen (dVar 1)) dNil)) E0 = some (.dat (.int (k : Nat)), eT ds (bx n1 b1) .no .no .no .no) :=
    eCall_go (rs := [.pl [6], .val (.dat (.int (ds.length : Nat)))]) (dcons_go rfl (dcons_go (hlen _ _ _ _ _) rfl)) rfl rfl e1
  have s1 : dSet 2 (eCall g__law_take (dCons (dVar 0) (dCons (dLen (dVar 1)) dNil))) E0 = some (.nx (eT ds (bx n1 b1) (oi (k : Nat)) .no .no .no)) := (dSet_go c1).trans rfl
  obtain ⟨r2, n2, b2, p2, q2, l2, e2⟩ := take_go (st := b1) (many := 5) (by omega) (by omega) l1
  have c2 : eCall g__law_take (dCons (dVar 0) (dCons (dC (.int 5)) dNil)) (eT ds (bx n1 b1) (oi (k : Nat)) .no .no .no) = some (.dat (.int r2), eT ds (bx n2 b2) (oi (k : Nat)) .no .no .no) :=
    eCall_go (rs := [.pl [6], .val (.dat (.int 5))]) rfl rfl rfl e2
  let E2 : En := eT ds (bx n2 b2) (oi (k : Nat)) (oi r2) .no .no
  have s2 : dSet 3 (eCall g__law_take (dCons (dVar 0) (dCons (dC (.int 5)) dNil))) (eT ds (bx n1 b1) (oi (k : Nat)) .no .no .no) = some (.nx E2) := (dSet_go c2).trans rfl
  have tw : ∀ (v : Int), ePureT (dTest (dOp fEqS (dVar 3) (dC (.int v)))) E2 = some (decide (r2 = v), E2) := fun v => tst_eq rfl rfl
  -- parts of the row, wherever slot 2 tells k
  have pre : ∀ (E : En), dVar 1 E = some (.val (L ds)) → dVar 2 E = some (.val (.dat (.int (k : Nat)))) → dSl fSlL (dVar 1) dNoPart (dPart (dVar 2)) E = some (.val (R (ds.take k))) := fun E h1 h2 => slD_pre (f := De.d) h1 h2 (by omega)
  have plus : ∀ (E : En) (m : Nat), dVar 2 E = some (.val (.dat (.int (k : Nat)))) → dOp fAdd (dVar 2) (dC (.int (m : Int))) E = some (.val (.dat (.int ((k + m : Nat) : Int)))) := fun E m h2 =>
    dOp_go h2 rfl rfl rfl (by show some (PyData.int ((k : Int) + (m : Int))) = _; rw [Int.natCast_add])
  have suf : ∀ (E : En) (m : Nat), dVar 1 E = some (.val (L ds)) → dVar 2 E = some (.val (.dat (.int (k : Nat)))) → dSl fSlL (dVar 1) (dPart (dOp fAdd (dVar 2) (dC (.int (m : Int))))) dNoPart E = some (.val (R (ds.drop (k + m)))) := fun E m h1 h2 => slD_suf (f := De.d) h1 (plus E m h2)
  have suf0 : ∀ (E : En), dVar 1 E = some (.val (L ds)) → dVar 2 E = some (.val (.dat (.int (k : Nat)))) → dSl fSlL (dVar 1) (dPart (dVar 2)) dNoPart E = some (.val (R (ds.drop k))) := fun E h1 h2 => slD_suf (f := De.d) h1 h2
  have pre1 : ∀ (E : En), dVar 1 E = some (.val (L ds)) → dVar 2 E = some (.val (.dat (.int (k : Nat)))) → dSl fSlL (dVar 1) dNoPart (dPart (dOp fAdd (dVar 2) (dC (.int 1)))) E = some (.val (R (ds.take (k + 1)))) := fun E h1 h2 => slD_pre (f := De.d) h1 (plus E 1 h2) (by omega)
  have cat : ∀ (E : En) (da db : En → Option Rs) (xs ys : List De), da E = some (.val (R xs)) → db E = some (.val (R ys)) → xs.length + ys.length < 1000 → nL da db E = some (.val (R (xs ++ ys))) := fun E da db xs ys h1 h2 h3 => catL_go (f := De.d) h1 rfl h2 rfl (by omega)
  have ret : ∀ (E : En) (da : En → Option Rs) (xs : List De), da E = some (.val (R xs)) → dRet (ePure da) E = some (.rt (R xs) E) := fun E da xs h => by
    refine dRet_go ?_
    unfold ePure
    rw [h]
  have lt : ∀ m, (ds.take m).length ≤ m := fun m => by rw [List.length_take]; omega
  have ld : ∀ m, (ds.drop m).length = ds.length - m := fun m => List.length_drop
  by_cases w0 : r2 = 0
  · have t1 := tw 0
    rw [decide_eq_true w0] at t1
    have x := ret E2 _ _ (cat E2 _ _ _ _ (pre E2 rfl rfl) (suf E2 1 rfl rfl) (by have := lt k; rw [ld]; omega))
    exact ⟨_, n2, b2, _, l2, by rw [List.length_append, ld]; have := lt k; omega, .inr rfl, fnG_rt (E := E2) (dSeq_go (dIf_f t0 rfl) (dSeq_go s1 (dSeq_go s2 (dSeq_rt (dIf_t t1 x))))) rfl⟩
  have t1 := tw 0
  rw [decide_eq_false w0] at t1
  by_cases w1 : r2 = 1
  · have t2 := tw 1
    rw [decide_eq_true w1] at t2
    have x := ret E2 _ _ (cat E2 _ _ _ _ (pre1 E2 rfl rfl) (suf0 E2 rfl rfl) (by have := lt (k + 1); rw [ld]; omega))
    exact ⟨_, n2, b2, _, l2, by rw [List.length_append, ld]; have := lt (k + 1); omega, .inr rfl, fnG_rt (E := E2) (dSeq_go (dIf_f t0 rfl) (dSeq_go s1 (dSeq_go s2 (dSeq_go (dIf_f t1 rfl) (dSeq_rt (dIf_t t2 x)))))) rfl⟩
  have t2 := tw 1
  rw [decide_eq_false w1] at t2
  by_cases w2 : r2 = 2
  · have t3 := tw 2
    rw [decide_eq_true w2] at t3
    have mid : dRev (dSl fSlL (dVar 1) (dPart (dVar 2)) (dPart (dOp fAdd (dVar 2) (dC (.int 2))))) E2 = some (.val (R ((ds.drop k).take 2).reverse)) := rev_go (f := De.d) (slD_mid (f := De.d) (l := 2) rfl rfl (plus E2 2 rfl) (by omega)) rfl
    have lm : ((ds.drop k).take 2).reverse.length ≤ 2 := by rw [List.length_reverse, List.length_take]; omega
    have lm2 : ((ds.drop k).take 2).reverse.length ≤ ds.length - k := by rw [List.length_reverse, List.length_take, ld]; omega
    have x := ret E2 _ _ (cat E2 _ _ _ _ (cat E2 _ _ _ _ (pre E2 rfl rfl) mid (by have := lt k; omega)) (suf E2 2 rfl rfl) (by rw [List.length_append, ld]; have := lt k; omega))
    exact ⟨_, n2, b2, _, l2, by rw [List.length_append, List.length_append, ld]; have := lt k; omega, .inr rfl, fnG_rt (E := E2) (dSeq_go (dIf_f t0 rfl) (dSeq_go s1 (dSeq_go s2 (dSeq_go (dIf_f t1 rfl) (dSeq_go (dIf_f t2 rfl) (dSeq_rt (dIf_t t3 x))))))) rfl⟩
  have t3 := tw 2
  rw [decide_eq_false w2] at t3
  obtain ⟨r4, n4, b4, p4, q4, l4, e4⟩ := take_go (st := b2) (many := 7) (by omega) (by omega) l2
  have hr4 : ((r4.toNat : Nat) : Int) = r4 := Int.toNat_of_nonneg p4
  generalize hp : r4.toNat = p at hr4
  subst hr4
  have hp7 : p < 7 := by omega
  have c4 : eCall g__law_take (dCons (dVar 0) (dCons (dC (.int 7)) dNil)) E2 = some (.dat (.int (p : Nat)), eT ds (bx n4 b4) (oi (k : Nat)) (oi r2) .no .no) :=
    eCall_go (rs := [.pl [6], .val (.dat (.int 7))]) rfl rfl rfl e4
  let E4 (B : S) (s5 : Sl) : En := eT ds B (oi (k : Nat)) (oi r2) (oi (p : Nat)) s5
  have s4 : dSet 4 (eCall g__law_take (dCons (dVar 0) (dCons (dC (.int 7)) dNil))) E2 = some (.nx (E4 (bx n4 b4) .no)) := (dSet_go c4).trans rfl
  obtain ⟨r5, n5, b5, p5, q5, l5, e5⟩ := take_go (st := b4) (many := 4) (by omega) (by omega) l4
  have hv : ds[k]? = some ds[k] := List.getElem?_eq_getElem hkl
  generalize hek : ds[k] = e at hv
  have it : ∀ B s5, dIxL (dVar 1) (dVar 2) (E4 B s5) = some (.val (.dat e.d)) := fun B s5 => ixD_go (f := De.d) (xs := ds) rfl rfl hv
  have hpl : p < e.l.length := hp7
  have c5 : ∃ v, eOp fAdd (ePure (dIxT (dIxL (dVar 1) (dVar 2)) (dVar 4))) (eEff (lConsP (dLst (dCons (dC (.int 1)) (dCons (dNeg (dC (.int 1))) (dCons (dC (.int 5)) (dCons (dC (.int 1000)) dNil))))) (lConsE (eCall g__law_take (dCons (dVar 0) (dCons (dC (.int 4)) dNil))) lNil)) fun k => dWhen k 2 (ePure (dIxL (dGh k 0) (dGh k 1)))) (E4 (bx n4 b4) .no) = some (.dat (.int v), E4 (bx n5 b5) .no) := by
    have y1 : ePure (dIxT (dIxL (dVar 1) (dVar 2)) (dVar 4)) (E4 (bx n4 b4) .no) = some (.dat (.int e.l[p]), E4 (bx n4 b4) .no) := ePure_go (ixT_I (ns := e.l) (it _ _) rfl (List.getElem?_eq_getElem hpl))
    have y2 : eCall g__law_take (dCons (dVar 0) (dCons (dC (.int 4)) dNil)) (E4 (bx n4 b4) .no ++ [.own (lI [1, -1, 5, 1000])]) = some (.dat (.int r5), E4 (bx n5 b5) .no ++ [.own (lI [1, -1, 5, 1000])]) :=
      eCall_go (rs := [.pl [6], .val (.dat (.int 4))]) rfl rfl rfl e5
    have i1 : lConsP (dLst (dCons (dC (.int 1)) (dCons (dNeg (dC (.int 1))) (dCons (dC (.int 5)) (dCons (dC (.int 1000)) dNil))))) (lConsE (eCall g__law_take (dCons (dVar 0) (dCons (dC (.int 4)) dNil))) lNil) (E4 (bx n4 b4) .no) = some (2, E4 (bx n5 b5) .no ++ [.own (lI [1, -1, 5, 1000]), .own (.dat (.int r5))]) :=
      lP_own (s := lI [1, -1, 5, 1000]) (k := 1) rfl (lE_go y2 (by rw [List.append_assoc]; rfl))
    obtain ⟨v, i2⟩ := pick4 (E := E4 (bx n5 b5) .no) (w := 1) (x := -1) (y := 5) (z := 1000) p5 q5
    exact ⟨e.l[p] + v, eOp_go y1 (eff_go (dc := fun k => dWhen k 2 (ePure (dIxL (dGh k 0) (dGh k 1)))) (A := E4 (bx n5 b5) .no) (B := E4 (bx n5 b5) .no) (G := [.own (lI [1, -1, 5, 1000]), .own (.dat (.int r5))]) (G2 := [.own (lI [1, -1, 5, 1000]), .own (.dat (.int r5))]) i1 (when_go i2) rfl rfl) rfl⟩
  obtain ⟨v5, c5⟩ := c5
  have s5 := (dSet_go (i := 5) c5).trans (show _ = some (Out.nx (E4 (bx n5 b5) (oi v5))) from rfl)
  -- the two bounds
  have s6 : ∃ v6, dIf (ePureT (dTest (dOp fEqS (dVar 4) (dC (.int 0))))) (dAlias 5 (dOp fMod (dOp fAdd (dIxT (dIxL (dVar 1) (dVar 2)) (dC (.int 0))) (dC (.int 1))) (dC (.int 12)))) dNext (E4 (bx n5 b5) (oi v5)) = some (.nx (E4 (bx n5 b5) (oi v6))) := by
    have t : ePureT (dTest (dOp fEqS (dVar 4) (dC (.int 0)))) (E4 (bx n5 b5) (oi v5)) = some (decide (((p : Nat) : Int) = 0), E4 (bx n5 b5) (oi v5)) := tst_eq rfl rfl
    by_cases z : ((p : Nat) : Int) = 0
    · rw [decide_eq_true z] at t
      have m : dOp fMod (dOp fAdd (dIxT (dIxL (dVar 1) (dVar 2)) (dC (.int 0))) (dC (.int 1))) (dC (.int 12)) (E4 (bx n5 b5) (oi v5)) = some (.val (.dat (.int ((e.slot + 1) % 12)))) :=
        dOp_go (dOp_go (x := .int e.slot) (ixT_d (k := 0) (it _ _) rfl) rfl rfl rfl rfl) rfl rfl rfl (modP (by omega))
      refine ⟨(e.slot + 1) % 12, dIf_t t ?_⟩
      unfold dAlias
      rw [m]; rfl
    · rw [decide_eq_false z] at t
      exact ⟨v5, dIf_f t rfl⟩
  obtain ⟨v6, s6⟩ := s6
  have s7 : ∃ v7, dIf (ePureT (dTest (dOp fEqS (dVar 4) (dC (.int 2))))) (dAlias 5 (dOp fMod (dOp fAdd (dIxT (dIxL (dVar 1) (dVar 2)) (dC (.int 2))) (dC (.int 1))) (dC (.int 6)))) dNext (E4 (bx n5 b5) (oi v6)) = some (.nx (E4 (bx n5 b5) (oi v7))) := by
    have t : ePureT (dTest (dOp fEqS (dVar 4) (dC (.int 2)))) (E4 (bx n5 b5) (oi v6)) = some (decide (((p : Nat) : Int) = 2), E4 (bx n5 b5) (oi v6)) := tst_eq rfl rfl
    by_cases z : ((p : Nat) : Int) = 2
    · rw [decide_eq_true z] at t
      have m : dOp fMod (dOp fAdd (dIxT (dIxL (dVar 1) (dVar 2)) (dC (.int 2))) (dC (.int 1))) (dC (.int 6)) (E4 (bx n5 b5) (oi v6)) = some (.val (.dat (.int ((e.asker + 1) % 6)))) :=
        dOp_go (dOp_go (x := .int e.asker) (ixT_d (k := 2) (it _ _) rfl) rfl rfl rfl rfl) rfl rfl rfl (modP (by omega))
      refine ⟨(e.asker + 1) % 6, dIf_t t ?_⟩
      unfold dAlias
      rw [m]; rfl
    · rw [decide_eq_false z] at t
      exact ⟨v6, dIf_f t rfl⟩
  obtain ⟨v7, s7⟩ := s7
  let E7 : En := E4 (bx n5 b5) (oi v7)
  obtain ⟨e', he'⟩ := de_of e p v7 hp7
  have slp : dSl fSlT (dIxL (dVar 1) (dVar 2)) dNoPart (dPart (dVar 4)) E7 = some (.val (tI (e.l.take p))) := by
    unfold dSl
    rw [it, show dPart (dVar 4) E7 = some (some ((p : Nat) : Int)) from rfl]
    show some (Rs.val (S.dat (.tuple (Mv.cutD (e.l.map PyData.int) none (some ((p : Nat) : Int)))))) = _
    rw [cut_pre (by rw [List.length_map]; omega), ← List.map_take]; rfl
  have sls : dSl fSlT (dIxL (dVar 1) (dVar 2)) (dPart (dOp fAdd (dVar 4) (dC (.int 1)))) dNoPart E7 = some (.val (tI (e.l.drop (p + 1)))) := by
    refine slT_from (ns := e.l) (k := p + 1) (it _ _) ?_ (by show p + 1 ≤ 7; omega)
    exact dOp_go (x := .int ((p : Nat) : Int)) rfl rfl rfl rfl (by show some (PyData.int (((p : Nat) : Int) + 1)) = _; rw [Int.natCast_add]; rfl)
  have cT : ∀ (E : En) (da db : En → Option Rs) (xs ys : List Int), da E = some (.val (tI xs)) → db E = some (.val (tI ys)) → xs.length + ys.length < 1000 → dOpS fCatT da db E = some (.val (tI (xs ++ ys))) := fun E da db xs ys h1 h2 h3 => by
    refine dOpS_go h1 h2 rfl rfl ?_
    show (if (xs.map PyData.int).length + (ys.map PyData.int).length < 100000 then some (S.dat (.tuple (xs.map PyData.int ++ ys.map PyData.int))) else none) = _
    rw [if_pos (by simp; omega), ← List.map_append]; rfl
  have z1 : dOpS fCatT (dOpS fCatT (dSl fSlT (dIxL (dVar 1) (dVar 2)) dNoPart (dPart (dVar 4))) (dTupL (dCons (dVar 5) dNil))) (dSl fSlT (dIxL (dVar 1) (dVar 2)) (dPart (dOp fAdd (dVar 4) (dC (.int 1)))) dNoPart) E7 = some (.val (.dat e'.d)) := by
    have := cT E7 _ _ (e.l.take p ++ [v7]) (e.l.drop (p + 1)) (cT E7 _ (dTupL (dCons (dVar 5) dNil)) (e.l.take p) [v7] slp rfl (by rw [List.length_take]; show _ + 1 < _; omega)) sls (by rw [List.length_append, List.length_take, List.length_drop]; show _ + 1 + (7 - _) < _; omega)
    rw [this, ← he']; rfl
  have z2 : dLst (dCons (dOpS fCatT (dOpS fCatT (dSl fSlT (dIxL (dVar 1) (dVar 2)) dNoPart (dPart (dVar 4))) (dTupL (dCons (dVar 5) dNil))) (dSl fSlT (dIxL (dVar 1) (dVar 2)) (dPart (dOp fAdd (dVar 4) (dC (.int 1)))) dNoPart)) dNil) E7 = some (.val (R [e'])) := by
    unfold dLst
    rw [dcons_go z1 rfl]; rfl
  have x := ret E7 _ _ (cat E7 _ _ _ _ (cat E7 _ _ _ _ (pre E7 rfl rfl) z2 (by have := lt k; simp; omega)) (suf E7 1 rfl rfl) (by rw [List.length_append, ld]; have := lt k; simp; omega))
  exact ⟨_, n5, b5, _, l5, by rw [List.length_append, List.length_append, ld]; have := lt k; simp; omega, .inr rfl, fnG_rt (E := E7) (dSeq_go (dIf_f t0 rfl) (dSeq_go s1 (dSeq_go s2 (dSeq_go (dIf_f t1 rfl) (dSeq_go (dIf_f t2 rfl) (dSeq_go (dIf_f t3 rfl) (dSeq_go s4 (dSeq_go s5 (dSeq_go s6 (dSeq_go s7 x)))))))))) rfl⟩
end
end K16
/-! k16: the law -/
namespace K16
open PySem PySem.Spec PyProof.Rows L2 Mv
open Gn hiding g__law_take g__law_begun d__law_take d__law_begun
theorem eqD_int (k : Int) : fEqD (.int k) (.int k) = some (.bool true) := by
  unfold fEqD
  rw [if_pos ⟨rfl, rfl⟩, SeqAt.eqv_refl _ rfl]
theorem v_alike (x : Option Nat) : g__law_alike 1 [.dat (oN x), .dat (oN x)] = some (.dat (.bool true), [.dat (oN x), .dat (oN x)]) := by
  cases x with
  | none => rfl
  | some k =>
    show fnG 3 (f__law_alike gNone) [.dat (.int (k : Int)), .dat (.int (k : Int))] = _
    let E : En := entry 3 [.dat (.int (k : Int)), .dat (.int (k : Int))]
    have e1 : dOp fEqD (dVar 0) (dVar 1) E = some (.val (.dat (.bool true))) := dOp_go rfl rfl rfl rfl (eqD_int _)
    have e2 : dRet (ePure (dAndV (dIsi .int (dVar 0)) (dAndV (dNotV (dIsi .bool (dVar 0))) (dOp fEqD (dVar 0) (dVar 1))))) E = some (.rt (.dat (.bool true)) E) := by
      refine dRet_go (ePure_go ?_)
      unfold dAndV
      rw [show dIsi .int (dVar 0) E = some (.val (.dat (.bool true))) from rfl, show dNotV (dIsi .bool (dVar 0)) E = some (.val (.dat (.bool true))) from rfl]
      exact e1
    exact fnG_rt (E := E) (dSeq_go (E1 := E) rfl (dSeq_go (E1 := E) rfl (dSeq_rt (dIf_t (E1 := E) rfl e2)))) rfl
def Qs (s : Sl) : Prop := s = .no ∨ ∃ d, s = .own (.dat d)
def eW (D : PyData) (B : S) (s2 s3 s4 s5 s6 : Sl) : En := [.own (.dat D), .own B, s2, s3, s4, s5, s6, .own (.dat D)]
abbrev wA : En → Option Out := dSet 3 (eFrz (eCall g__law_deeds (dCons (dVar 1) dNil)))
abbrev wB : En → Option Out := dIf (eNot (eTest (eEff (lConsE (eCall g_judge (dCons (dVar 3) dNil)) (lConsP (dC .none) lNil)) fun k => dWhen k 2 (eCall (g__law_alike 1) (dGhs k))))) (dRet (ePure (dC (.bool false)))) dNext
abbrev wCb : En → Option Out := dSet 3 (eFrz (eCall g__law_bent (dCons (dVar 1) (dCons (dVar 3) dNil))))
abbrev wC : En → Option Out := dFor (iRangeE (eOp fAdd (ePure (dC (.int 1))) (eCall g__law_take (dCons (dVar 1) (dCons (dC (.int 2)) dNil))))) (bName 4) wCb
abbrev wD : En → Option Out := dAlias 5 (dFrz (dCS fList (dCons (dVar 3) dNil)))
abbrev wEb : En → Option Out := dIf (eOr (eNot (eTest (eEff (lConsE (eCall g_judge (dCons (dVar 5) dNil)) (lConsE (eCall g__law_due (dCons (dVar 3) dNil)) lNil)) fun k => dWhen k 2 (eCall (g__law_alike 1) (dGhs k))))) (ePureT (dTest (dOp fNeD (dVar 5) (dVar 3))))) (dRet (ePure (dC (.bool false)))) dNext
abbrev wE : En → Option Out := dFor (iRange (dC (.int 2))) (bName 6) wEb
theorem law_is : d_law = dSeq (dSet 1 (eCall g__law_begun (dCons (dVar 0) dNil))) (dSeq (dFor (iRange (dC (.int 4))) (bName 2) (dSeq wA (dSeq wB (dSeq wC (dSeq wD wE))))) (dRet (ePure (dC (.bool true))))) := rfl
section
variable {D : PyData} {ns : List Int} {st : Int} {s2 s3 s4 s5 s6 : Sl} {ds : List De}
theorem v_wA (hl : ns.length < 1000) (h2 : Qs s2) (h3 : Qs s3) (h4 : Qs s4) (h5 : Qs s5) (h6 : Qs s6) : ∃ ds ns' st', ns'.length < 1000 ∧ ds.length < 100 ∧ jF t0 ds 0 = none ∧ wA (eW D (bx ns st) s2 s3 s4 s5 s6) = some (.nx (eW D (bx ns' st') s2 (.own (L ds)) s4 s5 s6)) := by
  obtain ⟨ds, ns', st', a, b, c, e⟩ := v_deeds (st := st) hl
  refine ⟨ds, ns', st', a, b, c, ?_⟩
  have c1 : eCall g__law_deeds (dCons (dVar 1) dNil) (eW D (bx ns st) s2 s3 s4 s5 s6) = some (R ds, eW D (bx ns' st') s2 s3 s4 s5 s6) := by
    refine (eCall_go (rs := [.pl [1]]) rfl rfl rfl e).trans ?_
    rcases h2 with rfl | ⟨d2, rfl⟩ <;> rcases h3 with rfl | ⟨d3, rfl⟩ <;> rcases h4 with rfl | ⟨d4, rfl⟩ <;> rcases h5 with rfl | ⟨d5, rfl⟩ <;> rcases h6 with rfl | ⟨d6, rfl⟩ <;> rfl
  refine (dSet_go (frzE_go (f := De.d) c1)).trans ?_
  rcases h2 with rfl | ⟨d2, rfl⟩ <;> rcases h4 with rfl | ⟨d4, rfl⟩ <;> rcases h5 with rfl | ⟨d5, rfl⟩ <;> rcases h6 with rfl | ⟨d6, rfl⟩ <;> rfl
theorem Qs.free {s : Sl} (h : Qs s) (n : Nat) : frs n s = true := by rcases h with rfl | ⟨d, rfl⟩ <;> rfl
theorem eW_free {B : S} (h2 : Qs s2) (h3 : Qs s3) (h4 : Qs s4) (h5 : Qs s5) (h6 : Qs s6) : (eW D B s2 s3 s4 s5 s6).all (frs (eW D B s2 s3 s4 s5 s6).length) = true := by
  simp only [eW, List.all_cons, List.all_nil, h2.free, h3.free, h4.free, h5.free, h6.free]; rfl
theorem v_wB (hd : ds.length < 900) (h2 : Qs s2) (h4 : Qs s4) (h5 : Qs s5) (h6 : Qs s6) (hj : jF t0 ds 0 = none) : wB (eW D (bx ns st) s2 (.own (L ds)) s4 s5 s6) = some (.nx (eW D (bx ns st) s2 (.own (L ds)) s4 s5 s6)) := by
  let E := eW D (bx ns st) s2 (.own (L ds)) s4 s5 s6
  have c1 : eCall g_judge (dCons (dVar 3) dNil) E = some (.dat .none, E) := by
    have := v_judge hd
    rw [hj] at this
    exact eCall_go (rs := [.val (L ds)]) rfl rfl rfl this
  have c2 : lConsE (eCall g_judge (dCons (dVar 3) dNil)) (lConsP (dC .none) lNil) E = some (2, E ++ [.own (.dat .none), .own (.dat .none)]) := lE_go (k := 1) c1 (lP_own (s := .dat .none) (k := 0) rfl (by rw [List.append_assoc]; rfl))
  have c3 : eCall (g__law_alike 1) (dGhs 2) (E ++ [.own (.dat .none), .own (.dat .none)]) = some (.dat (.bool true), E ++ [.own (.dat .none), .own (.dat .none)]) :=
    eCall_go (rs := [.val (.dat .none), .val (.dat .none)]) rfl rfl rfl (v_alike none)
  have c4 := eff_go (dc := fun k => dWhen k 2 (eCall (g__law_alike 1) (dGhs k))) c2 (when_go c3) (eW_free h2 (.inr ⟨_, rfl⟩) h4 h5 h6) rfl
  exact dIf_f (eNot_go (eTest_go c4)) rfl
theorem v_wCb (hl : ns.length < 1000) (hd : ds.length < 200) (h2 : Qs s2) (h4 : Qs s4) (h5 : Qs s5) (h6 : Qs s6) : ∃ ds' ns' st', ns'.length < 1000 ∧ ds'.length ≤ ds.length + 1 ∧ wCb (eW D (bx ns st) s2 (.own (L ds)) s4 s5 s6) = some (.nx (eW D (bx ns' st') s2 (.own (L ds')) s4 s5 s6)) := by
  obtain ⟨ds', ns', st', s, a, b, c, e⟩ := v_bent (st := st) hl hd
  refine ⟨ds', ns', st', a, b, ?_⟩
  have c1 : eCall g__law_bent (dCons (dVar 1) (dCons (dVar 3) dNil)) (eW D (bx ns st) s2 (.own (L ds)) s4 s5 s6) = some (s, eW D (bx ns' st') s2 (.own (L ds)) s4 s5 s6) := by
    refine (eCall_go (rs := [.pl [1], .val (L ds)]) rfl rfl rfl e).trans ?_
    rcases h2 with rfl | ⟨d2, rfl⟩ <;> rcases h4 with rfl | ⟨d4, rfl⟩ <;> rcases h5 with rfl | ⟨d5, rfl⟩ <;> rcases h6 with rfl | ⟨d6, rfl⟩ <;> rfl
  have c2 : eFrz (eCall g__law_bent (dCons (dVar 1) (dCons (dVar 3) dNil))) (eW D (bx ns st) s2 (.own (L ds)) s4 s5 s6) = some (L ds', eW D (bx ns' st') s2 (.own (L ds)) s4 s5 s6) := by
    rcases c with rfl | rfl
    · exact frzE_dat c1
    · exact frzE_go (f := De.d) c1
  refine (dSet_go c2).trans ?_
  rcases h2 with rfl | ⟨d2, rfl⟩ <;> rcases h4 with rfl | ⟨d4, rfl⟩ <;> rcases h5 with rfl | ⟨d5, rfl⟩ <;> rcases h6 with rfl | ⟨d6, rfl⟩ <;> rfl
theorem v_wC (hl : ns.length < 1000) (hd : ds.length < 100) (h2 : Qs s2) (h4 : Qs s4) (h5 : Qs s5) (h6 : Qs s6) : ∃ ds' ns' st' s4', ns'.length < 1000 ∧ ds'.length < 110 ∧ Qs s4' ∧ wC (eW D (bx ns st) s2 (.own (L ds)) s4 s5 s6) = some (.nx (eW D (bx ns' st') s2 (.own (L ds')) s4' s5 s6)) := by
  obtain ⟨r, n1, b1, p, q, l1, e⟩ := take_go (st := st) (many := 2) (by omega) (by omega) hl
  have c1 : eCall g__law_take (dCons (dVar 1) (dCons (dC (.int 2)) dNil)) (eW D (bx ns st) s2 (.own (L ds)) s4 s5 s6) = some (.dat (.int r), eW D (bx n1 b1) s2 (.own (L ds)) s4 s5 s6) := by
    refine (eCall_go (rs := [.pl [1], .val (.dat (.int 2))]) rfl rfl rfl e).trans ?_
    rcases h2 with rfl | ⟨d2, rfl⟩ <;> rcases h4 with rfl | ⟨d4, rfl⟩ <;> rcases h5 with rfl | ⟨d5, rfl⟩ <;> rcases h6 with rfl | ⟨d6, rfl⟩ <;> rfl
  have c2 : eOp fAdd (ePure (dC (.int 1))) (eCall g__law_take (dCons (dVar 1) (dCons (dC (.int 2)) dNil))) (eW D (bx ns st) s2 (.own (L ds)) s4 s5 s6) = some (.dat (.int (1 + r)), eW D (bx n1 b1) s2 (.own (L ds)) s4 s5 s6) := eOp_go (x := .int 1) rfl c1 rfl
  have hsrc := iRangeE_go c2 (by omega) (by omega)
  have hj2 : (1 + r).toNat ≤ 2 := by omega
  generalize (1 + r).toNat = m at hsrc hj2
  let J (i : Nat) (E : En) : Prop := ∃ ds ns st s4, E = eW D (bx ns st) s2 (.own (L ds)) s4 s5 s6 ∧ ns.length < 1000 ∧ ds.length < 100 + i ∧ Qs s4
  have hloop := loop_inv (rd := fun _ i => some (if i < m then some (.val (.dat (.int (i : Nat)))) else none)) (bd := bName 4) (db := wCb) J m
    (fun i E hi hJ => by
      obtain ⟨ds, ns, st, s4, rfl, hn, hd, q4⟩ := hJ
      obtain ⟨ds', ns', st', a, b, x⟩ := v_wCb (D := D) (st := st) (ds := ds) (s2 := s2) (s4 := .own (.dat (.int (i : Nat)))) (s5 := s5) (s6 := s6) hn (by omega : ds.length < 200) h2 (.inr ⟨_, rfl⟩) h5 h6
      refine ⟨_, _, _, rng_rd (E := []) hi, ?_, x, ds', ns', st', _, rfl, a, by omega, .inr ⟨_, rfl⟩⟩
      show some (slotSet _ 4 _) = _
      rcases h2 with rfl | ⟨d2, rfl⟩ <;> rcases h5 with rfl | ⟨d5, rfl⟩ <;> rcases h6 with rfl | ⟨d6, rfl⟩ <;> rfl)
    (fun E _ => rng_end (E := [])) m 0 m (eW D (bx n1 b1) s2 (.own (L ds)) s4 s5 s6) (by omega) (Nat.le_refl _) ⟨ds, n1, b1, s4, rfl, l1, by omega, h4⟩
  obtain ⟨E', hE, ds', ns', st', s4', rfl, hn, hd', q4⟩ := hloop
  refine ⟨ds', ns', st', s4', hn, by omega, q4, ?_⟩
  exact dFor_go hsrc (by rw [List.append_nil]; exact hE)
theorem v_wD (h2 : Qs s2) (h4 : Qs s4) (h5 : Qs s5) (h6 : Qs s6) : wD (eW D (bx ns st) s2 (.own (L ds)) s4 s5 s6) = some (.nx (eW D (bx ns st) s2 (.own (L ds)) s4 (.own (L ds)) s6)) := by
  have c1 : dCS fList (dCons (dVar 3) dNil) (eW D (bx ns st) s2 (.own (L ds)) s4 s5 s6) = some (.val (R ds)) := by
    show (some (S.lst ((ds.map De.d).map S.dat))).map Rs.val = _
    rw [dL_back]; rfl
  unfold wD dAlias
  rw [frz_go (f := De.d) c1]
  show some (Out.nx (slotSet _ 5 _)) = _
  rcases h2 with rfl | ⟨d2, rfl⟩ <;> rcases h4 with rfl | ⟨d4, rfl⟩ <;> rcases h6 with rfl | ⟨d6, rfl⟩ <;> rfl
theorem v_wEb (hd : ds.length < 900) (h2 : Qs s2) (h4 : Qs s4) (h6 : Qs s6) : wEb (eW D (bx ns st) s2 (.own (L ds)) s4 (.own (L ds)) s6) = some (.nx (eW D (bx ns st) s2 (.own (L ds)) s4 (.own (L ds)) s6)) := by
  let E := eW D (bx ns st) s2 (.own (L ds)) s4 (.own (L ds)) s6
  have jd' : dF [] ds 0 = jF t0 ds 0 := (jd same_t0).symm
  have c1 : eCall g_judge (dCons (dVar 5) dNil) E = some (.dat (oN (jF t0 ds 0)), E) := eCall_go (rs := [.val (L ds)]) rfl rfl rfl (v_judge hd)
  have c2 : eCall g__law_due (dCons (dVar 3) dNil) (E ++ [.own (.dat (oN (jF t0 ds 0)))]) = some (.dat (oN (jF t0 ds 0)), E ++ [.own (.dat (oN (jF t0 ds 0)))]) := by
    have := v_due hd
    rw [jd'] at this
    exact eCall_go (rs := [.val (L ds)]) rfl rfl rfl this
  generalize jF t0 ds 0 = x at c1 c2
  have c3 : lConsE (eCall g_judge (dCons (dVar 5) dNil)) (lConsE (eCall g__law_due (dCons (dVar 3) dNil)) lNil) E = some (2, E ++ [.own (.dat (oN x)), .own (.dat (oN x))]) := lE_go (k := 1) c1 (lE_go (k := 0) c2 (by rw [List.append_assoc]; rfl))
  have c4 : eCall (g__law_alike 1) (dGhs 2) (E ++ [.own (.dat (oN x)), .own (.dat (oN x))]) = some (.dat (.bool true), E ++ [.own (.dat (oN x)), .own (.dat (oN x))]) :=
    eCall_go (rs := [.val (.dat (oN x)), .val (.dat (oN x))]) rfl rfl rfl (v_alike x)
  have c5 := eff_go (dc := fun k => dWhen k 2 (eCall (g__law_alike 1) (dGhs k))) c3 (when_go c4) (eW_free h2 (.inr ⟨_, rfl⟩) h4 (.inr ⟨_, rfl⟩) h6) rfl
  have c6 : ePureT (dTest (dOp fNeD (dVar 5) (dVar 3))) E = some (false, E) := by
    unfold ePureT dTest
    rw [dOp_go (a := .val (L ds)) (b := .val (L ds)) (x := .list (ds.map De.d)) (y := .list (ds.map De.d)) rfl rfl rfl rfl (neD_same de_lay de_depth (by omega) ds)]; rfl
  exact dIf_f (eOr_f (eNot_go (eTest_go c5)) c6) rfl
theorem v_wE (hd : ds.length < 900) (h2 : Qs s2) (h4 : Qs s4) (h6 : Qs s6) : ∃ s6', Qs s6' ∧ wE (eW D (bx ns st) s2 (.own (L ds)) s4 (.own (L ds)) s6) = some (.nx (eW D (bx ns st) s2 (.own (L ds)) s4 (.own (L ds)) s6')) := by
  have hsrc := iRange_go (E := eW D (bx ns st) s2 (.own (L ds)) s4 (.own (L ds)) s6) (d := dC (.int 2)) (j := 2) rfl (by omega) (by omega)
  let J (i : Nat) (E : En) : Prop := ∃ s6, E = eW D (bx ns st) s2 (.own (L ds)) s4 (.own (L ds)) s6 ∧ Qs s6
  have hloop := loop_inv (rd := fun _ i => some (if i < 2 then some (.val (.dat (.int (i : Nat)))) else none)) (bd := bName 6) (db := wEb) J 2
    (fun i E hi hJ => by
      obtain ⟨s6, rfl, q6⟩ := hJ
      refine ⟨_, _, _, rng_rd (E := []) hi, ?_, v_wEb (D := D) (ns := ns) (st := st) (s2 := s2) (s4 := s4) (s6 := .own (.dat (.int (i : Nat)))) hd h2 h4 (.inr ⟨_, rfl⟩), _, rfl, .inr ⟨_, rfl⟩⟩
      show some (slotSet _ 6 _) = _
      rcases h2 with rfl | ⟨d2, rfl⟩ <;> rcases h4 with rfl | ⟨d4, rfl⟩ <;> rfl)
    (fun E _ => rng_end (E := [])) 2 0 2 (eW D (bx ns st) s2 (.own (L ds)) s4 (.own (L ds)) s6) (by omega) (Nat.le_refl _) ⟨s6, rfl, h6⟩
  obtain ⟨E', hE, s6', rfl, q6⟩ := hloop
  exact ⟨s6', q6, dFor_go hsrc (by rw [List.append_nil]; exact hE)⟩
end
theorem v_law {ns : List Int} (hl : ns.length < 1000) : g_law [.dat (.list (ns.map .int))] = some (.dat (.bool true), [.dat (.list (ns.map .int))]) := by
  obtain ⟨st, hb⟩ := v_begun hl
  let D : PyData := .list (ns.map .int)
  have s1 : dSet 1 (eCall g__law_begun (dCons (dVar 0) dNil)) (entry 7 [.dat D]) = some (.nx (eW D (bx ns st) .no .no .no .no .no)) :=
    (dSet_go (eCall_go (rs := [.val (.dat D)]) rfl rfl rfl hb)).trans rfl
  have hsrc := iRange_go (E := eW D (bx ns st) .no .no .no .no .no) (d := dC (.int 4)) (j := 4) rfl (by omega) (by omega)
  let J (i : Nat) (E : En) : Prop := ∃ ns st s2 s3 s4 s5 s6, E = eW D (bx ns st) s2 s3 s4 s5 s6 ∧ ns.length < 1000 ∧ Qs s2 ∧ Qs s3 ∧ Qs s4 ∧ Qs s5 ∧ Qs s6
  have hloop := loop_inv (rd := fun _ i => some (if i < 4 then some (.val (.dat (.int (i : Nat)))) else none)) (bd := bName 2) (db := dSeq wA (dSeq wB (dSeq wC (dSeq wD wE)))) J 4
    (fun i E hi hJ => by
      obtain ⟨ns, st, s2, s3, s4, s5, s6, rfl, hn, q2, q3, q4, q5, q6⟩ := hJ
      have q2' : Qs (.own (.dat (.int (i : Nat)))) := .inr ⟨_, rfl⟩
      obtain ⟨ds, n1, b1, l1, hd, hj, x1⟩ := v_wA (D := D) (st := st) hn q2' q3 q4 q5 q6
      have x2 := v_wB (D := D) (ns := n1) (st := b1) (by omega : ds.length < 900) q2' q4 q5 q6 hj
      obtain ⟨ds', n2, b2, s4', l2, hd', q4', x3⟩ := v_wC (D := D) (st := b1) l1 hd q2' q4 q5 q6
      have x4 := v_wD (D := D) (ns := n2) (st := b2) (ds := ds') q2' q4' q5 q6
      obtain ⟨s6', q6', x5⟩ := v_wE (D := D) (ns := n2) (st := b2) (by omega : ds'.length < 900) q2' q4' q6
      refine ⟨_, _, _, rng_rd (E := []) hi, ?_, dSeq_go x1 (dSeq_go x2 (dSeq_go x3 (dSeq_go x4 x5))), n2, b2, _, _, _, _, _, rfl, l2, q2', .inr ⟨_, rfl⟩, q4', .inr ⟨_, rfl⟩, q6'⟩
      show some (slotSet _ 2 _) = _
      rcases q3 with rfl | ⟨d3, rfl⟩ <;> rcases q4 with rfl | ⟨d4, rfl⟩ <;> rcases q5 with rfl | ⟨d5, rfl⟩ <;> rcases q6 with rfl | ⟨d6, rfl⟩ <;> rfl)
    (fun E _ => rng_end (E := [])) 4 0 4 (eW D (bx ns st) .no .no .no .no .no) (by omega) (Nat.le_refl _) ⟨ns, st, _, _, _, _, _, rfl, hl, .inl rfl, .inl rfl, .inl rfl, .inl rfl, .inl rfl⟩
  obtain ⟨E', hE, ns', st', s2, s3, s4, s5, s6, rfl, hn, q2, q3, q4, q5, q6⟩ := hloop
  have x := dFor_go hsrc (by rw [List.append_nil]; exact hE)
  unfold g_law
  rw [law_is]
  exact fnG_rt (dSeq_go s1 (dSeq_go x (dRet_go rfl))) rfl
end K16
namespace K16
open PySem PySem.Spec PyProof.Rows L2 Mv
theorem law_sp {K : PySem.W.Frag} {H : Hp} {a : Addr} {ns : List Int} {E : XK} (hl : ns.length ≤ 63) (hS : SqL K H a (ns.map V.int)) : spMv K 1 g_law [.ref a] H (fun v _ => v = .bl true) E := by
  let F : Hp := fun b => if b = a then H b else none
  have fa : F a = H a := if_pos rfl
  have hF : SqL K F a (ns.map V.int) := hS.imp (fun rd => by
    rcases rd with z | ⟨o, z⟩
    · exact .inl (fa.trans z)
    · exact .inr ⟨o, fa.trans z⟩) id
  have hd : ∀ (ns : List Int), DqAll K F (ns.map V.int) (ns.map PyData.int) := by
    intro ns
    induction ns with
    | nil => exact .nil
    | cons i r ih => exact .cons (.int i) ih
  refine ⟨rfl, F, [.dat (.list (ns.map .int))], [], .dat (.bool true), [.dat (.list (ns.map .int))], fun b o e => ?_, .cons (fp := []) (.dat (.lst hF (hd ns))) .nil, List.nodup_nil, (fun _ m => nomatch m), v_law (by omega), fun v F' H' fr fp' g o ov nd of => ?_⟩
  · by_cases hb : b = a
    · have : F b = H b := if_pos hb
      rw [← this]; exact e
    · have : F b = none := if_neg hb
      rw [this] at e; cases e
  · have := (Own.dat_inv ov rfl).1
    cases this
    rfl

theorem all_mk {l : PySem.W.OpenLaw} {w : World} {K : PySem.W.Frag} {h : Heap} {mg : Str → Option Value} {fa : Addr} {f0 : Addr} {od0 an0 : Option Addr} {sl0 : Array (Option Value)} {oc0 kV0 dc0 pm0 cd0 ct0 : Value} {f1 : Addr} {od1 an1 : Option Addr} {sl1 : Array (Option Value)} {oc1 kV1 dc1 pm1 cd1 ct1 : Value} {f2 : Addr} {od2 an2 : Option Addr} {sl2 : Array (Option Value)} {oc2 kV2 dc2 pm2 cd2 ct2 : Value} {f3 : Addr} {od3 an3 : Option Addr} {sl3 : Array (Option Value)} {oc3 kV3 dc3 pm3 cd3 ct3 : Value} {f4 : Addr} {od4 an4 : Option Addr} {sl4 : Array (Option Value)} {oc4 kV4 dc4 pm4 cd4 ct4 : Value} {f5 : Addr} {od5 an5 : Option Addr} {sl5 : Array (Option Value)} {oc5 kV5 dc5 pm5 cd5 ct5 : Value} {f6 : Addr} {od6 an6 : Option Addr} {sl6 : Array (Option Value)} {oc6 kV6 dc6 pm6 cd6 ct6 : Value} {f7 : Addr} {od7 an7 : Option Addr} {sl7 : Array (Option Value)} {oc7 kV7 dc7 pm7 cd7 ct7 : Value} {f8 : Addr} {od8 an8 : Option Addr} {sl8 : Array (Option Value)} {oc8 kV8 dc8 pm8 cd8 ct8 : Value} {f9 : Addr} {od9 an9 : Option Addr} {sl9 : Array (Option Value)} {oc9 kV9 dc9 pm9 cd9 ct9 : Value} {f10 : Addr} {od10 an10 : Option Addr} {sl10 : Array (Option Value)} {oc10 kV10 dc10 pm10 cd10 ct10 : Value} {f11 : Addr} {od11 an11 : Option Addr} {sl11 : Array (Option Value)} {oc11 kV11 dc11 pm11 cd11 ct11 : Value} {CTally : Addr} {tkWORTHS : Tok} {qNEW_SLOT_0 : Addr} {tNEW_SLOT_1 : Tok} {tNEW_SLOT_2 : Tok} {zqNEW_SLOT_0 : Nat} (X : K.In h) (G : h.Ns mainGlobals mg) (hfa : mg "law" = some (.ref fa))
    (aCTally : PySem.W.nsIn K mainGlobals "Tally" = some (some (.ref CTally)))
    (pgTally : PySem.W.plainGet K CTally Str.empty = true)
    (hdTally : PySem.W.hasDictIn K CTally = true)
    (poTally : PySem.W.plainOver K CTally = true)
    (saTally : PySem.W.findIn K (.ref CTally) "__setattr__" = some (some (.builtin "object.__setattr__")))
    (mkTally : PySem.W.makesIn K CTally = true)
    (kcTally : PySem.W.keepIn K (.ref CTally) = true)
    (nTally_grown : PySem.W.findIn K (.ref CTally) "grown" = some none)
    (nTally_numbers : PySem.W.findIn K (.ref CTally) "numbers" = some none)
    (nTally_make : PySem.W.findIn K (.ref CTally) "make" = some none)
    (a0 : PySem.W.nsIn K mainGlobals "with_more" = some (some (.ref f0)))
    (l0 : K.lookup f0 = some ⟨oc0, od0, .func (PySem.W.fnOf "with_more" "with_more" (defArgs s_with_more) (defBody s_with_more) (defScope s_with_more) .none kV0 dc0 pm0 an0 cd0 ct0), sl0⟩)
    (c0 : PySem.W.codeIn K cd0 "with_more" = true)
    (k0 : PySem.W.keepIn K (.ref f0) = true)
    (a1 : PySem.W.nsIn K mainGlobals "judge" = some (some (.ref f1)))
    (l1 : K.lookup f1 = some ⟨oc1, od1, .func (PySem.W.fnOf "judge" "judge" (defArgs s_judge) (defBody s_judge) (defScope s_judge) .none kV1 dc1 pm1 an1 cd1 ct1), sl1⟩)
    (c1 : PySem.W.codeIn K cd1 "judge" = true)
    (k1 : PySem.W.keepIn K (.ref f1) = true)
    (a2 : PySem.W.nsIn K mainGlobals "_law_begun" = some (some (.ref f2)))
    (l2 : K.lookup f2 = some ⟨oc2, od2, .func (PySem.W.fnOf "_law_begun" "_law_begun" (defArgs s__law_begun) (defBody s__law_begun) (defScope s__law_begun) .none kV2 dc2 pm2 an2 cd2 ct2), sl2⟩)
    (c2 : PySem.W.codeIn K cd2 "_law_begun" = true)
    (k2 : PySem.W.keepIn K (.ref f2) = true)
    (a3 : PySem.W.nsIn K mainGlobals "_law_take" = some (some (.ref f3)))
    (l3 : K.lookup f3 = some ⟨oc3, od3, .func (PySem.W.fnOf "_law_take" "_law_take" (defArgs s__law_take) (defBody s__law_take) (defScope s__law_take) .none kV3 dc3 pm3 an3 cd3 ct3), sl3⟩)
    (c3 : PySem.W.codeIn K cd3 "_law_take" = true)
    (k3 : PySem.W.keepIn K (.ref f3) = true)
    (a4 : PySem.W.nsIn K mainGlobals "_law_alike" = some (some (.ref f4)))
    (l4 : K.lookup f4 = some ⟨oc4, od4, .func (PySem.W.fnOf "_law_alike" "_law_alike" (defArgs s__law_alike) (defBody s__law_alike) (defScope s__law_alike) .none kV4 dc4 pm4 an4 cd4 ct4), sl4⟩)
    (c4 : PySem.W.codeIn K cd4 "_law_alike" = true)
    (k4 : PySem.W.keepIn K (.ref f4) = true)
    (a5 : PySem.W.nsIn K mainGlobals "_law_deeds" = some (some (.ref f5)))
    (l5 : K.lookup f5 = some ⟨oc5, od5, .func (PySem.W.fnOf "_law_deeds" "_law_deeds" (defArgs s__law_deeds) (defBody s__law_deeds) (defScope s__law_deeds) .none kV5 dc5 pm5 an5 cd5 ct5), sl5⟩)
    (c5 : PySem.W.codeIn K cd5 "_law_deeds" = true)
    (k5 : PySem.W.keepIn K (.ref f5) = true)
    (a6 : PySem.W.nsIn K mainGlobals "_law_bent" = some (some (.ref f6)))
    (l6 : K.lookup f6 = some ⟨oc6, od6, .func (PySem.W.fnOf "_law_bent" "_law_bent" (defArgs s__law_bent) (defBody s__law_bent) (defScope s__law_bent) .none kV6 dc6 pm6 an6 cd6 ct6), sl6⟩)
    (c6 : PySem.W.codeIn K cd6 "_law_bent" = true)
    (k6 : PySem.W.keepIn K (.ref f6) = true)
    (a7 : PySem.W.nsIn K mainGlobals "_law_due" = some (some (.ref f7)))
    (l7 : K.lookup f7 = some ⟨oc7, od7, .func (PySem.W.fnOf "_law_due" "_law_due" (defArgs s__law_due) (defBody s__law_due) (defScope s__law_due) .none kV7 dc7 pm7 an7 cd7 ct7), sl7⟩)
    (c7 : PySem.W.codeIn K cd7 "_law_due" = true)
    (k7 : PySem.W.keepIn K (.ref f7) = true)
    (a8 : PySem.W.nsIn K mainGlobals "law" = some (some (.ref f8)))
    (l8 : K.lookup f8 = some ⟨oc8, od8, .func (PySem.W.fnOf "law" "law" (defArgs s_law) (defBody s_law) (defScope s_law) .none kV8 dc8 pm8 an8 cd8 ct8), sl8⟩)
    (c8 : PySem.W.codeIn K cd8 "law" = true)
    (k8 : PySem.W.keepIn K (.ref f8) = true)
    (a9 : PySem.W.findIn K (.ref CTally) "__init__" = some (some (.ref f9)))
    (i9 : PySem.W.isFn K (.ref f9) = true)
    (l9 : K.lookup f9 = some ⟨oc9, od9, .func (PySem.W.fnOf "__init__" "Tally.__init__" (defArgs s_Tally___init__) (defBody s_Tally___init__) (defScope s_Tally___init__) .none kV9 dc9 pm9 an9 cd9 ct9), sl9⟩)
    (c9 : PySem.W.codeIn K cd9 "Tally.__init__" = true)
    (k9 : PySem.W.keepIn K (.ref f9) = true)
    (a10 : PySem.W.findIn K (.ref CTally) "lets" = some (some (.ref f10)))
    (i10 : PySem.W.isFn K (.ref f10) = true)
    (l10 : K.lookup f10 = some ⟨oc10, od10, .func (PySem.W.fnOf "lets" "Tally.lets" (defArgs s_Tally_lets) (defBody s_Tally_lets) (defScope s_Tally_lets) .none kV10 dc10 pm10 an10 cd10 ct10), sl10⟩)
    (c10 : PySem.W.codeIn K cd10 "Tally.lets" = true)
    (k10 : PySem.W.keepIn K (.ref f10) = true)
    (a11 : PySem.W.findIn K (.ref CTally) "note" = some (some (.ref f11)))
    (i11 : PySem.W.isFn K (.ref f11) = true)
    (l11 : K.lookup f11 = some ⟨oc11, od11, .func (PySem.W.fnOf "note" "Tally.note" (defArgs s_Tally_note) (defBody s_Tally_note) (defScope s_Tally_note) .none kV11 dc11 pm11 an11 cd11 ct11), sl11⟩)
    (c11 : PySem.W.codeIn K cd11 "Tally.note" = true)
    (k11 : PySem.W.keepIn K (.ref f11) = true)
    (vWORTHS : PySem.W.nsIn K mainGlobals "WORTHS" = some (some (.int (1000) tkWORTHS)))
    (vNEW_SLOT : PySem.W.nsIn K mainGlobals "NEW_SLOT" = some (some (.ref qNEW_SLOT_0)))
    (lkqNEW_SLOT_0 : K.lookup qNEW_SLOT_0 = some ⟨.type "tuple", none, .seq #[.int 0 tNEW_SLOT_1, .int 0 tNEW_SLOT_2] zqNEW_SLOT_0, #[]⟩)
    (zbool : PySem.W.nsIn K mainGlobals "bool" = some none)
    (zenumerate : PySem.W.nsIn K mainGlobals "enumerate" = some none)
    (zint : PySem.W.nsIn K mainGlobals "int" = some none)
    (zisinstance : PySem.W.nsIn K mainGlobals "isinstance" = some none)
    (zlen : PySem.W.nsIn K mainGlobals "len" = some none)
    (zlist : PySem.W.nsIn K mainGlobals "list" = some none)
    (zrange : PySem.W.nsIn K mainGlobals "range" = some none)
    (zstr : PySem.W.nsIn K mainGlobals "str" = some none)
    (ztuple : PySem.W.nsIn K mainGlobals "tuple" = some none)
    : ∃ fd : FuncData, (∀ (s : Shared) (v : Value), BindsTo s fd ⟨[v], []⟩ [("_law_script", v)]) ∧ ∀ base : Heap, K.In base → base.Ns mainGlobals mg → FnOk l.prog w K mg base CX0 4 fa fd ["_law_script"] (spMv K 1 g_law) := by
  have e := hfa.symm.trans (PySem.W.mg_of X G a8)
  cases e
  have F0 := fun_mk (st := s_with_more) l0 c0 k0
  have F1 := fun_mk (st := s_judge) l1 c1 k1
  have F2 := fun_mk (st := s__law_begun) l2 c2 k2
  have F3 := fun_mk (st := s__law_take) l3 c3 k3
  have F4 := fun_mk (st := s__law_alike) l4 c4 k4
  have F5 := fun_mk (st := s__law_deeds) l5 c5 k5
  have F6 := fun_mk (st := s__law_bent) l6 c6 k6
  have F7 := fun_mk (st := s__law_due) l7 c7 k7
  have F8 := fun_mk (st := s_law) l8 c8 k8
  have F9 := fun_mk (st := s_Tally___init__) l9 c9 k9
  have F10 := fun_mk (st := s_Tally_lets) l10 c10 k10
  have F11 := fun_mk (st := s_Tally_note) l11 c11 k11
  let T : Txt K mg := {
    n_bool := PySem.W.mg_none_of X G zbool
    n_enumerate := PySem.W.mg_none_of X G zenumerate
    n_int := PySem.W.mg_none_of X G zint
    n_isinstance := PySem.W.mg_none_of X G zisinstance
    n_len := PySem.W.mg_none_of X G zlen
    n_list := PySem.W.mg_none_of X G zlist
    n_range := PySem.W.mg_none_of X G zrange
    n_str := PySem.W.mg_none_of X G zstr
    n_tuple := PySem.W.mg_none_of X G ztuple
    t_WORTHS := tkWORTHS
    c_WORTHS := PySem.W.mg_of X G vWORTHS
    a_NEW_SLOT := qNEW_SLOT_0
    c_NEW_SLOT := PySem.W.mg_of X G vNEW_SLOT
    q_NEW_SLOT := fun F => (.tup (xs := [.int 0, .int 0]) (.inr ⟨_, _, _, lkqNEW_SLOT_0, rfl, rfl, rfl, by rw [sizeLine_eq]; simp, (.cons ⟨_, rfl⟩ (.cons ⟨_, rfl⟩ .nil))⟩) (.cons (.int _) (.cons (.int _) .nil)))
    C_Tally := CTally
    k_Tally := aCTally
    cl_Tally := ⟨pgTally, hdTally, poTally, saTally⟩
    na_Tally_grown := nTally_grown
    na_Tally_numbers := nTally_numbers
    na_Tally_make := nTally_make
    a_with_more := f0
    d_with_more := _
    F_with_more := F0
    b_with_more := F0.binds (ps := ["worth", "more"]) fun _ _ _ _ _ _ us hl => match us, hl with | [_, _], _ => rfl
    m_with_more := PySem.W.mg_of X G a0
    a_judge := f1
    d_judge := _
    F_judge := F1
    b_judge := F1.binds (ps := ["deeds"]) fun _ _ _ _ _ _ us hl => match us, hl with | [_], _ => rfl
    m_judge := PySem.W.mg_of X G a1
    a__law_begun := f2
    d__law_begun := _
    F__law_begun := F2
    b__law_begun := F2.binds (ps := ["_law_script"]) fun _ _ _ _ _ _ us hl => match us, hl with | [_], _ => rfl
    m__law_begun := PySem.W.mg_of X G a2
    a__law_take := f3
    d__law_take := _
    F__law_take := F3
    b__law_take := F3.binds (ps := ["_law_box", "_law_many"]) fun _ _ _ _ _ _ us hl => match us, hl with | [_, _], _ => rfl
    m__law_take := PySem.W.mg_of X G a3
    a__law_alike := f4
    d__law_alike := _
    F__law_alike := F4
    b__law_alike := F4.binds (ps := ["_law_found", "_law_due_here"]) fun _ _ _ _ _ _ us hl => match us, hl with | [_, _], _ => rfl
    m__law_alike := PySem.W.mg_of X G a4
    a__law_deeds := f5
    d__law_deeds := _
    F__law_deeds := F5
    b__law_deeds := F5.binds (ps := ["_law_box"]) fun _ _ _ _ _ _ us hl => match us, hl with | [_], _ => rfl
    m__law_deeds := PySem.W.mg_of X G a5
    a__law_bent := f6
    d__law_bent := _
    F__law_bent := F6
    b__law_bent := F6.binds (ps := ["_law_box", "_law_deeds_here"]) fun _ _ _ _ _ _ us hl => match us, hl with | [_, _], _ => rfl
    m__law_bent := PySem.W.mg_of X G a6
    a__law_due := f7
    d__law_due := _
    F__law_due := F7
    b__law_due := F7.binds (ps := ["_law_deeds_here"]) fun _ _ _ _ _ _ us hl => match us, hl with | [_], _ => rfl
    m__law_due := PySem.W.mg_of X G a7
    a_law := fa
    d_law := _
    F_law := F8
    b_law := F8.binds (ps := ["_law_script"]) fun _ _ _ _ _ _ us hl => match us, hl with | [_], _ => rfl
    m_law := PySem.W.mg_of X G a8
    a_Tally___init__ := f9
    d_Tally___init__ := _
    F_Tally___init__ := F9
    b_Tally___init__ := F9.binds (ps := ["self"]) fun _ _ _ _ _ _ us hl => match us, hl with | [_], _ => rfl
    M_Tally := ⟨mkTally, a9, i9, kcTally⟩
    g_Tally := PySem.W.mg_of X G aCTally
    a_Tally_lets := f10
    d_Tally_lets := _
    F_Tally_lets := F10
    b_Tally_lets := F10.binds (ps := ["self", "deed"]) fun _ _ _ _ _ _ us hl => match us, hl with | [_, _], _ => rfl
    mt_Tally_lets := ⟨a10, i10, k10⟩
    a_Tally_note := f11
    d_Tally_note := _
    F_Tally_note := F11
    b_Tally_note := F11.binds (ps := ["self", "deed"]) fun _ _ _ _ _ _ us hl => match us, hl with | [_, _], _ => rfl
    mt_Tally_note := ⟨a11, i11, k11⟩
  }
  exact ⟨_, fun s v => .of_eq rfl, fun base _ _ => ok_law T⟩
end K16
open PySem PySem.W PyProof.Rows
set_option maxHeartbeats 0 in
theorem PySem.Challenge.cw_drainhouse_k16_deeds_judged_holds : PySem.Challenge.rw_drainhouse_k16_deeds_judged.Holds := by
  w_on; o_law; k_head; (case hw => w_witness2)
  k_fill
  refine L2.walk_of (l := PySem.Challenge.rw_drainhouse_k16_deeds_judged) (n := 63) (k := 4) (x := "_law_script") (CX := fun _ => L2.CX0) (sp := fun w => Mv.spMv _ 1 K16.g_law) rfl (by decide) rfl ⟨rfl, by decide, by decide⟩ (fun w h Y => PySem.W.kIn_of Y) ?F (fun _ _ a ns hl _ hS => K16.law_sp hl hS) (fun _ _ _ _ _ h => h)
  case F =>
    intro w mg fa h KX G hmg
    refine' K16.all_mk KX G hmg ?aCTally ?pgTally ?hdTally ?poTally ?saTally ?mkTally ?kcTally ?nTally_grown ?nTally_numbers ?nTally_make ?a0 ?l0 ?c0 ?k0 ?a1 ?l1 ?c1 ?k1 ?a2 ?l2 ?c2 ?k2 ?a3 ?l3 ?c3 ?k3 ?a4 ?l4 ?c4 ?k4 ?a5 ?l5 ?c5 ?k5 ?a6 ?l6 ?c6 ?k6 ?a7 ?l7 ?c7 ?k7 ?a8 ?l8 ?c8 ?k8 ?a9 ?i9 ?l9 ?c9 ?k9 ?a10 ?i10 ?l10 ?c10 ?k10 ?a11 ?i11 ?l11 ?c11 ?k11 ?vWORTHS ?vNEW_SLOT ?lkqNEW_SLOT_0 ?zbool ?zenumerate ?zint ?zisinstance ?zlen ?zlist ?zrange ?zstr ?ztuple
    (case aCTally => k_is)
    (case pgTally => k_is)
    (case hdTally => k_is)
    (case poTally => k_is)
    (case saTally => k_is)
    (case mkTally => k_is)
    (case kcTally => k_is)
    (case nTally_grown => k_is)
    (case nTally_numbers => k_is)
    (case nTally_make => k_is)
    (case a0 => k_is)
    (case l0 => k_is)
    (case c0 => k_is)
    (case k0 => k_is)
    (case a1 => k_is)
    (case l1 => k_is)
    (case c1 => k_is)
    (case k1 => k_is)
    (case a2 => k_is)
    (case l2 => k_is)
    (case c2 => k_is)
    (case k2 => k_is)
    (case a3 => k_is)
    (case l3 => k_is)
    (case c3 => k_is)
    (case k3 => k_is)
    (case a4 => k_is)
    (case l4 => k_is)
    (case c4 => k_is)
    (case k4 => k_is)
    (case a5 => k_is)
    (case l5 => k_is)
    (case c5 => k_is)
    (case k5 => k_is)
    (case a6 => k_is)
    (case l6 => k_is)
    (case c6 => k_is)
    (case k6 => k_is)
    (case a7 => k_is)
    (case l7 => k_is)
    (case c7 => k_is)
    (case k7 => k_is)
    (case a8 => k_is)
    (case l8 => k_is)
    (case c8 => k_is)
    (case k8 => k_is)
    (case a9 => k_is)
    (case i9 => k_is)
    (case l9 => k_is)
    (case c9 => k_is)
    (case k9 => k_is)
    (case a10 => k_is)
    (case i10 => k_is)
    (case l10 => k_is)
    (case c10 => k_is)
    (case k10 => k_is)
    (case a11 => k_is)
    (case i11 => k_is)
    (case l11 => k_is)
    (case c11 => k_is)
    (case k11 => k_is)
    (case vWORTHS => k_is)
    (case vNEW_SLOT => k_is)
    (case lkqNEW_SLOT_0 => k_is)
    (case zbool => k_is)
    (case zenumerate => k_is)
    (case zint => k_is)
    (case zisinstance => k_is)
    (case zlen => k_is)
    (case zlist => k_is)
    (case zrange => k_is)
    (case zstr => k_is)
    (case ztuple => k_is)
