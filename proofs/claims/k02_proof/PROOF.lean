import PyProof.Rows.All
import Wide.All
import OpenK.AllK
import Wide.FinOn
import HandS.ForMost
import HandS.TupAny
import HandS.SetFor
import HandS.Strs
import HandS.DictComp
import HandS.IsInst
import HandS.SortInts
import HandS.More
import HandS.Conv
import KE.DataMinMax
import HandS.Evl
import HandS.WordsDict
import KE.SortData
import PySem.Challenge.RW_drainhouse_k02_shares
set_option Elab.async false
set_option linter.all false
set_option maxRecDepth 100000
set_option maxHeartbeats 4000000
namespace L2
open PySem PySem.Spec PyProof.Rows
section
variable {X : Cx}
/-! tuple.count of ints -/
def rCntT (K : PySem.W.Frag) : V → List V → Hp → VK → Prop := fun x xs H Q => ∃ (p : Addr) (ns : List Int) (k : Int), x = .ref p ∧ xs = [.int k] ∧ SqT K H p (ns.map V.int) ∧ Q (.int (ns.count k : Nat)) H
theorem mt_tcount : MtR X "tuple.count" (rCntT X.K) := by
  intro pins s σ H x xs v us Q I rx rxs h
  obtain ⟨p, ns, k, rfl, rfl, hs, q⟩ := h
  cases rx
  obtain ⟨u, rfl, t, rfl⟩ := rxs.one
  obtain ⟨its, rv, ht, hlen⟩ := I.tuple hs
  obtain ⟨⟨cls, dd, data, sl⟩, ho, hc, n, hd⟩ := ht
  simp only at hc hd; subst hc hd
  have hi := ints_of_vals rv
  refine call_meets F.slot_tuple_count ⟨_, ho, rfl⟩ F.entry_tuple_count (F.args_tuple_count_2 _ _) (SeqAt.tuple_countAt p its.toArray n dd sl (.int k t) (eqk k)) ⟨ho, fun y hy => (eqk_gives hi y (by simpa using hy)).at _ _, ?_⟩
  have ec : its.toArray.toList.countP (eqk k) = ns.count k := by simpa using eqk_count hi
  exact ⟨.int (ns.count k : Nat), H, I.tok _, ⟨s.toks, congrArg (fun z : Nat => Value.int (z : Int) s.toks) ec⟩, q⟩
end
end L2
/-! set(l) of a list of ints, as a set whose order sorted can tell -/
namespace PySem
section
variable {P : Program} {w : World} {A : Around} {E : Value → Shared → Prop} {s : Shared}
abbrev emptySetO (w : World) : Obj := { cls := .type "set", dict := none, data := .set #[] 0 (.fresh 0 0 (!w.params.followText "set-order")) }
open L2 PyProof.Rows in
theorem hx_set_list {l : Addr} {items : Array Value} (ns : List Int) {Q : Value → Shared → Prop} (hh : A.handled = none) (hl : s.heap.IsList l items) (hit : IntsAre items.toList ns) (hb : ns.length + 1 < scanBound)
    (h : ∀ (h' : Heap) (tk c : Nat), SetR w h' s.heap.objs.size (fun j => decide (j ∈ ns)) c → c ≤ ns.length → (∀ b o, s.heap.get? b = some o → h'.get? b = some o) → Q (.ref s.heap.objs.size) { s with heap := h', toks := tk }) :
    wpAny (model P w) A (call (.type "set") [.ref l]) Q E s := by
  have hisz : items.size = ns.length := (Array.length_toList ▸ IntsAre.length hit :)
  obtain ⟨c, tl, hmro⟩ := F.called_set.mro; have hmade := F.called_set.made; have hsub := F.called_set.sub
  refine wpAny_call (codeAny_of_tree (show wpAny _ _ (callAny (.type "set") _) _ _ _ from wpAny_pure ⟨Code.quiet_builtin _ (by decide +kernel), codeAny_builtin F.entry_type_call ?_⟩))
  rw [Around.under_plain (weight_type_call_type "set" [.ref l] []) rfl]
  have h1 := F.called_set.notType; have h2 := F.called_set.canCreate; have hct := F.typeCall_set_1 (.ref l)
  repeat (any_goals (first | assumption | wp_step))
  refine codeAny_mono (code_set_led1 (.ref l) (E := E) (Q₁ := fun obj s₁ => obj = .ref s.heap.objs.size ∧ s₁ = { s with heap := s.heap.push (emptySetO w) }) ⟨rfl, rfl⟩) fun r s₁ hr => ?_
  cases r with
  | error e => exact hr
  | ok fl =>
    cases fl with
    | ret obj =>
      obtain ⟨rfl, rfl⟩ := hr
      have hS : (s.heap.push (emptySetO w)).get? s.heap.objs.size = some (emptySetO w) := Heap.get?_push_size _ rfl
      have hT : Shared.TypeIs { s with heap := s.heap.push (emptySetO w) } (.ref s.heap.objs.size) "set" := ⟨_, hS, rfl⟩
      have hli := F.called_set.init.lookup; have hbi := F.called_set.init.bind (.ref s.heap.objs.size)
      repeat (any_goals (first | assumption | wp_step))
      refine codeAny_mono (codeAny_call_builtin (R := wants (fun r s₂ => r = .none ∧ ∃ h' tk c, s₂ = { s with heap := h', toks := tk } ∧ SetR w h' s.heap.objs.size (fun j => decide (j ∈ ns)) c ∧ c ≤ ns.length ∧ (∀ b o, s.heap.get? b = some o → h'.get? b = some o)) E)
        F.called_set.init.plain F.entry_set_init (check_set_init_1 hT ?_)) fun r₂ s₂ hr₂ => ?_
      · obtain ⟨⟨ocls, odict, odata, oslots⟩, hol, hcl, nl, hdl⟩ := hl
        simp only at hcl hdl; subst hcl; subst hdl
        have hol' : (s.heap.push (emptySetO w)).get? l = some { cls := .type "list", dict := odict, data := .seq items nl, slots := oslots } := Heap.get?_push_of_some _ hol
        have hsls := F.sub_list_set; have hslf := F.sub_list_frozenset; have hne : (Value.type "list" == Value.type "dict") = false := by decide
        have hl1 : (s.heap.push (emptySetO w)).IsList l items := ⟨_, hol', rfl, nl, rfl⟩
        unfold Builtin.«set.__init__» noKeywords Builtin.Frozenset.updateFrom; generalize hPI : pyIter = PI
        wp_walk
        subst hPI
        refine wpAny_pyIter_list hl1 (wpAny_bind (wpAny_runValue ?_))
        have hlS : l < s.heap.objs.size := Heap.lt_size hol
        have hneI : l ≠ (s.heap.push (emptySetO w)).objs.size := by rw [Heap.size_push]; exact Nat.ne_of_lt (Nat.lt_succ_of_lt hlS)
        have hSf : s.heap.objs.size ∉ [(s.heap.push (emptySetO w)).objs.size, l] := by
          rw [Heap.size_push]; intro z; simp only [List.mem_cons, List.not_mem_nil, or_false] at z
          exact z.elim (fun e => Nat.ne_of_lt (Nat.lt_succ_self _) e) (fun e => Nat.ne_of_gt hlS e)
        refine set_update_ints ((Walks.list (by simp [hh]) _ l hneI items).toS) s.heap.objs.size hSf ns hisz hb (fun i v hv => ?_) (items.size - 0) 0 _ (by omega) (Nat.zero_le _)
          ⟨⟨_, Heap.get?_push_size _ rfl, rfl, rfl⟩, (hl1.push _)⟩ ⟨0, Nat.le_refl 0, setR_new_at (Heap.get?_push_of_some _ hS)⟩ (fun s' c' hm hc' hS' => ?_)
        · have hi : i < ns.length := by rw [← hisz]; exact (Array.getElem?_eq_some_iff.mp hv).1
          obtain ⟨t, e⟩ := PyProof.Rows.IntsAre.int_at hit i v (by rw [Array.getElem?_toList]; exact hv)
          exact ⟨ns[i], t, List.getElem?_eq_getElem hi, by rw [e, List.getD_eq_getElem?_getD, List.getElem?_eq_getElem hi] <;> rfl⟩
        · obtain ⟨h', g2, d', tk', os'⟩ := s'
          have eg : g2 = s.gens := hm.gens; have ed : d' = s.drawn := hm.drawn; have eo : os' = s.os := hm.os
          subst eg; subst ed; subst eo
          show wpAny _ _ _ _ _ _
          refine wpAny_pure (show wpAny _ _ (ret Value.none) _ _ _ from ?_)
          rw [hisz] at hc'
          refine wpAny_pure ⟨rfl, h', tk', c', rfl, hS', hc', fun b o e => hm.heap b o ?_ (Heap.get?_push_of_some _ (Heap.get?_push_of_some _ e))⟩
          have hb0 : b < s.heap.objs.size := Heap.lt_size e
          intro z; rw [Heap.size_push] at z; simp only [List.mem_cons, List.not_mem_nil, or_false] at z
          exact z.elim (fun e => Nat.ne_of_lt hb0 e) (fun e => Nat.ne_of_lt (Nat.lt_succ_of_lt hb0) e)
      · cases r₂ with
        | error e => exact hr₂
        | ok fl₂ =>
          cases fl₂ with
          | ret r =>
            obtain ⟨rfl, h', tk, c', rfl, hS', hc', hk'⟩ := hr₂
            repeat (any_goals (first | assumption | wp_step))
            exact h _ _ _ hS' hc' hk'
          | _ => exact hr₂.elim
    | _ => exact hr.elim
end
end PySem
namespace L2
open PySem PySem.Spec PyProof.Rows
section
variable {X : Cx}
def rSetI (K : PySem.W.Frag) (w : World) : List V → Hp → VK → Prop := fun xs H Q => ∃ (l : Addr) (ns : List Int), xs = [V.ref l] ∧ SqL K H l (ns.map V.int) ∧ ns.length < 64 ∧
  ∀ a c, H a = none → c ≤ ns.length → Q (.ref a) (upd H a (SetO w a (fun j => decide (j ∈ ns)) c))
theorem cr_setI (hc : X.calm = true) : CallR X (.type "set") (rSetI X.K X.w) := by
  intro pins s σ H xs us Q I r h
  obtain ⟨l, ns, rfl, hs, h64, q⟩ := h
  rw [Vals.ref1 r]
  obtain ⟨its, rv, hl, hlen⟩ := I.list hs
  have hi : IntsAre its.toArray.toList ns := by simpa using ints_of_vals rv
  refine PySem.hx_set_list ns (I.ok.hd hc) ?_ hi (by unfold scanBound; omega) fun h' tk c R hc' kp => ?_
  · obtain ⟨o, n, ho, hc2, _, hd⟩ := hl
    exact ⟨o, ho, hc2, n, hd⟩
  · have hn : H s.heap.objs.size = none := I.hok.fresh (Nat.le_refl _)
    exact ⟨.ref _, _, I.laid (t' := tk) (fun b o e => kp b o e) (Nat.le_refl _) (setO_new R), rfl, q _ c hn hc'⟩
end
end L2
namespace L2
open PySem PySem.Spec PyProof.Rows PySem.W PySem.SeqAt
theorem ReadsAll.nth {h : Heap} : ∀ {us : List Value} {ds : List PyData} {as : List Addr} {i : Nat} {u : Value}, ReadsAll h us ds as → us[i]? = some u → ∃ d bs, ds[i]? = some d ∧ Reads h u d bs
  | _, _, _, _, _, .nil, e => by simp at e
  | _, _, _, 0, _, .cons r _, e => by simp at e; subst e; exact ⟨_, _, rfl, r⟩
  | _, _, _, i + 1, u, .cons _ t, e => by
    obtain ⟨d, bs, h1, h2⟩ := ReadsAll.nth (i := i) (u := u) t (by simpa using e)
    exact ⟨d, bs, by simpa using h1, h2⟩
section
variable {X : Cx}
/-- a < b of data at any depth -/
def rLtD (X : Cx) : R2 := fun x y H Q => ∃ d e, Dp X.K H x d ∧ Dp X.K H y e ∧ alike d e = true ∧ d ≠ .none ∧ X.A.units + min d.depth e.depth < cLine ∧ Q (.bl (dataLt d e)) H
theorem op_ltD : OpR X (compareOp .Lt) (rLtD X) := by
  intro pins s σ H x y v u Q I rx ry h
  obtain ⟨d, e, hd, he, sd, se, hu, q⟩ := h
  obtain ⟨as, r1⟩ := Dp.reads I d x v hd rx
  obtain ⟨bs, r2⟩ := Dp.reads I e y u he ry
  exact lt_data r1 r2 sd se hu ⟨.bl _, H, I, rfl, q⟩
/-- min of a list of data alike: one of the items, the data's least -/
def rMinD (X : Cx) : List V → Hp → VK → Prop := fun vs H Q => ∃ (a : Addr) (xs : List V) (d : PyData) (ds : List PyData), vs = [V.ref a] ∧ SqL X.K H a xs ∧ DpAll X.K H xs (d :: ds) ∧ AlikeAll (d :: ds) ∧
  X.A.units + 1 + PyData.depthAll (d :: ds) < cLine ∧ ∀ (i : Nat) (v : V), xs[i]? = some v → (d :: ds)[i]? = some (minD d ds) → Q v H
theorem cr_minD (hc : X.calm = true) : CallR X (.builtin "min") (rMinD X) := by
  intro pins s σ H xs us Q I r h
  obtain ⟨a, vs, d, ds, rfl, hs, hd, ha, hu, q⟩ := h
  rw [Vals.ref1 r]
  obtain ⟨its, rv, ⟨o, n, ho, hcl, _, hdt⟩, hlen⟩ := I.list hs
  obtain ⟨as, ra⟩ := Dp.readsAll I _ _ _ hd rv
  have hl : s.heap.IsList a its.toArray := ⟨o, ho, hcl, n, hdt⟩
  refine min_list_data (I.ok.hd hc) hl (by simpa using ra) ha hu fun i v h' tk bs hi hr kp => ?_
  have hi' : its[i]? = some v := by simpa using hi
  obtain ⟨e, cs, he, hre⟩ := ReadsAll.nth ra hi'
  have hre' := reads_keeps kp hre
  have eq : e = minD d ds := (Reads.unique hre' _ _ hr).1
  subst eq
  have hlt : i < vs.length := by
    have := rv.length
    have := (List.getElem?_eq_some_iff.mp hi').1
    omega
  obtain ⟨u, hu1, hu2⟩ := rv.get (List.getElem?_eq_getElem hlt)
  rw [hi'] at hu1
  cases hu1
  exact ⟨vs[i], H, I.kept (t' := tk) fun b o e => kp b o e, hu2, q i _ (List.getElem?_eq_getElem hlt) he⟩
end
end L2
/-! {**d, k: v}, keys ints and texts -/
namespace PySem
open PyProof.Rows
section
variable {P : Program} {w : World} {K : Type} [DecidableEq K] {knd : KeyKind P w K} {A : Around} {E : Value → Shared → Prop} {s : Shared}
theorem hx_dictPut {d : Addr} {kvs : List (K × Value)} {k : K} {key v : Value} {Q : Unit → Shared → Prop} (hkey : knd.is k key = true) (hm : s.heap.DictOf knd d kvs)
    (hQ : ∀ h', h'.DictOf knd d (stored kvs k v) → Heap.SameBut d s.heap h' → Q () { s with heap := h' }) (hsz : kvs.length ≤ sizeLine) :
    wpAny (model P w) A (dictPut d (knd.hash k) key v) Q E s := by
  obtain ⟨o, es, ep, ho, hc, hd, hk, hp, hn⟩ := hm
  have hes : es.size ≤ sizeLine := by
    have e1 := hp.length; rw [Array.length_toList] at e1; omega
  have hidx : (es.findIdx? fun e => knd.is k e.key) = kvs.findIdx? fun kv => decide (kv.1 = k) := by
    rw [← hp.findIdx k]; cases es; simp
  refine wpAny_bind (wpAny_dictFind_of hkey ho hd hk ?_)
  cases hi : es.findIdx? fun e => knd.is k e.key with
  | none =>
    have hnot : k ∉ kvs.map (·.1) := not_mem_of_findIdx_none (hidx ▸ hi)
    have hany : ¬ (kvs.any fun kv => decide (kv.1 = k)) = true := fun z => by
      obtain ⟨kv, hkv, he⟩ := List.any_eq_true.mp z
      exact hnot (List.mem_map.mpr ⟨kv, hkv, of_decide_eq_true he⟩)
    show wpAny _ _ (updateDictKeys d (·.push ⟨knd.hash k, key, v⟩)) _ _ _
    refine wpAny_updateDictKeys (hz := hes) ho hd (hQ _ ⟨_, _, ep + 1, Heap.get?_update_self _ ho (Obj.isFreed_of_dict (Obj.data_mapDictKeys hd _)), hc.mapDictKeys _, Obj.data_mapDictKeys hd _, hk.push hkey _, ?_, ?_⟩ (Heap.SameBut.update ..))
    · rw [stored, if_neg hany]
      have := hp.append hkey (knd.hash k) v
      cases es; simpa using this
    · rw [stored, if_neg hany, List.map_append, List.nodup_append]
      refine ⟨hn, by simp, fun a ha b hb e => hnot ?_⟩
      have : b = k := by simpa using hb
      rw [← this, ← e]; exact ha
  | some i =>
    show wpAny _ _ (updateDict d (·.modify i fun e => { e with val := v })) _ _ _
    refine wpAny_updateDict ho hd (hQ _ ⟨_, _, ep, Heap.get?_update_self _ ho (Obj.isFreed_of_dict (Obj.data_mapDict hd _)), hc.mapDict _, Obj.data_mapDict hd _, hk.modify _ _, ?_, ?_⟩ (Heap.SameBut.update ..))
    · rw [stored, if_pos (any_of_findIdx_some (hidx ▸ hi))]
      have hl : (es.toList.findIdx? fun e => knd.is k e.key) = some i := by rw [← hi]; cases es; simp
      have := hp.modify hn hl v
      cases es; simpa using this
    · rw [stored, if_pos (any_of_findIdx_some (hidx ▸ hi)), keys_map_store]; exact hn

theorem hx_merge (hval : ∀ k v, knd.is k v = true → ∀ a, v ≠ .ref a) {d o : Addr} {kvs more : List (K × Value)} {Q : Unit → Shared → Prop} (hdo : d ≠ o) (hoS : (o == sysModules) = false) (hd : s.heap.DictOf knd d kvs) (ho : s.heap.DictOf knd o more)
    (hQ : ∀ h', h'.DictOf knd d (merged kvs more) → h'.DictOf knd o more → Heap.SameBut d s.heap h' → Q () { s with heap := h' }) (hsz : kvs.length + more.length ≤ sizeLine) :
    wpAny (model P w) A (mergeMapping d (.ref o) false) Q E s := by
  obtain ⟨od, esd, epd, hod, hcd, hdd, hkd, hpd, hnd⟩ := id hd
  obtain ⟨oo, eso, epo, hoo, hco, hdo', hko, hpo, hno⟩ := id ho
  have hlen : more.length = eso.size := by rw [← hpo.length]; simp
  unfold mergeMapping
  refine wpAny_bind (wpAny_isInstance ho.typeIs isSubtype_dict_dict ?_)
  simp only [if_true]
  refine wpAny_bind (wpAny_specialOf ho.typeIs F.slot_dict_iter.lookup (wpAny_bind (wpAny_pure ?_)))
  simp only [beq_self_eq_true]
  rw [if_neg (by rw [hoS]; exact Bool.false_ne_true)]
  refine wpAny_bind (wpAny_dictEntries hod hdd ?_)
  have loop : wpAny (model P w) A (do
      let l ← dictEntries o
      let epoch ← dictEpoch o
      forIn (List.range l.size) PUnit.unit fun i (_ : PUnit) => (do
          let l' ← dictEntries o
          match l'[i]? with
            | some e => do
              holding [e.key, e.val] (dictPut d e.hash e.key e.val)
              let ep' ← dictEpoch o
              if (ep' != epoch) = true then do
                  (unsupported "dict.changed-during-merge" : Sem PUnit)
                  pure (ForInStep.yield PUnit.unit)
                else pure (ForInStep.yield PUnit.unit)
            | _ => do
              (unsupported "dict.changed-during-merge" : Sem PUnit)
              pure (ForInStep.yield PUnit.unit) : Sem (ForInStep PUnit))
      pure ()) Q E s := by
    refine wpAny_bind (wpAny_dictEntries hoo hdo' ?_)
    refine wpAny_bind (wpAny_dictEpoch hoo hdo' ?_)
    refine wpAny_bind ?_
    rw [List.range_eq_range']
    refine wpAny_forIn_list _
      (fun rest _ s' => ∃ h' i, s' = { s with heap := h' } ∧ rest = List.range' i (eso.size - i) ∧ i ≤ eso.size ∧ h'.DictOf knd d (merged kvs (more.take i)) ∧ h'.get? o = some oo ∧ Heap.SameBut d s.heap h')
      _ ?_ ?_ _ _ ⟨s.heap, 0, rfl, by simp, Nat.zero_le _, by simpa [merged] using hd, hoo, Heap.SameBut.refl _ _⟩
    · rintro x rest b s' ⟨h', i, rfl, hr, hi, hd', hoo', hs'⟩
      have hlt : i < eso.size := Nat.lt_of_not_le fun h => by rw [Nat.sub_eq_zero_of_le h] at hr; simp at hr
      have ek : eso.size - i = (eso.size - (i + 1)) + 1 := by omega
      rw [ek, List.range'_succ] at hr
      injection hr with h1 hrest
      subst h1
      refine wpAny_bind (wpAny_dictEntries hoo' hdo' ?_)
      rw [Array.getElem?_eq_getElem hlt]
      have hkv : more[x]? = some (more[x]'(by rw [hlen]; exact hlt)) := List.getElem?_eq_getElem _
      generalize (more[x]'(by rw [hlen]; exact hlt)) = kv at hkv
      obtain ⟨k, v⟩ := kv
      obtain ⟨hkey, hvl⟩ := hpo.get? (e := eso[x]) (by simp [hlt]) hkv
      obtain ⟨k', hkey', hhash⟩ := hko eso[x] (Array.getElem_mem hlt)
      obtain rfl : k' = k := knd.inj _ _ _ hkey' hkey
      show wpAny _ _ (holding [eso[x].key, eso[x].val] (dictPut d eso[x].hash eso[x].key eso[x].val) >>= _) _ _ _
      rw [hhash, hvl]
      have hmx : (merged kvs (more.take x)).length ≤ sizeLine := by
        have e1 := merged_length_le kvs (more.take x)
        rw [List.length_take] at e1; omega
      refine wpAny_bind (wpAny_holding (hx_dictPut (hsz := hmx) hkey hd' fun h'' hd'' hs'' => ?_))
      have hoo'' : h''.get? o = some oo := (hs''.2 o (Ne.symm hdo)).trans hoo'
      refine wpAny_bind (wpAny_dictEpoch hoo'' hdo' ?_)
      rw [if_neg (by simp)]
      exact wpAny_pure ⟨h'', x + 1, rfl, hrest, hlt, by rw [merged_take_succ kvs more x (k', v) hkv]; exact hd'', hoo'', hs'.trans hs''⟩
    · rintro b s' ⟨h', i, rfl, hr, hi, hd', hoo', hs'⟩
      have hin : i = eso.size := Nat.le_antisymm hi (Nat.le_of_not_lt fun h => by
        have ek : eso.size - i = (eso.size - (i + 1)) + 1 := by omega
        rw [ek, List.range'_succ] at hr; exact nomatch hr)
      rw [hin, ← hlen, List.take_length] at hd'
      exact wpAny_pure (hQ h' hd' ⟨oo, eso, epo, hoo', hco, hdo', hko, hpo, hno⟩ hs')
  split
  · refine wpAny_bind (wpAny_dictEntries hoo hdo' ?_)
    have quiet : (forIn eso PUnit.unit fun e (_ : PUnit) => (match e.key with
        | Value.ref a => do
          let x ← specialOf e.key (Str.ofString "__eq__")
          if (x != some (Value.builtin "object.__eq__")) = true then
              if (Array.filter (fun x => x.hash == e.hash) eso).size > 1 then do
                (unsupported "dict.merge-into-an-empty-dict:keys-of-equal-hash" : Sem PUnit)
                pure (ForInStep.yield PUnit.unit)
              else pure (ForInStep.yield PUnit.unit)
            else pure (ForInStep.yield PUnit.unit)
        | x => pure (ForInStep.yield PUnit.unit) : Sem (ForInStep PUnit))) = pure PUnit.unit := by
      rw [← Array.forIn_toList]
      refine forIn_yield_id _ fun e he c => ?_
      obtain ⟨k, hkey, _⟩ := hko e (Array.mem_toList_iff.mp he)
      have := hval k _ hkey
      split
      · next a ea => exact absurd ea (this a)
      · rfl
    exact wpAny_bind (wpAny_of_eq quiet loop)
  · exact loop

/-- {**v, k: x}: what v and the pair are walked to -/
theorem hx_star {env : Env} {vd vk vx : Expr} {pos : Pos} {Q : Value → Shared → Prop} (hval : ∀ k v, knd.is k v = true → ∀ a, v ≠ .ref a)
    (h : wpAny (model P w) A (eval vd env) (fun u s1 => ∃ o more, u = .ref o ∧ s.heap.objs.size ≠ o ∧ (o == sysModules) = false ∧ s1.heap.DictOf knd o more ∧ s1.heap.DictOf knd s.heap.objs.size [] ∧ more.length < sizeLine ∧
      ∀ h1, h1.DictOf knd s.heap.objs.size (merged [] more) → Heap.SameBut s.heap.objs.size s1.heap h1 →
        wpAny (model P w) A (evalPairs [(eval vk env, do let x ← eval vx env; standAt pos; pure x)]) (fun vs s2 => ∃ k x kvs2, Carries knd vs [(k, x)] ∧ s2.heap.DictOf knd h1.objs.size [] ∧ s2.heap.DictOf knd s.heap.objs.size kvs2 ∧ kvs2.length < sizeLine ∧ h1.objs.size ≠ s.heap.objs.size ∧ (h1.objs.size == sysModules) = false ∧
          ∀ h2 h3 tk, Heap.SameBut h1.objs.size s2.heap h2 → h2.DictOf knd h1.objs.size (merged [] [(k, x)]) → Heap.SameBut s.heap.objs.size h2 h3 → h3.DictOf knd s.heap.objs.size (merged kvs2 [(k, x)]) → Q (.ref s.heap.objs.size) { s2 with heap := h3, toks := tk }) E
          { s1 with heap := h1.push { cls := .type "dict", data := .dict #[] } }) E
      { s with heap := s.heap.push { cls := .type "dict", data := .dict #[] } }) :
    wpAny (model P w) A (eval (.Dict [none, some vk] [vd, vx] pos) env) Q E s := by
  rw [arm_eval_Dict]
  refine wpAny_bind (wpAny_standAt ?_)
  show wpAny _ _ (dictDisplay [(none, do let x ← eval vd env; standAt pos; pure x), (some (eval vk env), do let x ← eval vx env; standAt pos; pure x)]) _ _ _
  unfold dictDisplay
  dsimp only
  simp only [List.forIn_cons, List.forIn_nil, List.isEmpty_nil, if_true, pure_bind, bind_assoc, List.nil_append, List.length_singleton, List.isEmpty_cons, Bool.false_eq_true, if_false, show ((1 : Nat) == 17) = false from rfl]
  refine wpAny_bind (wpAny_alloc ?_)
  refine wpAny_bind (wpAny_holding (wpAny_bind (wpAny_mono h (fun u s1 hu => ?_) fun _ _ e => e)))
  obtain ⟨o, more, rfl, hdo, hoS, ho, hd, hz, rest⟩ := hu
  refine wpAny_bind (wpAny_standAt (wpAny_pure ?_))
  refine wpAny_bind (wpAny_onRaise (wpAny_tryCatch (wpAny_onRaise (wpAny_holding (hx_merge hval hdo hoS hd ho (fun h1 hd1 ho1 sb => ?_) (by rw [List.length_nil]; omega))))))
  refine wpAny_bind (wpAny_holding (wpAny_subDict (knd := knd) (Nat.le_of_ble_eq_true rfl) (wpAny_mono (rest h1 hd1 sb) (fun vs s2 hv => ?_) fun _ _ e => e)))
  obtain ⟨k, x, kvs2, hc, hn, hm, hz2, hne, hns, fin⟩ := hv
  refine ⟨[(k, x)], hc, hn, fun h2 hd2 sb2 => ?_⟩
  refine wpAny_bind (wpAny_onRaise (wpAny_holding (hx_merge hval (Ne.symm hne) hns (hm.sameBut sb2 (Ne.symm hne)) hd2 (fun h3 hd3 _ sb3 => ?_) ?_)))
  · exact wpAny_pure (fin h2 h3 _ sb2 hd2 sb3 hd3)
  · have e2 := merged_length_le [] [(k, x)]
    simp only [List.length_nil, List.length_cons] at e2
    omega
end
end PySem
namespace L2
open PySem PySem.Spec PyProof.Rows
/-- {**d, k: v}: the new dict at p; the pair's own dict lies at q and is dropped -/
def tStar1 (td tk tv : TE) : TE := fun σ H Q => ∀ p, H p = none → td σ (upd H p (.dK [])) fun x H1 => ∃ o more, x = .ref o ∧ o ≠ p ∧ Rd H1 o (.dK more) ∧ H1 p = some (.dK []) ∧ more.length < 1000 ∧
  ∀ q, (upd H1 p (.dK (mergeK [] more))) q = none → tk σ (upd (upd H1 p (.dK (mergeK [] more))) q (.dK [])) fun y H2 => tv σ H2 fun z H3 => H3 q = some (.dK []) ∧ H3 p = some (.dK (mergeK [] more)) ∧
    ∃ k, y = kV k ∧ Q (.ref p) (upd (upd H3 q (.dK (mergeK [] [(k, z)]))) p (.dK (putK (mergeK [] more) k z)))
section
variable {X : Cx} {pos : Pos} {vd vk vx : Expr} {td tk tv : TE}
theorem pe_dstar1 (hd : PE X vd td) (hk : PE X vk tk) (hv : PE X vx tv) : PE X (.Dict [none, some vk] [vd, vx] pos) (tStar1 td tk tv) := by
  refine ⟨fun pins s σ H Q I h => ?_⟩
  have hn := I.hok.fresh (Nat.le_refl s.heap.objs.size)
  have I1 := I.laid (a := s.heap.objs.size) (o := .dK []) (h' := s.heap.push { cls := .type "dict", data := .dict #[] }) (t' := s.toks) (fun _ _ q => Heap.get?_push_of_some _ q) (Nat.le_refl _) (dk_empty s.heap I.big)
  refine hx_star (knd := mixKind X.prog X.w) (fun k v e a => ?_) (thn (hd.run pins _ σ _ _ I1 (h _ hn)) fun u s1 ⟨x, H1, I2, rx, o, more, ex, hop, hr, hp, hz, rest⟩ => ?_)
  · rcases keyIs_shape e with ⟨i, t, _, rfl⟩ | ⟨i, t, _, rfl⟩ <;> exact fun z => nomatch z
  · subst ex
    obtain rfl : u = Value.ref o := rx
    obtain ⟨zo, hoS, vso, relo, ddo⟩ := dk_rd I2.hok hr
    obtain ⟨zp, hpS, vsp, relp, ddp⟩ := dk_of I2.hok hp
    cases relp
    refine ⟨o, vso, rfl, fun e => hop e.symm, hoS, ddo, ddp, ?_, fun h1 dd1 sb1 => ?_⟩
    · rw [← relo.length]; exact small1000 (Nat.le_of_lt hz)
    · have hm : (mergeK [] more).length ≤ sizeLine := by
        have e1 := length_mergeK more []
        have := small1000 (Nat.le_of_lt hz)
        rw [List.length_nil] at e1; omega
      have I3 := d_write (t' := s1.toks) (ob := .dK (mergeK [] more)) I2 (by rw [hp]; exact True.intro) sb1 (let ⟨q, _, _, hq, _⟩ := dd1; ⟨q, hq⟩) (dk_new hm hpS (relo.merge .nil) dd1)
      have hq := I3.hok.fresh (Nat.le_refl h1.objs.size)
      have I4 := I3.laid (a := h1.objs.size) (o := .dK []) (h' := h1.push { cls := .type "dict", data := .dict #[] }) (t' := s1.toks) (fun _ _ q => Heap.get?_push_of_some _ q) (Nat.le_refl _) (dk_empty h1 I3.big)
      refine evalPairs_cons (thn (hk.run pins _ σ _ _ I4 (rest _ hq)) fun u2 s2 ⟨y, H2, I5, ry, q1⟩ => wpAny_bind (thn (hv.run pins s2 σ H2 _ I5 q1) fun u3 s3 ⟨z, H3, I6, rz, eq3, ep3, k, ey, q3⟩ => wpAny_bind (wpAny_standAt (wpAny_pure (evalPairs_nil ?_)))))
      subst ey
      obtain ⟨zq, hqS, vq, rq, ddq⟩ := dk_of I6.hok eq3
      cases rq
      obtain ⟨zp3, hpS3, vp3, rp3, ddp3⟩ := dk_of I6.hok ep3
      have nqp : h1.objs.size ≠ s.heap.objs.size := fun e => by
        rw [e, upd_same] at hq
        cases hq
      have cz : ∃ u, Carries (mixKind X.prog X.w) [(u2, u3)] [(k, u)] ∧ RelV z u := ⟨u3, ⟨kV_is ry, rfl, True.intro⟩, rz⟩
      obtain ⟨u, hc, ru⟩ := cz
      have hz3 : vp3.length < sizeLine := by
        rw [← rp3.length]
        have e1 := length_mergeK more []
        rw [List.length_nil] at e1
        exact small1000 (by omega)
      refine ⟨k, u, vp3, hc, ddq, ddp3, hz3, nqp, hqS, fun h2 h3 tk sb2 dd2 sb3 dd3 => ?_⟩
      have one : KV [(k, z)] [(k, u)] := .cons ⟨rfl, ru⟩ .nil
      have J1 := d_write (t' := s3.toks) (ob := .dK (mergeK [] [(k, z)])) I6 (by rw [eq3]; exact True.intro) sb2 (let ⟨q, _, _, hq, _⟩ := dd2; ⟨q, hq⟩) (dk_new (by
        have e1 := length_mergeK [(k, z)] []
        simp only [List.length_nil, List.length_cons] at e1
        exact Nat.le_of_lt (small1000 (by omega))) hqS (one.merge .nil) dd2)
      have ep4 : upd H3 h1.objs.size (.dK (mergeK [] [(k, z)])) s.heap.objs.size = some (.dK (mergeK [] more)) := by
        rw [upd_ne (Ne.symm nqp)]; exact ep3
      have J2 := d_write (t' := tk) (ob := .dK (putK (mergeK [] more) k z)) J1 (by rw [ep4]; exact True.intro) sb3 (let ⟨q, _, _, hq, _⟩ := dd3; ⟨q, hq⟩) (dk_new (by
        have e1 := length_mergeK more []
        have e2 := length_putK (mergeK [] more) k z
        rw [List.length_nil] at e1
        exact Nat.le_of_lt (small1000 (by omega))) hpS3 (rp3.put k ru) dd3)
      exact ⟨.ref s.heap.objs.size, _, J2, rfl, q3⟩
end
end L2
/-! readings, one step at a time -/
namespace L2
open PySem PySem.Spec PyProof.Rows
section
variable {σ : St} {H : Hp} {Q : VK} {D : Ends} {K : PySem.W.Frag} {v x y z : V} {i : Nat} {a b p : Addr} {xs ys vs : List V} {ta tb tc te tk tv : TE} {t u : TT} {t1 t2 ts : TS} {tr : TA} {sp : Sp} {dvs : List V} {E : XK}
-- statements
theorem rd_seq (h : t1 { D with nx := t2 D } σ H) : tSeq t1 t2 D σ H := h
theorem rd_next (h : D.nx σ H) : tNext D σ H := h
theorem rd_brk (h : D.bk σ H) : tBreak D σ H := h
theorem rd_cont (h : D.ct σ H) : tCont D σ H := h
theorem rd_set (h : te σ H fun x H1 => D.nx (σ.set i (some x)) H1) : tAsg te (gName i) D σ H := h
theorem rd_asg {g : TG} (h : te σ H fun x H1 => g x σ H1 D.nx) : tAsg te g D σ H := h
theorem rd_drop (h : te σ H fun _ H1 => D.nx σ H1) : tDrop te D σ H := h
theorem rd_ret (h : te σ H D.rt) : tRet te D σ H := h
theorem rd_retN (h : D.rt .non H) : tRetN D σ H := h
theorem rd_ifS (h : t σ H fun b H1 => if b = true then t1 D σ H1 else t2 D σ H1) : tIfS t t1 t2 D σ H := h
theorem rd_aug {ti : TIp} (hx : σ[i]? = some (some x)) (h : te σ H fun y H1 => ti x y H1 fun z H2 => D.nx (σ.set i (some z)) H2) : tAug i te ti D σ H := ⟨x, hx, h⟩
-- values
theorem rd_var (hx : σ[i]? = some (some x)) (h : Q x H) : tVar i σ H Q := ⟨x, hx, h⟩
theorem rd_c (h : Q v H) : tC v σ H Q := h
theorem rd_op {r : R2} (h : ta σ H fun x H1 => tb σ H1 fun y H2 => r x y H2 Q) : tOp r ta tb σ H Q := h
theorem rd_un {r : V → Hp → VK → Prop} (h : ta σ H fun x H1 => r x H1 Q) : tUn r ta σ H Q := h
theorem rd_cb {r : List V → Hp → VK → Prop} (h : tr σ H fun vs H1 => r vs H1 Q) : tCB r tr σ H Q := h
theorem rd_call (h : tr σ H fun vs H1 => sp (vs ++ dvs) H1 Q E) : tCall sp dvs E tr σ H Q := h
theorem rd_cons {QA : List V → Hp → Prop} (h : ta σ H fun x H1 => tr σ H1 fun xs H2 => QA (x :: xs) H2) : tCons ta tr σ H QA := h
theorem rd_nil {QA : List V → Hp → Prop} (h : QA [] H) : tNil σ H QA := h
theorem rd_andV (h : ta σ H fun x H1 => ∃ c, x = .bl c ∧ if c = true then tb σ H1 Q else Q (.bl false) H1) : tAndV ta tb σ H Q := h
theorem rd_orV (h : ta σ H fun x H1 => ∃ c, x = .bl c ∧ if c = true then Q (.bl true) H1 else tb σ H1 Q) : tOrV ta tb σ H Q := h
theorem rd_notV (h : ta σ H fun x H1 => ∃ c, x = .bl c ∧ Q (.bl (!c)) H1) : tNotV ta σ H Q := h
theorem rd_chain {r r' : R2} (h : ta σ H fun x H1 => tb σ H1 fun y H2 => r x y H2 fun z H3 => ∃ k, z = .bl k ∧ (if k = true then tc σ H3 fun w' H4 => r' y w' H4 Q else Q (.bl false) H3)) : tChain r r' ta tb tc σ H Q := h
theorem rd_ifE (h : t σ H fun c H1 => if c = true then ta σ H1 Q else tb σ H1 Q) : tIf t ta tb σ H Q := h
theorem rd_tup (h : tr σ H fun xs H1 => xs.length ≤ sizeLine ∧ ∀ p, H1 p = none → Q (.ref p) (upd H1 p (.tup xs))) : tTup tr σ H Q := h
theorem rd_lst (h : tr σ H fun xs H1 => xs.length ≤ sizeLine ∧ ∀ p, H1 p = none → Q (.ref p) (upd H1 p (.lst xs))) : tLst tr σ H Q := h
theorem rd_sl {r : V → Option Int → Option Int → Hp → VK → Prop} {tl th : TO} (h : te σ H fun x H1 => tl σ H1 fun l H2 => th σ H2 fun u H3 => r x l u H3 Q) : tSl r te tl th σ H Q := h
theorem rd_part {QO : Option Int → Hp → Prop} (h : te σ H fun x H1 => ∃ i, x = .int i ∧ QO (some i) H1) : tPart te σ H QO := h
theorem rd_noPart {QO : Option Int → Hp → Prop} (h : QO none H) : tNoPart σ H QO := h
theorem rd_bm {T : String} {r : V → List V → Hp → VK → Prop} (h : ta σ H fun x H1 => tyV K T x H1 ∧ tr σ H1 fun xs H2 => r x xs H2 Q) : tBM K T r ta tr σ H Q := h
theorem rd_bm0 {T : String} {r : V → List V → Hp → VK → Prop} (h : ta σ H fun x H1 => tyV K T x H1 ∧ r x [] H1 Q) : tBM0 K T r ta σ H Q := h
theorem rd_dget (h : ta σ H fun x H1 => tb σ H1 fun y H2 => ∃ a v, x = .ref a ∧ DGet H2 a y (some v) ∧ Q v H2) : tDGet ta tb σ H Q := h
theorem rd_dput (h : tv σ H fun v H1 => ta σ H1 fun x H2 => tk σ H2 fun y H3 => ∃ a H4, x = .ref a ∧ DPut H3 a y v H4 ∧ D.nx σ H4) : sDPut ta tk tv D σ H := h
theorem rd_lstRg {tg : St → Hp → (Int → Int → Hp → Prop) → Prop} (h : tg σ H fun a b H1 => RgOk a b ∧ ∀ q, H1 q = none → Q (.ref q) (upd H1 q (.lst (rgV a b)))) : tLstRg tg σ H Q := h
theorem rd_rg1 {QR : Int → Int → Hp → Prop} (h : ta σ H fun x H1 => ∃ n, x = .int n ∧ QR 0 n H1) : tRg1 ta σ H QR := h
theorem rd_nDict (h : ∀ p, H p = none → Q (.ref p) (upd H p (.dK []))) : tDNewK σ H Q := h
-- tests
variable {QB : Bool → Hp → Prop}
theorem rd_test (h : te σ H fun x H1 => ∃ k, x = .bl k ∧ QB k H1) : tTest te σ H QB := h
theorem rd_tB (h : te σ H fun x H1 => ∃ k, x = .bl k ∧ QB k H1) : tB te σ H QB := h
theorem rd_and (h : t σ H fun c H1 => if c = true then u σ H1 QB else QB false H1) : tAnd t u σ H QB := h
theorem rd_or (h : t σ H fun c H1 => if c = true then QB true H1 else u σ H1 QB) : tOr t u σ H QB := h
theorem rd_not (h : t σ H fun c H1 => QB (!c) H1) : tNot t σ H QB := h
-- targets
variable {QT : St → Hp → Prop}
theorem rd_gname (h : QT (σ.set i (some v)) H) : gName i v σ H QT := h
theorem rd_gtup {n : Nat} {tg : TGs} (hs : SqT K H a xs) (hn : xs.length = n) (h : tg xs σ H QT) : gTup K n tg (.ref a) σ H QT := ⟨a, xs, rfl, hs, hn, h⟩
theorem rd_gcons {g : TG} {tg : TGs} (h : g v σ H fun σ' H' => tg vs σ' H' QT) : gCons g tg (v :: vs) σ H QT := ⟨v, vs, rfl, h⟩
theorem rd_gnil (h : QT σ H) : gNil [] σ H QT := ⟨rfl, h⟩
theorem rd_gsub {to ti : TE} {tset : TSet} (h : to σ H fun o H1 => ti σ H1 fun i H2 => tset o i v H2 fun H3 => QT σ H3) : gSub to ti tset v σ H QT := h
-- answers
theorem rd_blT {A B : Prop} (h : A) : ∃ c, V.bl true = .bl c ∧ (if c = true then A else B) := ⟨true, rfl, iteT h⟩
theorem rd_blF {A B : Prop} (h : B) : ∃ c, V.bl false = .bl c ∧ (if c = true then A else B) := ⟨false, rfl, iteF h⟩
theorem rd_bl2 {A B : Prop} {c0 : Bool} (h1 : c0 = true → A) (h2 : c0 = false → B) : ∃ c, V.bl c0 = .bl c ∧ (if c = true then A else B) := by
  refine ⟨c0, rfl, ?_⟩
  cases c0 with
  | true => exact iteT (h1 rfl)
  | false => exact iteF (h2 rfl)
theorem rd_blA {A : Bool → Prop} {c0 : Bool} (h : A c0) : ∃ c, V.bl c0 = .bl c ∧ A c := ⟨c0, rfl, h⟩
theorem rd_if2 {A B : Prop} {c0 : Bool} (h1 : c0 = true → A) (h2 : c0 = false → B) : if c0 = true then A else B := by
  cases c0 with
  | true => exact iteT (h1 rfl)
  | false => exact iteF (h2 rfl)
theorem rd_ifD {A B : Prop} {c : Prop} [Decidable c] (h1 : c → A) (h2 : ¬ c → B) : if decide c = true then A else B :=
  rd_if2 (fun e => h1 (of_decide_eq_true e)) (fun e => h2 (of_decide_eq_false e))
theorem rd_ifDN {A B : Prop} {c : Prop} [Decidable c] (h1 : ¬ c → A) (h2 : c → B) : if (!decide c) = true then A else B :=
  rd_if2 (fun e => h1 (by simpa using e)) (fun e => h2 (by simpa using e))
-- values' rules
theorem rd_I0 {g : Int → Int → V} {m n : Int} (h : Q (g m n) H) : rI0 g (.int m) (.int n) H Q := ⟨m, n, rfl, rfl, h⟩
theorem rd_I {C : Int → Int → Prop} {g : Int → Int → V} {m n : Int} (hc : C m n) (h : Q (g m n) H) : rI C g (.int m) (.int n) H Q := ⟨m, n, rfl, rfl, hc, h⟩
theorem rd_U {g : Int → V} {m : Int} (h : Q (g m) H) : rU g (.int m) H Q := ⟨m, rfl, h⟩
theorem rd_ipI {f : Int → Int → Int} {m n : Int} (h : Q (.int (f m n)) H) : ipI f (.int m) (.int n) H Q := ⟨m, n, rfl, rfl, h⟩
theorem rd_eq (hs : scal x y = true) (h : Q (.bl (decide (x = y))) H) : rEq x y H Q := ⟨hs, h⟩
theorem rd_eqI {m n : Int} (h : Q (.bl (decide (m = n))) H) : rEq (.int m) (.int n) H Q := ⟨rfl, by
  have : decide (V.int m = V.int n) = decide (m = n) := by by_cases e : m = n <;> simp [e]
  rw [this]; exact h⟩
theorem rd_neI {m n : Int} (h : Q (.bl (!decide (m = n))) H) : rNe (.int m) (.int n) H Q := ⟨rfl, by
  have : decide (V.int m = V.int n) = decide (m = n) := by by_cases e : m = n <;> simp [e]
  rw [this]; exact h⟩
theorem rd_isi {t c : String} {r : Bool} (ht : TyX K H x (.type t)) (hk : kitB t c = some r) (h : Q (.bl r) H) : rIsi K [x, .ty c] H Q := ⟨x, .ty c, .type t, .type c, r, rfl, .ty c, ht, kit_ty hk, h⟩
theorem rd_ixL (hs : SqL K H p xs) {n : Int} (ha : atI xs n = some v) (h : Q v H) : rIxL K (.ref p) (.int n) H Q := ⟨p, xs, n, v, rfl, rfl, hs, ha, h⟩
theorem rd_ixT (hs : SqT K H p xs) {n : Int} (ha : atI xs n = some v) (h : Q v H) : rIxT K (.ref p) (.int n) H Q := ⟨p, xs, n, v, rfl, rfl, hs, ha, h⟩
theorem rd_isN (h : Q (.bl (decide (x = .non))) H) : (fun x y H Q => y = V.non ∧ Q (.bl (decide (x = V.non))) H : R2) x .non H Q := ⟨rfl, h⟩
end
end L2
/-! tuples of which it is known that they have no dict of their own: tuple(list), t[a:b], t.count(k) -/
namespace L2
open PySem PySem.Spec PyProof.Rows
section
variable {X : Cx}
def rTupF (K : PySem.W.Frag) : List V → Hp → VK → Prop := fun vs H Q => ∃ (l : Addr) (ys : List V), vs = [V.ref l] ∧ SqL K H l ys ∧ ∀ (q : Addr) (ob : Obj), H q = none → ob.dict = none → Q (.ref q) (upd H q (.frz ob (.tup ys)))
theorem cr_tupF : CallR X (.type "tuple") (rTupF X.K) := by
  intro pins s σ H vs us Q I r h
  obtain ⟨l, ys, rfl, hl, k⟩ := h
  rw [Vals.ref1 r]
  obtain ⟨its, rv, il, zl⟩ := I.list hl
  have n := rv.length
  refine call_tuple_list il.isList (fun h2 kp => ?_) (by simp only [List.size_toArray]; omega)
  have J : Inv X pins σ H { s with heap := h2 } := I.kept (t' := s.toks) kp
  have e := Heap.get?_push_size h2 (o := { cls := .type "tuple", data := .seq its.toArray }) rfl
  exact ⟨.ref h2.objs.size, upd H h2.objs.size (.frz { cls := .type "tuple", data := .seq its.toArray } (.tup ys)), J.laid (t' := s.toks) (fun _ _ w => Heap.get?_push_of_some _ w) (Nat.le_refl _) ⟨e, zl, its, rv, IsTup.new _ _⟩, rfl,
    k _ _ (J.hok.fresh (Nat.le_refl _)) rfl⟩
/-- a tuple without a dict -/
def TupQ (K : PySem.W.Frag) (H : Hp) (a : Addr) (xs : List V) : Prop := (∃ ob : Obj, H a = some (.frz ob (.tup xs)) ∧ ob.dict = none) ∨
  ∃ (o : Obj) (its : Array Value) (n : Nat), K.lookup a = some o ∧ o.cls = .type "tuple" ∧ o.dict = none ∧ o.data = .seq its n ∧ its.size ≤ sizeLine ∧ Vals xs its.toList
theorem TupQ.sq {H : Hp} {a : Addr} {xs : List V} {K : PySem.W.Frag} (t : TupQ K H a xs) : SqT K H a xs := by
  rcases t with ⟨_, e, _⟩ | ⟨o, its, n, h1, h2, _, h3, h4, h5⟩
  · exact .inl (.inr ⟨_, e⟩)
  · exact .inr ⟨o, its, n, h1, h2, h3, h4, h5⟩
theorem TupQ.mono {F F' : Hp} {a : Addr} {xs : List V} {K : PySem.W.Frag} (k : ∀ b o, F b = some o → F' b = some o) (h : TupQ K F a xs) : TupQ K F' a xs := h.imp (fun ⟨ob, e, d⟩ => ⟨ob, k _ _ e, d⟩) id
def wholeI (n : Nat) (lo hi : Option Int) : Prop := HT.sIx n 0 lo = 0 ∧ HT.sIx n n hi = n
def rSlF (K : PySem.W.Frag) : V → Option Int → Option Int → Hp → VK → Prop := fun x lo hi H Q => ∃ (a : Addr) (xs : List V), x = .ref a ∧ SqT K H a xs ∧
  (wholeI xs.length lo hi → Q (.ref a) H) ∧ (¬ wholeI xs.length lo hi → ∀ (q : Addr) (ob : Obj), H q = none → ob.dict = none → Q (.ref q) (upd H q (.frz ob (.tup (cutV xs lo hi)))))
theorem sl_tupF : SlR X (rSlF X.K) := by
  intro pins s σ H x v w1 w2 lo hi sl Q I rx hsl p1 p2 h
  obtain ⟨a, xs, rfl, ht, k1, k2⟩ := h
  cases rx
  obtain ⟨its, rv, it, zt⟩ := I.tuple ht
  have n : its.toArray.size = xs.length := by rw [List.size_toArray]; exact rv.length.symm
  refine ⟨"tuple", _, PyProof.Rows.slot_tuple_getitem.lookup, it.typeIs, ?_⟩
  by_cases hw : wholeI xs.length lo hi
  · exact getItem_tuple_whole it hsl p1 p2 (by rw [n]; exact hw) ⟨.ref a, H, I, rfl, k1 hw⟩
  · refine HT.getItem_tuple_cut it hsl p1 p2 (by rw [n]; exact hw) ?_ (by rw [n]; exact zt)
    rw [n]
    have rc := (rv.drop (HT.sIx xs.length 0 lo)).take (HT.sIx xs.length xs.length hi - HT.sIx xs.length 0 lo)
    exact ⟨.ref s.heap.objs.size, upd H s.heap.objs.size (.frz _ (.tup (cutV xs lo hi))), I.laid (t' := s.toks) (fun _ _ w => Heap.get?_push_of_some _ w) (Nat.le_refl _) ⟨Heap.get?_push_size s.heap rfl, Nat.le_trans (cutV_length xs lo hi) zt, _, rc, IsTup.new _ _⟩, rfl,
      k2 hw _ _ (I.hok.fresh (Nat.le_refl _)) rfl⟩
/-- tuple(list), tuple(tuple) -/
def rTupQ (K : PySem.W.Frag) : List V → Hp → VK → Prop := fun vs H Q => ∃ (l : Addr) (ys : List V), vs = [V.ref l] ∧ ((SqL K H l ys ∧ ∀ (q : Addr) (ob : Obj), H q = none → ob.dict = none → Q (.ref q) (upd H q (.frz ob (.tup ys)))) ∨ (SqT K H l ys ∧ Q (.ref l) H))
theorem cr_tupQ : CallR X (.type "tuple") (rTupQ X.K) := by
  intro pins s σ H vs us Q I r h
  obtain ⟨l, ys, rfl, h | ⟨h1, h2⟩⟩ := h
  · exact cr_tupF pins s σ H _ us Q I r ⟨l, ys, rfl, h.1, h.2⟩
  · exact call_tupleT pins s σ H _ us Q I r ⟨l, ys, rfl, h1, h2⟩
/-- t + u -/
def rCatF (K : PySem.W.Frag) : R2 := fun x y H Q => ∃ a b xs ys, x = .ref a ∧ y = .ref b ∧ SqT K H a xs ∧ SqT K H b ys ∧ xs.length + ys.length ≤ sizeLine ∧
  (xs = [] → Q (.ref b) H) ∧ (xs ≠ [] → ys = [] → Q (.ref a) H) ∧ (xs ≠ [] → ys ≠ [] → ∀ (p : Addr) (ob : Obj), H p = none → ob.dict = none → Q (.ref p) (upd H p (.frz ob (.tup (xs ++ ys)))))
theorem op_catF : OpR X (binaryOp .Add) (rCatF X.K) := by
  intro pins s σ H x y v u Q I rx ry h
  obtain ⟨a, b, xs, ys, rfl, rfl, ha, hb, hz, q0, q1, q2⟩ := h
  cases rx
  cases ry
  obtain ⟨its, r1, p1, _⟩ := I.tuple ha
  obtain ⟨its2, r2, p2, _⟩ := I.tuple hb
  by_cases hx : xs = []
  · subst hx
    cases r1
    exact cat_tup0 p1 p2 ⟨.ref b, H, I, rfl, q0 rfl⟩
  · refine HT.cat_tup p1 p2 (fun z => hx (r1.nil_iff.mp z)) (fun z => ⟨.ref a, H, I, rfl, q1 hx (r2.nil_iff.mp z)⟩) (fun z => ?_) (by rw [← r1.length, ← r2.length]; exact hz)
    exact ⟨.ref s.heap.objs.size, upd H s.heap.objs.size (.frz _ (.tup (xs ++ ys))), I.laid (t' := s.toks) (fun b ob q => Heap.get?_push_of_some _ q) (Nat.le_refl _) ⟨Heap.get?_push_size s.heap rfl, by rw [List.length_append]; exact hz, _, r1.append r2, IsTup.new _ _⟩, rfl,
      q2 hx (fun w => z (r2.nil_iff.mpr w)) _ _ (I.hok.fresh (Nat.le_refl _)) rfl⟩
theorem call_divmodF : CallR X (.builtin "divmod") (fun xs H Q => ∃ i j, xs = [.int i, .int j] ∧ CDiv i j ∧ ∀ (p : Addr) (ob : Obj), H p = none → ob.dict = none → Q (.ref p) (upd H p (.frz ob (.tup [.int (i / j), .int (i % j)])))) := by
  intro pins s σ H xs us Q I r h
  obtain ⟨i, j, rfl, ⟨h1, h2⟩, q⟩ := h
  obtain ⟨u, w', rfl, ⟨t, rfl⟩, ⟨t', rfl⟩⟩ := vals2 r
  refine divmod_int (by omega) ?_ (.inl (PyProof.noPylong_small (by omega)))
  rw [Int.fdiv_eq_ediv_of_nonneg i (by omega), Int.fmod_eq_emod_of_nonneg i (by omega)]
  have hn : H s.heap.objs.size = none := I.hok.fresh (Nat.le_refl _)
  refine ⟨.ref s.heap.objs.size, upd H s.heap.objs.size (.frz _ (.tup [.int (i / j), .int (i % j)])), I.laid (fun b o e => Heap.get?_push_of_some _ e) (Nat.le_refl _) ⟨Heap.get?_push_size s.heap rfl, by simp only [List.length_cons, List.length_nil]; rw [sizeLine_eq]; decide, [.int (i / j) s.toks, .int (i % j) (s.toks + 1)], .cons ⟨_, rfl⟩ (.cons ⟨_, rfl⟩ .nil), ⟨_, Heap.get?_push_size s.heap rfl, rfl, 0, rfl⟩⟩, rfl, q _ _ hn rfl⟩
/-- (a, b) -/
def tTupF (t : TA) : TE := fun σ H Q => t σ H fun xs H1 => xs.length ≤ sizeLine ∧ ∀ (p : Addr) (ob : Obj), H1 p = none → ob.dict = none → Q (.ref p) (upd H1 p (.frz ob (.tup xs)))
variable {o e : Expr} {es : List Expr} {to : TE} {t : TA} {apos cpos pos : Pos} {name : Str} {id : String} {r : V → List V → Hp → VK → Prop}
theorem pe_tupF {x1} (h : PA X es t) : PE X (.Tuple es x1 pos) (tTupF t) := by
  refine ⟨fun pins s σ H Q I hq => ?_⟩
  refine wpAny_Tuple_spliced (thn (h.run pos pins s σ H _ I hq) fun us s1 ⟨xs, H1, I1, r, z, q⟩ => ⟨by rw [← r.length]; exact z, ?_⟩)
  have hf : H1 s1.heap.objs.size = none := I1.hok.fresh (Nat.le_refl _)
  exact ⟨.ref s1.heap.objs.size, upd H1 s1.heap.objs.size (.frz _ (.tup xs)), I1.laid (t' := s1.toks) (fun b u e => Heap.get?_push_of_some _ e) (Nat.le_refl _) ⟨Heap.get?_push_size _ rfl, z, us, r, ⟨_, Heap.get?_push_size _ rfl, rfl, _, rfl⟩⟩, rfl, q _ _ hf rfl⟩
/-- t.count(k) -/
def tTM (K : PySem.W.Frag) (r : V → List V → Hp → VK → Prop) (to : TE) (t : TA) : TE := fun σ H Q => to σ H fun x H1 => (∃ a xs, x = .ref a ∧ TupQ K H1 a xs) ∧ t σ H1 fun ys H2 => r x ys H2 Q
theorem pe_tm (slot : Slot "tuple" name id) (hty : typeOf (.builtin id) = pure (.type "method_descriptor")) (hm : MtR X id r) (ho : PE X o to) (ha : PA X (e :: es) t)
    (hb : attributeBase o name X.env (eval o X.env) = eval o X.env := by rfl)
    (hf : ((backTo cpos (starEach (e :: es) X.env)).all (fun x => !x.1)
      && (backToKw cpos (keywordEach [] X.env)).all (fun x => x.1.isSome) && decide ((e :: es).length + ([] : List Keyword).length + (if ([] : List Keyword).isEmpty then 0 else 1) < 30)) = true := by rfl)
    (hl : (apos.endLine == cpos.line) = true := by rfl)
    (hs : starEach (e :: es) X.env = (false, eval e X.env) :: starEach es X.env := by rfl)
    (hp : (backTo cpos (starEach es X.env)).any (·.1) = false := by rfl) : PE X (.Call (.Attribute o name apos) (e :: es) [] cpos) (tTM X.K r to t) := by
  refine ⟨fun pins s σ H Q I h => ?_⟩
  refine wpAny_Call_method_late hb hf hl rfl (thn (ho.run pins s σ H _ I h) fun v s1 ⟨x, H1, I1, r1, tf, q1⟩ => ?_)
  obtain ⟨a, xs, rfl, tq⟩ := tf
  cases r1
  have key : (∃ ob, s1.heap.get? a = some ob ∧ ob.dict = none) ∧ s1.TypeIs (.ref a) "tuple" := by
    rcases tq with ⟨ob, hH, nd⟩ | ⟨o, its, n, h1, h2, h3, h4, h5, h6⟩
    · obtain ⟨he, _, its, _, it⟩ := I1.hok a _ hH
      exact ⟨⟨ob, he, nd⟩, it.typeIs⟩
    · exact ⟨⟨o, I1.kIn _ o h1, h3⟩, ⟨o, I1.kIn _ o h1, h2⟩⟩
  refine ⟨"tuple", id, PySem.F.plainAttrs_tuple, slot, hty, key.2, fun b eb => by cases eb; exact key.1, ?_⟩
  have A := ha.run cpos pins s1 σ H1 _ I1 q1
  rw [hs] at A ⊢
  refine Calls.callWith_builtin (by show (false || (backTo cpos (starEach es X.env)).any (·.1)) = false; rw [hp]; rfl) (Calls.evalArgs_plain ?_)
  exact thn A fun us s2 ⟨vs, H2, I2, r2, q2⟩ => hm pins s2 σ H2 (.ref a) vs (.ref a) us Q I2 rfl r2 q2
end
end L2
/-! Values without addresses: what is owned is a tree, what is shared is data. S: such a value; Own: it is laid so at v, the addresses fp are its own -/
namespace Mv
open PySem PySem.Spec PyProof.Rows L2

inductive S where
  | dat (d : PyData)
  | con (v : V)
  | lst (xs : List S)
  | dct (l : Bool) (kvs : List (Key × S))
  | ins (C : Nat) (ss : List S)

def setSnd {α β : Type} (l : List (α × β)) (i : Nat) (b : β) : List (α × β) :=
  match l, i with
  | [], _ => []
  | (a, _) :: r, 0 => (a, b) :: r
  | p :: r, i + 1 => p :: setSnd r i b
theorem setSnd_fst {α β : Type} (b : β) : ∀ (l : List (α × β)) (i : Nat), (setSnd l i b).map (·.1) = l.map (·.1)
  | [], _ => rfl
  | _ :: _, 0 => rfl
  | p :: r, i + 1 => by simp only [setSnd, List.map_cons, setSnd_fst b r i]
theorem setSnd_snd {α β : Type} (b : β) : ∀ (l : List (α × β)) (i : Nat), (setSnd l i b).map (·.2) = (l.map (·.2)).set i b
  | [], _ => rfl
  | _ :: _, 0 => rfl
  | p :: r, i + 1 => by simp only [setSnd, List.map_cons, setSnd_snd b r i, List.set_cons_succ]
def S.kids : S → List S
  | .lst xs => xs
  | .dct _ kvs => kvs.map (·.2)
  | .ins _ ss => ss
  | _ => []
def S.setKid (s : S) (i : Nat) (t : S) : S :=
  match s with
  | .lst xs => .lst (xs.set i t)
  | .dct l kvs => .dct l (setSnd kvs i t)
  | .ins C ss => .ins C (ss.set i t)
  | s => s
theorem S.kids_setKid (s t : S) (i : Nat) : (s.setKid i t).kids = s.kids.set i t := by
  cases s with
  | dat d => simp [S.setKid, S.kids]
  | con v => simp [S.setKid, S.kids]
  | lst xs => rfl
  | dct l kvs => exact setSnd_snd t kvs i
  | ins C ss => rfl
def S.get : S → List Nat → Option S
  | s, [] => some s
  | s, i :: p => match s.kids[i]? with
    | some t => S.get t p
    | none => none
def S.put : S → List Nat → S → S
  | _, [], t => t
  | s, i :: p, t => match s.kids[i]? with
    | some u => s.setKid i (S.put u p t)
    | none => s

/-- classes by numbers, the errors' too -/
def clsNm : Nat → Str
  | 0 => "Board" | 1 => "House" | 2 => "Asker" | 3 => "World" | 4 => "Tally"
  | 10 => "DrainError" | 11 => "BadHouse" | 12 => "Known" | 13 => "NoHouse" | 14 => "TooMany" | 15 => "LastHouse" | 16 => "BadAsker" | 17 => "BadEdition" | 18 => "BadAsk" | 19 => "Busy" | 20 => "NoLetter" | 21 => "BadCount" | 22 => "BadText"
  | _ => "?"
def clsFld : Nat → List Str
  | 0 => ["now", "lacking", "planned", "known"]
  | 1 => ["name", "now", "owned", "held", "giving", "takings", "newest", "last_answers", "done"]
  | 2 => ["name", "now", "number", "under_way", "last"]
  | 3 => ["board", "first_book", "house_named", "asker_named", "road", "all_deeds", "all_answers"]
  | 4 => ["grown", "numbers", "make"]
  | _ => []
def clsOf (K : PySem.W.Frag) (c : Nat) (C : Addr) : Prop := PySem.W.nsIn K mainGlobals (clsNm c) = some (some (.ref C))
theorem clsOf.one {K : PySem.W.Frag} {c : Nat} {C D : Addr} (h : clsOf K c C) (g : clsOf K c D) : C = D := by
  unfold clsOf at h g
  rw [h] at g
  cases g
  rfl

/-- an object's parts -/
def kidsV : HO → List V
  | .lst vs => vs
  | .dK kvs => kvs.map (·.2)
  | .frz _ (.dK kvs) => kvs.map (·.2)
  | .ins _ _ fs => fs.map (·.2)
  | _ => []
def Head (K : PySem.W.Frag) (H : Hp) (a : Addr) : HO → S → List Addr → Prop
  | .lst _, .lst _, ex => ex = []
  | .dK kvs, .dct false kss, ex => ex = [] ∧ kvs.map (·.1) = kss.map (·.1)
  | .ins C dx fs, .ins c ss, ex => clsOf K c C ∧ ex = [dx] ∧ H dx = some (.own a) ∧ fs.map (·.1) = (clsFld c).take ss.length ∧ ss.length ≤ (clsFld c).length
  | _, _, _ => False
theorem Head.setKid {K : PySem.W.Frag} {H : Hp} {a : Addr} {o : HO} {s : S} {ex : List Addr} (h : Head K H a o s ex) (i : Nat) (t : S) : Head K H a o (s.setKid i t) ex := by
  unfold S.setKid
  cases s with
  | dat d => exact h
  | con v => exact h
  | lst xs => cases o with
    | lst vs => exact h
    | frz o u => cases u <;> exact h.elim
    | _ => exact h.elim
  | dct l kvs => cases o with
    | dK k => cases l with
      | false => exact ⟨h.1, h.2.trans (setSnd_fst t kvs i).symm⟩
      | true => exact h.elim
    | frz o u => cases u <;> exact h.elim
    | _ => exact h.elim
  | ins C fs => cases o with
    | ins C' dx gs => exact ⟨h.1, h.2.1, h.2.2.1, by rw [List.length_set]; exact h.2.2.2⟩
    | frz o u => cases u <;> exact h.elim
    | _ => exact h.elim
theorem Head.keep {K : PySem.W.Frag} {H H' : Hp} {a : Addr} {o : HO} {s : S} {ex : List Addr} (h : Head K H a o s ex) (k : ∀ b ∈ ex, ∀ u, H b = some u → H' b = some u) : Head K H' a o s ex := by
  cases s with
  | dat d => cases o <;> first | exact h.elim | (rename_i u; cases u <;> exact h.elim)
  | con v => cases o <;> first | exact h.elim | (rename_i u; cases u <;> exact h.elim)
  | lst xs => cases o with
    | lst vs => exact h
    | frz o u => cases u <;> exact h.elim
    | _ => exact h.elim
  | dct l kvs => cases o with
    | dK k => cases l <;> exact h
    | frz o u => cases u <;> exact h.elim
    | _ => exact h.elim
  | ins C fs => cases o with
    | ins C' dx gs =>
      obtain ⟨h1, h2, h3, h4⟩ := h
      exact ⟨h1, h2, k dx (by rw [h2]; exact List.mem_cons_self) _ h3, h4⟩
    | frz o u => cases u <;> exact h.elim
    | _ => exact h.elim

/-! data laid somewhere: no tuple with a dict of its own -/
mutual
inductive Dq (K : PySem.W.Frag) (H : Hp) : V → PyData → Prop
  | non : Dq K H .non .none
  | bl (b : Bool) : Dq K H (.bl b) (.bool b)
  | int (i : Int) : Dq K H (.int i) (.int i)
  | str (x : Str) : Dq K H (.str x) (.str x)
  | lst {a : Addr} {xs : List V} {ds : List PyData} : SqL K H a xs → DqAll K H xs ds → Dq K H (.ref a) (.list ds)
  | tup {a : Addr} {xs : List V} {ds : List PyData} : TupQ K H a xs → DqAll K H xs ds → Dq K H (.ref a) (.tuple ds)
inductive DqAll (K : PySem.W.Frag) (H : Hp) : List V → List PyData → Prop
  | nil : DqAll K H [] []
  | cons {v : V} {vs : List V} {d : PyData} {ds : List PyData} : Dq K H v d → DqAll K H vs ds → DqAll K H (v :: vs) (d :: ds)
end
mutual
theorem Dq.dp {K : PySem.W.Frag} {H : Hp} : ∀ {v : V} {d : PyData}, Dq K H v d → Dp K H v d
  | _, _, .non => .non
  | _, _, .bl b => .bl b
  | _, _, .int i => .int i
  | _, _, .str x => .str x
  | _, _, .lst h t => .lst h (DqAll.dp t)
  | _, _, .tup h t => .tup h.sq (DqAll.dp t)
theorem DqAll.dp {K : PySem.W.Frag} {H : Hp} : ∀ {vs : List V} {ds : List PyData}, DqAll K H vs ds → DpAll K H vs ds
  | _, _, .nil => .nil
  | _, _, .cons h t => .cons (Dq.dp h) (DqAll.dp t)
end
mutual
inductive Own (K : PySem.W.Frag) (F H : Hp) : V → S → List Addr → Prop
  | dat {v : V} {d : PyData} : Dq K F v d → Own K F H v (.dat d) []
  | con {v : V} : Own K F H v (.con v) []
  | node {a : Addr} {o : HO} {s : S} {ex fp : List Addr} : H a = some o → Head K H a o s ex → OwnL K F H (kidsV o) s.kids fp → Own K F H (.ref a) s (a :: (ex ++ fp))
  | lck {a : Addr} {o : Obj} {kvs : List (Key × V)} {kss : List (Key × S)} {fp : List Addr} : F a = some (.frz o (.dK kvs)) → H a = some (.frz o (.dK kvs)) → kvs.map (·.1) = kss.map (·.1) → OwnL K F H (kvs.map (·.2)) (kss.map (·.2)) fp → Own K F H (.ref a) (.dct true kss) fp
inductive OwnL (K : PySem.W.Frag) (F H : Hp) : List V → List S → List Addr → Prop
  | nil : OwnL K F H [] [] []
  | cons {v : V} {vs : List V} {s : S} {ss : List S} {fp fq : List Addr} : Own K F H v s fp → OwnL K F H vs ss fq → OwnL K F H (v :: vs) (s :: ss) (fp ++ fq)
end
variable {K : PySem.W.Frag} {F F' H H' : Hp} {v : V} {vs : List V} {s t : S} {ss : List S} {fp fq : List Addr}

theorem Rd.mono {a : Addr} {u : HO} (k : ∀ b o, F b = some o → F' b = some o) (h : Rd F a u) : Rd F' a u := by
  rcases h with h | ⟨o, h⟩
  · exact .inl (k _ _ h)
  · exact .inr ⟨o, k _ _ h⟩
theorem SqL.mono {a : Addr} {xs : List V} (k : ∀ b o, F b = some o → F' b = some o) (h : SqL K F a xs) : SqL K F' a xs := h.imp (Rd.mono k) id
theorem SqT.mono {a : Addr} {xs : List V} (k : ∀ b o, F b = some o → F' b = some o) (h : SqT K F a xs) : SqT K F' a xs := h.imp (Rd.mono k) id
mutual
theorem Dq.mono (k : ∀ b o, F b = some o → F' b = some o) : ∀ {v : V} {d : PyData}, Dq K F v d → Dq K F' v d
  | _, _, .non => .non
  | _, _, .bl b => .bl b
  | _, _, .int i => .int i
  | _, _, .str x => .str x
  | _, _, .lst h t => .lst (SqL.mono k h) (DqAll.mono k t)
  | _, _, .tup h t => .tup (TupQ.mono k h) (DqAll.mono k t)
theorem DqAll.mono (k : ∀ b o, F b = some o → F' b = some o) : ∀ {vs : List V} {ds : List PyData}, DqAll K F vs ds → DqAll K F' vs ds
  | _, _, .nil => .nil
  | _, _, .cons h t => .cons (Dq.mono k h) (DqAll.mono k t)
end
mutual
theorem Own.frame (kF : ∀ b o, F b = some o → F' b = some o) (sub : ∀ b o, F' b = some o → H' b = some o) : ∀ {v : V} {s : S} {fp : List Addr}, Own K F H v s fp → (∀ a ∈ fp, ∀ o, H a = some o → H' a = some o) → Own K F' H' v s fp
  | _, _, _, .dat d, _ => .dat (Dq.mono kF d)
  | _, _, _, .con, _ => .con
  | _, _, _, .node h hd t, k => .node (k _ List.mem_cons_self _ h) (hd.keep fun b m u e => k b (List.mem_cons_of_mem _ (List.mem_append_left _ m)) u e)
      (OwnL.frame kF sub t fun b m o e => k b (List.mem_cons_of_mem _ (List.mem_append_right _ m)) o e)
  | _, _, _, .lck hf hh hk t, k => .lck (kF _ _ hf) (sub _ _ (kF _ _ hf)) hk (OwnL.frame kF sub t k)
theorem OwnL.frame (kF : ∀ b o, F b = some o → F' b = some o) (sub : ∀ b o, F' b = some o → H' b = some o) : ∀ {vs : List V} {ss : List S} {fp : List Addr}, OwnL K F H vs ss fp → (∀ a ∈ fp, ∀ o, H a = some o → H' a = some o) → OwnL K F' H' vs ss fp
  | _, _, _, .nil, _ => .nil
  | _, _, _, .cons h t, k => .cons (Own.frame kF sub h fun a m => k a (List.mem_append_left _ m)) (OwnL.frame kF sub t fun a m => k a (List.mem_append_right _ m))
end
theorem Head.ex_there {a : Addr} {o : HO} {ex : List Addr} (h : Head K H a o s ex) : ∀ b ∈ ex, ∃ u, H b = some u := by
  intro b m
  cases s with
  | dat d => cases o <;> first | exact h.elim | (rename_i u; cases u <;> exact h.elim)
  | con v => cases o <;> first | exact h.elim | (rename_i u; cases u <;> exact h.elim)
  | lst xs => cases o <;> first | exact h.elim | (rw [show ex = [] from h] at m; cases m) | (rename_i u; cases u <;> exact h.elim)
  | dct l kvs => cases o with
    | dK k => cases l with
      | false => rw [h.1] at m; cases m
      | true => exact h.elim
    | frz o u => cases u <;> exact h.elim
    | _ => exact h.elim
  | ins C fs => cases o with
    | ins C' dx gs =>
      rw [h.2.1] at m
      rw [List.mem_singleton.mp m]
      exact ⟨_, h.2.2.1⟩
    | frz o u => cases u <;> exact h.elim
    | _ => exact h.elim
mutual
theorem Own.there : ∀ {v : V} {s : S} {fp : List Addr}, Own K F H v s fp → ∀ a ∈ fp, ∃ o, H a = some o
  | _, _, _, .dat d, _, m => nomatch m
  | _, _, _, .con, _, m => nomatch m
  | _, _, _, .node h hd t, b, m => by
    rcases List.mem_cons.mp m with rfl | m
    · exact ⟨_, h⟩
    · rcases List.mem_append.mp m with m | m
      · exact hd.ex_there b m
      · exact OwnL.there t b m
  | _, _, _, .lck hf hh hk t, b, m => OwnL.there t b m
theorem OwnL.there : ∀ {vs : List V} {ss : List S} {fp : List Addr}, OwnL K F H vs ss fp → ∀ a ∈ fp, ∃ o, H a = some o
  | _, _, _, .nil, _, m => nomatch m
  | _, _, _, .cons h t, b, m => by
    rcases List.mem_append.mp m with m | m
    · exact Own.there h b m
    · exact OwnL.there t b m
end
theorem Head.con_no {a : Addr} {o : HO} {ex : List Addr} (h : Head K H a o (.con v) ex) : False := by
  cases o <;> first | exact h | (rename_i u; cases u <;> exact h)
theorem Head.dat_no {d : PyData} {a : Addr} {o : HO} {ex : List Addr} (h : Head K H a o (.dat d) ex) : False := by
  cases o <;> first | exact h | (rename_i u; cases u <;> exact h)
theorem Own.con_inv {w : V} (h : Own K F H w s fp) (e : s = .con v) : w = v ∧ fp = [] := by
  cases h with
  | dat _ => cases e
  | con => cases e; exact ⟨rfl, rfl⟩
  | node h hd t => subst e; exact hd.con_no.elim
  | lck => cases e
theorem Own.dat_inv {d : PyData} (h : Own K F H v s fp) (e : s = .dat d) : Dq K F v d ∧ fp = [] := by
  cases h with
  | dat q => cases e; exact ⟨q, rfl⟩
  | con => cases e
  | node h hd t => subst e; exact hd.dat_no.elim
  | lck => cases e
theorem OwnL.length : ∀ {vs : List V} {ss : List S} {fp : List Addr}, OwnL K F H vs ss fp → vs.length = ss.length
  | _, _, _, .nil => rfl
  | _, _, _, .cons _ t => by simp only [List.length_cons, OwnL.length t]
theorem OwnL.append : ∀ {vs ws : List V} {ss ts : List S} {fp fq : List Addr}, OwnL K F H vs ss fp → OwnL K F H ws ts fq → OwnL K F H (vs ++ ws) (ss ++ ts) (fp ++ fq)
  | _, _, _, _, _, _, .nil, h => h
  | _, _, _, _, _, _, .cons a t, h => by
    rw [List.append_assoc]
    exact .cons a (OwnL.append t h)
/-- one of them taken out: its place holds its root alone -/
theorem OwnL.take : ∀ {vs : List V} {ss : List S} {fp : List Addr} {i : Nat} {s : S}, OwnL K F H vs ss fp → ss[i]? = some s →
    ∃ v fp1 fp2, vs[i]? = some v ∧ Own K F H v s fp1 ∧ OwnL K F H vs (ss.set i (.con v)) fp2 ∧ fp.Perm (fp1 ++ fp2)
  | _, _, _, i, _, .nil, e => by simp at e
  | _, _, _, 0, s, .cons (v := v) (fp := fp1) (fq := fp2) h t, e => by
    simp only [List.getElem?_cons_zero, Option.some.injEq] at e
    subst e
    exact ⟨v, fp1, fp2, rfl, h, .cons (fp := []) .con t, List.Perm.refl _⟩
  | _, _, _, i + 1, s, .cons (fp := fpa) h t, e => by
    obtain ⟨v, fp1, fp2, e1, o, l, p⟩ := OwnL.take (i := i) (s := s) t (by simpa using e)
    refine ⟨v, fp1, fpa ++ fp2, by simpa using e1, o, .cons h l, ?_⟩
    refine (List.Perm.append_left fpa p).trans ?_
    rw [← List.append_assoc, ← List.append_assoc]
    exact List.Perm.append_right fp2 List.perm_append_comm
theorem OwnL.put : ∀ {vs : List V} {ss : List S} {fp : List Addr} {i : Nat} {v : V} {s : S} {fq : List Addr}, OwnL K F H vs ss fp → ss[i]? = some (.con v) → Own K F H v s fq →
    ∃ fr, OwnL K F H vs (ss.set i s) fr ∧ fr.Perm (fq ++ fp)
  | _, _, _, i, _, _, _, .nil, e, _ => by simp at e
  | _, _, _, 0, v, s, fq, .cons h t, e, o => by
    simp only [List.getElem?_cons_zero, Option.some.injEq] at e
    subst e
    obtain ⟨rfl, rfl⟩ := h.con_inv rfl
    exact ⟨_, .cons o t, List.Perm.refl _⟩
  | _, _, _, i + 1, v, s, fq, .cons (fp := fpa) h t, e, o => by
    obtain ⟨fr, l, p⟩ := OwnL.put (i := i) t (by simpa using e) o
    refine ⟨fpa ++ fr, .cons h l, ?_⟩
    refine (List.Perm.append_left fpa p).trans ?_
    rw [← List.append_assoc, ← List.append_assoc]
    exact List.Perm.append_right _ List.perm_append_comm
end Mv
/-! Paths, places, environments -/
namespace Mv
open PySem PySem.Spec PyProof.Rows L2
variable {K : PySem.W.Frag} {F F' H H' : Hp} {v u : V} {vs : List V} {s t : S} {ss : List S} {fp fq : List Addr}

/-! ### paths within a value -/
theorem S.get_nil (s : S) : s.get [] = some s := by cases s <;> rfl
theorem S.get_cons (s : S) (i : Nat) (p : List Nat) : s.get (i :: p) = (match s.kids[i]? with | some t => t.get p | none => none) := by cases s <;> rfl
theorem S.put_nil (s t : S) : s.put [] t = t := by cases s <;> rfl
theorem S.put_cons (s t : S) (i : Nat) (p : List Nat) : s.put (i :: p) t = (match s.kids[i]? with | some u => s.setKid i (u.put p t) | none => s) := by cases s <;> rfl
theorem S.get_put : ∀ (p : List Nat) (s t u : S), s.get p = some u → (s.put p t).get p = some t
  | [], s, t, u, _ => by rw [S.put_nil, S.get_nil]
  | i :: p, s, t, u, h => by
    rw [S.get_cons] at h
    rw [S.put_cons, S.get_cons]
    cases e : s.kids[i]? with
    | none => rw [e] at h; cases h
    | some w =>
      rw [e] at h
      have hi := (List.getElem?_eq_some_iff.mp e).1
      simp only [S.kids_setKid, List.getElem?_set_self hi]
      exact S.get_put p w t u h
theorem setSnd_set {α β : Type} (b c : β) : ∀ (l : List (α × β)) (i : Nat), setSnd (setSnd l i b) i c = setSnd l i c
  | [], _ => rfl
  | _ :: _, 0 => rfl
  | p :: r, i + 1 => by simp only [setSnd, setSnd_set b c r i]
theorem setSnd_comm {α β : Type} (b c : β) : ∀ (l : List (α × β)) (i j : Nat), i ≠ j → setSnd (setSnd l i b) j c = setSnd (setSnd l j c) i b
  | [], _, _, _ => rfl
  | _ :: _, 0, 0, h => absurd rfl h
  | _ :: _, 0, _ + 1, _ => rfl
  | _ :: _, _ + 1, 0, _ => rfl
  | p :: r, i + 1, j + 1, h => by simp only [setSnd, setSnd_comm b c r i j (fun e => h (by rw [e]))]
theorem S.setKid_set (s t u : S) (i : Nat) : (s.setKid i t).setKid i u = s.setKid i u := by
  cases s with
  | dat d => rfl
  | con v => rfl
  | lst xs => simp [S.setKid]
  | dct l kvs => simp only [S.setKid, setSnd_set]
  | ins C fs => simp [S.setKid]
theorem S.setKid_comm (s t u : S) {i j : Nat} (h : i ≠ j) : (s.setKid i t).setKid j u = (s.setKid j u).setKid i t := by
  cases s with
  | dat d => rfl
  | con v => rfl
  | lst xs => simp only [S.setKid, List.set_comm _ _ h]
  | dct l kvs => simp only [S.setKid, setSnd_comm _ _ _ _ _ h]
  | ins C fs => simp only [S.setKid, List.set_comm _ _ h]
theorem S.put_put : ∀ (p : List Nat) (s t u : S), (s.put p t).put p u = s.put p u
  | [], s, t, u => by rw [S.put_nil, S.put_nil]
  | i :: p, s, t, u => by
    cases e : s.kids[i]? with
    | none => simp only [S.put_cons, e]
    | some w =>
      have hi := (List.getElem?_eq_some_iff.mp e).1
      simp only [S.put_cons, e, S.kids_setKid, List.getElem?_set_self hi, S.setKid_set, S.put_put p w t u]
/-- neither lies in the other -/
def apart : List Nat → List Nat → Bool
  | i :: p, j :: q => i != j || apart p q
  | _, _ => false
theorem apart_symm : ∀ (p q : List Nat), apart p q = apart q p
  | [], [] => rfl
  | [], _ :: _ => rfl
  | _ :: _, [] => rfl
  | i :: p, j :: q => by
    simp only [apart, apart_symm p q]
    rw [show (i != j) = (j != i) from bne_comm]
theorem S.get_put_apart : ∀ (p q : List Nat) (s t : S), apart p q = true → (s.put p t).get q = s.get q
  | [], _, _, _, h => by simp [apart] at h
  | _ :: _, [], _, _, h => by simp [apart] at h
  | i :: p, j :: q, s, t, h => by
    rw [S.put_cons, S.get_cons, S.get_cons]
    cases e : s.kids[i]? with
    | none => rfl
    | some w =>
      have hi := (List.getElem?_eq_some_iff.mp e).1
      simp only [S.kids_setKid]
      by_cases ij : i = j
      · subst ij
        simp only [List.getElem?_set_self hi, e]
        simp only [apart, bne_self_eq_false, Bool.false_or] at h
        exact S.get_put_apart p q w t h
      · rw [List.getElem?_set_ne ij]
theorem S.put_comm : ∀ (p q : List Nat) (s t u : S), apart p q = true → (s.put p t).put q u = (s.put q u).put p t
  | [], _, _, _, _, h => by simp [apart] at h
  | _ :: _, [], _, _, _, h => by simp [apart] at h
  | i :: p, j :: q, s, t, u, h => by
    by_cases ij : i = j
    · subst ij
      simp only [apart, bne_self_eq_false, Bool.false_or] at h
      cases e : s.kids[i]? with
      | none => simp only [S.put_cons, e]
      | some w =>
        have hi := (List.getElem?_eq_some_iff.mp e).1
        simp only [S.put_cons, e, S.kids_setKid, List.getElem?_set_self hi, S.setKid_set, S.put_comm p q w t u h]
    · have ji : j ≠ i := fun z => ij z.symm
      cases e : s.kids[i]? with
      | none =>
        cases e2 : s.kids[j]? with
        | none => simp only [S.put_cons, e, e2]
        | some w => simp only [S.put_cons, e, e2, S.kids_setKid, List.getElem?_set_ne ji]
      | some w =>
        cases e2 : s.kids[j]? with
        | none => simp only [S.put_cons, e, e2, S.kids_setKid, List.getElem?_set_ne ij]
        | some x => simp only [S.put_cons, e, e2, S.kids_setKid, List.getElem?_set_ne ij, List.getElem?_set_ne ji, S.setKid_comm _ _ _ ij]

/-! ### paths in a heap -/
def follow (H : Hp) : V → List Nat → Option V
  | v, [] => some v
  | .ref a, i :: p => match H a with
    | some o => match (kidsV o)[i]? with
      | some w => follow H w p
      | none => none
    | none => none
  | _, _ => none
theorem follow_nil (H : Hp) (v : V) : follow H v [] = some v := by cases v <;> rfl
theorem follow_node {a : Addr} {o : HO} {w : V} {i : Nat} {p : List Nat} (h : H a = some o) (e : (kidsV o)[i]? = some w) : follow H (.ref a) (i :: p) = follow H w p := by
  simp only [follow, h, e]
theorem Own.takeP : ∀ (p : List Nat) {v : V} {s t : S} {fp : List Addr}, Own K F H v s fp → s.get p = some t →
    ∃ u fp1 fp2, follow H v p = some u ∧ Own K F H u t fp1 ∧ Own K F H v (s.put p (.con u)) fp2 ∧ fp.Perm (fp1 ++ fp2)
  | [], v, s, t, fp, o, e => by
    rw [S.get_nil] at e
    cases e
    exact ⟨v, fp, [], follow_nil H v, o, by rw [S.put_nil]; exact .con, by simp⟩
  | i :: p, v, s, t, fp, o, e => by
    rw [S.get_cons] at e
    cases o with
    | dat d => simp [S.kids] at e
    | con => simp [S.kids] at e
    | @node a ob _ ex fp h hd l =>
      cases ek : s.kids[i]? with
      | none => rw [ek] at e; cases e
      | some w =>
        rw [ek] at e
        obtain ⟨x, f1, f2, e1, o1, l2, pm⟩ := l.take ek
        obtain ⟨u, g1, g2, e2, o2, o3, pm2⟩ := Own.takeP p o1 e
        have hi := (List.getElem?_eq_some_iff.mp ek).1
        obtain ⟨fr, l3, pm3⟩ := l2.put (i := i) (v := x) (by rw [List.getElem?_set_self hi]) o3
        rw [List.set_set] at l3
        refine ⟨u, g1, a :: (ex ++ fr), by rw [follow_node h e1]; exact e2, o2, ?_, ?_⟩
        · rw [S.put_cons, ek]
          exact .node h (hd.setKid i _) (by rw [S.kids_setKid]; exact l3)
        · -- a :: (ex ++ fp) ~ g1 ++ a :: (ex ++ fr)
          have p1 : fp.Perm (g1 ++ fr) := (pm.trans (List.Perm.append_right f2 pm2)).trans (by rw [List.append_assoc]; exact List.Perm.append_left g1 pm3.symm)
          have p2 : (ex ++ fp).Perm (g1 ++ (ex ++ fr)) := by
            refine (List.Perm.append_left ex p1).trans ?_
            rw [← List.append_assoc, ← List.append_assoc]
            exact List.Perm.append_right fr List.perm_append_comm
          exact (List.Perm.cons a p2).trans List.perm_middle.symm
    | @lck a ob kvs kss _ hf h hk l =>
      cases ek : (kss.map (·.2))[i]? with
      | none => rw [show (S.dct true kss).kids = kss.map (·.2) from rfl, ek] at e; cases e
      | some w =>
        rw [show (S.dct true kss).kids = kss.map (·.2) from rfl, ek] at e
        obtain ⟨x, f1, f2, e1, o1, l2, pm⟩ := l.take ek
        obtain ⟨u, g1, g2, e2, o2, o3, pm2⟩ := Own.takeP p o1 e
        have hi := (List.getElem?_eq_some_iff.mp ek).1
        obtain ⟨fr, l3, pm3⟩ := l2.put (i := i) (v := x) (by rw [List.getElem?_set_self hi]) o3
        rw [List.set_set, ← setSnd_snd] at l3
        refine ⟨u, g1, fr, by rw [follow_node h e1]; exact e2, o2, ?_, ?_⟩
        · rw [S.put_cons, show (S.dct true kss).kids = kss.map (·.2) from rfl, ek]
          exact .lck hf h (by rw [hk]; exact (setSnd_fst _ kss i).symm) l3
        · exact (pm.trans (List.Perm.append_right f2 pm2)).trans (by rw [List.append_assoc]; exact List.Perm.append_left g1 pm3.symm)
theorem Own.putP : ∀ (p : List Nat) {v u : V} {s t : S} {fp fq : List Addr}, Own K F H v s fp → s.get p = some (.con u) → Own K F H u t fq →
    ∃ fr, Own K F H v (s.put p t) fr ∧ fr.Perm (fq ++ fp)
  | [], v, u, s, t, fp, fq, o, e, q => by
    rw [S.get_nil] at e
    have e := Option.some.inj e
    obtain ⟨rfl, rfl⟩ := o.con_inv e
    exact ⟨fq, by rw [S.put_nil]; exact q, by simp⟩
  | i :: p, v, u, s, t, fp, fq, o, e, q => by
    rw [S.get_cons] at e
    cases o with
    | dat d => simp [S.kids] at e
    | con => simp [S.kids] at e
    | @node a ob _ ex fp h hd l =>
      cases ek : s.kids[i]? with
      | none => rw [ek] at e; cases e
      | some w =>
        rw [ek] at e
        obtain ⟨x, f1, f2, e1, o1, l2, pm⟩ := l.take ek
        obtain ⟨g, o2, pm2⟩ := Own.putP p o1 e q
        have hi := (List.getElem?_eq_some_iff.mp ek).1
        obtain ⟨fr, l3, pm3⟩ := l2.put (i := i) (v := x) (by rw [List.getElem?_set_self hi]) o2
        rw [List.set_set] at l3
        refine ⟨a :: (ex ++ fr), ?_, ?_⟩
        · rw [S.put_cons, ek]
          exact .node h (hd.setKid i _) (by rw [S.kids_setKid]; exact l3)
        · have p1 : fr.Perm (fq ++ fp) := pm3.trans ((List.Perm.append_right f2 pm2).trans (by rw [List.append_assoc]; exact List.Perm.append_left fq pm.symm))
          have p2 : (ex ++ fr).Perm (fq ++ (ex ++ fp)) := by
            refine (List.Perm.append_left ex p1).trans ?_
            rw [← List.append_assoc, ← List.append_assoc]
            exact List.Perm.append_right fp List.perm_append_comm
          exact (List.Perm.cons a p2).trans List.perm_middle.symm
    | @lck a ob kvs kss _ hf h hk l =>
      cases ek : (kss.map (·.2))[i]? with
      | none => rw [show (S.dct true kss).kids = kss.map (·.2) from rfl, ek] at e; cases e
      | some w =>
        rw [show (S.dct true kss).kids = kss.map (·.2) from rfl, ek] at e
        obtain ⟨x, f1, f2, e1, o1, l2, pm⟩ := l.take ek
        obtain ⟨g, o2, pm2⟩ := Own.putP p o1 e q
        have hi := (List.getElem?_eq_some_iff.mp ek).1
        obtain ⟨fr, l3, pm3⟩ := l2.put (i := i) (v := x) (by rw [List.getElem?_set_self hi]) o2
        rw [List.set_set, ← setSnd_snd] at l3
        refine ⟨fr, ?_, ?_⟩
        · rw [S.put_cons, show (S.dct true kss).kids = kss.map (·.2) from rfl, ek]
          exact .lck hf h (by rw [hk]; exact (setSnd_fst _ kss i).symm) l3
        · exact pm3.trans ((List.Perm.append_right f2 pm2).trans (by rw [List.append_assoc]; exact List.Perm.append_left fq pm.symm))
/-- a path within what is owned stays while that stays -/
theorem Own.follow_keep (kf : ∀ b o, F b = some o → H' b = some o) : ∀ (p : List Nat) {v : V} {s t : S} {fp : List Addr}, Own K F H v s fp → s.get p = some t → (∀ a ∈ fp, ∀ o, H a = some o → H' a = some o) → follow H' v p = follow H v p
  | [], v, _, _, _, _, _, _ => by rw [follow_nil, follow_nil]
  | i :: p, v, s, t, fp, o, e, k => by
    rw [S.get_cons] at e
    cases o with
    | dat d => simp [S.kids] at e
    | con => simp [S.kids] at e
    | @node a ob _ ex fp h hd l =>
      cases ek : s.kids[i]? with
      | none => rw [ek] at e; cases e
      | some w =>
        rw [ek] at e
        obtain ⟨x, f1, f2, e1, o1, l2, pm⟩ := l.take ek
        rw [follow_node h e1, follow_node (k a List.mem_cons_self _ h) e1]
        exact Own.follow_keep kf p o1 e fun b m => k b (List.mem_cons_of_mem _ (List.mem_append_right _ (pm.mem_iff.mpr (List.mem_append_left _ m))))
    | @lck a ob kvs kss _ hf h hk l =>
      cases ek : (kss.map (·.2))[i]? with
      | none => rw [show (S.dct true kss).kids = kss.map (·.2) from rfl, ek] at e; cases e
      | some w =>
        rw [show (S.dct true kss).kids = kss.map (·.2) from rfl, ek] at e
        obtain ⟨x, f1, f2, e1, o1, l2, pm⟩ := l.take ek
        rw [follow_node h e1, follow_node (kf a _ hf) e1]
        exact Own.follow_keep kf p o1 e fun b m => k b (pm.mem_iff.mpr (List.mem_append_left _ m))
end Mv
/-! Environments: what stands in the slots of a def, and behind them the arguments as they were handed in -/
namespace Mv
open PySem PySem.Spec PyProof.Rows L2
variable {K : PySem.W.Frag} {F F' H H' : Hp} {v u : V} {vs : List V} {s t : S} {ss : List S} {fp fq : List Addr}

inductive Sl where
  | no
  | own (s : S)
  | bor (p : List Nat)
abbrev En := List Sl
abbrev Ro := List (Option V)
def slS : Option V → Sl → S
  | _, .own s => s
  | v, _ => .con (v.getD .non)
def rootV (ρ : Ro) : List V := ρ.map fun v => v.getD .non
def rootS : Ro → En → List S
  | v :: ρ, e :: E => slS v e :: rootS ρ E
  | _, _ => []
def eget (E : En) : List Nat → Option S
  | i :: p => match E[i]? with
    | some (Sl.own s) => s.get p
    | _ => none
  | [] => none
def eput (E : En) (p : List Nat) (t : S) : En :=
  match p with
  | i :: p => match E[i]? with
    | some (Sl.own s) => E.set i (.own (s.put p t))
    | _ => E
  | [] => E
def within (p q : List Nat) : Bool := p.isPrefixOf q && p.length != q.length
def kill1 (p : List Nat) : Sl → Sl
  | .bor q => if within p q then .no else .bor q
  | e => e
def ekill (E : En) (p : List Nat) : En := E.map (kill1 p)
def followE (H : Hp) (ρ : Ro) : List Nat → Option V
  | i :: p => match ρ[i]? with
    | some (some v) => follow H v p
    | _ => none
  | [] => none

theorem rootS_get : ∀ {ρ : Ro} {E : En} {i : Nat} {s : S}, E.length = ρ.length → E[i]? = some (Sl.own s) → (rootS ρ E)[i]? = some s
  | [], [], _, _, _, h => by simp at h
  | _ :: _, [], _, _, l, _ => by simp at l
  | [], _ :: _, _, _, l, _ => by simp at l
  | v :: ρ, e :: E, 0, s, l, h => by
    simp only [List.getElem?_cons_zero, Option.some.injEq] at h
    subst h; rfl
  | v :: ρ, e :: E, i + 1, s, l, h => by
    simp only [rootS, List.getElem?_cons_succ]
    exact rootS_get (by simpa using l) (by simpa using h)
theorem rootS_set : ∀ {ρ : Ro} {E : En} {i : Nat} {s : S}, E.length = ρ.length → rootS ρ (E.set i (.own s)) = (rootS ρ E).set i s
  | [], [], _, _, _ => by simp [rootS]
  | _ :: _, [], _, _, l => by simp at l
  | [], _ :: _, _, _, l => by simp at l
  | v :: ρ, e :: E, 0, s, l => rfl
  | v :: ρ, e :: E, i + 1, s, l => by
    simp only [rootS, List.set_cons_succ]
    rw [rootS_set (by simpa using l)]

structure Core (K : PySem.W.Frag) (F H : Hp) (ρ : Ro) (E : En) (fp : List Addr) : Prop where
  len : E.length = ρ.length
  own : ∃ fq, OwnL K F H (rootV ρ) (rootS ρ E) fq ∧ fp.Perm fq
  set : ∀ (i : Nat) (s : S), E[i]? = some (Sl.own s) → ∃ v, ρ[i]? = some (some v)
variable {ρ : Ro} {E : En}
theorem Core.perm (c : Core K F H ρ E fp) (p : fp.Perm fq) : Core K F H ρ E fq := ⟨c.len, let ⟨f, o, q⟩ := c.own; ⟨f, o, p.symm.trans q⟩, c.set⟩
theorem Core.frame (c : Core K F H ρ E fp) (kF : ∀ b o, F b = some o → F' b = some o) (sub : ∀ b o, F' b = some o → H' b = some o) (k : ∀ a ∈ fp, ∀ o, H a = some o → H' a = some o) : Core K F' H' ρ E fp :=
  ⟨c.len, let ⟨f, o, q⟩ := c.own; ⟨f, o.frame kF sub fun a m => k a (q.mem_iff.mpr m), q⟩, c.set⟩
theorem Core.there (c : Core K F H ρ E fp) : ∀ a ∈ fp, ∃ o, H a = some o := fun a m => let ⟨f, o, q⟩ := c.own; o.there a (q.mem_iff.mp m)
theorem eput_len (E : En) (p : List Nat) (t : S) : (eput E p t).length = E.length := by
  unfold eput
  split
  · split <;> simp
  · rfl
theorem eget_some {p : List Nat} (h : eget E p = some t) : ∃ i q s, p = i :: q ∧ E[i]? = some (Sl.own s) ∧ s.get q = some t := by
  cases p with
  | nil => cases h
  | cons i q =>
    unfold eget at h
    cases e : E[i]? with
    | none => simp only [e] at h; cases h
    | some sl => cases sl with
      | own s => simp only [e] at h; exact ⟨i, q, s, rfl, e, h⟩
      | no => simp only [e] at h; cases h
      | bor r => simp only [e] at h; cases h
theorem Core.take {p : List Nat} (c : Core K F H ρ E fp) (h : eget E p = some t) :
    ∃ u fp1 fp2, followE H ρ p = some u ∧ Own K F H u t fp1 ∧ Core K F H ρ (eput E p (.con u)) fp2 ∧ fp.Perm (fp1 ++ fp2) := by
  obtain ⟨i, q, s, rfl, ei, hq⟩ := eget_some h
  obtain ⟨f, o, pm⟩ := c.own
  obtain ⟨x, f1, f2, e1, o1, l2, pm1⟩ := o.take (rootS_get c.len ei)
  obtain ⟨u, g1, g2, e2, o2, o3, pm2⟩ := Own.takeP q o1 hq
  obtain ⟨y, ey⟩ := c.set i s ei
  have hx : x = y := by
    unfold rootV at e1
    rw [List.getElem?_map, ey] at e1
    simpa using e1.symm
  subst hx
  have hi : i < (rootS ρ E).length := (List.getElem?_eq_some_iff.mp (rootS_get c.len ei)).1
  obtain ⟨fr, l3, pm3⟩ := l2.put (i := i) (v := x) (by rw [List.getElem?_set_self hi]) o3
  rw [List.set_set] at l3
  refine ⟨u, g1, fr, by simp only [followE, ey]; exact e2, o2, ⟨by rw [eput_len]; exact c.len, ⟨fr, ?_, List.Perm.refl _⟩, fun j w hj => ?_⟩, ?_⟩
  · simp only [eput, ei]
    rw [rootS_set c.len]
    exact l3
  · simp only [eput, ei] at hj
    by_cases ij : i = j
    · subst ij; exact ⟨x, ey⟩
    · rw [List.getElem?_set_ne ij] at hj
      exact c.set j w hj
  · exact pm.trans ((pm1.trans (List.Perm.append_right f2 pm2)).trans (by rw [List.append_assoc]; exact List.Perm.append_left g1 pm3.symm))
theorem Core.put {p : List Nat} (c : Core K F H ρ E fp) (h : eget E p = some (.con u)) (q : Own K F H u t fq) : Core K F H ρ (eput E p t) (fq ++ fp) := by
  obtain ⟨i, r, s, rfl, ei, hq⟩ := eget_some h
  obtain ⟨f, o, pm⟩ := c.own
  obtain ⟨x, f1, f2, e1, o1, l2, pm1⟩ := o.take (rootS_get c.len ei)
  obtain ⟨g, o2, pm2⟩ := Own.putP r o1 hq q
  have hi : i < (rootS ρ E).length := (List.getElem?_eq_some_iff.mp (rootS_get c.len ei)).1
  obtain ⟨fr, l3, pm3⟩ := l2.put (i := i) (v := x) (by rw [List.getElem?_set_self hi]) o2
  rw [List.set_set] at l3
  refine ⟨by rw [eput_len]; exact c.len, ⟨fr, ?_, ?_⟩, fun j w hj => ?_⟩
  · simp only [eput, ei]
    rw [rootS_set c.len]
    exact l3
  · refine (List.Perm.append_left fq (pm.trans pm1)).trans ?_
    rw [← List.append_assoc]
    exact (List.Perm.append_right f2 pm2.symm).trans pm3.symm
  · simp only [eput, ei] at hj
    by_cases ij : i = j
    · subst ij; exact c.set i s ei
    · rw [List.getElem?_set_ne ij] at hj
      exact c.set j w hj
theorem Core.follow_keep {p : List Nat} (c : Core K F H ρ E fp) (kf : ∀ b o, F b = some o → H' b = some o) (h : eget E p = some t) (k : ∀ a ∈ fp, ∀ o, H a = some o → H' a = some o) : followE H' ρ p = followE H ρ p := by
  obtain ⟨i, q, s, rfl, ei, hq⟩ := eget_some h
  obtain ⟨f, o, pm⟩ := c.own
  obtain ⟨x, f1, f2, e1, o1, l2, pm1⟩ := o.take (rootS_get c.len ei)
  obtain ⟨y, ey⟩ := c.set i s ei
  have hx : x = y := by
    unfold rootV at e1
    rw [List.getElem?_map, ey] at e1
    simpa using e1.symm
  subst hx
  simp only [followE, ey]
  exact o1.follow_keep kf q hq fun a m => k a (pm.mem_iff.mpr (pm1.mem_iff.mpr (List.mem_append_left _ m)))
/-! laws of the places -/
theorem eget_eput {p : List Nat} (h : eget E p = some s) : eget (eput E p t) p = some t := by
  obtain ⟨i, q, w, rfl, ei, hq⟩ := eget_some h
  have hi : i < E.length := (List.getElem?_eq_some_iff.mp ei).1
  simp only [eput, ei, eget, List.getElem?_set_self hi]
  exact S.get_put q w t s hq
theorem eput_eput {p : List Nat} {a b : S} : eput (eput E p a) p b = eput E p b := by
  cases p with
  | nil => rfl
  | cons i q =>
    cases e : E[i]? with
    | none => simp only [eput, e]
    | some sl => cases sl with
      | own s =>
        have hi : i < E.length := (List.getElem?_eq_some_iff.mp e).1
        simp only [eput, e, List.getElem?_set_self hi, List.set_set, S.put_put]
      | no => simp only [eput, e]
      | bor r => simp only [eput, e]
theorem eget_apart {p q : List Nat} (h : apart p q = true) : eget (eput E p t) q = eget E q := by
  cases p with
  | nil => simp [apart] at h
  | cons i p => cases q with
    | nil => simp [apart] at h
    | cons j q =>
      simp only [eput]
      split
      · next s hs =>
        have hi : i < E.length := (List.getElem?_eq_some_iff.mp hs).1
        by_cases ij : i = j
        · subst ij
          simp only [apart, bne_self_eq_false, Bool.false_or] at h
          simp only [eget, List.getElem?_set_self hi, hs]
          exact S.get_put_apart p q s t h
        · simp only [eget, List.getElem?_set_ne ij]
      · rfl
theorem eput_comm {p q : List Nat} {a b : S} (h : apart p q = true) : eput (eput E p a) q b = eput (eput E q b) p a := by
  cases p with
  | nil => simp [apart] at h
  | cons i p => cases q with
    | nil => simp [apart] at h
    | cons j q =>
      by_cases ij : i = j
      · subst ij
        simp only [apart, bne_self_eq_false, Bool.false_or] at h
        cases e : E[i]? with
        | none => simp only [eput, e]
        | some sl => cases sl with
          | own s =>
            have hi : i < E.length := (List.getElem?_eq_some_iff.mp e).1
            simp only [eput, e, List.getElem?_set_self hi, List.set_set, S.put_comm p q s a b h]
          | no => simp only [eput, e]
          | bor r => simp only [eput, e]
      · have ji : j ≠ i := fun z => ij z.symm
        cases e : E[i]? with
        | none => cases e2 : E[j]? with
          | none => simp only [eput, e, e2]
          | some sl => cases sl <;> simp only [eput, e, e2, List.getElem?_set_ne ij, List.getElem?_set_ne ji]
        | some sl => cases sl with
          | own s => cases e2 : E[j]? with
            | none => simp only [eput, e, e2, List.getElem?_set_ne ij, List.getElem?_set_ne ji]
            | some sl2 => cases sl2 <;> simp only [eput, e, e2, List.getElem?_set_ne ij, List.getElem?_set_ne ji] <;> rw [List.set_comm _ _ ij]
          | no => cases e2 : E[j]? with
            | none => simp only [eput, e, e2]
            | some sl2 => cases sl2 <;> simp only [eput, e, e2, List.getElem?_set_ne ij, List.getElem?_set_ne ji]
          | bor r => cases e2 : E[j]? with
            | none => simp only [eput, e, e2]
            | some sl2 => cases sl2 <;> simp only [eput, e, e2, List.getElem?_set_ne ij, List.getElem?_set_ne ji]
theorem ekill_get (p q : List Nat) : eget (ekill E p) q = eget E q := by
  cases q with
  | nil => rfl
  | cons i q =>
    simp only [eget, ekill, List.getElem?_map]
    cases e : E[i]? with
    | none => rfl
    | some sl => cases sl with
      | no => rfl
      | own s => rfl
      | bor r =>
        simp only [Option.map_some, kill1]
        split <;> first | rfl | (split at * <;> simp_all)
theorem rootS_kill (p : List Nat) : ∀ (ρ : Ro) (E : En), rootS ρ (ekill E p) = rootS ρ E
  | [], _ => by simp [rootS]
  | _ :: _, [] => rfl
  | v :: ρ, e :: E => by
    have ih := rootS_kill p ρ E
    unfold ekill at ih
    simp only [ekill, List.map_cons, rootS, ih]
    congr 1
    cases e with
    | no => rfl
    | own s => rfl
    | bor r => simp only [kill1]; split <;> rfl
theorem Core.kill (c : Core K F H ρ E fp) (p : List Nat) : Core K F H ρ (ekill E p) fp := by
  refine ⟨by unfold ekill; rw [List.length_map]; exact c.len, by rw [rootS_kill]; exact c.own, fun i s h => ?_⟩
  unfold ekill at h
  rw [List.getElem?_map] at h
  cases e : E[i]? with
  | none => rw [e] at h; cases h
  | some sl =>
    rw [e] at h
    cases sl with
    | no => cases h
    | own w => cases h; exact c.set i _ e
    | bor r =>
      simp only [Option.map_some, kill1, Option.some.injEq] at h
      split at h <;> cases h
end Mv
/-! What an environment is in a heap; what grows; what an expression, a statement comes to -/
namespace Mv
open PySem PySem.Spec PyProof.Rows L2
variable {K : PySem.W.Frag} {F F' F1 F2 H H' H1 H2 : Hp} {v u : V} {vs : List V} {s t : S} {ss : List S} {fp fq fr fp' fp1 fp2 : List Addr} {ρ : Ro} {E E' : En}

theorem apart_or : ∀ (p q : List Nat), within p q = false → p = q ∨ apart p q = true ∨ within q p = true
  | [], [], _ => .inl rfl
  | [], j :: q, h => by simp [within] at h
  | i :: p, [], _ => .inr (.inr (by simp [within]))
  | i :: p, j :: q, h => by
    by_cases ij : i = j
    · subst ij
      have h' : within p q = false := by simpa [within] using h
      rcases apart_or p q h' with e | e | e
      · exact .inl (by rw [e])
      · exact .inr (.inl (by simp [apart, e]))
      · exact .inr (.inr (by simpa [within] using e))
    · exact .inr (.inl (by simp [apart, ij]))
theorem S.get_put_above : ∀ (q p : List Nat) (s t u : S), within q p = true → s.get p = some u → ((s.put p t).get q).isSome = true
  | [], p, s, t, u, _, _ => by rw [S.get_nil]; rfl
  | j :: q, [], s, t, u, h, _ => by simp [within] at h
  | j :: q, i :: p, s, t, u, h, hg => by
    rw [S.get_cons] at hg
    cases e : s.kids[i]? with
    | none => rw [e] at hg; cases hg
    | some w =>
      rw [e] at hg
      have hi := (List.getElem?_eq_some_iff.mp e).1
      have ij : j = i := by
        simp only [within, List.isPrefixOf, Bool.and_eq_true, beq_iff_eq] at h
        exact h.1.1
      subst ij
      have h' : within q p = true := by simpa [within] using h
      rw [S.put_cons, S.get_cons]
      simp only [e, S.kids_setKid, List.getElem?_set_self hi]
      exact S.get_put_above q p w t u h' hg
theorem eget_above {u : S} {q p : List Nat} (q0 : q ≠ []) (h : within q p = true) (hg : eget E p = some u) : (eget (eput E p t) q).isSome = true := by
  obtain ⟨i, r, s, rfl, ei, hr⟩ := eget_some hg
  cases q with
  | nil => exact absurd rfl q0
  | cons j q =>
    have ij : j = i := by
      simp only [within, List.isPrefixOf, Bool.and_eq_true, beq_iff_eq] at h
      exact h.1.1
    subst ij
    have h' : within q r = true := by simpa [within] using h
    have hi : j < E.length := (List.getElem?_eq_some_iff.mp ei).1
    simp only [eput, ei, eget, List.getElem?_set_self hi]
    exact S.get_put_above q r s t u h' hr

structure Rep (K : PySem.W.Frag) (F H : Hp) (ρ : Ro) (E : En) (fp : List Addr) : Prop where
  core : Core K F H ρ E fp
  sub : ∀ a o, F a = some o → H a = some o
  nd : fp.Nodup
  off : ∀ a ∈ fp, F a = none
  bor : ∀ (i : Nat) (p : List Nat), E[i]? = some (Sl.bor p) → ∃ v, ρ[i]? = some (some v) ∧ followE H ρ p = some v ∧ (eget E p).isSome = true

/-- from (F, H), of which fp is ours, to (F', H'), of which fp' is ours -/
structure Grow (F H : Hp) (fp : List Addr) (F' H' : Hp) (fp' : List Addr) : Prop where
  f : ∀ a o, F a = some o → F' a = some o
  sub : ∀ a o, F' a = some o → H' a = some o
  keep : ∀ a o, H a = some o → a ∉ fp → H' a = some o
  new : ∀ a ∈ fp', a ∈ fp ∨ H a = none
  off : ∀ a, H a ≠ none → a ∉ fp → F a = none → F' a = none
theorem Grow.refl (sub : ∀ a o, F a = some o → H a = some o) (fp : List Addr) : Grow F H fp F H fp := ⟨fun _ _ h => h, sub, fun _ _ h _ => h, fun _ m => .inl m, fun _ _ _ h => h⟩
theorem Grow.trans (g : Grow F H fp F1 H1 fp1) (h : Grow F1 H1 fp1 F2 H2 fp2) : Grow F H fp F2 H2 fp2 := by
  have out : ∀ a, H a ≠ none → a ∉ fp → a ∉ fp1 := fun a h0 n m => (g.new a m).elim n h0
  refine ⟨fun a o e => h.f a o (g.f a o e), h.sub, fun a o e n => h.keep a o (g.keep a o e n) (out a (by rw [e]; exact fun z => nomatch z) n), fun a m => ?_, fun a h0 n e => ?_⟩
  · rcases h.new a m with q | q
    · exact g.new a q
    · by_cases n : a ∈ fp
      · exact .inl n
      · refine .inr ?_
        cases e : H a with
        | none => rfl
        | some o => rw [g.keep a o e n] at q; cases q
  · obtain ⟨o, eo⟩ := Option.ne_none_iff_exists'.mp h0
    exact h.off a (by rw [g.keep a o eo n]; exact fun z => nomatch z) (out a h0 n) (g.off a h0 n e)
/-- more is ours -/
theorem Grow.wide (g : Grow F H fp F' H' fp') (h1 : ∀ a ∈ fp, a ∈ fq) (h2 : ∀ a ∈ fr, a ∈ fq ∨ H a = none) : Grow F H fq F' H' fr :=
  ⟨g.f, g.sub, fun a o e n => g.keep a o e fun m => n (h1 a m), h2, fun a h0 n e => g.off a h0 (fun m => n (h1 a m)) e⟩
theorem Grow.less (g : Grow F H fp F' H' fp') (h2 : ∀ a ∈ fr, a ∈ fp') : Grow F H fp F' H' fr := ⟨g.f, g.sub, g.keep, fun a m => g.new a (h2 a m), g.off⟩
/-- one new object -/
theorem Grow.alloc (sub : ∀ a o, F a = some o → H a = some o) {p : Addr} {o : HO} (hp : H p = none) : Grow F H [] F (upd H p o) [p] := by
  refine ⟨fun _ _ h => h, fun a u e => ?_, fun a u e _ => ?_, fun a m => .inr (by rw [List.mem_singleton.mp m]; exact hp), fun _ _ _ h => h⟩
  · rw [upd_ne (ne_of_none (sub a u e) hp)]; exact sub a u e
  · rw [upd_ne (ne_of_none e hp)]; exact e
/-- one new object, shared from the start -/
theorem Grow.share (sub : ∀ a o, F a = some o → H a = some o) {p : Addr} {o : HO} (hp : H p = none) : Grow F H [] (upd F p o) (upd H p o) [] := by
  have hf : F p = none := by
    cases e : F p with
    | none => rfl
    | some u => rw [sub p u e] at hp; cases hp
  refine ⟨fun a u e => ?_, fun a u e => ?_, fun a u e _ => ?_, (fun _ m => nomatch m), fun a h0 _ e => ?_⟩
  · rw [upd_ne (ne_of_none e hf)]; exact e
  · by_cases ap : a = p
    · subst ap; rw [upd_same] at e ⊢; exact e
    · rw [upd_ne ap] at e ⊢; exact sub a u e
  · rw [upd_ne (ne_of_none e hp)]; exact e
  · rw [upd_ne (fun z => h0 (by rw [z]; exact hp))]; exact e

theorem Rep.there (r : Rep K F H ρ E fp) : ∀ a ∈ fp, ∃ o, H a = some o := r.core.there
/-- all that was goes on while none of ours is touched -/
theorem Rep.grow (r : Rep K F H ρ E fp) (g : Grow F H [] F' H' fr) : Rep K F' H' ρ E fp := by
  have k : ∀ a ∈ fp, ∀ o, H a = some o → H' a = some o := fun a _ o e => g.keep a o e (fun m => nomatch m)
  refine ⟨r.core.frame g.f g.sub k, g.sub, r.nd, fun a m => ?_, fun i p h => ?_⟩
  · obtain ⟨o, e⟩ := r.there a m
    exact g.off a (by rw [e]; exact fun z => nomatch z) (fun m => nomatch m) (r.off a m)
  · obtain ⟨v, h1, h2, h3⟩ := r.bor i p h
    obtain ⟨t, ht⟩ := Option.isSome_iff_exists.mp h3
    exact ⟨v, h1, by rw [r.core.follow_keep (fun b o e => g.sub b o (g.f b o e)) ht k]; exact h2, h3⟩
/-- the like, where something else of ours changed -/
theorem Own.grow (o : Own K F H v s fq) (g : Grow F H fp F' H' fp') (d : ∀ a ∈ fq, a ∉ fp) : Own K F' H' v s fq := o.frame g.f g.sub fun a m u e => g.keep a u e (d a m)

/-- THE PLACE p, apart from all else; what is put there goes with all else (X: what else of ours may change, Y: what else becomes ours) -/
theorem Rep.focus2 {p : List Nat} (r : Rep K F H ρ E fp) (h : eget E p = some t) :
    ∃ u fp1 fp2, followE H ρ p = some u ∧ Own K F H u t fp1 ∧ fp.Perm (fp1 ++ fp2) ∧
      ∀ F' H' t' fq X Y, Grow F H (X ++ fp1) F' H' (Y ++ fq) → (∀ a ∈ X, a ∉ fp) → Own K F' H' u t' fq → (Y ++ fq).Nodup → (∀ a ∈ fq, F' a = none) →
        Rep K F' H' ρ (ekill (eput E p t') p) (fq ++ fp2) ∧ (Y ++ (fq ++ fp2)).Nodup ∧ Grow F H (X ++ fp) F' H' (Y ++ (fq ++ fp2)) := by
  obtain ⟨u, fp1, fp2, h1, h2, c, pm⟩ := r.core.take h
  have nd : (fp1 ++ fp2).Nodup := pm.nodup_iff.mp r.nd
  have in1 : ∀ a ∈ fp1, a ∈ fp := fun a m => pm.mem_iff.mpr (List.mem_append_left _ m)
  have in2 : ∀ a ∈ fp2, a ∈ fp := fun a m => pm.mem_iff.mpr (List.mem_append_right _ m)
  refine ⟨u, fp1, fp2, h1, h2, pm, fun F' H' t' fq X Y g dX o n off => ?_⟩
  have dj : ∀ a ∈ fp2, a ∉ X ++ fp1 := fun a m2 m1 => by
    rcases List.mem_append.mp m1 with m | m
    · exact dX a m (in2 a m2)
    · exact (List.nodup_append.mp nd).2.2 a m a m2 rfl
  have k : ∀ a ∈ fp2, ∀ o, H a = some o → H' a = some o := fun a m o e => g.keep a o e (dj a m)
  have c1 : Core K F' H' ρ (eput E p (.con u)) fp2 := c.frame g.f g.sub k
  have c2 : Core K F' H' ρ (eput E p t') (fq ++ fp2) := by
    have := c1.put (eget_eput h) o
    rw [eput_eput] at this
    exact this
  have there2 : ∀ a ∈ fp2, ∃ o, H a = some o := fun a m => r.there a (in2 a m)
  have notnew : ∀ a ∈ fp2, a ∉ Y ++ fq := fun a m m2 => by
    obtain ⟨o, eo⟩ := there2 a m
    rcases g.new a m2 with z | z
    · exact dj a m z
    · rw [eo] at z; cases z
  have ndq : (fq ++ fp2).Nodup := List.nodup_append.mpr ⟨(List.nodup_append.mp n).2.1, (List.nodup_append.mp nd).2.1, fun a m b m2 e => by
    subst e; exact notnew a m2 (List.mem_append_right _ m)⟩
  refine ⟨⟨c2.kill p, g.sub, ndq, fun a m => ?_, fun i q hb => ?_⟩, ?_, ?_⟩
  · rcases List.mem_append.mp m with m | m
    · exact off a m
    · obtain ⟨o, eo⟩ := there2 a m
      exact g.off a (by rw [eo]; exact fun z => nomatch z) (dj a m) (r.off a (in2 a m))
  · -- what is borrowed
    have hb' : E[i]? = some (Sl.bor q) ∧ within p q = false := by
      unfold ekill at hb
      rw [List.getElem?_map] at hb
      cases e : (eput E p t')[i]? with
      | none => rw [e] at hb; cases hb
      | some sl =>
        rw [e] at hb
        cases sl with
        | no => cases hb
        | own w => cases hb
        | bor w =>
          simp only [Option.map_some, kill1, Option.some.injEq] at hb
          have hw : within p w = false ∧ w = q := by
            cases hh : within p w with
            | true => rw [hh] at hb; simp at hb
            | false => rw [hh] at hb; simp at hb; exact ⟨rfl, hb⟩
          obtain ⟨hw1, rfl⟩ := hw
          refine ⟨?_, hw1⟩
          obtain ⟨j, r', s', rfl, ej, _⟩ := eget_some h
          simp only [eput, ej] at e
          by_cases ij : j = i
          · subst ij
            have hj := (List.getElem?_eq_some_iff.mp ej).1
            rw [List.getElem?_set_self hj] at e
            cases e
          · rw [List.getElem?_set_ne ij] at e
            exact e
    obtain ⟨hb', hw⟩ := hb'
    obtain ⟨v, e1, e2, e3⟩ := r.bor i q hb'
    obtain ⟨w, ew⟩ := Option.isSome_iff_exists.mp e3
    refine ⟨v, e1, ?_, ?_⟩
    · have : ∃ w', eget (eput E p (.con u)) q = some w' := by
        rcases apart_or p q hw with e | e | e
        · subst e; exact ⟨_, eget_eput h⟩
        · exact ⟨w, by rw [eget_apart e]; exact ew⟩
        · have q0 : q ≠ [] := fun z => by rw [z] at ew; cases ew
          exact Option.isSome_iff_exists.mp (eget_above q0 e h)
      obtain ⟨w', ew'⟩ := this
      rw [c.follow_keep (fun b o e => g.sub b o (g.f b o e)) ew' k]; exact e2
    · rw [ekill_get]
      rcases apart_or p q hw with e | e | e
      · subst e; rw [eget_eput h]; rfl
      · rw [eget_apart e]; exact e3
      · have q0 : q ≠ [] := fun z => by rw [z] at ew; cases ew
        exact eget_above q0 e h
  · exact List.nodup_append.mpr ⟨(List.nodup_append.mp n).1, ndq, fun a m b m2 e => by
      subst e
      rcases List.mem_append.mp m2 with m2 | m2
      · exact (List.nodup_append.mp n).2.2 a m a m2 rfl
      · exact notnew a m2 (List.mem_append_left _ m)⟩
  · refine g.wide (fun a m => ?_) fun a m => ?_
    · rcases List.mem_append.mp m with m | m
      · exact List.mem_append_left _ m
      · exact List.mem_append_right _ (in1 a m)
    · rcases List.mem_append.mp m with m | m
      · rcases g.new a (List.mem_append_left _ m) with z | z
        · exact .inl (List.mem_append.mpr ((List.mem_append.mp z).imp id (in1 a)))
        · exact .inr z
      · rcases List.mem_append.mp m with m | m
        · rcases g.new a (List.mem_append_right _ m) with z | z
          · exact .inl (List.mem_append.mpr ((List.mem_append.mp z).imp id (in1 a)))
          · exact .inr z
        · exact .inl (List.mem_append_right _ (in2 a m))
end Mv
/-! Expressions that change nothing -/
namespace Mv
open PySem PySem.Spec PyProof.Rows L2
variable {K : PySem.W.Frag} {F F' F1 F2 H H' H1 H2 : Hp} {v u x y : V} {vs : List V} {s t : S} {ss : List S} {fp fq fr fp' fp1 fp2 f1 f2 : List Addr} {ρ as : Ro} {E E' : En} {n : Nat}

mutual
def S.toD : S → Option PyData
  | .dat d => some d
  | .lst xs => (S.toDs xs).map .list
  | _ => none
def S.toDs : List S → Option (List PyData)
  | [] => some []
  | s :: ss => match S.toD s, S.toDs ss with
    | some d, some ds => some (d :: ds)
    | _, _ => none
end
mutual
theorem Own.dp (sub : ∀ a o, F a = some o → H a = some o) : ∀ (s : S) {v : V} {fp : List Addr} {d : PyData}, Own K F H v s fp → s.toD = some d → Dq K H v d
  | .dat d, v, fp, d', o, e => by
    simp only [S.toD, Option.some.injEq] at e
    subst e
    exact Dq.mono sub (o.dat_inv rfl).1
  | .lst xs, v, fp, d', o, e => by
    simp only [S.toD, Option.map_eq_some_iff] at e
    obtain ⟨ds, e, rfl⟩ := e
    cases o with
    | @node a ob _ ex fq h hd l =>
      cases ob with
      | lst vs => exact .lst (.inl (.inl h)) (Own.dps sub xs l e)
      | frz o u => cases u <;> exact hd.elim
      | _ => exact hd.elim
  | .con _, _, _, _, _, e => by simp [S.toD] at e
  | .dct _ _, _, _, _, _, e => by simp [S.toD] at e
  | .ins _ _, _, _, _, _, e => by simp [S.toD] at e
theorem Own.dps (sub : ∀ a o, F a = some o → H a = some o) : ∀ (ss : List S) {vs : List V} {fp : List Addr} {ds : List PyData}, OwnL K F H vs ss fp → S.toDs ss = some ds → DqAll K H vs ds
  | [], vs, fp, ds, o, e => by
    simp only [S.toDs, Option.some.injEq] at e
    subst e
    cases o
    exact .nil
  | s :: ss, vs, fp, ds, o, e => by
    cases o with
    | cons a l =>
      simp only [S.toDs] at e
      split at e
      · next d ds' e1 e2 =>
        cases e
        exact .cons (Own.dp sub s a e1) (Own.dps sub ss l e2)
      · cases e
end

inductive Rs where
  | val (s : S)
  | pl (p : List Nat)
def RsAt (K : PySem.W.Frag) (F H : Hp) (ρ : Ro) (E : En) (v : V) : Rs → List Addr → Prop
  | .val s, fr => Own K F H v s fr
  | .pl p, fr => fr = [] ∧ followE H ρ p = some v ∧ (eget E p).isSome = true
def Rs.full (E : En) : Rs → Option PyData
  | .val s => s.toD
  | .pl p => (eget E p).bind S.toD
/-- what it is, whole -/
def Rs.at (E : En) : Rs → Option S
  | .val s => some s
  | .pl p => eget E p
theorem Rs.full_at {r : Rs} : r.full E = (r.at E).bind S.toD := by cases r <;> rfl
theorem Grow.seq0 (g : Grow F H [] F1 H1 f1) (h : Grow F1 H1 [] F2 H2 f2) : Grow F H [] F2 H2 (f1 ++ f2) := by
  have g' := g.less (fr := []) (fun _ m => nomatch m)
  have gh := g'.trans h
  refine ⟨gh.f, gh.sub, gh.keep, fun a m => ?_, gh.off⟩
  rcases List.mem_append.mp m with m | m
  · exact g.new a m
  · exact gh.new a m
theorem Grow.drop (g : Grow F H [] F1 H1 f1) : Grow F H [] F1 H1 [] := g.less fun _ m => nomatch m
theorem RsAt.grow {r : Rs} (R : Rep K F H ρ E fp) (a : RsAt K F H ρ E v r fr) (g : Grow F H [] F' H' f1) : RsAt K F' H' ρ E v r fr := by
  cases r with
  | val s => exact Own.grow (show Own K F H v s fr from a) g (fun _ _ m => nomatch m)
  | pl p =>
    obtain ⟨a1, a2, a3⟩ := a
    obtain ⟨t, ht⟩ := Option.isSome_iff_exists.mp a3
    exact ⟨a1, by rw [R.core.follow_keep (fun b o e => g.sub b o (g.f b o e)) ht fun a _ o e => g.keep a o e (fun m => nomatch m)]; exact a2, a3⟩
/-- the whole of it, laid somewhere -/
theorem RsAt.own {r : Rs} (R : Rep K F H ρ E fp) (a : RsAt K F H ρ E v r fr) (h : r.at E = some s) : ∃ fq, Own K F H v s fq := by
  cases r with
  | val t =>
    cases h
    exact ⟨fr, a⟩
  | pl p =>
    obtain ⟨a1, a2, a3⟩ := a
    obtain ⟨u, f1, f2, e1, o, _⟩ := R.core.take (show eget E p = some s from h)
    rw [a2] at e1
    cases e1
    exact ⟨f1, o⟩
theorem RsAt.dp {r : Rs} {d : PyData} (R : Rep K F H ρ E fp) (a : RsAt K F H ρ E v r fr) (h : r.full E = some d) : Dq K H v d := by
  rw [Rs.full_at] at h
  obtain ⟨s, hs, hd⟩ := Option.bind_eq_some_iff.mp h
  obtain ⟨fq, o⟩ := a.own R hs
  exact Own.dp R.sub s o hd

/-- what an expression comes to, nothing of ours changed -/
def EvP (K : PySem.W.Frag) (n : Nat) (as : Ro) (te : TE) (d : En → Option Rs) : Prop :=
  ∀ {F H : Hp} {σ : L2.St} {E : En} {fp : List Addr}, σ.length = n → Rep K F H (σ ++ as) E fp → ∀ {r : Rs}, d E = some r → ∀ {Q : VK},
    (∀ v F' H' fr, Grow F H [] F' H' fr → RsAt K F' H' (σ ++ as) E v r fr → fr.Nodup → (∀ a ∈ fr, F' a = none) → Q v H') → te σ H Q
def EvT (K : PySem.W.Frag) (n : Nat) (as : Ro) (tt : TT) (d : En → Option Bool) : Prop :=
  ∀ {F H : Hp} {σ : L2.St} {E : En} {fp : List Addr}, σ.length = n → Rep K F H (σ ++ as) E fp → ∀ {b : Bool}, d E = some b → ∀ {Q : Bool → Hp → Prop},
    (∀ F' H', Grow F H [] F' H' [] → Q b H') → tt σ H Q
/-- several, from the left -/
inductive RsAll (K : PySem.W.Frag) (F H : Hp) (ρ : Ro) (E : En) : List V → List Rs → List Addr → Prop
  | nil : RsAll K F H ρ E [] [] []
  | cons {v : V} {vs : List V} {r : Rs} {rs : List Rs} {f g : List Addr} : RsAt K F H ρ E v r f → RsAll K F H ρ E vs rs g → RsAll K F H ρ E (v :: vs) (r :: rs) (f ++ g)
def EvA (K : PySem.W.Frag) (n : Nat) (as : Ro) (ta : TA) (d : En → Option (List Rs)) : Prop :=
  ∀ {F H : Hp} {σ : L2.St} {E : En} {fp : List Addr}, σ.length = n → Rep K F H (σ ++ as) E fp → ∀ {rs : List Rs}, d E = some rs → ∀ {Q : List V → Hp → Prop},
    (∀ vs F' H' fr, Grow F H [] F' H' fr → RsAll K F' H' (σ ++ as) E vs rs fr → fr.Nodup → (∀ a ∈ fr, F' a = none) → Q vs H') → ta σ H Q
theorem Own.fresh (o : RsAt K F H ρ E v r fr) (g : Grow F H [] F1 H1 f1) (z : ∀ a ∈ fr, ∃ o, H a = some o) : ∀ a ∈ fr, ∀ b ∈ f1, a ≠ b := fun a m b m1 e => by
  subst e
  obtain ⟨o, eo⟩ := z a m
  rcases g.new a m1 with q | q
  · cases q
  · rw [eo] at q; cases q
theorem RsAt.there {r : Rs} (a : RsAt K F H ρ E v r fr) : ∀ b ∈ fr, ∃ o, H b = some o := by
  cases r with
  | val s => exact Own.there (show Own K F H v s fr from a)
  | pl p =>
    obtain ⟨a1, _⟩ := a
    subst a1
    exact fun _ m => nomatch m
theorem nodup_two (n1 : f1.Nodup) (n2 : f2.Nodup) (d : ∀ a ∈ f1, ∀ b ∈ f2, a ≠ b) : (f1 ++ f2).Nodup := List.nodup_append.mpr ⟨n1, n2, d⟩

/-! ### data without parts -/
def isSc : PyData → Bool
  | .none => true | .bool _ => true | .int _ => true | .str _ => true
  | _ => false
def scV : PyData → V
  | .bool b => .bl b | .int i => .int i | .str x => .str x
  | _ => .non
theorem scV_dp {d : PyData} (h : isSc d = true) : Dq K F (scV d) d := by
  cases d with
  | none => exact .non
  | bool b => exact .bl b
  | int i => exact .int i
  | str x => exact .str x
  | _ => cases h
theorem Dq.sc {d : PyData} (h : Dq K F v d) (s : isSc d = true) : v = scV d := by
  cases h <;> first | rfl | cases s


/-! what the parts come to -/
def dVar (i : Nat) (E : En) : Option Rs := match E[i]? with
  | some (.own (.dat d)) => some (.val (.dat d))
  | some (.own (.con v)) => some (.val (.con v))
  | some (.own s) => some (.pl [i])
  | some (.bor p) => some (.pl p)
  | _ => none
def dC (d : PyData) (_ : En) : Option Rs := some (.val (.dat d))
def dCon (v : V) (_ : En) : Option Rs := some (.val (.con v))
def dOp (f : PyData → PyData → Option PyData) (da db : En → Option Rs) (E : En) : Option Rs := match da E, db E with
  | some a, some b => match a.full E, b.full E with
    | some a, some b => (f a b).map fun c => .val (.dat c)
    | _, _ => none
  | _, _ => none
def dTest (d : En → Option Rs) (E : En) : Option Bool := match d E with
  | some (.val (.dat (.bool b))) => some b
  | _ => none
def dAnd (dt du : En → Option Bool) (E : En) : Option Bool := match dt E with
  | some true => du E
  | o => o
def dOr (dt du : En → Option Bool) (E : En) : Option Bool := match dt E with
  | some false => du E
  | o => o
def dNot (dt : En → Option Bool) (E : En) : Option Bool := (dt E).map (!·)
def dIfE (dt : En → Option Bool) (da db : En → Option Rs) (E : En) : Option Rs := match dt E with
  | some true => da E
  | some false => db E
  | none => none
def dNil (_ : En) : Option (List Rs) := some []
def dCons (da : En → Option Rs) (dr : En → Option (List Rs)) (E : En) : Option (List Rs) := match da E, dr E with
  | some a, some r => some (a :: r)
  | _, _ => none

section
variable {te ta tb : TE} {d da db : En → Option Rs}
theorem p_var {i : Nat} (hi : i < n) : EvP K n as (tVar i) (dVar i) := by
  intro F H σ E fp L R r e Q q
  unfold dVar at e
  have main : ∀ v, (σ ++ as)[i]? = some (some v) → σ[i]? = some (some v) := fun v h => by rwa [List.getElem?_append_left (by omega)] at h
  cases he : E[i]? with
  | none => rw [he] at e; cases e
  | some sl =>
    rw [he] at e
    cases sl with
    | no => cases e
    | bor p =>
      cases e
      obtain ⟨v, h1, h2, h3⟩ := R.bor i p he
      exact ⟨v, main v h1, q v F H [] (.refl R.sub []) ⟨rfl, h2, h3⟩ List.nodup_nil (fun _ m => nomatch m)⟩
    | own s =>
      obtain ⟨v, h1⟩ := R.core.set i s he
      have g : eget E [i] = some s := by simp only [eget, he, S.get_nil]
      obtain ⟨u, g1, g2, e1, o, c, _⟩ := R.core.take g
      have eu : u = v := by simp only [followE, h1, follow_nil] at e1; exact (Option.some.inj e1).symm
      subst eu
      have pl : some (Rs.pl [i]) = some r → Q u H := fun e' => by
        have e2 := Option.some.inj e'
        subst e2
        exact q u F H [] (.refl R.sub []) ⟨rfl, e1, by rw [g]; rfl⟩ List.nodup_nil (fun _ m => nomatch m)
      refine ⟨u, main u h1, ?_⟩
      cases s with
      | dat d =>
        cases e
        exact q u F H [] (.refl R.sub []) (.dat (o.dat_inv rfl).1) List.nodup_nil (fun _ m => nomatch m)
      | con w =>
        cases e
        obtain ⟨rfl, _⟩ := o.con_inv rfl
        exact q u F H [] (.refl R.sub []) .con List.nodup_nil (fun _ m => nomatch m)
      | lst _ => exact pl e
      | dct _ _ => exact pl e
      | ins _ _ => exact pl e
theorem p_c {d : PyData} (h : isSc d = true := by rfl) : EvP K n as (tC (scV d)) (dC d) := by
  intro F H σ E fp L R r e Q q
  cases e
  exact q _ F H [] (.refl R.sub []) (.dat (scV_dp h)) List.nodup_nil (fun _ m => nomatch m)
theorem p_con : EvP K n as (tC v) (dCon v) := by
  intro F H σ E fp L R r e Q q
  cases e
  exact q _ F H [] (.refl R.sub []) .con List.nodup_nil (fun _ m => nomatch m)
/-- a rule for two values, the answer without parts -/
def Rv2 (K : PySem.W.Frag) (r : R2) (f : PyData → PyData → Option PyData) : Prop :=
  ∀ {H : Hp} {x y : V} {a b c : PyData}, Dq K H x a → Dq K H y b → f a b = some c → ∀ {Q : VK}, (isSc c = true → Q (scV c) H) → r x y H Q
theorem p_op {r : R2} {f : PyData → PyData → Option PyData} (hr : Rv2 K r f) (ha : EvP K n as ta da) (hb : EvP K n as tb db) :
    EvP K n as (tOp r ta tb) (dOp f da db) := by
  intro F H σ E fp L R r' e Q q
  unfold dOp at e
  split at e
  · next a b ea eb =>
    split at e
    · next a' b' ea' eb' =>
      obtain ⟨c, ec, rfl⟩ := Option.map_eq_some_iff.mp e
      refine ha L R ea fun x F1 H1 f1 g1 r1 n1 o1 => hb L (R.grow g1) eb fun y F2 H2 f2 g2 r2 n2 o2 => ?_
      have R2 := (R.grow g1).grow g2
      refine hr ((r1.grow (R.grow g1) g2).dp R2 ea') (r2.dp R2 eb') ec fun hc => ?_
      exact q _ F2 H2 [] ((g1.seq0 g2).drop) (.dat (scV_dp hc)) List.nodup_nil (fun _ m => nomatch m)
    · cases e
  · cases e
theorem p_test (h : EvP K n as te d) : EvT K n as (tTest te) (dTest d) := by
  intro F H σ E fp L R b e Q q
  unfold dTest at e
  split at e
  · next c ed =>
    cases e
    refine h L R ed fun v F1 H1 f1 g1 r1 n1 o1 => ?_
    have := (Own.dat_inv (show Own K F1 H1 v _ f1 from r1) rfl).1
    cases this
    exact ⟨b, rfl, q F1 H1 g1.drop⟩
  · cases e
theorem p_tB (h : EvP K n as te d) : EvT K n as (tB te) (dTest d) := p_test h
variable {tt uu : TT} {dt du : En → Option Bool}
theorem p_and (ht : EvT K n as tt dt) (hu : EvT K n as uu du) : EvT K n as (tAnd tt uu) (dAnd dt du) := by
  intro F H σ E fp L R b e Q q
  unfold dAnd at e
  cases h : dt E with
  | none => rw [h] at e; cases e
  | some c =>
    rw [h] at e
    refine ht L R h fun F1 H1 g1 => ?_
    cases c with
    | true => exact iteT (hu L (R.grow g1) e fun F2 H2 g2 => q F2 H2 (g1.seq0 g2))
    | false =>
      cases e
      exact iteF (q F1 H1 g1)
theorem p_or (ht : EvT K n as tt dt) (hu : EvT K n as uu du) : EvT K n as (tOr tt uu) (dOr dt du) := by
  intro F H σ E fp L R b e Q q
  unfold dOr at e
  cases h : dt E with
  | none => rw [h] at e; cases e
  | some c =>
    rw [h] at e
    refine ht L R h fun F1 H1 g1 => ?_
    cases c with
    | false => exact iteF (hu L (R.grow g1) e fun F2 H2 g2 => q F2 H2 (g1.seq0 g2))
    | true =>
      cases e
      exact iteT (q F1 H1 g1)
theorem p_not (ht : EvT K n as tt dt) : EvT K n as (tNot tt) (dNot dt) := by
  intro F H σ E fp L R b e Q q
  obtain ⟨c, h, rfl⟩ := Option.map_eq_some_iff.mp e
  exact ht L R h fun F1 H1 g1 => q F1 H1 g1
theorem p_ifE (ht : EvT K n as tt dt) (ha : EvP K n as ta da) (hb : EvP K n as tb db) : EvP K n as (tIf tt ta tb) (dIfE dt da db) := by
  intro F H σ E fp L R r e Q q
  unfold dIfE at e
  cases h : dt E with
  | none => rw [h] at e; cases e
  | some c =>
    rw [h] at e
    refine ht L R h fun F1 H1 g1 => ?_
    cases c with
    | true => exact iteT (ha L (R.grow g1) e fun v F2 H2 f2 g2 a2 n2 o2 => q v F2 H2 f2 (g1.seq0 g2) a2 n2 o2)
    | false => exact iteF (hb L (R.grow g1) e fun v F2 H2 f2 g2 a2 n2 o2 => q v F2 H2 f2 (g1.seq0 g2) a2 n2 o2)
/-- arguments -/
theorem p_nil : EvA K n as tNil dNil := by
  intro F H σ E fp L R r e Q q
  cases e
  exact q [] F H [] (.refl R.sub []) .nil List.nodup_nil (fun _ m => nomatch m)
variable {tr : TA} {dr : En → Option (List Rs)}
theorem p_cons (ha : EvP K n as ta da) (hr : EvA K n as tr dr) : EvA K n as (tCons ta tr) (dCons da dr) := by
  intro F H σ E fp L R r e Q q
  unfold dCons at e
  split at e
  · next a r ea er =>
    cases e
    refine ha L R ea fun x F1 H1 f1 g1 r1 n1 o1 => hr L (R.grow g1) er fun xs F2 H2 f2 g2 r2 n2 o2 => ?_
    refine q _ F2 H2 (f1 ++ f2) (g1.seq0 g2) (.cons (r1.grow (R.grow g1) g2) r2) (nodup_two n1 n2 (Own.fresh r1 g2 r1.there)) fun a m => ?_
    rcases List.mem_append.mp m with m | m
    · obtain ⟨o, eo⟩ := r1.there a m
      exact g2.off a (by rw [eo]; exact fun z => nomatch z) (fun z => nomatch z) (o1 a m)
    · exact o2 a m
  · cases e
end
end Mv
/-! More expressions that change nothing: parts of places, displays, calls of built-ins -/
namespace Mv
open PySem PySem.Spec PyProof.Rows L2
variable {K : PySem.W.Frag} {F F' F1 F2 H H' H1 H2 : Hp} {v u x y : V} {vs : List V} {s t : S} {ss : List S} {fp fq fr fp' fp1 fp2 f1 f2 : List Addr} {ρ as : Ro} {E E' : En} {n : Nat}
variable {te ta tb tc : TE} {d da db dc : En → Option Rs} {tr : TA} {dr : En → Option (List Rs)}

theorem DqAll.nth : ∀ {vs : List V} {ds : List PyData} {i : Nat} {d : PyData}, DqAll K F vs ds → ds[i]? = some d → ∃ v, vs[i]? = some v ∧ Dq K F v d
  | _, _, _, _, .nil, e => by simp at e
  | _, _, 0, d, .cons h _, e => by
    simp only [List.getElem?_cons_zero, Option.some.injEq] at e
    subst e
    exact ⟨_, rfl, h⟩
  | _, _, i + 1, d, .cons _ t, e => by
    obtain ⟨v, h1, h2⟩ := DqAll.nth (i := i) t (by simpa using e)
    exact ⟨v, by simpa using h1, h2⟩
theorem DqAll.len : ∀ {vs : List V} {ds : List PyData}, DqAll K F vs ds → vs.length = ds.length
  | _, _, .nil => rfl
  | _, _, .cons _ t => by simp only [List.length_cons, DqAll.len t]
theorem Dq.list_inv {ds : List PyData} (h : Dq K F v (.list ds)) : ∃ a xs, v = .ref a ∧ SqL K F a xs ∧ DqAll K F xs ds := by
  cases h with
  | lst a b => exact ⟨_, _, rfl, a, b⟩
theorem Dq.tuple_inv {ds : List PyData} (h : Dq K F v (.tuple ds)) : ∃ a xs, v = .ref a ∧ SqT K F a xs ∧ DqAll K F xs ds := by
  cases h with
  | tup a b => exact ⟨_, _, rfl, a.sq, b⟩
theorem Dq.tupleQ_inv {ds : List PyData} (h : Dq K F v (.tuple ds)) : ∃ a xs, v = .ref a ∧ TupQ K F a xs ∧ DqAll K F xs ds := by
  cases h with
  | tup a b => exact ⟨_, _, rfl, a, b⟩
theorem Own.lst_inv (o : Own K F H v s fp) (e : s = .lst ss) : ∃ a vs fq, v = .ref a ∧ H a = some (.lst vs) ∧ OwnL K F H vs ss fq ∧ fp = a :: fq := by
  cases o with
  | dat _ => cases e
  | con => cases e
  | @node a ob _ ex fq h hd l =>
    subst e
    cases ob with
    | lst vs =>
      have : ex = [] := hd
      subst this
      exact ⟨a, vs, fq, rfl, h, l, rfl⟩
    | frz o u => cases u <;> exact hd.elim
    | _ => exact hd.elim
  | lck => cases e
theorem ixN_at {n : Nat} {i : Int} {j : Nat} (h : ixN n i = some j) : j < n := (ixN_seq h).2.1
/-- one part of what stands at a result: data itself, else its place -/
def Rs.kid (r : Rs) (j : Nat) (s : S) : Option Rs := match s, r with
  | .dat d, _ => some (.val (.dat d))
  | _, .pl p => some (.pl (p ++ [j]))
  | _, _ => none
theorem followE_snoc {p : List Nat} {a : Addr} {o : HO} {j : Nat} {w : V} (h : followE H ρ p = some (.ref a)) (e : H a = some o) (k : (kidsV o)[j]? = some w) : followE H ρ (p ++ [j]) = some w := by
  have go : ∀ (p : List Nat) (v : V), follow H v p = some (.ref a) → follow H v (p ++ [j]) = some w := by
    intro p
    induction p with
    | nil =>
      intro v h
      rw [follow_nil] at h
      cases h
      rw [List.nil_append, follow_node e k, follow_nil]
    | cons i p ih =>
      intro v h
      cases v with
      | ref b =>
        rw [List.cons_append]
        simp only [follow] at h
        split at h
        · next ob hb =>
          split at h
          · next x hx => rw [follow_node hb hx]; exact ih _ h
          · cases h
        · cases h
      | _ => cases h
  cases p with
  | nil => cases h
  | cons i p =>
    rw [List.cons_append]
    unfold followE at h ⊢
    dsimp only at h ⊢
    split at h
    · exact go p _ h
    · cases h
theorem S.get_snoc {j : Nat} {k : S} : ∀ (p : List Nat) {s t : S}, s.get p = some t → t.kids[j]? = some k → s.get (p ++ [j]) = some k
  | [], s, t, h, e => by
    rw [S.get_nil] at h
    cases h
    rw [List.nil_append, S.get_cons, e]
    exact S.get_nil k
  | i :: p, s, t, h, e => by
    rw [S.get_cons] at h
    rw [List.cons_append, S.get_cons]
    split at h
    · exact S.get_snoc p h e
    · cases h
theorem eget_snoc {p : List Nat} {j : Nat} {k : S} (h : eget E p = some t) (e : t.kids[j]? = some k) : eget E (p ++ [j]) = some k := by
  obtain ⟨i, q, s, rfl, ei, hq⟩ := eget_some h
  simp only [List.cons_append, eget, ei]
  exact S.get_snoc q hq e
/-- a part of an owned node, as a result -/
theorem RsAt.kid {r r' : Rs} {a : Addr} {o : HO} {j : Nat} {w : V} {f : List Addr} (R : Rep K F H ρ E fp) (h : RsAt K F H ρ E (.ref a) r fr) (ea : r.at E = some t) (ho : H a = some o) (hk : (kidsV o)[j]? = some w) (hs : t.kids[j]? = some s) (ow : Own K F H w s f) (e : r.kid j s = some r') :
    RsAt K F H ρ E w r' [] := by
  cases s with
  | dat d =>
    cases r <;> (cases e; exact .dat (ow.dat_inv rfl).1)
  | _ => cases r with
    | val _ => cases e
    | pl p =>
      cases e
      obtain ⟨_, h2, h3⟩ := h
      exact ⟨rfl, followE_snoc h2 ho hk, by rw [eget_snoc ea hs]; rfl⟩
theorem OwnL.nth : ∀ {vs : List V} {ss : List S} {fp : List Addr} {i : Nat} {s : S}, OwnL K F H vs ss fp → ss[i]? = some s → ∃ v f, vs[i]? = some v ∧ Own K F H v s f
  | _, _, _, _, _, .nil, e => by simp at e
  | _, _, _, 0, s, .cons h _, e => by
    simp only [List.getElem?_cons_zero, Option.some.injEq] at e
    subst e
    exact ⟨_, _, rfl, h⟩
  | _, _, _, i + 1, s, .cons _ t, e => by
    obtain ⟨v, f, h1, h2⟩ := OwnL.nth (i := i) t (by simpa using e)
    exact ⟨v, f, by simpa using h1, h2⟩
/-! xs[i] of a list -/
def dIxL (da db : En → Option Rs) (E : En) : Option Rs := match da E, db E with
  | some r, some (.val (.dat (.int i))) => match r.at E with
    | some (.lst ss) => match ixN ss.length i with
      | some j => match ss[j]? with
        | some s => r.kid j s
        | none => none
      | none => none
    | some (.dat (.list ds)) => match ixN ds.length i with
      | some j => (ds[j]?).map fun d => .val (.dat d)
      | none => none
    | _ => none
  | _, _ => none
theorem p_ixL (ha : EvP K n as ta da) (hb : EvP K n as tb db) : EvP K n as (tOp (rIxL K) ta tb) (dIxL da db) := by
  intro F H σ E fp L R r' e Q q
  unfold dIxL at e
  split at e
  · next r i ea eb =>
    refine ha L R ea fun x F1 H1 f1 g1 r1 n1 o1 => hb L (R.grow g1) eb fun y F2 H2 f2 g2 r2 n2 o2 => ?_
    have R2 := (R.grow g1).grow g2
    have r1' := r1.grow (R.grow g1) g2
    have gg := (g1.seq0 g2).drop
    cases (Own.dat_inv (show Own K F2 H2 y _ f2 from r2) rfl).1
    split at e
    · next ss es =>
      split at e
      · next j ej =>
        split at e
        · next s hs =>
          obtain ⟨fq, o⟩ := r1'.own R2 es
          obtain ⟨a, vs, fq', rfl, hH, l, _⟩ := o.lst_inv rfl
          obtain ⟨w, f, hw, ow⟩ := l.nth hs
          refine ⟨a, vs, i, w, rfl, rfl, .inl (.inl hH), by unfold atI; rw [l.length, ej]; exact hw, ?_⟩
          exact q w F2 H2 [] gg (r1'.kid R2 es hH hw hs ow e) List.nodup_nil (fun _ m => nomatch m)
        · cases e
      · cases e
    · next ds es =>
      split at e
      · next j ej =>
        obtain ⟨d, hd, rfl⟩ := Option.map_eq_some_iff.mp e
        obtain ⟨fq, o⟩ := r1'.own R2 es
        obtain ⟨a, xs, rfl, hq, da⟩ := Mv.Dq.list_inv (o.dat_inv rfl).1
        obtain ⟨w, hw, dw⟩ := Mv.DqAll.nth da hd
        refine ⟨a, xs, i, w, rfl, rfl, SqL.mono R2.sub hq, by unfold atI; rw [Mv.DqAll.len da, ej]; exact hw, ?_⟩
        exact q w F2 H2 [] gg (.dat dw) List.nodup_nil (fun _ m => nomatch m)
      · cases e
    · cases e
  · cases e
/-! t[i] of a tuple -/
def dIxT (da db : En → Option Rs) (E : En) : Option Rs := match da E, db E with
  | some r, some (.val (.dat (.int i))) => match r.at E with
    | some (.dat (.tuple ds)) => match ixN ds.length i with
      | some j => (ds[j]?).map fun d => .val (.dat d)
      | none => none
    | _ => none
  | _, _ => none
theorem p_ixT (ha : EvP K n as ta da) (hb : EvP K n as tb db) : EvP K n as (tOp (rIxT K) ta tb) (dIxT da db) := by
  intro F H σ E fp L R r' e Q q
  unfold dIxT at e
  split at e
  · next r i ea eb =>
    refine ha L R ea fun x F1 H1 f1 g1 r1 n1 o1 => hb L (R.grow g1) eb fun y F2 H2 f2 g2 r2 n2 o2 => ?_
    have R2 := (R.grow g1).grow g2
    have r1' := r1.grow (R.grow g1) g2
    cases (Own.dat_inv (show Own K F2 H2 y _ f2 from r2) rfl).1
    split at e
    · next ds es =>
      split at e
      · next j ej =>
        obtain ⟨d, hd, rfl⟩ := Option.map_eq_some_iff.mp e
        obtain ⟨fq, o⟩ := r1'.own R2 es
        obtain ⟨a, xs, rfl, hq, da⟩ := Mv.Dq.tuple_inv (o.dat_inv rfl).1
        obtain ⟨w, hw, dw⟩ := Mv.DqAll.nth da hd
        refine ⟨a, xs, i, w, rfl, rfl, SqT.mono R2.sub hq, by unfold atI; rw [Mv.DqAll.len da, ej]; exact hw, ?_⟩
        exact q w F2 H2 [] (g1.seq0 g2).drop (.dat dw) List.nodup_nil (fun _ m => nomatch m)
      · cases e
    · cases e
  · cases e
/-! a and b, a or b, not a, a < b < c as values -/
def dAndV (da db : En → Option Rs) (E : En) : Option Rs := match da E with
  | some (.val (.dat (.bool true))) => db E
  | some (.val (.dat (.bool false))) => some (.val (.dat (.bool false)))
  | _ => none
def dOrV (da db : En → Option Rs) (E : En) : Option Rs := match da E with
  | some (.val (.dat (.bool false))) => db E
  | some (.val (.dat (.bool true))) => some (.val (.dat (.bool true)))
  | _ => none
def dNotV (da : En → Option Rs) (E : En) : Option Rs := match da E with
  | some (.val (.dat (.bool b))) => some (.val (.dat (.bool (!b))))
  | _ => none
theorem p_andV (ha : EvP K n as ta da) (hb : EvP K n as tb db) : EvP K n as (tAndV ta tb) (dAndV da db) := by
  intro F H σ E fp L R r e Q q
  unfold dAndV at e
  split at e
  · next ea =>
    refine ha L R ea fun x F1 H1 f1 g1 r1 n1 o1 => ?_
    cases (Own.dat_inv (show Own K F1 H1 x _ f1 from r1) rfl).1
    exact ⟨true, rfl, iteT (hb L (R.grow g1) e fun v F2 H2 f2 g2 a2 n2 o2 => q v F2 H2 f2 (g1.drop.seq0 g2) a2 n2 o2)⟩
  · next ea =>
    cases e
    refine ha L R ea fun x F1 H1 f1 g1 r1 n1 o1 => ?_
    cases (Own.dat_inv (show Own K F1 H1 x _ f1 from r1) rfl).1
    exact ⟨false, rfl, iteF (q _ F1 H1 [] g1.drop (.dat (.bl false)) List.nodup_nil (fun _ m => nomatch m))⟩
  · cases e
theorem p_orV (ha : EvP K n as ta da) (hb : EvP K n as tb db) : EvP K n as (tOrV ta tb) (dOrV da db) := by
  intro F H σ E fp L R r e Q q
  unfold dOrV at e
  split at e
  · next ea =>
    refine ha L R ea fun x F1 H1 f1 g1 r1 n1 o1 => ?_
    cases (Own.dat_inv (show Own K F1 H1 x _ f1 from r1) rfl).1
    exact ⟨false, rfl, iteF (hb L (R.grow g1) e fun v F2 H2 f2 g2 a2 n2 o2 => q v F2 H2 f2 (g1.drop.seq0 g2) a2 n2 o2)⟩
  · next ea =>
    cases e
    refine ha L R ea fun x F1 H1 f1 g1 r1 n1 o1 => ?_
    cases (Own.dat_inv (show Own K F1 H1 x _ f1 from r1) rfl).1
    exact ⟨true, rfl, iteT (q _ F1 H1 [] g1.drop (.dat (.bl true)) List.nodup_nil (fun _ m => nomatch m))⟩
  · cases e
theorem p_notV (ha : EvP K n as ta da) : EvP K n as (tNotV ta) (dNotV da) := by
  intro F H σ E fp L R r e Q q
  unfold dNotV at e
  split at e
  · next b ea =>
    cases e
    refine ha L R ea fun x F1 H1 f1 g1 r1 n1 o1 => ?_
    cases (Own.dat_inv (show Own K F1 H1 x _ f1 from r1) rfl).1
    exact ⟨b, rfl, q _ F1 H1 [] g1.drop (.dat (.bl _)) List.nodup_nil (fun _ m => nomatch m)⟩
  · cases e
def dChain (f g : PyData → PyData → Option PyData) (da db dc : En → Option Rs) (E : En) : Option Rs := match da E, db E, dc E with
  | some a, some b, some c => match a.full E, b.full E, c.full E with
    | some a, some b, some c => match f a b, g b c with
      | some (.bool k), some (.bool l) => some (.val (.dat (.bool (k && l))))
      | _, _ => none
    | _, _, _ => none
  | _, _, _ => none
theorem p_chain {r r' : R2} {f g : PyData → PyData → Option PyData} (hr : Rv2 K r f) (hr' : Rv2 K r' g) (ha : EvP K n as ta da) (hb : EvP K n as tb db) (hc : EvP K n as tc dc) : EvP K n as (tChain r r' ta tb tc) (dChain f g da db dc) := by
  intro F H σ E fp L R r0 e Q q
  unfold dChain at e
  split at e
  · next a b c ea eb ec =>
    split at e
    · next a' b' c' ea' eb' ec' =>
      split at e
      · next k l ek el =>
        cases e
        refine ha L R ea fun x F1 H1 f1 g1 r1 n1 o1 => hb L (R.grow g1) eb fun y F2 H2 f2 g2 r2 n2 o2 => ?_
        have R2 := (R.grow g1).grow g2
        refine hr ((r1.grow (R.grow g1) g2).dp R2 ea') (r2.dp R2 eb') ek fun _ => ?_
        refine ⟨k, rfl, ?_⟩
        cases k with
        | true =>
          refine iteT (hc L R2 ec fun z F3 H3 f3 g3 r3 n3 o3 => ?_)
          have R3 := R2.grow g3
          refine hr' ((r2.grow R2 g3).dp R3 eb') (r3.dp R3 ec') el fun _ => ?_
          exact q _ F3 H3 [] ((g1.seq0 g2).drop.seq0 g3).drop (.dat (.bl _)) List.nodup_nil (fun _ m => nomatch m)
        | false => exact iteF (q _ F2 H2 [] (g1.seq0 g2).drop (.dat (.bl false)) List.nodup_nil (fun _ m => nomatch m))
      · cases e
    · cases e
  · cases e
end Mv
/-! Expressions with effects; statements; a def by its body -/
namespace Mv
open PySem PySem.Spec PyProof.Rows L2
variable {K : PySem.W.Frag} {F F' F1 F2 H H' H1 H2 : Hp} {v u x y : V} {vs : List V} {s t : S} {ss : List S} {fp fq fr fp' fp1 fp2 f1 f2 : List Addr} {ρ as : Ro} {E E' : En} {n : Nat}
variable {W : Value → Option Addr → L2.St → Hp → Prop} {te ta tb tc : TE} {d da db dc : En → Option Rs} {tr : TA} {dr : En → Option (List Rs)} {tt : TT} {dt : En → Option Bool}

def EvE (K : PySem.W.Frag) (n : Nat) (as : Ro) (te : TE) (d : En → Option (S × En)) : Prop :=
  ∀ {F H : Hp} {σ : L2.St} {E : En} {fp : List Addr}, σ.length = n → Rep K F H (σ ++ as) E fp → ∀ {s : S} {E' : En}, d E = some (s, E') → ∀ {Q : VK},
    (∀ v F' H' fr fp', Grow F H fp F' H' (fr ++ fp') → Rep K F' H' (σ ++ as) E' fp' → Own K F' H' v s fr → (fr ++ fp').Nodup → (∀ a ∈ fr, F' a = none) → Q v H') → te σ H Q
def EvTE (K : PySem.W.Frag) (n : Nat) (as : Ro) (tt : TT) (d : En → Option (Bool × En)) : Prop :=
  ∀ {F H : Hp} {σ : L2.St} {E : En} {fp : List Addr}, σ.length = n → Rep K F H (σ ++ as) E fp → ∀ {b : Bool} {E' : En}, d E = some (b, E') → ∀ {Q : Bool → Hp → Prop},
    (∀ F' H' fp', Grow F H fp F' H' fp' → Rep K F' H' (σ ++ as) E' fp' → Q b H') → tt σ H Q
abbrev WXm := Value → Option Addr → L2.St → Hp → Prop
inductive Out where
  | nx (E : En)
  | rt (s : S) (E : En)
  | bk (E : En)
  | ct (E : En)
  | ex (c : Nat) (E : En)
def Out.go (K : PySem.W.Frag) (n : Nat) (as : Ro) (W : WXm) (F H : Hp) (fp : List Addr) (D : Ends) : Out → Prop
  | .nx E' => ∀ (σ' : L2.St) F' H' fp', σ'.length = n → Grow F H fp F' H' fp' → Rep K F' H' (σ' ++ as) E' fp' → D.nx σ' H'
  | .bk E' => ∀ (σ' : L2.St) F' H' fp', σ'.length = n → Grow F H fp F' H' fp' → Rep K F' H' (σ' ++ as) E' fp' → D.bk σ' H'
  | .ct E' => ∀ (σ' : L2.St) F' H' fp', σ'.length = n → Grow F H fp F' H' fp' → Rep K F' H' (σ' ++ as) E' fp' → D.ct σ' H'
  | .ex c E' => ∀ (C : Addr) (σ' : L2.St) F' H' fp', clsOf K c C → σ'.length = n → Grow F H fp F' H' fp' → Rep K F' H' (σ' ++ as) E' fp' → W (.ref C) none σ' H'
  | .rt s E' => ∀ v (σ' : L2.St) F' H' fr fp', σ'.length = n → Grow F H fp F' H' (fr ++ fp') → Rep K F' H' (σ' ++ as) E' fp' → Own K F' H' v s fr → (fr ++ fp').Nodup → (∀ a ∈ fr, F' a = none) → D.rt v H'
theorem Out.go.grow {o : Out} {D : Ends} (h : o.go K n as W F H fp D) (g : Grow F H fp F1 H1 fp1) : o.go K n as W F1 H1 fp1 D := by
  cases o with
  | rt s E' => exact fun v σ' F' H' fr fp' L g' R o nd of => h v σ' F' H' fr fp' L (g.trans g') R o nd of
  | ex c E' => exact fun C σ' F' H' fp' hC L g' R => h C σ' F' H' fp' hC L (g.trans g') R
  | _ => exact fun σ' F' H' fp' L g' R => h σ' F' H' fp' L (g.trans g') R
def EvS (K : PySem.W.Frag) (n : Nat) (as : Ro) (W : WXm) (ts : TS) (d : En → Option Out) : Prop :=
  ∀ {F H : Hp} {σ : L2.St} {E : En} {fp : List Addr}, σ.length = n → Rep K F H (σ ++ as) E fp → ∀ {o : Out}, d E = some o → ∀ {D : Ends}, o.go K n as W F H fp D → ts D σ H

/-! ### from the ones that change nothing -/
theorem Rep.apart_new (R : Rep K F H ρ E fp) (g : Grow F H [] F' H' fr) (nd : fr.Nodup) : (fr ++ fp).Nodup :=
  nodup_two nd R.nd fun a m b m2 e => by
    subst e
    obtain ⟨o, eo⟩ := R.there a m2
    rcases g.new a m with q | q
    · cases q
    · rw [eo] at q; cases q
theorem Grow.ours (g : Grow F H [] F' H' fr) (fp : List Addr) : Grow F H fp F' H' (fr ++ fp) :=
  g.wide (fun _ m => nomatch m) fun a m => by
    rcases List.mem_append.mp m with m | m
    · exact .inr ((g.new a m).elim (fun z => nomatch z) id)
    · exact .inl m
def ePure (d : En → Option Rs) (E : En) : Option (S × En) := match d E with
  | some (.val s) => some (s, E)
  | _ => none
theorem e_pure (h : EvP K n as te d) : EvE K n as te (ePure d) := by
  intro F H σ E fp L R s E' e Q q
  unfold ePure at e
  split at e
  · next t ed =>
    cases e
    exact h L R ed fun v F1 H1 fr g a nd of => q v F1 H1 fr fp (g.ours fp) (R.grow g) a (R.apart_new g nd) of
  · cases e
def ePureT (d : En → Option Bool) (E : En) : Option (Bool × En) := (d E).map (·, E)
theorem e_pureT (h : EvT K n as tt dt) : EvTE K n as tt (ePureT dt) := by
  intro F H σ E fp L R b E' e Q q
  obtain ⟨c, ec, e2⟩ := Option.map_eq_some_iff.mp e
  cases e2
  exact h L R ec fun F1 H1 g => q F1 H1 fp ((g.ours fp).less fun a m => List.mem_append_right _ m) (R.grow g)
variable {de df : En → Option (S × En)} {dte dtf : En → Option (Bool × En)} {uu : TT}
def eTest (d : En → Option (S × En)) (E : En) : Option (Bool × En) := match d E with
  | some (.dat (.bool b), E') => some (b, E')
  | _ => none
theorem e_test (h : EvE K n as te de) : EvTE K n as (tTest te) (eTest de) := by
  intro F H σ E fp L R b E' e Q q
  unfold eTest at e
  split at e
  · next c E2 ed =>
    cases e
    refine h L R ed fun v F1 H1 fr fp1 g R1 o nd of => ?_
    cases (o.dat_inv rfl).1
    exact ⟨b, rfl, q F1 H1 fp1 (g.less fun a m => List.mem_append_right _ m) R1⟩
  · cases e
theorem e_tB (h : EvE K n as te de) : EvTE K n as (tB te) (eTest de) := e_test h
def eAnd (dt du : En → Option (Bool × En)) (E : En) : Option (Bool × En) := match dt E with
  | some (true, E') => du E'
  | o => o
theorem e_and (ht : EvTE K n as tt dte) (hu : EvTE K n as uu dtf) : EvTE K n as (tAnd tt uu) (eAnd dte dtf) := by
  intro F H σ E fp L R b E' e Q q
  unfold eAnd at e
  cases h : dte E with
  | none => rw [h] at e; cases e
  | some c =>
    obtain ⟨c, E1⟩ := c
    rw [h] at e
    refine ht L R h fun F1 H1 fp1 g1 R1 => ?_
    cases c with
    | true => exact iteT (hu L R1 e fun F2 H2 fp2 g2 R2 => q F2 H2 fp2 (g1.trans g2) R2)
    | false =>
      cases e
      exact iteF (q F1 H1 fp1 g1 R1)
def eOr (dt du : En → Option (Bool × En)) (E : En) : Option (Bool × En) := match dt E with
  | some (false, E') => du E'
  | o => o
theorem e_or (ht : EvTE K n as tt dte) (hu : EvTE K n as uu dtf) : EvTE K n as (tOr tt uu) (eOr dte dtf) := by
  intro F H σ E fp L R b E' e Q q
  unfold eOr at e
  cases h : dte E with
  | none => rw [h] at e; cases e
  | some c =>
    obtain ⟨c, E1⟩ := c
    rw [h] at e
    refine ht L R h fun F1 H1 fp1 g1 R1 => ?_
    cases c with
    | false => exact iteF (hu L R1 e fun F2 H2 fp2 g2 R2 => q F2 H2 fp2 (g1.trans g2) R2)
    | true =>
      cases e
      exact iteT (q F1 H1 fp1 g1 R1)
def eNot (dt : En → Option (Bool × En)) (E : En) : Option (Bool × En) := (dt E).map fun p => (!p.1, p.2)
theorem e_not (ht : EvTE K n as tt dte) : EvTE K n as (tNot tt) (eNot dte) := by
  intro F H σ E fp L R b E' e Q q
  obtain ⟨c, h, e2⟩ := Option.map_eq_some_iff.mp e
  obtain ⟨c, E1⟩ := c
  cases e2
  exact ht L R h fun F1 H1 fp1 g1 R1 => q F1 H1 fp1 g1 R1

/-! ### a slot gets a value -/
def killHead (i : Nat) : Sl → Sl
  | .bor q => if q.head? = some i then .no else .bor q
  | e => e
def slotSet (E : En) (i : Nat) (e : Sl) : En := (E.map (killHead i)).set i e
theorem killHead_get {i : Nat} (E : En) (j : Nat) : (∀ s, (E.map (killHead i))[j]? = some (Sl.own s) ↔ E[j]? = some (Sl.own s)) := by
  intro s
  rw [List.getElem?_map]
  cases h : E[j]? with
  | none => simp
  | some sl => cases sl with
    | no => simp [killHead]
    | own t => simp [killHead]
    | bor q =>
      simp only [Option.map_some, killHead]
      split <;> simp
theorem rootS_killHead (i : Nat) : ∀ (ρ : Ro) (E : En), rootS ρ (E.map (killHead i)) = rootS ρ E
  | [], _ => by simp [rootS]
  | _ :: _, [] => rfl
  | v :: ρ, e :: E => by
    simp only [List.map_cons, rootS, rootS_killHead i ρ E]
    congr 1
    cases e with
    | no => rfl
    | own s => rfl
    | bor r => simp only [killHead]; split <;> rfl
theorem OwnL.replace : ∀ {vs : List V} {ss : List S} {fp : List Addr} {i : Nat} {v : V} {s : S} {fr : List Addr}, OwnL K F H vs ss fp → i < ss.length → Own K F H v s fr →
    ∃ fq f1 f2, OwnL K F H (vs.set i v) (ss.set i s) fq ∧ fq.Perm (fr ++ f2) ∧ fp.Perm (f1 ++ f2)
  | _, _, _, i, _, _, _, .nil, h, _ => by simp at h
  | _, _, _, 0, v, s, fr, .cons (fp := fpa) (fq := fpb) _ t, _, o => ⟨fr ++ fpb, fpa, fpb, .cons o t, List.Perm.refl _, List.Perm.refl _⟩
  | _, _, _, i + 1, v, s, fr, .cons (fp := fpa) h t, l, o => by
    obtain ⟨fq, f1, f2, a, b, c⟩ := OwnL.replace (i := i) t (by simpa using l) o
    refine ⟨fpa ++ fq, f1, fpa ++ f2, .cons h a, ?_, ?_⟩
    · refine (List.Perm.append_left fpa b).trans ?_
      rw [← List.append_assoc, ← List.append_assoc]
      exact List.Perm.append_right _ List.perm_append_comm
    · refine (List.Perm.append_left fpa c).trans ?_
      rw [← List.append_assoc, ← List.append_assoc]
      exact List.Perm.append_right _ List.perm_append_comm
theorem rootS_len : ∀ {ρ : Ro} {E : En}, E.length = ρ.length → (rootS ρ E).length = ρ.length
  | [], [], _ => rfl
  | [], _ :: _, h => by simp at h
  | _ :: _, [], h => by simp at h
  | _ :: ρ, _ :: E, h => by simp only [rootS, List.length_cons, rootS_len (ρ := ρ) (E := E) (by simpa using h)]
theorem rootS_set2 : ∀ {ρ : Ro} {E : En} {i : Nat} {v : Option V} {e : Sl}, E.length = ρ.length → rootS (ρ.set i v) (E.set i e) = (rootS ρ E).set i (slS v e)
  | [], [], _, _, _, _ => by simp [rootS]
  | [], _ :: _, _, _, _, h => by simp at h
  | _ :: _, [], _, _, _, h => by simp at h
  | _ :: ρ, _ :: E, 0, _, _, _ => rfl
  | _ :: ρ, _ :: E, i + 1, v, e, h => by simp only [rootS, List.set_cons_succ, rootS_set2 (ρ := ρ) (E := E) (by simpa using h)]
theorem followE_set {i : Nat} {w : Option V} {q : List Nat} (h : q.head? ≠ some i) : followE H (ρ.set i w) q = followE H ρ q := by
  cases q with
  | nil => rfl
  | cons j q =>
    have : i ≠ j := fun e => h (by rw [e]; rfl)
    simp only [followE, List.getElem?_set_ne this]
theorem eget_set {i : Nat} {e : Sl} {q : List Nat} (h : q.head? ≠ some i) : eget (slotSet E i e) q = eget E q := by
  cases q with
  | nil => rfl
  | cons j q =>
    have ij : i ≠ j := fun e => h (by rw [e]; rfl)
    unfold slotSet
    simp only [eget, List.getElem?_set_ne ij]
    cases hE : E[j]? with
    | none => simp [List.getElem?_map, hE]
    | some sl => cases sl with
      | no => simp [List.getElem?_map, hE, killHead]
      | own s => simp [List.getElem?_map, hE, killHead]
      | bor r =>
        by_cases hr : r.head? = some i
        · simp [List.getElem?_map, hE, killHead, hr]
        · simp [List.getElem?_map, hE, killHead, hr]
/-- what a slot may get: a value of its own, or a place that isn't its own one -/
def SlOk (K : PySem.W.Frag) (F H : Hp) (ρ : Ro) (E : En) (i : Nat) (v : V) : Sl → List Addr → Prop
  | .own s, fr => Own K F H v s fr
  | .bor p, fr => fr = [] ∧ p.head? ≠ some i ∧ followE H ρ p = some v ∧ (eget E p).isSome = true
  | .no, fr => fr = []
theorem Rep.setSlot {i : Nat} {e : Sl} (R : Rep K F H ρ E fp) (hi : i < ρ.length) (o : SlOk K F H ρ E i v e fr) (nd : (fr ++ fp).Nodup) (of : ∀ a ∈ fr, F a = none) :
    ∃ fq, Rep K F H (ρ.set i (some v)) (slotSet E i e) fq ∧ ∀ a ∈ fq, a ∈ fr ++ fp := by
  obtain ⟨f, l, pm⟩ := R.core.own
  have hl : i < (rootS ρ E).length := by rw [rootS_len R.core.len]; exact hi
  have oo : Own K F H v (slS (some v) e) fr := by
    cases e with
    | own s => exact o
    | bor p => rw [show fr = [] from o.1]; exact .con
    | no => rw [show fr = [] from o]; exact .con
  obtain ⟨fq, g1, g2, l2, p1, p2⟩ := l.replace hl oo
  have sub : ∀ a ∈ fq, a ∈ fr ++ fp := fun a m => by
    rcases List.mem_append.mp (p1.mem_iff.mp m) with m | m
    · exact List.mem_append_left _ m
    · exact List.mem_append_right _ (pm.mem_iff.mpr (p2.mem_iff.mpr (List.mem_append_right _ m)))
  have ndq : fq.Nodup := by
    refine p1.nodup_iff.mpr ?_
    have n1 : (fr ++ (g1 ++ g2)).Nodup := ((List.Perm.append_left fr (pm.trans p2)).nodup_iff).mp nd
    refine List.nodup_append.mpr ⟨(List.nodup_append.mp n1).1, (List.nodup_append.mp (List.nodup_append.mp n1).2.1).2.1, fun a m b m2 => (List.nodup_append.mp n1).2.2 a m b (List.mem_append_right _ m2)⟩
  have hE : i < E.length := by rw [R.core.len]; exact hi
  refine ⟨fq, ⟨⟨by unfold slotSet; rw [List.length_set, List.length_map, List.length_set]; exact R.core.len, ⟨fq, ?_, List.Perm.refl _⟩, fun j w hj => ?_⟩, R.sub, ndq, fun a m => ?_, fun j p hb => ?_⟩, sub⟩
  · unfold slotSet
    rw [rootS_set2 (by rw [List.length_map]; exact R.core.len), rootS_killHead]
    have : rootV (ρ.set i (some v)) = (rootV ρ).set i v := by unfold rootV; rw [List.map_set]; rfl
    rw [this]
    exact l2
  · by_cases ij : i = j
    · subst ij; exact ⟨v, by rw [List.getElem?_set_self hi]⟩
    · unfold slotSet at hj
      rw [List.getElem?_set_ne ij] at hj
      rw [List.getElem?_set_ne ij]
      exact R.core.set j w ((killHead_get E j w).mp hj)
  · rcases List.mem_append.mp (sub a m) with m | m
    · exact of a m
    · exact R.off a m
  · by_cases ij : i = j
    · subst ij
      unfold slotSet at hb
      rw [List.getElem?_set_self (by rw [List.length_map]; exact hE)] at hb
      cases hb
      obtain ⟨_, h1, h2, h3⟩ := o
      exact ⟨v, by rw [List.getElem?_set_self hi], by rw [followE_set h1]; exact h2, by rw [eget_set h1]; exact h3⟩
    · unfold slotSet at hb
      rw [List.getElem?_set_ne ij, List.getElem?_map] at hb
      cases hE2 : E[j]? with
      | none => rw [hE2] at hb; cases hb
      | some sl =>
        rw [hE2] at hb
        cases sl with
        | no => cases hb
        | own w => cases hb
        | bor q =>
          simp only [Option.map_some, killHead, Option.some.injEq] at hb
          by_cases hq : q.head? = some i
          · rw [if_pos hq] at hb; cases hb
          · rw [if_neg hq] at hb
            cases hb
            obtain ⟨w, e1, e2, e3⟩ := R.bor j _ hE2
            exact ⟨w, by rw [List.getElem?_set_ne ij]; exact e1, by rw [followE_set hq]; exact e2, by rw [eget_set hq]; exact e3⟩

/-! ### statements -/
variable {t1 t2 : TS} {d1 d2 : En → Option Out} {i : Nat}
def dSeq (d1 d2 : En → Option Out) (E : En) : Option Out := match d1 E with
  | some (.nx E1) => d2 E1
  | o => o
theorem s_seq (h1 : EvS K n as W t1 d1) (h2 : EvS K n as W t2 d2) : EvS K n as W (tSeq t1 t2) (dSeq d1 d2) := by
  intro F H σ E fp L R o e D g
  unfold dSeq at e
  cases h : d1 E with
  | none => rw [h] at e; cases e
  | some o1 =>
    rw [h] at e
    refine h1 L R h ?_
    cases o1 with
    | nx E1 => exact fun σ' F' H' fp' L' g' R' => h2 L' R' e (g.grow g')
    | rt s E1 => cases e; exact g
    | bk E1 => cases e; exact g
    | ct E1 => cases e; exact g
    | ex c E1 => cases e; exact g
def dNext (E : En) : Option Out := some (.nx E)
theorem s_next : EvS K n as W tNext dNext := by
  intro F H σ E fp L R o e D g
  cases e
  exact g σ F H fp L (.refl R.sub fp) R
def dBrk (E : En) : Option Out := some (.bk E)
theorem s_brk : EvS K n as W tBreak dBrk := by
  intro F H σ E fp L R o e D g
  cases e
  exact g σ F H fp L (.refl R.sub fp) R
def dCnt (E : En) : Option Out := some (.ct E)
theorem s_cont : EvS K n as W tCont dCnt := by
  intro F H σ E fp L R o e D g
  cases e
  exact g σ F H fp L (.refl R.sub fp) R
def dNever (_ : En) : Option Out := none
theorem s_never : EvS K n as W tNever dNever := by
  intro F H σ E fp L R o e D g
  cases e
def dSet (i : Nat) (d : En → Option (S × En)) (E : En) : Option Out := match d E with
  | some (s, E') => some (.nx (slotSet E' i (.own s)))
  | none => none
theorem set_app {σ : L2.St} {w : Option V} (h : i < σ.length) : (σ.set i w) ++ as = (σ ++ as).set i w := by
  rw [List.set_append_left _ _ h]
theorem s_set (hi : i < n) (h : EvE K n as te de) : EvS K n as W (tAsg te (gName i)) (dSet i de) := by
  intro F H σ E fp L R o e D g
  unfold dSet at e
  split at e
  · next s E' ed =>
    cases e
    refine h L R ed fun v F1 H1 fr fp1 g1 R1 ow nd of => ?_
    have hl : i < (σ ++ as).length := by rw [List.length_append]; omega
    obtain ⟨fq, R2, sb⟩ := R1.setSlot (e := .own s) hl ow nd of
    exact g (σ.set i (some v)) F1 H1 fq (by rw [List.length_set]; exact L) (g1.less sb) (by rw [set_app (by omega)]; exact R2)
  · cases e
/-- x = (a place): the slot tells it from then on -/
def dAlias (i : Nat) (d : En → Option Rs) (E : En) : Option Out := match d E with
  | some (.val s) => some (.nx (slotSet E i (.own s)))
  | some (.pl p) => if p.head? = some i then none else some (.nx (slotSet E i (.bor p)))
  | none => none
theorem s_alias (hi : i < n) (h : EvP K n as te d) : EvS K n as W (tAsg te (gName i)) (dAlias i d) := by
  intro F H σ E fp L R o e D g
  unfold dAlias at e
  have hl : i < (σ ++ as).length := by rw [List.length_append]; omega
  split at e
  · next s ed =>
    cases e
    refine h L R ed fun v F1 H1 fr g1 a nd of => ?_
    obtain ⟨fq, R2, sb⟩ := (R.grow g1).setSlot (e := .own s) hl a (R.apart_new g1 nd) of
    exact g (σ.set i (some v)) F1 H1 fq (by rw [List.length_set]; exact L) ((g1.ours fp).less sb) (by rw [set_app (by omega)]; exact R2)
  · next p ed =>
    split at e
    · cases e
    · next hp =>
      cases e
      refine h L R ed fun v F1 H1 fr g1 a nd of => ?_
      obtain ⟨a1, a2, a3⟩ := a
      subst a1
      obtain ⟨fq, R2, sb⟩ := (R.grow g1).setSlot (e := .bor p) (fr := []) hl ⟨rfl, hp, a2, a3⟩ (R.apart_new g1 nd) (fun _ m => nomatch m)
      exact g (σ.set i (some v)) F1 H1 fq (by rw [List.length_set]; exact L) ((g1.ours fp).less sb) (by rw [set_app (by omega)]; exact R2)
  · cases e
def dRet (d : En → Option (S × En)) (E : En) : Option Out := match d E with
  | some (s, E') => some (.rt s E')
  | none => none
theorem s_ret (h : EvE K n as te de) : EvS K n as W (tRet te) (dRet de) := by
  intro F H σ E fp L R o e D g
  unfold dRet at e
  split at e
  · next s E' ed =>
    cases e
    exact h L R ed fun v F1 H1 fr fp1 g1 R1 ow nd of => g v σ F1 H1 fr fp1 L g1 R1 ow nd of
  · cases e
def dRetN (E : En) : Option Out := some (.rt (.dat .none) E)
theorem s_retN : EvS K n as W tRetN dRetN := by
  intro F H σ E fp L R o e D g
  cases e
  exact g .non σ F H [] fp L (.refl R.sub fp) R (.dat .non) R.nd (fun _ m => nomatch m)
def dDrop (d : En → Option (S × En)) (E : En) : Option Out := match d E with
  | some (_, E') => some (.nx E')
  | none => none
theorem s_drop (h : EvE K n as te de) : EvS K n as W (tDrop te) (dDrop de) := by
  intro F H σ E fp L R o e D g
  unfold dDrop at e
  split at e
  · next s E' ed =>
    cases e
    exact h L R ed fun v F1 H1 fr fp1 g1 R1 ow nd of => g σ F1 H1 fp1 L (g1.less fun a m => List.mem_append_right _ m) R1
  · cases e
def dIf (dt : En → Option (Bool × En)) (d1 d2 : En → Option Out) (E : En) : Option Out := match dt E with
  | some (true, E') => d1 E'
  | some (false, E') => d2 E'
  | none => none
theorem s_if (ht : EvTE K n as tt dte) (h1 : EvS K n as W t1 d1) (h2 : EvS K n as W t2 d2) : EvS K n as W (tIfS tt t1 t2) (dIf dte d1 d2) := by
  intro F H σ E fp L R o e D g
  unfold dIf at e
  split at e
  · next E' et => exact ht L R et fun F1 H1 fp1 g1 R1 => iteT (h1 L R1 e (g.grow g1))
  · next E' et => exact ht L R et fun F1 H1 fp1 g1 R1 => iteF (h2 L R1 e (g.grow g1))
  · cases e
def dAug (i : Nat) (f : PyData → PyData → Option PyData) (d : En → Option Rs) (E : En) : Option Out := match E[i]?, d E with
  | some (.own (.dat a)), some r => match r.full E with
    | some b => match f a b with
      | some c => some (.nx (slotSet E i (.own (.dat c))))
      | none => none
    | none => none
  | _, _ => none
theorem s_aug {ti : TIp} {f : PyData → PyData → Option PyData} (hi : i < n) (ht : Rv2 K ti f) (h : EvP K n as te d) : EvS K n as W (tAug i te ti) (dAug i f d) := by
  intro F H σ E fp L R o e D g
  unfold dAug at e
  have hl : i < (σ ++ as).length := by rw [List.length_append]; omega
  split at e
  · next a r ea er =>
    split at e
    · next b eb =>
      split at e
      · next c ec =>
        cases e
        obtain ⟨w, hw⟩ := R.core.set i _ ea
        have hw' : σ[i]? = some (some w) := by rwa [List.getElem?_append_left (by omega)] at hw
        refine ⟨w, hw', h L R er fun v F1 H1 fr g1 rr nd of => ?_⟩
        have R1 := R.grow g1
        have ge : eget E [i] = some (.dat a) := by simp only [eget, ea, S.get_nil]
        obtain ⟨u, k1, k2, e1, ow, _⟩ := R1.core.take ge
        have eu : u = w := by simp only [followE, hw, follow_nil] at e1; exact (Option.some.inj e1).symm
        subst eu
        refine ht (Dq.mono R1.sub (ow.dat_inv rfl).1) (rr.dp R1 eb) ec fun hc => ?_
        obtain ⟨fq, R2, sb⟩ := R1.setSlot (e := .own (.dat c)) (v := scV c) (fr := []) hl (.dat (scV_dp hc)) R1.nd (fun _ m => nomatch m)
        exact g (σ.set i (some (scV c))) F1 H1 fq (by rw [List.length_set]; exact L) ((g1.ours fp).less fun a m => List.mem_append_right _ (by simpa using sb a m)) (by rw [set_app (by omega)]; exact R2)
      · cases e
    · cases e
  · cases e
end Mv
/-! A def by its body, its call -/
namespace Mv
open PySem PySem.Spec PyProof.Rows L2
variable {K : PySem.W.Frag} {F F' F1 F2 H H' H1 H2 : Hp} {v u x y : V} {vs ws : List V} {s t : S} {ss tts : List S} {fp fq fr fp' fp1 fp2 f1 f2 : List Addr} {ρ as : Ro} {E E' : En} {n : Nat}
variable {te ta tb tc : TE} {d da db dc : En → Option Rs} {tr : TA} {dr : En → Option (List Rs)} {tt : TT} {dt : En → Option Bool}

/-- what a def promises: g tells its answer and what its arguments are then -/
def spMv (K : PySem.W.Frag) (m : Nat) (g : List S → Option (S × List S)) : Sp := fun vs H Q _ => vs.length = m ∧ ∃ F ss fp s ss', (∀ a o, F a = some o → H a = some o) ∧ OwnL K F H vs ss fp ∧ fp.Nodup ∧ (∀ a ∈ fp, F a = none) ∧ g ss = some (s, ss') ∧
  ∀ v F' H' fr fp', Grow F H fp F' H' (fr ++ fp') → OwnL K F' H' vs ss' fp' → Own K F' H' v s fr → (fr ++ fp').Nodup → (∀ a ∈ fr ++ fp', F' a = none) → Q v H'

def parSl (n j : Nat) : S → Sl
  | .dat d => .own (.dat d)
  | .con v => .own (.con v)
  | _ => .bor [n + j]
def parSls (n : Nat) : Nat → List S → En
  | _, [] => []
  | j, s :: ss => parSl n j s :: parSls n (j + 1) ss
/-- the environment at a def's entry: n names, the parameters first -/
def entry (n : Nat) (ss : List S) : En := parSls n 0 ss ++ List.replicate (n - ss.length) .no ++ ss.map Sl.own
def ownSs : En → Option (List S)
  | [] => some []
  | .own s :: E => (ownSs E).map (s :: ·)
  | _ :: _ => none
/-- a def's worth, by what its body comes to -/
def fnG (n : Nat) (d : En → Option Out) (ss : List S) : Option (S × List S) := match d (entry n ss) with
  | some (.rt s E) => (ownSs (E.drop n)).map (s, ·)
  | some (.nx E) => (ownSs (E.drop n)).map (.dat .none, ·)
  | _ => none

theorem OwnL.split : ∀ {vs ws : List V} {ss tts : List S} {fp : List Addr}, vs.length = ss.length → OwnL K F H (vs ++ ws) (ss ++ tts) fp → ∃ f1 f2, fp = f1 ++ f2 ∧ OwnL K F H vs ss f1 ∧ OwnL K F H ws tts f2
  | [], ws, [], tts, fp, _, o => ⟨[], fp, rfl, .nil, o⟩
  | [], _, _ :: _, _, _, h, _ => by simp at h
  | _ :: _, _, [], _, _, h, _ => by simp at h
  | v :: vs, ws, s :: ss, tts, fp, h, o => by
    rw [List.cons_append, List.cons_append] at o
    cases o with
    | @cons _ _ _ _ fa fb a l =>
      obtain ⟨f1, f2, rfl, l1, l2⟩ := OwnL.split (by simpa using h) l
      exact ⟨fa ++ f1, f2, by rw [List.append_assoc], .cons a l1, l2⟩
theorem parSls_len (n : Nat) : ∀ (j : Nat) (ss : List S), (parSls n j ss).length = ss.length
  | _, [] => rfl
  | j, s :: ss => by simp only [parSls, List.length_cons, parSls_len n (j + 1) ss]
theorem parSls_get (n : Nat) : ∀ (j : Nat) (ss : List S) (i : Nat), (parSls n j ss)[i]? = (ss[i]?).map (parSl n (j + i))
  | _, [], _ => by simp [parSls]
  | j, s :: ss, 0 => by simp [parSls]
  | j, s :: ss, i + 1 => by
    simp only [parSls, List.getElem?_cons_succ, parSls_get n (j + 1) ss i]
    rw [show j + 1 + i = j + (i + 1) by omega]
theorem rootS_app : ∀ {ρ ρ2 : Ro} {E E2 : En}, E.length = ρ.length → rootS (ρ ++ ρ2) (E ++ E2) = rootS ρ E ++ rootS ρ2 E2
  | [], _, [], _, _ => rfl
  | [], _, _ :: _, _, h => by simp at h
  | _ :: _, _, [], _, h => by simp at h
  | v :: ρ, ρ2, e :: E, E2, h => by simp only [List.cons_append, rootS, rootS_app (ρ := ρ) (E := E) (by simpa using h)]
theorem rootS_own : ∀ {vs : List V} {ss : List S}, vs.length = ss.length → rootS (vs.map some) (ss.map Sl.own) = ss
  | [], [], _ => rfl
  | [], _ :: _, h => by simp at h
  | _ :: _, [], h => by simp at h
  | v :: vs, s :: ss, h => by simp only [List.map_cons, rootS, slS, rootS_own (vs := vs) (ss := ss) (by simpa using h)]
theorem rootS_no : ∀ (k : Nat), OwnL K F H (rootV (List.replicate k none)) (rootS (List.replicate k none) (List.replicate k .no)) []
  | 0 => .nil
  | k + 1 => by
    simp only [List.replicate_succ, rootV, List.map_cons, rootS, slS]
    exact .cons (fp := []) .con (rootS_no k)
theorem rootS_par (n : Nat) : ∀ {vs : List V} {ss : List S} {fp : List Addr} (j : Nat), OwnL K F H vs ss fp → OwnL K F H (rootV (vs.map some)) (rootS (vs.map some) (parSls n j ss)) []
  | _, _, _, _, .nil => .nil
  | v :: vs, s :: ss, _, j, .cons a l => by
    simp only [List.map_cons, parSls, rootS, rootV]
    refine .cons (fp := []) ?_ (rootS_par n (j + 1) l)
    cases s with
    | dat d => exact .dat (a.dat_inv rfl).1
    | con w =>
      obtain ⟨rfl, _⟩ := a.con_inv rfl
      exact .con
    | _ => exact .con
theorem rootV_app (ρ ρ2 : Ro) : rootV (ρ ++ ρ2) = rootV ρ ++ rootV ρ2 := by unfold rootV; exact List.map_append
theorem rootV_some (vs : List V) : rootV (vs.map some) = vs := by
  unfold rootV
  rw [List.map_map]
  exact List.map_id _
theorem start_eq (N : List Str) (vs : List V) : start N vs = vs.map some ++ List.replicate (N.length - vs.length) none := rfl

theorem Rep.entry {N : List Str} (sub : ∀ a o, F a = some o → H a = some o) (l : OwnL K F H vs ss fp) (nd : fp.Nodup) (of : ∀ a ∈ fp, F a = none) (hn : vs.length ≤ N.length) :
    Rep K F H (start N vs ++ vs.map some) (Mv.entry N.length ss) fp := by
  have len := l.length
  have hL : (parSls N.length 0 ss ++ List.replicate (N.length - ss.length) Sl.no).length = (vs.map some ++ List.replicate (N.length - vs.length) (none : Option V)).length := by
    rw [List.length_append, List.length_append, parSls_len, List.length_replicate, List.length_map, List.length_replicate, len]
  have hall : (Mv.entry N.length ss).length = (start N vs ++ vs.map some).length := by
    unfold Mv.entry
    rw [List.length_append, hL, start_eq, List.length_append (as := _ ++ _), List.length_map, List.length_map, len]
  have own : OwnL K F H (rootV (start N vs ++ vs.map some)) (rootS (start N vs ++ vs.map some) (Mv.entry N.length ss)) fp := by
    unfold Mv.entry
    rw [← len] at hL ⊢
    rw [start_eq, rootS_app hL, rootS_app (by rw [parSls_len, List.length_map, len]), rootV_app, rootV_app, rootS_own len, rootV_some vs]
    have h1 := rootS_par N.length 0 l
    rw [rootV_some] at h1
    have h2 := rootS_no (K := K) (F := F) (H := H) (N.length - vs.length)
    have := (h1.append h2).append l
    simpa using this
  have hp : ∀ (i : Nat) (e : Sl), (Mv.entry N.length ss)[i]? = some e → (∃ s, ss[i]? = some s ∧ e = parSl N.length i s ∧ i < ss.length) ∨ (e = .no) ∨ (∃ j s, i = N.length + j ∧ ss[j]? = some s ∧ e = .own s) := by
    intro i e h
    unfold Mv.entry at h
    by_cases h1 : i < ss.length
    · rw [List.append_assoc, List.getElem?_append_left (by rw [parSls_len]; exact h1), parSls_get] at h
      obtain ⟨s, hs, rfl⟩ := Option.map_eq_some_iff.mp h
      exact .inl ⟨s, hs, by rw [Nat.zero_add], h1⟩
    · by_cases h2 : i < N.length
      · rw [List.getElem?_append_left (by rw [List.length_append, parSls_len, List.length_replicate]; omega), List.getElem?_append_right (by rw [parSls_len]; omega), List.getElem?_replicate] at h
        split at h
        · cases h; exact .inr (.inl rfl)
        · cases h
      · rw [List.getElem?_append_right (by rw [List.length_append, parSls_len, List.length_replicate]; omega), List.length_append, parSls_len, List.length_replicate] at h
        rw [List.getElem?_map] at h
        obtain ⟨s, hs, rfl⟩ := Option.map_eq_some_iff.mp h
        exact .inr (.inr ⟨_, s, by omega, hs, rfl⟩)
  have argv : ∀ (j : Nat) (w : V), vs[j]? = some w → (start N vs ++ vs.map some)[N.length + j]? = some (some w) := by
    intro j w h
    rw [start_eq, List.getElem?_append_right (by rw [List.length_append, List.length_map, List.length_replicate]; omega), List.length_append, List.length_map, List.length_replicate, List.getElem?_map]
    rw [show N.length + j - (vs.length + (N.length - vs.length)) = j by omega, h]; rfl
  have parv : ∀ (i : Nat) (w : V), vs[i]? = some w → (start N vs ++ vs.map some)[i]? = some (some w) := by
    intro i w h
    have hi := (List.getElem?_eq_some_iff.mp h).1
    rw [start_eq, List.append_assoc, List.getElem?_append_left (by rw [List.length_map]; exact hi), List.getElem?_map, h]; rfl
  refine ⟨⟨hall, ⟨fp, own, List.Perm.refl _⟩, fun i s h => ?_⟩, sub, nd, of, fun i p h => ?_⟩
  · rcases hp i _ h with ⟨t, ht, _, hi⟩ | e | ⟨j, t, rfl, ht, _⟩
    · exact ⟨vs[i], parv i _ (List.getElem?_eq_getElem (by rw [len]; exact hi))⟩
    · cases e
    · have hj := (List.getElem?_eq_some_iff.mp ht).1
      exact ⟨vs[j], argv j _ (List.getElem?_eq_getElem (by rw [len]; exact hj))⟩
  · rcases hp i _ h with ⟨t, ht, e, hi⟩ | e | ⟨j, t, rfl, ht, e⟩
    · have hv : vs[i]? = some vs[i] := List.getElem?_eq_getElem (by rw [len]; exact hi)
      have hq : p = [N.length + i] := by
        cases t <;> first | cases e; rfl | cases e
      subst hq
      have g : (Mv.entry N.length ss)[N.length + i]? = some (Sl.own t) := by
        unfold Mv.entry
        rw [List.getElem?_append_right (by rw [List.length_append, parSls_len, List.length_replicate]; omega), List.length_append, parSls_len, List.length_replicate, List.getElem?_map]
        rw [show N.length + i - (ss.length + (N.length - ss.length)) = i by omega, ht]; rfl
      exact ⟨vs[i], parv i _ hv, by simp only [followE, argv i _ hv, follow_nil], by simp only [eget, g, S.get_nil]; rfl⟩
    · cases e
    · cases e
theorem ownSs_eq : ∀ {E : En} {ss : List S}, ownSs E = some ss → E = ss.map Sl.own
  | [], ss, h => by cases h; rfl
  | .own s :: E, ss, h => by
    simp only [ownSs] at h
    obtain ⟨r, hr, rfl⟩ := Option.map_eq_some_iff.mp h
    rw [List.map_cons, ← ownSs_eq hr]
  | .no :: E, ss, h => by cases h
  | .bor p :: E, ss, h => by cases h
/-- the arguments, as they are at the end -/
theorem Rep.args {σ : L2.St} (R : Rep K F H (σ ++ vs.map some) E fp) (L : σ.length = n) (h : ownSs (E.drop n) = some ss) : ∃ fq, OwnL K F H vs ss fq ∧ fq.Nodup ∧ ∀ a ∈ fq, a ∈ fp := by
  obtain ⟨f, l, pm⟩ := R.core.own
  have e := ownSs_eq h
  have hlen : E.length = n + vs.length := by rw [R.core.len, List.length_append, L, List.length_map]
  have hE : E = E.take n ++ ss.map Sl.own := by rw [← e, List.take_append_drop]
  have hl2 : vs.length = ss.length := by
    have := congrArg List.length e
    rw [List.length_drop, List.length_map] at this
    omega
  have ht : (E.take n).length = σ.length := by rw [List.length_take]; omega
  rw [hE, rootS_app ht, rootV_app, rootS_own hl2, rootV_some] at l
  obtain ⟨g1, g2, rfl, l1, l2⟩ := l.split (by rw [rootS_len ht]; unfold rootV; rw [List.length_map])
  refine ⟨g2, l2, ?_, fun a m => pm.mem_iff.mpr (List.mem_append_right _ m)⟩
  exact (List.nodup_append.mp (pm.nodup_iff.mp R.nd)).2.1
section
variable {P : Program} {w : World} {mg : Str → Option Value} {base : Heap}
/-- A DEF OF THE TEXT keeps what its body comes to -/
theorem fn_mv {x qual : Str} {st : Stmt} {f : Addr} {fd : FuncData} {N ps : List Str} {k : Nat} {dd : En → Option Out} (Fn : Fun K x qual st f fd) (Sc : FnScope N ps (defScope st))
    (body : ∀ (cdv : Value) (A : Around) (outer : List Env) (s : Shared) (H : Hp) (E : XK) (as : Ro), Room k (A.deeper (envOfC qual (defScope st) s.heap.objs.size f cdv)) →
      ∃ t, PSs (cxOf CX0 P w K mg base N qual (defScope st) f cdv A outer s H E).nox (defBody st) t ∧ ∀ W, EvS K N.length as W t dd) :
    FnOk P w K mg base CX0 (k + 1) f fd ps (spMv K ps.length (fnG N.length dd)) := by
  have hps : ps.length ≤ N.length := by have := congrArg List.length Sc.pre; rw [List.length_take] at this; omega
  refine Fn.ok Sc (fun vs H Q E h => h.1) (fun cdv A outer s H vs Q E hr h => ?_)
  obtain ⟨hl, F, ss, fp, r, ss', sub, l, nd, of, hg, q⟩ := h
  obtain ⟨t, h1, h2⟩ := body cdv A outer s H E (vs.map some) hr
  refine ⟨t, h1, ?_⟩
  have R := Rep.entry (N := N) sub l nd of (by omega)
  have L : (start N vs).length = N.length := by rw [start_eq, List.length_append, List.length_map, List.length_replicate]; omega
  unfold fnG at hg
  split at hg
  · next r' E' hd =>
    obtain ⟨s2, e1, e2⟩ := Option.map_eq_some_iff.mp hg
    cases e2
    refine h2 (fun _ _ _ _ => True) L R hd fun v σ' F' H' fr fp' L' g R' ow nd' of' => ?_
    obtain ⟨fq, l2, n2, sb⟩ := R'.args L' e1
    have nd2 : (fr ++ fq).Nodup := nodup_two (List.nodup_append.mp nd').1 n2 fun a m b m2 => (List.nodup_append.mp nd').2.2 a m b (sb b m2)
    refine q v F' H' fr fq (g.less fun a m => ?_) l2 ow nd2 fun a m => ?_
    · rcases List.mem_append.mp m with m | m
      · exact List.mem_append_left _ m
      · exact List.mem_append_right _ (sb a m)
    · rcases List.mem_append.mp m with m | m
      · exact of' a m
      · exact R'.off a (sb a m)
  · next E' hd =>
    obtain ⟨s2, e1, e2⟩ := Option.map_eq_some_iff.mp hg
    cases e2
    refine h2 (fun _ _ _ _ => True) L R hd fun σ' F' H' fp' L' g R' => ?_
    obtain ⟨fq, l2, n2, sb⟩ := R'.args L' e1
    exact q .non F' H' [] fq (g.less fun a m => sb a (by simpa using m)) l2 (.dat .non) (by simpa using n2) fun a m => R'.off a (sb a (by simpa using m))
  · cases hg
end
end Mv
/-! The call of a def: places are handed out, and come back -/
namespace Mv
open PySem PySem.Spec PyProof.Rows L2
variable {K : PySem.W.Frag} {F F' F1 F2 H H' H1 H2 : Hp} {v u x y : V} {vs ws : List V} {s t : S} {ss tts : List S} {fp fq fr fp' fp1 fp2 f1 f2 : List Addr} {ρ as : Ro} {E E' : En} {n : Nat}
variable {te ta tb tc : TE} {d da db dc : En → Option Rs} {tr : TA} {dr : En → Option (List Rs)}

def apartAll (p : List Nat) : List Rs → Bool
  | [] => true
  | .pl q :: rs => apart p q && apartAll p rs
  | .val _ :: rs => apartAll p rs
def placesOk : List Rs → Bool
  | [] => true
  | .pl p :: rs => apartAll p rs && placesOk rs
  | .val _ :: rs => placesOk rs
def argS (E : En) : List Rs → Option (List S)
  | [] => some []
  | r :: rs => match r.at E, argS E rs with
    | some s, some ss => some (s :: ss)
    | _, _ => none
def putAll (E : En) : List Rs → List S → En
  | .pl p :: rs, s :: ss => putAll (eput E p s) rs ss
  | .val _ :: rs, _ :: ss => putAll E rs ss
  | _, _ => E
def killAll (E : En) : List Rs → En
  | .pl p :: rs => killAll (ekill E p) rs
  | .val _ :: rs => killAll E rs
  | [] => E
theorem argS_put {p : List Nat} : ∀ {rs : List Rs}, apartAll p rs = true → argS (eput E p t) rs = argS E rs
  | [], _ => rfl
  | .pl q :: rs, h => by
    simp only [apartAll, Bool.and_eq_true] at h
    simp only [argS, Rs.at, eget_apart h.1, argS_put h.2]
  | .val _ :: rs, h => by
    simp only [apartAll] at h
    simp only [argS, Rs.at, argS_put h]
theorem putAll_comm {p : List Nat} : ∀ {rs : List Rs} {ss : List S} {E : En}, apartAll p rs = true → eput (putAll E rs ss) p t = putAll (eput E p t) rs ss
  | [], _, _, _ => by simp [putAll]
  | .pl q :: rs, [], _, _ => by simp [putAll]
  | .val _ :: rs, [], _, _ => by simp [putAll]
  | .pl q :: rs, s :: ss, E, h => by
    simp only [apartAll, Bool.and_eq_true] at h
    simp only [putAll]
    rw [putAll_comm h.2, eput_comm (by rw [apart_symm]; exact h.1)]
  | .val _ :: rs, s :: ss, E, h => by
    simp only [apartAll] at h
    simp only [putAll]
    exact putAll_comm h
theorem eget_putAll {p : List Nat} : ∀ {rs : List Rs} {ss : List S} {E : En}, apartAll p rs = true → eget (putAll E rs ss) p = eget E p
  | [], _, _, _ => by simp [putAll]
  | .pl q :: rs, [], _, _ => by simp [putAll]
  | .val _ :: rs, [], _, _ => by simp [putAll]
  | .pl q :: rs, s :: ss, E, h => by
    simp only [apartAll, Bool.and_eq_true] at h
    simp only [putAll]
    rw [eget_putAll h.2, eget_apart (by rw [apart_symm]; exact h.1)]
  | .val _ :: rs, s :: ss, E, h => by
    simp only [apartAll] at h
    simp only [putAll]
    exact eget_putAll h
theorem eget_ok {p q : List Nat} (hp : eget E p = some s) (hq : (eget E q).isSome = true) (w : within p q = false) : (eget (eput E p t) q).isSome = true := by
  rcases apart_or p q w with e | e | e
  · subst e; rw [eget_eput hp]; rfl
  · rw [eget_apart e]; exact hq
  · have q0 : q ≠ [] := fun z => by rw [z] at hq; cases hq
    exact eget_above q0 e hp
theorem RsAll.there {rs : List Rs} (a : RsAll K F H ρ E vs rs fr) : ∀ b ∈ fr, ∃ o, H b = some o := by
  induction a with
  | nil => exact fun _ m => nomatch m
  | cons h t ih =>
    intro b m
    rcases List.mem_append.mp m with m | m
    · exact h.there b m
    · exact ih b m
theorem RsAll.env {rs : List Rs} (a : RsAll K F H ρ E vs rs fr) (k : ∀ q, Rs.pl q ∈ rs → (eget E' q).isSome = true) : RsAll K F H ρ E' vs rs fr := by
  induction a with
  | nil => exact .nil
  | @cons v vs r rs f g h t ih =>
    refine .cons ?_ (ih fun q m => k q (List.mem_cons_of_mem _ m))
    cases r with
    | val s => exact h
    | pl p => exact ⟨h.1, h.2.1, k p List.mem_cons_self⟩
theorem apartAll_mem {p q : List Nat} : ∀ {rs : List Rs}, apartAll p rs = true → Rs.pl q ∈ rs → apart p q = true
  | .pl r :: rs, h, m => by
    simp only [apartAll, Bool.and_eq_true] at h
    rcases List.mem_cons.mp m with e | m
    · cases e; exact h.1
    · exact apartAll_mem h.2 m
  | .val _ :: rs, h, m => by
    simp only [apartAll] at h
    rcases List.mem_cons.mp m with e | m
    · cases e
    · exact apartAll_mem h m
theorem RsAll.places {rs : List Rs} (a : RsAll K F H ρ E vs rs fr) : ∀ q, Rs.pl q ∈ rs → (eget E q).isSome = true := by
  induction a with
  | nil => exact fun _ m => nomatch m
  | @cons v vs r rs f g h t ih =>
    intro q m
    rcases List.mem_cons.mp m with e | m
    · subst e; exact h.2.2
    · exact ih q m
theorem takeAll : ∀ {rs : List Rs} {vs : List V} {fr : List Addr} {E : En} {fp : List Addr} {ss : List S}, RsAll K F H ρ E vs rs fr → Core K F H ρ E fp → placesOk rs = true → argS E rs = some ss →
    ∃ fa fh E1, OwnL K F H vs ss fa ∧ Core K F H ρ E1 fh ∧ (fr ++ fp).Perm (fa ++ fh) ∧ (∀ q, (eget E q).isSome = true → (∀ p, Rs.pl p ∈ rs → within p q = false) → (eget E1 q).isSome = true) ∧
      ∀ F' H' ss' fa', Core K F' H' ρ E1 fh → OwnL K F' H' vs ss' fa' → ∃ fz fd, Core K F' H' ρ (putAll E rs ss') (fz ++ fh) ∧ fa'.Perm (fz ++ fd)
  | _, _, _, E, fp, _, .nil, c, _, e => by
    cases e
    refine ⟨[], fp, E, .nil, c, by simp, fun q h _ => h, fun F' H' ss' fa' c' l => ?_⟩
    cases l
    exact ⟨[], [], by simpa [putAll] using c', by simp⟩
  | r :: rs, v :: vs, _, E, fp, ss0, .cons (f := f) (g := g) a l, c, ok, e => by
    simp only [argS] at e
    split at e
    · next s ss es ess =>
      cases e
      cases r with
      | val s' =>
        cases es
        simp only [placesOk] at ok
        obtain ⟨fa, fh, E1, o1, c1, pm, keep, close⟩ := takeAll l c ok ess
        refine ⟨f ++ fa, fh, E1, .cons a o1, c1, ?_, fun q h k => keep q h fun p m => k p (List.mem_cons_of_mem _ m), fun F' H' ss' fa' c' l' => ?_⟩
        · rw [List.append_assoc, List.append_assoc]
          exact List.Perm.append_left f pm
        · cases l' with
          | @cons _ _ s2 ss2 k1 k2 a2 l2 =>
            obtain ⟨fz, fd, c2, p2⟩ := close F' H' ss2 k2 c' l2
            refine ⟨fz, k1 ++ fd, by simpa only [putAll] using c2, ?_⟩
            refine (List.Perm.append_left k1 p2).trans ?_
            rw [← List.append_assoc, ← List.append_assoc]
            exact List.Perm.append_right fd List.perm_append_comm
      | pl p =>
        simp only [placesOk, Bool.and_eq_true] at ok
        obtain ⟨a1, a2, a3⟩ := a
        subst a1
        obtain ⟨u, fp1, fp2, e1, o, c1, pm1⟩ := c.take (show eget E p = some s from es)
        rw [a2] at e1
        cases e1
        have l' : RsAll K F H ρ (eput E p (.con v)) vs rs g := l.env fun q m => by
          rw [eget_apart (apartAll_mem ok.1 m)]
          exact l.places q m
        obtain ⟨fa, fh, E1, o1, c2, pm, keep, close⟩ := takeAll l' c1 ok.2 (by rw [argS_put ok.1]; exact ess)
        refine ⟨fp1 ++ fa, fh, E1, .cons o o1, c2, ?_, fun q h k => keep q (eget_ok es h (k p List.mem_cons_self)) fun p m => k p (List.mem_cons_of_mem _ m), fun F' H' ss' fa' c' l2 => ?_⟩
        · -- [] ++ g ++ fp ~ fp1 ++ fa ++ fh
          rw [List.nil_append, List.append_assoc]
          refine (List.Perm.append_left g pm1).trans ?_
          rw [← List.append_assoc]
          refine (List.Perm.append_right fp2 List.perm_append_comm).trans ?_
          rw [List.append_assoc]
          exact List.Perm.append_left fp1 pm
        · cases l2 with
          | @cons _ _ s2 ss2 k1 k2 b2 l2 =>
            obtain ⟨fz, fd, c3, p2⟩ := close F' H' ss2 k2 c' l2
            have hole : eget (putAll (eput E p (.con v)) rs ss2) p = some (.con v) := by
              rw [eget_putAll ok.1, eget_eput es]
            have c4 := c3.put hole b2
            rw [putAll_comm ok.1, eput_eput] at c4
            refine ⟨k1 ++ fz, fd, by rw [List.append_assoc]; simpa only [putAll] using c4, ?_⟩
            rw [List.append_assoc]
            exact List.Perm.append_left k1 p2
    · cases e
theorem killAll_core : ∀ {rs : List Rs} {E : En}, Core K F H ρ E fp → Core K F H ρ (killAll E rs) fp
  | [], _, c => c
  | .pl p :: rs, _, c => killAll_core (rs := rs) (c.kill p)
  | .val _ :: rs, _, c => killAll_core (rs := rs) c
theorem killAll_get : ∀ {rs : List Rs} {E : En} (q : List Nat), eget (killAll E rs) q = eget E q
  | [], _, _ => rfl
  | .pl p :: rs, E, q => by simp only [killAll]; rw [killAll_get q, ekill_get]
  | .val _ :: rs, E, q => by simp only [killAll]; exact killAll_get q
theorem killAll_bor : ∀ {rs : List Rs} {E : En} {i : Nat} {q : List Nat}, (killAll E rs)[i]? = some (Sl.bor q) → E[i]? = some (Sl.bor q) ∧ ∀ p, Rs.pl p ∈ rs → within p q = false
  | [], _, _, _, h => ⟨h, fun _ m => nomatch m⟩
  | .val _ :: rs, E, i, q, h => by
    obtain ⟨h1, h2⟩ := killAll_bor (rs := rs) h
    exact ⟨h1, fun p m => (List.mem_cons.mp m).elim (fun e => nomatch e) (h2 p)⟩
  | .pl p :: rs, E, i, q, h => by
    obtain ⟨h1, h2⟩ := killAll_bor (rs := rs) h
    unfold ekill at h1
    rw [List.getElem?_map] at h1
    cases e : E[i]? with
    | none => rw [e] at h1; cases h1
    | some sl =>
      rw [e] at h1
      cases sl with
      | no => cases h1
      | own w => cases h1
      | bor r =>
        simp only [Option.map_some, kill1, Option.some.injEq] at h1
        cases hw : within p r with
        | true => rw [hw] at h1; simp at h1
        | false =>
          rw [hw] at h1
          simp only [Bool.false_eq_true, if_false, Sl.bor.injEq] at h1
          subst h1
          exact ⟨rfl, fun p' m => (List.mem_cons.mp m).elim (fun e => by cases e; exact hw) (h2 p')⟩
theorem putAll_bor : ∀ {rs : List Rs} {ss : List S} {E : En} {i : Nat} {q : List Nat}, (putAll E rs ss)[i]? = some (Sl.bor q) → E[i]? = some (Sl.bor q)
  | [], _, _, _, _, h => by simpa [putAll] using h
  | .pl _ :: _, [], _, _, _, h => by simpa [putAll] using h
  | .val _ :: _, [], _, _, _, h => by simpa [putAll] using h
  | .val _ :: rs, s :: ss, E, i, q, h => putAll_bor (rs := rs) (ss := ss) (by simpa only [putAll] using h)
  | .pl p :: rs, s :: ss, E, i, q, h => by
    have h1 := putAll_bor (rs := rs) (ss := ss) (by simpa only [putAll] using h)
    cases p with
    | nil => exact h1
    | cons j p =>
      simp only [eput] at h1
      cases e : E[j]? with
      | none => rw [e] at h1; exact h1
      | some sl =>
        rw [e] at h1
        cases sl with
        | own w =>
          dsimp only at h1
          by_cases ij : j = i
          · subst ij
            have hj := (List.getElem?_eq_some_iff.mp e).1
            rw [List.getElem?_set_self hj] at h1
            cases h1
          · rwa [List.getElem?_set_ne ij] at h1
        | no => exact h1
        | bor r => exact h1
def eCall (g : List S → Option (S × List S)) (dr : En → Option (List Rs)) (E : En) : Option (S × En) := match dr E with
  | some rs => if placesOk rs = true then match argS E rs with
      | some ss => match g ss with
        | some (s, ss') => some (s, killAll (putAll E rs ss') rs)
        | none => none
      | none => none
    else none
  | none => none
theorem argS_len : ∀ {rs : List Rs} {ss : List S}, argS E rs = some ss → ss.length = rs.length
  | [], ss, h => by cases h; rfl
  | r :: rs, ss, h => by
    simp only [argS] at h
    split at h
    · next s ss' e1 e2 => cases h; simp only [List.length_cons, argS_len e2]
    · cases h
theorem e_call {m : Nat} {g : List S → Option (S × List S)} {EX : XK} (hr : EvA K n as tr dr) (hm : ∀ E rs, dr E = some rs → rs.length = m) : EvE K n as (tCall (spMv K m g) [] EX tr) (eCall g dr) := by
  intro F H σ E fp L R s E' e Q q
  unfold eCall at e
  split at e
  · next rs ers =>
    split at e
    · next ok =>
      split at e
      · next ss ess =>
        split at e
        · next s' ss' eg =>
          cases e
          refine hr L R ers fun vs F1 H1 fr g1 a nd of => ?_
          have R1 := R.grow g1
          obtain ⟨fa, fh, E1, l, c1, pm, keep, close⟩ := takeAll a R1.core ok ess
          have ndall : (fa ++ fh).Nodup := pm.nodup_iff.mp (R.apart_new g1 nd)
          have memA : ∀ b ∈ fa, b ∈ fr ++ fp := fun b m => pm.mem_iff.mpr (List.mem_append_left _ m)
          have memH : ∀ b ∈ fh, b ∈ fr ++ fp := fun b m => pm.mem_iff.mpr (List.mem_append_right _ m)
          have offAll : ∀ b ∈ fr ++ fp, F1 b = none := fun b m => (List.mem_append.mp m).elim (of b) (R1.off b)
          have dj : ∀ b ∈ fh, b ∉ fa := fun b m1 m2 => (List.nodup_append.mp ndall).2.2 b m2 b m1 rfl
          refine ⟨by rw [List.append_nil, l.length, argS_len ess, hm E rs ers], F1, ss, fa, s, ss', g1.sub, by rw [List.append_nil]; exact l, (List.nodup_append.mp ndall).1, fun b m => offAll b (memA b m), eg, fun v F2 H2 fr2 fa2 g2 l2 ow nd2 of2 => ?_⟩
          rw [List.append_nil] at l2
          have keepH : ∀ b ∈ fh, ∀ o, H1 b = some o → H2 b = some o := fun b m o e => g2.keep b o e (dj b m)
          have c2 := c1.frame g2.f g2.sub keepH
          obtain ⟨fz, fd, c3, pz⟩ := close F2 H2 ss' fa2 c2 l2
          have subz : ∀ b ∈ fz, b ∈ fa2 := fun b m => pz.mem_iff.mpr (List.mem_append_left _ m)
          have thereH : ∀ b ∈ fh, ∃ o, H1 b = some o := c1.there
          have notnew : ∀ b ∈ fh, b ∉ fr2 ++ fa2 := fun b m m2 => by
            obtain ⟨o, eo⟩ := thereH b m
            rcases g2.new b m2 with z | z
            · exact dj b m z
            · rw [eo] at z; cases z
          have ndz : (fz ++ fh).Nodup := by
            have n1 := (List.nodup_append.mp nd2).2.1
            exact nodup_two (List.nodup_append.mp (pz.nodup_iff.mp n1)).1 (List.nodup_append.mp ndall).2.1 fun b m c mc e => by
              subst e
              exact notnew b mc (List.mem_append_right _ (subz b m))
          have R2 : Rep K F2 H2 (σ ++ as) (killAll (putAll E rs ss') rs) (fz ++ fh) := by
            refine ⟨killAll_core c3, g2.sub, ndz, fun b m => ?_, fun i p hb => ?_⟩
            · rcases List.mem_append.mp m with m | m
              · exact of2 b (List.mem_append_right _ (subz b m))
              · obtain ⟨o, eo⟩ := thereH b m
                exact g2.off b (by rw [eo]; exact fun z => nomatch z) (dj b m) (offAll b (memH b m))
            · obtain ⟨hb1, hb2⟩ := killAll_bor hb
              have hb3 := putAll_bor hb1
              obtain ⟨w, k1, k2, k3⟩ := R1.bor i p hb3
              have k4 := keep p k3 hb2
              obtain ⟨t4, ht4⟩ := Option.isSome_iff_exists.mp k4
              refine ⟨w, k1, by rw [c1.follow_keep (fun b o e => g2.sub b o (g2.f b o e)) ht4 keepH]; exact k2, ?_⟩
              rw [killAll_get]
              have go : ∀ (rs : List Rs) (ss : List S) (E : En), (eget E p).isSome = true → (∀ q, Rs.pl q ∈ rs → (eget E q).isSome = true) → placesOk rs = true → (∀ q, Rs.pl q ∈ rs → within q p = false) → (eget (putAll E rs ss) p).isSome = true := by
                intro rs
                induction rs with
                | nil => intro ss E h _ _ _; simpa [putAll] using h
                | cons r rs ih =>
                  intro ss E h hp ok hw
                  cases ss with
                  | nil => cases r <;> simpa [putAll] using h
                  | cons s ss =>
                    cases r with
                    | val _ =>
                      simp only [putAll]
                      exact ih ss E h (fun q m => hp q (List.mem_cons_of_mem _ m)) (by simpa only [placesOk] using ok) fun q m => hw q (List.mem_cons_of_mem _ m)
                    | pl q0 =>
                      simp only [placesOk, Bool.and_eq_true] at ok
                      simp only [putAll]
                      obtain ⟨t0, ht0⟩ := Option.isSome_iff_exists.mp (hp q0 List.mem_cons_self)
                      exact ih ss (eput E q0 s) (eget_ok ht0 h (hw q0 List.mem_cons_self)) (fun q m => by rw [eget_apart (apartAll_mem ok.1 m)]; exact hp q (List.mem_cons_of_mem _ m)) ok.2 fun q m => hw q (List.mem_cons_of_mem _ m)
              exact go rs ss' E k3 a.places ok hb2
          have gg : Grow F H fp F2 H2 (fr2 ++ (fz ++ fh)) := by
            have g1' : Grow F H fp F1 H1 (fa ++ fh) := (g1.ours fp).less fun b m => pm.mem_iff.mpr m
            refine g1'.trans (g2.wide (fun b m => List.mem_append_left _ m) fun b m => ?_)
            rcases List.mem_append.mp m with m | m
            · exact (g2.new b (List.mem_append_left _ m)).imp (fun z => List.mem_append_left _ z) id
            · rcases List.mem_append.mp m with m | m
              · exact (g2.new b (List.mem_append_right _ (subz b m))).imp (fun z => List.mem_append_left _ z) id
              · exact .inl (List.mem_append_right _ m)
          refine q v F2 H2 fr2 (fz ++ fh) gg R2 ow ?_ fun b m => of2 b (List.mem_append_left _ m)
          refine nodup_two (List.nodup_append.mp nd2).1 ndz fun b m c mc e => ?_
          subst e
          rcases List.mem_append.mp mc with mc | mc
          · exact (List.nodup_append.mp nd2).2.2 b m b (subz b mc) rfl
          · exact notnew b mc (List.mem_append_left _ m)
        · cases e
      · cases e
    · cases e
  · cases e
end Mv
/-! Rules for values; expressions with effects *)-/
namespace Mv
open PySem PySem.Spec PyProof.Rows L2
variable {K : PySem.W.Frag} {F F' F1 F2 H H' H1 H2 : Hp} {v u x y : V} {vs ws : List V} {s t : S} {ss tts : List S} {fp fq fr fp' fp1 fp2 f1 f2 : List Addr} {ρ as : Ro} {E E' : En} {n : Nat}
variable {te ta tb tc : TE} {d da db dc : En → Option Rs} {tr : TA} {dr : En → Option (List Rs)} {de df : En → Option (S × En)}

/-! ### two values -/
def fAdd : PyData → PyData → Option PyData | .int i, .int j => some (.int (i + j)) | _, _ => none
def fSub : PyData → PyData → Option PyData | .int i, .int j => some (.int (i - j)) | _, _ => none
def fMul : PyData → PyData → Option PyData | .int i, .int j => if (-(2 ^ 64) < i ∧ i < 2 ^ 64) ∨ (-(2 ^ 64) < j ∧ j < 2 ^ 64) then some (.int (i * j)) else none | _, _ => none
def fDiv : PyData → PyData → Option PyData | .int i, .int j => if 0 < j ∧ j < 1073741824 then some (.int (i / j)) else none | _, _ => none
def fMod : PyData → PyData → Option PyData | .int i, .int j => if 0 < j then some (.int (i % j)) else none | _, _ => none
def fLt : PyData → PyData → Option PyData | .int i, .int j => some (.bool (decide (i < j))) | _, _ => none
def fLe : PyData → PyData → Option PyData | .int i, .int j => some (.bool (decide (i ≤ j))) | _, _ => none
def fGt : PyData → PyData → Option PyData | .int i, .int j => some (.bool (decide (j < i))) | _, _ => none
def fGe : PyData → PyData → Option PyData | .int i, .int j => some (.bool (decide (j ≤ i))) | _, _ => none
theorem rv_int {g : Int → Int → PyData} (h : ∀ i j, isSc (g i j) = true) {f : PyData → PyData → Option PyData} (hf : ∀ a b c, f a b = some c → ∃ i j, a = .int i ∧ b = .int j ∧ c = g i j) {gv : Int → Int → V} (hg : ∀ i j, gv i j = scV (g i j)) : Rv2 K (rI0 gv) f := by
  intro H x y a b c ha hb e Q q
  obtain ⟨i, j, rfl, rfl, rfl⟩ := hf a b c e
  cases ha; cases hb
  exact ⟨i, j, rfl, rfl, by rw [hg]; exact q (h i j)⟩
theorem rv_add : Rv2 K (rI0 fun i j => .int (i + j)) fAdd := rv_int (g := fun i j => .int (i + j)) (fun _ _ => rfl) (fun a b c e => by unfold fAdd at e; split at e <;> cases e; exact ⟨_, _, rfl, rfl, rfl⟩) fun _ _ => rfl
theorem rv_sub : Rv2 K (rI0 fun i j => .int (i - j)) fSub := rv_int (g := fun i j => .int (i - j)) (fun _ _ => rfl) (fun a b c e => by unfold fSub at e; split at e <;> cases e; exact ⟨_, _, rfl, rfl, rfl⟩) fun _ _ => rfl
theorem rv_lt : Rv2 K (rI0 fun i j => .bl (decide (i < j))) fLt := rv_int (g := fun i j => .bool (decide (i < j))) (fun _ _ => rfl) (fun a b c e => by unfold fLt at e; split at e <;> cases e; exact ⟨_, _, rfl, rfl, rfl⟩) fun _ _ => rfl
theorem rv_le : Rv2 K (rI0 fun i j => .bl (decide (i ≤ j))) fLe := rv_int (g := fun i j => .bool (decide (i ≤ j))) (fun _ _ => rfl) (fun a b c e => by unfold fLe at e; split at e <;> cases e; exact ⟨_, _, rfl, rfl, rfl⟩) fun _ _ => rfl
theorem rv_gt : Rv2 K (rI0 fun i j => .bl (decide (j < i))) fGt := rv_int (g := fun i j => .bool (decide (j < i))) (fun _ _ => rfl) (fun a b c e => by unfold fGt at e; split at e <;> cases e; exact ⟨_, _, rfl, rfl, rfl⟩) fun _ _ => rfl
theorem rv_ge : Rv2 K (rI0 fun i j => .bl (decide (j ≤ i))) fGe := rv_int (g := fun i j => .bool (decide (j ≤ i))) (fun _ _ => rfl) (fun a b c e => by unfold fGe at e; split at e <;> cases e; exact ⟨_, _, rfl, rfl, rfl⟩) fun _ _ => rfl
theorem rv_ipadd : Rv2 K (ipI fun i j => i + j) fAdd := by
  intro H x y a b c ha hb e Q q
  unfold fAdd at e
  split at e <;> cases e
  cases ha; cases hb
  exact ⟨_, _, rfl, rfl, q rfl⟩
theorem rv_ipsub : Rv2 K (ipI fun i j => i - j) fSub := by
  intro H x y a b c ha hb e Q q
  unfold fSub at e
  split at e <;> cases e
  cases ha; cases hb
  exact ⟨_, _, rfl, rfl, q rfl⟩
theorem rv_mul : Rv2 K (rI CMul fun i j => .int (i * j)) fMul := by
  intro H x y a b c ha hb e Q q
  unfold fMul at e
  split at e
  · next i j =>
    split at e
    · next h =>
      cases e
      cases ha; cases hb
      exact ⟨i, j, rfl, rfl, h, q rfl⟩
    · cases e
  · cases e
theorem rv_div : Rv2 K (rI CDiv fun i j => .int (i / j)) fDiv := by
  intro H x y a b c ha hb e Q q
  unfold fDiv at e
  split at e
  · next i j =>
    split at e
    · next h =>
      cases e
      cases ha; cases hb
      exact ⟨i, j, rfl, rfl, h, q rfl⟩
    · cases e
  · cases e
theorem rv_mod : Rv2 K (rI (fun _ j => 0 < j) fun i j => .int (i % j)) fMod := by
  intro H x y a b c ha hb e Q q
  unfold fMod at e
  split at e
  · next i j =>
    split at e
    · next h =>
      cases e
      cases ha; cases hb
      exact ⟨i, j, rfl, rfl, h, q rfl⟩
    · cases e
  · cases e
/-- x == y without parts: of which kinds -/
def fEqS : PyData → PyData → Option PyData
  | .none, .none => some (.bool true)
  | .none, .int _ => some (.bool false) | .int _, .none => some (.bool false)
  | .none, .bool _ => some (.bool false) | .bool _, .none => some (.bool false)
  | .none, .str _ => some (.bool false) | .str _, .none => some (.bool false)
  | .int i, .int j => some (.bool (decide (i = j)))
  | .bool i, .bool j => some (.bool (decide (i = j)))
  | .str i, .str j => some (.bool (decide (i = j)))
  | _, _ => none
def fNeS (a b : PyData) : Option PyData := match fEqS a b with
  | some (.bool k) => some (.bool (!k))
  | _ => none
theorem eqS_of {a b c : PyData} {x y : V} (ha : Dq K H x a) (hb : Dq K H y b) (e : fEqS a b = some c) : scal x y = true ∧ c = .bool (decide (x = y)) := by
  unfold fEqS at e
  split at e <;> cases e <;> cases ha <;> cases hb <;> first | (exact ⟨rfl, rfl⟩) | (refine ⟨rfl, ?_⟩; simp)
theorem rv_eq : Rv2 K rEq fEqS := by
  intro H x y a b c ha hb e Q q
  obtain ⟨h1, rfl⟩ := eqS_of ha hb e
  exact ⟨h1, q rfl⟩
theorem rv_ne : Rv2 K rNe fNeS := by
  intro H x y a b c ha hb e Q q
  unfold fNeS at e
  split at e
  · next k ek =>
    cases e
    obtain ⟨h1, h2⟩ := eqS_of ha hb ek
    cases h2
    exact ⟨h1, q rfl⟩
  · cases e
def fEqD (a b : PyData) : Option PyData := if SeqAt.shaped a = true ∧ SeqAt.shaped b = true then some (.bool (PyData.eqv a b)) else none
def fNeD (a b : PyData) : Option PyData := if SeqAt.shaped a = true ∧ SeqAt.shaped b = true then some (.bool (!PyData.eqv a b)) else none
theorem rv_eqD : Rv2 K (rEqD K) fEqD := by
  intro H x y a b c ha hb e Q q
  unfold fEqD at e
  split at e
  · next h => cases e; exact ⟨a, b, ha.dp, hb.dp, h.1, h.2, q rfl⟩
  · cases e
theorem rv_neD : Rv2 K (rNeD K) fNeD := by
  intro H x y a b c ha hb e Q q
  unfold fNeD at e
  split at e
  · next h => cases e; exact ⟨a, b, ha.dp, hb.dp, h.1, h.2, q rfl⟩
  · cases e
def isNone : PyData → Bool | .none => true | _ => false
def fIsN (a b : PyData) : Option PyData := if isNone b then some (.bool (isNone a)) else none
def fNotN (a b : PyData) : Option PyData := if isNone b then some (.bool (!isNone a)) else none
theorem none_of {a : PyData} (ha : Dq K H x a) : decide (x = .non) = isNone a := by
  cases ha <;> simp [isNone]
theorem rv_isN : Rv2 K (fun x y H Q => y = V.non ∧ Q (.bl (decide (x = .non))) H) fIsN := by
  intro H x y a b c ha hb e Q q
  unfold fIsN at e
  split at e
  · next h =>
    cases e
    cases b <;> first | (cases hb; exact ⟨rfl, by rw [none_of ha]; exact q rfl⟩) | cases h
  · cases e
theorem rv_notN : Rv2 K (fun x y H Q => y = V.non ∧ Q (.bl (!decide (x = .non))) H) fNotN := by
  intro H x y a b c ha hb e Q q
  unfold fNotN at e
  split at e
  · next h =>
    cases e
    cases b <;> first | (cases hb; exact ⟨rfl, by rw [none_of ha]; exact q rfl⟩) | cases h
  · cases e
def fNeg : PyData → Option PyData | .int i => some (.int (-i)) | _ => none
def dNeg (d : En → Option Rs) (E : En) : Option Rs := match d E with
  | some (.val (.dat (.int i))) => some (.val (.dat (.int (-i))))
  | _ => none
theorem p_neg (h : EvP K n as te d) : EvP K n as (tUn (rU fun i => .int (-i)) te) (dNeg d) := by
  intro F H σ E fp L R r e Q q
  unfold dNeg at e
  split at e
  · next i ed =>
    cases e
    refine h L R ed fun v F1 H1 f1 g1 r1 n1 o1 => ?_
    cases (Own.dat_inv (show Own K F1 H1 v _ f1 from r1) rfl).1
    exact ⟨i, rfl, q _ F1 H1 [] g1.drop (.dat (.int _)) List.nodup_nil (fun _ m => nomatch m)⟩
  · cases e

/-! ### effects -/
theorem Own.after (o : Own K F H v s fr) (g : Grow F H fp F' H' fp') (d : ∀ a ∈ fr, a ∉ fp) : Own K F' H' v s fr := o.grow g d
theorem apartN (nd : (fr ++ fp).Nodup) : ∀ a ∈ fr, a ∉ fp := fun a m m2 => (List.nodup_append.mp nd).2.2 a m a m2 rfl
/-- what is owned aside stays aside while ours grow -/
theorem aside (nd : (fr ++ fp).Nodup) (th : ∀ a ∈ fr, ∃ o, H a = some o) (g : Grow F H fp F' H' fp') : ∀ a ∈ fr, a ∉ fp' := fun a m m2 => by
  rcases g.new a m2 with z | z
  · exact apartN nd a m z
  · obtain ⟨o, eo⟩ := th a m
    rw [eo] at z; cases z
def eOp (f : PyData → PyData → Option PyData) (da db : En → Option (S × En)) (E : En) : Option (S × En) := match da E with
  | some (a, E1) => match db E1 with
    | some (b, E2) => match a.toD, b.toD with
      | some a, some b => (f a b).map fun c => (.dat c, E2)
      | _, _ => none
    | none => none
  | none => none
theorem e_op {r : R2} {f : PyData → PyData → Option PyData} (hr : Rv2 K r f) (ha : EvE K n as ta de) (hb : EvE K n as tb df) : EvE K n as (tOp r ta tb) (eOp f de df) := by
  intro F H σ E fp L R s E' e Q q
  unfold eOp at e
  split at e
  · next a E1 ea =>
    split at e
    · next b E2 eb =>
      split at e
      · next a' b' ea' eb' =>
        obtain ⟨c, ec, e2⟩ := Option.map_eq_some_iff.mp e
        cases e2
        refine ha L R ea fun x F1 H1 fr1 fp1 g1 R1 o1 nd1 of1 => hb L R1 eb fun y F2 H2 fr2 fp2 g2 R2 o2 nd2 of2 => ?_
        have o1' := o1.grow g2 (apartN nd1)
        refine hr (Own.dp R2.sub a o1' ea') (Own.dp R2.sub b o2 eb') ec fun hc => ?_
        have g12 : Grow F H fp F2 H2 fp2 := (g1.less (fun a m => List.mem_append_right _ m)).trans (g2.less fun a m => List.mem_append_right _ m)
        exact q _ F2 H2 [] fp2 g12 R2 (.dat (scV_dp hc)) R2.nd (fun _ m => nomatch m)
      · cases e
    · cases e
  · cases e
def eAndV (da db : En → Option (S × En)) (E : En) : Option (S × En) := match da E with
  | some (.dat (.bool true), E') => db E'
  | some (.dat (.bool false), E') => some (.dat (.bool false), E')
  | _ => none
def eOrV (da db : En → Option (S × En)) (E : En) : Option (S × En) := match da E with
  | some (.dat (.bool false), E') => db E'
  | some (.dat (.bool true), E') => some (.dat (.bool true), E')
  | _ => none
def eNotV (da : En → Option (S × En)) (E : En) : Option (S × En) := match da E with
  | some (.dat (.bool b), E') => some (.dat (.bool (!b)), E')
  | _ => none
theorem e_andV (ha : EvE K n as ta de) (hb : EvE K n as tb df) : EvE K n as (tAndV ta tb) (eAndV de df) := by
  intro F H σ E fp L R s E' e Q q
  unfold eAndV at e
  split at e
  · next E1 ea =>
    refine ha L R ea fun x F1 H1 fr1 fp1 g1 R1 o1 nd1 of1 => ?_
    cases (o1.dat_inv rfl).1
    have g1' := g1.less (fr := fp1) fun a m => List.mem_append_right _ m
    exact ⟨true, rfl, iteT (hb L R1 e fun y F2 H2 fr2 fp2 g2 R2 o2 nd2 of2 => q y F2 H2 fr2 fp2 (g1'.trans g2) R2 o2 nd2 of2)⟩
  · next E1 ea =>
    cases e
    refine ha L R ea fun x F1 H1 fr1 fp1 g1 R1 o1 nd1 of1 => ?_
    cases (o1.dat_inv rfl).1
    exact ⟨false, rfl, iteF (q _ F1 H1 [] fp1 (g1.less fun a m => List.mem_append_right _ m) R1 (.dat (.bl false)) R1.nd (fun _ m => nomatch m))⟩
  · cases e
theorem e_orV (ha : EvE K n as ta de) (hb : EvE K n as tb df) : EvE K n as (tOrV ta tb) (eOrV de df) := by
  intro F H σ E fp L R s E' e Q q
  unfold eOrV at e
  split at e
  · next E1 ea =>
    refine ha L R ea fun x F1 H1 fr1 fp1 g1 R1 o1 nd1 of1 => ?_
    cases (o1.dat_inv rfl).1
    have g1' := g1.less (fr := fp1) fun a m => List.mem_append_right _ m
    exact ⟨false, rfl, iteF (hb L R1 e fun y F2 H2 fr2 fp2 g2 R2 o2 nd2 of2 => q y F2 H2 fr2 fp2 (g1'.trans g2) R2 o2 nd2 of2)⟩
  · next E1 ea =>
    cases e
    refine ha L R ea fun x F1 H1 fr1 fp1 g1 R1 o1 nd1 of1 => ?_
    cases (o1.dat_inv rfl).1
    exact ⟨true, rfl, iteT (q _ F1 H1 [] fp1 (g1.less fun a m => List.mem_append_right _ m) R1 (.dat (.bl true)) R1.nd (fun _ m => nomatch m))⟩
  · cases e
theorem e_notV (ha : EvE K n as ta de) : EvE K n as (tNotV ta) (eNotV de) := by
  intro F H σ E fp L R s E' e Q q
  unfold eNotV at e
  split at e
  · next b E1 ea =>
    cases e
    refine ha L R ea fun x F1 H1 fr1 fp1 g1 R1 o1 nd1 of1 => ?_
    cases (o1.dat_inv rfl).1
    exact ⟨b, rfl, q _ F1 H1 [] fp1 (g1.less fun a m => List.mem_append_right _ m) R1 (.dat (.bl _)) R1.nd (fun _ m => nomatch m)⟩
  · cases e

/-! ### isinstance, len, built-ins -/
inductive Ty where
  | non | bool | int | str | list | tuple | dict
  deriving DecidableEq
def Ty.name : Ty → String
  | .non => "NoneType" | .bool => "bool" | .int => "int" | .str => "str" | .list => "list" | .tuple => "tuple" | .dict => "dict"
def Ty.sub : Ty → Ty → Bool
  | .bool, .int => true
  | a, b => decide (a = b)
theorem Ty.kit : ∀ a b : Ty, kitB a.name b.name = some (a.sub b) := by
  intro a b
  cases a <;> cases b <;> decide +kernel
def tyName : S → Option Ty
  | .dat .none => some .non | .dat (.bool _) => some .bool | .dat (.int _) => some .int | .dat (.str _) => some .str
  | .dat (.list _) => some .list | .dat (.tuple _) => some .tuple
  | .lst _ => some .list | .dct false _ => some .dict
  | _ => none
theorem tyX_of (sub : ∀ a o, F a = some o → H a = some o) (o : Own K F H v s fp) {T : Ty} (h : tyName s = some T) : TyX K H v (.type T.name) := by
  cases s with
  | dat d =>
    have dp := (o.dat_inv rfl).1
    cases d with
    | none => cases h; cases dp; exact .base .non
    | bool b => cases h; cases dp; exact .base (.bl b)
    | int i => cases h; cases dp; exact .base (.int i)
    | str x => cases h; cases dp; exact .base (.str x)
    | list ds =>
      cases h
      obtain ⟨a, xs, rfl, hq, _⟩ := Mv.Dq.list_inv dp
      rcases hq with (hq | ⟨ob, hq⟩) | ⟨ob, its, k, hk, hc, _⟩
      · exact .base (.lst (sub _ _ hq))
      · exact .base (.frz (sub _ _ hq))
      · exact .kList hk hc
    | tuple ds =>
      cases h
      obtain ⟨a, xs, rfl, hq, _⟩ := Mv.Dq.tuple_inv dp
      rcases hq with (hq | ⟨ob, hq⟩) | ⟨ob, its, k, hk, hc, _⟩
      · exact .base (.tup (sub _ _ hq))
      · exact .fTuple (sub _ _ hq)
      · exact .kTuple hk hc
    | dict kvs => cases h
  | con w => cases h
  | lst xs =>
    cases h
    obtain ⟨a, vs, fq, rfl, hH, _⟩ := o.lst_inv rfl
    exact .base (.lst hH)
  | dct l kvs =>
    cases l with
    | true => cases h
    | false =>
      cases h
      cases o with
      | @node a ob _ ex fq hh hd _ =>
        cases ob with
        | dK k => exact .base (.dK hh)
        | frz o u => cases u <;> exact hd.elim
        | _ => exact hd.elim
  | ins C fs => cases h
def dIsi (T : Ty) (d : En → Option Rs) (E : En) : Option Rs := match d E with
  | some r => match (r.at E).bind tyName with
    | some U => some (.val (.dat (.bool (U.sub T))))
    | none => none
  | none => none
theorem p_isi {T : Ty} (h : EvP K n as te d) : EvP K n as (tCB (rIsi K) (tCons te (tCons (tC (.ty T.name)) tNil))) (dIsi T d) := by
  intro F H σ E fp L R r e Q q
  unfold dIsi at e
  split at e
  · next r1 ed =>
    split at e
    · next U eU =>
      cases e
      obtain ⟨s, hs, hT⟩ := Option.bind_eq_some_iff.mp eU
      refine h L R ed fun v F1 H1 f1 g1 a1 n1 o1 => ?_
      obtain ⟨fq, ow⟩ := a1.own (R.grow g1) hs
      exact ⟨v, .ty T.name, .type U.name, .type T.name, U.sub T, rfl, .ty T.name, tyX_of g1.sub ow hT, kit_ty (Ty.kit U T), q _ F1 H1 [] g1.drop (.dat (.bl _)) List.nodup_nil (fun _ m => nomatch m)⟩
    · cases e
  · cases e
def lenS : S → Option Nat
  | .lst ss => some ss.length
  | .dat (.list ds) => some ds.length
  | .dat (.tuple ds) => some ds.length
  | _ => none
def dLen (d : En → Option Rs) (E : En) : Option Rs := match d E with
  | some r => ((r.at E).bind lenS).map fun k => .val (.dat (.int (k : Nat)))
  | none => none
theorem len_of (sub : ∀ a o, F a = some o → H a = some o) (o : Own K F H v s fp) {k : Nat} (h : lenS s = some k) : ∃ a xs, v = .ref a ∧ (SqL K H a xs ∨ SqT K H a xs) ∧ xs.length = k := by
  cases s with
  | lst ss =>
    cases h
    obtain ⟨a, vs, fq, rfl, hH, l, _⟩ := o.lst_inv rfl
    exact ⟨a, vs, rfl, .inl (.inl (.inl hH)), l.length⟩
  | dat d => cases d with
    | list ds =>
      cases h
      obtain ⟨a, xs, rfl, hq, da⟩ := Mv.Dq.list_inv (o.dat_inv rfl).1
      exact ⟨a, xs, rfl, .inl (SqL.mono sub hq), Mv.DqAll.len da⟩
    | tuple ds =>
      cases h
      obtain ⟨a, xs, rfl, hq, da⟩ := Mv.Dq.tuple_inv (o.dat_inv rfl).1
      exact ⟨a, xs, rfl, .inr (SqT.mono sub hq), Mv.DqAll.len da⟩
    | _ => cases h
  | con w => cases h
  | dct l kvs => cases h
  | ins C fs => cases h
theorem p_len (h : EvP K n as te d) : EvP K n as (tCB (fun xs H Q => ∃ p ys, xs = [.ref p] ∧ (SqL K H p ys ∨ SqT K H p ys) ∧ Q (.int ys.length) H) (tCons te tNil)) (dLen d) := by
  intro F H σ E fp L R r e Q q
  unfold dLen at e
  split at e
  · next r1 ed =>
    obtain ⟨k, hk, rfl⟩ := Option.map_eq_some_iff.mp e
    obtain ⟨s, hs, hl⟩ := Option.bind_eq_some_iff.mp hk
    refine h L R ed fun v F1 H1 f1 g1 a1 n1 o1 => ?_
    obtain ⟨fq, ow⟩ := a1.own (R.grow g1) hs
    obtain ⟨a, xs, rfl, hq, hx⟩ := len_of g1.sub ow hl
    exact ⟨a, xs, rfl, hq, by rw [hx]; exact q _ F1 H1 [] g1.drop (.dat (.int _)) List.nodup_nil (fun _ m => nomatch m)⟩
  · cases e
/-- a built-in call upon data, the answer without parts -/
def RvC (K : PySem.W.Frag) (r : List V → Hp → VK → Prop) (f : List PyData → Option PyData) : Prop :=
  ∀ {H : Hp} {vs : List V} {ds : List PyData} {c : PyData}, DqAll K H vs ds → f ds = some c → ∀ {Q : VK}, (isSc c = true → Q (scV c) H) → r vs H Q
def fulls (E : En) : List Rs → Option (List PyData)
  | [] => some []
  | r :: rs => match r.full E, fulls E rs with
    | some d, some ds => some (d :: ds)
    | _, _ => none
theorem RsAll.dps {rs : List Rs} {ds : List PyData} (R : Rep K F H ρ E fp) (a : RsAll K F H ρ E vs rs fr) (h : fulls E rs = some ds) : DqAll K H vs ds := by
  induction a generalizing ds with
  | nil => cases h; exact .nil
  | @cons v vs r rs f g a t ih =>
    simp only [fulls] at h
    split at h
    · next d ds' e1 e2 => cases h; exact .cons (a.dp R e1) (ih e2)
    · cases h
def dCB (f : List PyData → Option PyData) (dr : En → Option (List Rs)) (E : En) : Option Rs := match dr E with
  | some rs => match fulls E rs with
    | some ds => (f ds).map fun c => .val (.dat c)
    | none => none
  | none => none
theorem p_cb {r : List V → Hp → VK → Prop} {f : List PyData → Option PyData} (hr : RvC K r f) (h : EvA K n as tr dr) : EvP K n as (tCB r tr) (dCB f dr) := by
  intro F H σ E fp L R r1 e Q q
  unfold dCB at e
  split at e
  · next rs er =>
    split at e
    · next ds eds =>
      obtain ⟨c, ec, rfl⟩ := Option.map_eq_some_iff.mp e
      refine h L R er fun vs F1 H1 f1 g1 a1 n1 o1 => hr (a1.dps (R.grow g1) eds) ec fun hc => ?_
      exact q _ F1 H1 [] g1.drop (.dat (scV_dp hc)) List.nodup_nil (fun _ m => nomatch m)
    · cases e
  · cases e
def eCB1 (f : List PyData → Option PyData) (d : En → Option (S × En)) (E : En) : Option (S × En) := match d E with
  | some (s, E') => match s.toD with
    | some a => (f [a]).map fun c => (.dat c, E')
    | none => none
  | none => none
theorem e_cb1 {r : List V → Hp → VK → Prop} {f : List PyData → Option PyData} (hr : RvC K r f) (h : EvE K n as te de) : EvE K n as (tCB r (tCons te tNil)) (eCB1 f de) := by
  intro F H σ E fp L R s E' e Q q
  unfold eCB1 at e
  split at e
  · next s1 E1 ed =>
    split at e
    · next a ea =>
      obtain ⟨c, ec, e2⟩ := Option.map_eq_some_iff.mp e
      cases e2
      refine h L R ed fun v F1 H1 fr fp1 g1 R1 o1 nd1 of1 => hr (.cons (Own.dp R1.sub s1 o1 ea) .nil) ec fun hc => ?_
      exact q _ F1 H1 [] fp1 (g1.less fun a m => List.mem_append_right _ m) R1 (.dat (scV_dp hc)) R1.nd (fun _ m => nomatch m)
    · cases e
  · cases e
/-! which -/
def intsD : List PyData → Option (List Int)
  | [] => some []
  | .int i :: ds => (intsD ds).map (i :: ·)
  | _ => none
def boolsD : List PyData → Option (List Bool)
  | [] => some []
  | .bool b :: ds => (boolsD ds).map (b :: ·)
  | _ => none
theorem intsD_dp : ∀ {ds : List PyData} {xs : List V} {ns : List Int}, DqAll K H xs ds → intsD ds = some ns → xs = ns.map V.int
  | [], _, _, .nil, e => by cases e; rfl
  | .int i :: ds, _, _, .cons (.int _) t, e => by
    simp only [intsD] at e
    obtain ⟨r, hr, rfl⟩ := Option.map_eq_some_iff.mp e
    rw [List.map_cons, intsD_dp t hr]
  | .none :: _, _, _, _, e => by simp [intsD] at e
  | .bool _ :: _, _, _, _, e => by simp [intsD] at e
  | .str _ :: _, _, _, _, e => by simp [intsD] at e
  | .list _ :: _, _, _, _, e => by simp [intsD] at e
  | .tuple _ :: _, _, _, _, e => by simp [intsD] at e
  | .dict _ :: _, _, _, _, e => by simp [intsD] at e
theorem boolsD_dp : ∀ {ds : List PyData} {xs : List V} {ns : List Bool}, DqAll K H xs ds → boolsD ds = some ns → xs = ns.map V.bl
  | [], _, _, .nil, e => by cases e; rfl
  | .bool i :: ds, _, _, .cons (.bl _) t, e => by
    simp only [boolsD] at e
    obtain ⟨r, hr, rfl⟩ := Option.map_eq_some_iff.mp e
    rw [List.map_cons, boolsD_dp t hr]
  | .none :: _, _, _, _, e => by simp [boolsD] at e
  | .int _ :: _, _, _, _, e => by simp [boolsD] at e
  | .str _ :: _, _, _, _, e => by simp [boolsD] at e
  | .list _ :: _, _, _, _, e => by simp [boolsD] at e
  | .tuple _ :: _, _, _, _, e => by simp [boolsD] at e
  | .dict _ :: _, _, _, _, e => by simp [boolsD] at e
def fSum : List PyData → Option PyData
  | [.list ds] => (intsD ds).map fun ns => .int ns.sum
  | _ => none
def fAll : List PyData → Option PyData
  | [.list ds] => (boolsD ds).map fun bs => .bool (bs.all id)
  | _ => none
def fAny : List PyData → Option PyData
  | [.list ds] => (boolsD ds).map fun bs => .bool (bs.any id)
  | _ => none
def fMin2 : List PyData → Option PyData
  | [.int i, .int j] => some (.int (if j < i then j else i))
  | _ => none
def fMax2 : List PyData → Option PyData
  | [.int i, .int j] => some (.int (if j > i then j else i))
  | _ => none
def fInt : List PyData → Option PyData
  | [.int i] => some (.int i)
  | [.bool b] => some (.int (if b then 1 else 0))
  | _ => none
end Mv
/-! Built-ins; loops -/
namespace Mv
open PySem PySem.Spec PyProof.Rows L2
variable {K : PySem.W.Frag} {F F' F1 F2 H H' H1 H2 : Hp} {v u x y : V} {vs ws : List V} {s t : S} {ss tts : List S} {fp fq fr fp' fp1 fp2 f1 f2 : List Addr} {ρ as : Ro} {E E' : En} {n : Nat}
variable {te ta tb tc : TE} {d da db dc : En → Option Rs} {tr : TA} {dr : En → Option (List Rs)} {de df : En → Option (S × En)}

theorem rc_sum : RvC K (rSum K) fSum := by
  intro H vs ds c hd e Q q
  unfold fSum at e
  split at e
  · next ds =>
    obtain ⟨ns, hn, rfl⟩ := Option.map_eq_some_iff.mp e
    cases hd with
    | cons h t =>
      cases t
      obtain ⟨a, xs, rfl, hq, da⟩ := Mv.Dq.list_inv h
      exact ⟨a, ns, rfl, by rw [← intsD_dp da hn]; exact hq, q rfl⟩
  · cases e
theorem rc_all : RvC K (rAll K) fAll := by
  intro H vs ds c hd e Q q
  unfold fAll at e
  split at e
  · next ds =>
    obtain ⟨ns, hn, rfl⟩ := Option.map_eq_some_iff.mp e
    cases hd with
    | cons h t =>
      cases t
      obtain ⟨a, xs, rfl, hq, da⟩ := Mv.Dq.list_inv h
      exact ⟨a, ns, rfl, by rw [← boolsD_dp da hn]; exact hq, q rfl⟩
  · cases e
theorem rc_any : RvC K (rAny K) fAny := by
  intro H vs ds c hd e Q q
  unfold fAny at e
  split at e
  · next ds =>
    obtain ⟨ns, hn, rfl⟩ := Option.map_eq_some_iff.mp e
    cases hd with
    | cons h t =>
      cases t
      obtain ⟨a, xs, rfl, hq, da⟩ := Mv.Dq.list_inv h
      exact ⟨a, ns, rfl, by rw [← boolsD_dp da hn]; exact hq, q rfl⟩
  · cases e
theorem rc_min2 : RvC K (fun xs H Q => ∃ i j, xs = [.int i, .int j] ∧ Q (.int (if j < i then j else i)) H) fMin2 := by
  intro H vs ds c hd e Q q
  unfold fMin2 at e
  split at e <;> cases e
  cases hd with
  | cons h t => cases t with
    | cons h2 t => cases t; cases h; cases h2; exact ⟨_, _, rfl, q rfl⟩
theorem rc_max2 : RvC K (fun xs H Q => ∃ i j, xs = [.int i, .int j] ∧ Q (.int (if j > i then j else i)) H) fMax2 := by
  intro H vs ds c hd e Q q
  unfold fMax2 at e
  split at e <;> cases e
  cases hd with
  | cons h t => cases t with
    | cons h2 t => cases t; cases h; cases h2; exact ⟨_, _, rfl, q rfl⟩
theorem rc_int : RvC K (fun xs H Q => (∃ i, xs = [.int i] ∧ Q (.int i) H) ∨ ∃ k, xs = [.bl k] ∧ Q (.int (if k then 1 else 0)) H) fInt := by
  intro H vs ds c hd e Q q
  unfold fInt at e
  split at e <;> cases e
  · cases hd with
    | cons h t => cases t; cases h; exact .inl ⟨_, rfl, q rfl⟩
  · cases hd with
    | cons h t => cases t; cases h; exact .inr ⟨_, rfl, q rfl⟩
end Mv
/-! for -/
namespace Mv
open PySem PySem.Spec PyProof.Rows L2
variable {K : PySem.W.Frag} {F F' F1 F2 H H' H1 H2 : Hp} {v u x y : V} {vs ws : List V} {s t : S} {ss tts : List S} {fp fq fr fp' fp1 fp2 f1 f2 : List Addr} {ρ as : Ro} {E E' : En} {n : Nat}
variable {W : WXm} {te ta tb tc : TE} {d da db dc : En → Option Rs} {tr : TA} {dr : En → Option (List Rs)} {de df : En → Option (S × En)}

/-! ### targets -/
def EvG (K : PySem.W.Frag) (n : Nat) (g : TG) (bd : Rs → En → Option En) : Prop :=
  ∀ {as : Ro} {F H : Hp} {σ : L2.St} {E E' : En} {fp : List Addr} {v : V} {r : Rs}, σ.length = n → Rep K F H (σ ++ as) E fp → RsAt K F H (σ ++ as) E v r [] → bd r E = some E' → ∀ {Q : L2.St → Hp → Prop},
    (∀ (σ' : L2.St) F' H' fp', σ'.length = n → Grow F H fp F' H' fp' → Rep K F' H' (σ' ++ as) E' fp' → Q σ' H') → g v σ H Q
def bName (i : Nat) (r : Rs) (E : En) : Option En := match r with
  | .val s => some (slotSet E i (.own s))
  | .pl p => if p.head? = some i then none else some (slotSet E i (.bor p))
theorem g_name {i : Nat} (hi : i < n) : EvG K n (gName i) (bName i) := by
  intro as F H σ E E' fp v r L R a e Q q
  have hl : i < (σ ++ as).length := by rw [List.length_append]; omega
  cases r with
  | val s =>
    cases e
    obtain ⟨fq, R2, sb⟩ := R.setSlot (e := .own s) (fr := []) hl a R.nd (fun _ m => nomatch m)
    exact q _ F H fq (by rw [List.length_set]; exact L) ((Grow.refl R.sub fp).less fun a m => by simpa using sb a m) (by rw [set_app (by omega)]; exact R2)
  | pl p =>
    unfold bName at e
    dsimp only at e
    split at e
    · cases e
    · next hp =>
      cases e
      obtain ⟨a1, a2, a3⟩ := a
      obtain ⟨fq, R2, sb⟩ := R.setSlot (e := .bor p) (fr := []) hl ⟨rfl, hp, a2, a3⟩ R.nd (fun _ m => nomatch m)
      exact q _ F H fq (by rw [List.length_set]; exact L) ((Grow.refl R.sub fp).less fun a m => by simpa using sb a m) (by rw [set_app (by omega)]; exact R2)
/-- several, of data -/
def EvGs (K : PySem.W.Frag) (n : Nat) (g : TGs) (bd : List PyData → En → Option En) : Prop :=
  ∀ {as : Ro} {F H : Hp} {σ : L2.St} {E E' : En} {fp : List Addr} {vs : List V} {ds : List PyData}, σ.length = n → Rep K F H (σ ++ as) E fp → DqAll K F vs ds → bd ds E = some E' → ∀ {Q : L2.St → Hp → Prop},
    (∀ (σ' : L2.St) F' H' fp', σ'.length = n → Grow F H fp F' H' fp' → Rep K F' H' (σ' ++ as) E' fp' → Q σ' H') → g vs σ H Q
def bNil (ds : List PyData) (E : En) : Option En := match ds with
  | [] => some E
  | _ => none
def bCons (b : Rs → En → Option En) (bs : List PyData → En → Option En) (ds : List PyData) (E : En) : Option En := match ds with
  | d :: ds => match b (.val (.dat d)) E with
    | some E1 => bs ds E1
    | none => none
  | [] => none
def bTup (k : Nat) (bs : List PyData → En → Option En) (r : Rs) (E : En) : Option En := match r with
  | .val (.dat (.tuple ds)) => if ds.length = k then bs ds E else none
  | _ => none
theorem gs_nil : EvGs K n gNil bNil := by
  intro as F H σ E E' fp vs ds L R a e Q q
  cases a with
  | nil => cases e; exact ⟨rfl, q σ F H fp L (.refl R.sub fp) R⟩
  | cons _ _ => cases e
theorem gs_cons {g : TG} {gs : TGs} {b : Rs → En → Option En} {bs : List PyData → En → Option En} (hg : EvG K n g b) (hs : EvGs K n gs bs) : EvGs K n (gCons g gs) (bCons b bs) := by
  intro as F H σ E E' fp vs ds L R a e Q q
  cases a with
  | nil => cases e
  | @cons v vs d ds h t =>
    simp only [bCons] at e
    split at e
    · next E1 e1 =>
      exact ⟨v, vs, rfl, hg L R (r := .val (.dat d)) (Own.dat h) e1 fun σ1 F1 H1 fp1 L1 g1 R1 => hs L1 R1 (DqAll.mono g1.f t) e fun σ2 F2 H2 fp2 L2 g2 R2 => q σ2 F2 H2 fp2 L2 (g1.trans g2) R2⟩
    · cases e
theorem g_tup {gs : TGs} {bs : List PyData → En → Option En} {k : Nat} (hs : EvGs K n gs bs) : EvG K n (gTup K k gs) (bTup k bs) := by
  intro as F H σ E E' fp v r L R a e Q q
  unfold bTup at e
  split at e
  · next ds =>
    split at e
    · next hk =>
      obtain ⟨ad, xs, rfl, hq, da⟩ := Mv.Dq.tuple_inv ((show Own K F H v _ [] from a).dat_inv rfl).1
      exact ⟨ad, xs, rfl, SqT.mono R.sub hq, (Mv.DqAll.len da).trans hk, hs L R da e q⟩
    · cases e
  · cases e
/-- a target gets a value -/
def dAsg (b : Rs → En → Option En) (d : En → Option (S × En)) (E : En) : Option Out := match d E with
  | some (.dat x, E') => (b (.val (.dat x)) E').map .nx
  | _ => none
theorem s_asg {g : TG} {b : Rs → En → Option En} (hg : EvG K n g b) (h : EvE K n as te de) : EvS K n as W (tAsg te g) (dAsg b de) := by
  intro F H σ E fp L R o e D gg
  unfold dAsg at e
  split at e
  · next x E' ed =>
    obtain ⟨E2, e2, rfl⟩ := Option.map_eq_some_iff.mp e
    refine h L R ed fun v F1 H1 fr fp1 g1 R1 ow nd of => ?_
    exact hg L R1 (r := .val (.dat x)) (Own.dat (ow.dat_inv rfl).1) e2 fun σ2 F2 H2 fp2 L2 g2 R2 => gg σ2 F2 H2 fp2 L2 ((g1.less fun a m => List.mem_append_right _ m).trans g2) R2
  · cases e

/-! ### what is walked -/
theorem Grow.mine (g : Grow F H [] F' H' fr) : Grow F H fp F' H' fp := (g.ours fp).less fun a m => List.mem_append_right _ m
structure Src where
  /-- what stands behind it -/
  env : En
  /-- roots more, that hold what is walked -/
  exE : En
  /-- item i, if there is one; none: stuck -/
  rd : En → Nat → Option (Option Rs)
  fuel : Nat
def EvI (K : PySem.W.Frag) (n : Nat) (as : Ro) (wi : TI) (src : En → Option Src) : Prop :=
  ∀ {F H : Hp} {σ : L2.St} {E : En} {fp : List Addr}, σ.length = n → Rep K F H (σ ++ as) E fp → ∀ {c : Src}, src E = some c → ∀ {R : It → Hp → Prop},
    (∀ (J : It) F1 H1 (ex : List V) fp1, Grow F H fp F1 H1 fp1 → Rep K F1 H1 (σ ++ (as ++ ex.map some)) (c.env ++ c.exE) fp1 → ex.length = c.exE.length →
      (∀ F2 H2 (σ2 : L2.St) E2 fp2, σ2.length = n → Grow F1 H1 fp1 F2 H2 fp2 → Rep K F2 H2 (σ2 ++ (as ++ ex.map some)) E2 fp2 → ∀ i,
        (∀ r, c.rd E2 i = some (some r) → J.go i H2 ∧ ∀ x H', J.yld i H2 x H' → H' = H2 ∧ RsAt K F2 H2 (σ2 ++ (as ++ ex.map some)) E2 x r []) ∧ (c.rd E2 i = some none → J.stop i H2)) → R J H1) → wi σ H R
def rdD (ds : List PyData) (_ : En) (i : Nat) : Option (Option Rs) := some ((ds[i]?).map fun d => .val (.dat d))
/-- range(k) -/
def iRange (d : En → Option Rs) (E : En) : Option Src := match d E with
  | some (.val (.dat (.int j))) => if j < 2 ^ 62 ∧ -(2 ^ 62) ≤ j then some ⟨E, [], fun _ i => some (if i < j.toNat then some (.val (.dat (.int (i : Nat)))) else none), j.toNat⟩ else none
  | _ => none
theorem i_range (h : EvP K n as te d) : EvI K n as (iRng1 (tCons te tNil)) (iRange d) := by
  intro F H σ E fp L R c e Rr q
  unfold iRange at e
  split at e
  · next j ed =>
    split at e
    · next hj =>
      cases e
      refine h L R ed fun v F1 H1 f1 g1 a1 n1 o1 => ?_
      cases (Own.dat_inv (show Own K F1 H1 v _ f1 from a1) rfl).1
      refine ⟨j, rfl, hj.2, hj.1, q _ F1 H1 [] fp g1.mine (by simpa using R.grow g1) rfl fun F2 H2 σ2 E2 fp2 L2 g2 R2 i => ⟨fun r hr => ?_, fun hr => ?_⟩⟩
      · have hr := Option.some.inj hr
        by_cases hi : i < j.toNat
        · rw [if_pos hi] at hr
          cases hr
          refine ⟨hi, fun x H' hy => ⟨hy.1, ?_⟩⟩
          rw [hy.2]
          have : (0 : Int) + (i : Int) = ((i : Nat) : Int) := by omega
          rw [this]
          exact .dat (.int _)
        · rw [if_neg hi] at hr; cases hr
      · have hr := Option.some.inj hr
        by_cases hi : i < j.toNat
        · rw [if_pos hi] at hr; cases hr
        · exact Nat.le_of_not_lt hi
    · cases e
  · cases e
def datsS : List S → Option (List PyData)
  | [] => some []
  | .dat d :: ss => (datsS ss).map (d :: ·)
  | _ => none
theorem datsS_dp : ∀ {ss : List S} {vs : List V} {fp : List Addr} {ds : List PyData}, OwnL K F H vs ss fp → datsS ss = some ds → DqAll K F vs ds ∧ fp = []
  | [], _, _, _, .nil, e => by cases e; exact ⟨.nil, rfl⟩
  | .dat d :: ss, _, _, _, .cons a l, e => by
    simp only [datsS] at e
    obtain ⟨r, hr, rfl⟩ := Option.map_eq_some_iff.mp e
    obtain ⟨h1, h2⟩ := a.dat_inv rfl
    obtain ⟨h3, h4⟩ := datsS_dp l hr
    subst h2 h4
    exact ⟨.cons h1 h3, rfl⟩
  | .con _ :: _, _, _, _, _, e => by simp [datsS] at e
  | .lst _ :: _, _, _, _, _, e => by simp [datsS] at e
  | .dct _ _ :: _, _, _, _, _, e => by simp [datsS] at e
  | .ins _ _ :: _, _, _, _, _, e => by simp [datsS] at e
/-- a list: data, one of its own made on the way, or a place -/
def iLst (d : En → Option Rs) (E : En) : Option Src := match d E with
  | some (.val (.dat (.list ds))) => some ⟨E, [], rdD ds, ds.length⟩
  | some (.val (.lst ss)) => (datsS ss).map fun ds => ⟨E, [], rdD ds, ds.length⟩
  | some (.pl p) => match eget E p with
    | some (.lst ss) => some ⟨E, [.bor p], fun E2 i => match E2.getLast? with
      | some (.bor p) => match eget E2 p with
        | some (.lst ss) => match ss[i]? with
          | some s => ((Rs.pl p).kid i s).map some
          | none => some none
        | _ => none
      | _ => none, ss.length⟩
    | _ => none
  | _ => none
theorem rdD_go {ds : List PyData} {xs : List V} {i : Nat} {r : Rs} (da : DqAll K F xs ds) (h : rdD ds E i = some (some r)) : ∃ w, xs[i]? = some w ∧ RsAt K F H ρ E w r [] := by
  have h := Option.some.inj h
  obtain ⟨d, hd, rfl⟩ := Option.map_eq_some_iff.mp h
  obtain ⟨w, h1, h2⟩ := Mv.DqAll.nth da hd
  exact ⟨w, h1, .dat h2⟩
theorem rdD_stop {ds : List PyData} {i : Nat} (h : rdD ds E i = some none) : ds.length ≤ i := by
  have h := Option.some.inj h
  cases e : ds[i]? with
  | none => exact List.getElem?_eq_none_iff.mp e
  | some d => rw [e] at h; cases h
theorem Rep.hold {σ : L2.St} {p : List Nat} (R : Rep K F H (σ ++ as) E fp) (h1 : followE H (σ ++ as) p = some v) (h2 : (eget E p).isSome = true) : Rep K F H (σ ++ (as ++ [some v])) (E ++ [.bor p]) fp := by
  obtain ⟨f, l, pm⟩ := R.core.own
  have p0 : p ≠ [] := fun z => by rw [z] at h2; cases h2
  have eg : ∀ q, (eget E q).isSome = true → eget (E ++ [Sl.bor p]) q = eget E q := by
    intro q hq
    obtain ⟨t, ht⟩ := Option.isSome_iff_exists.mp hq
    obtain ⟨i, r, s, rfl, ei, _⟩ := eget_some ht
    have hi := (List.getElem?_eq_some_iff.mp ei).1
    simp only [eget, List.getElem?_append_left hi]
  have fo : ∀ q, (∃ w, followE H (σ ++ as) q = some w) → followE H (σ ++ (as ++ [some v])) q = followE H (σ ++ as) q := by
    intro q ⟨w, hw⟩
    cases q with
    | nil => rfl
    | cons i q =>
      unfold followE at hw ⊢
      dsimp only at hw ⊢
      cases e : (σ ++ as)[i]? with
      | none => rw [e] at hw; cases hw
      | some z =>
        have hi := (List.getElem?_eq_some_iff.mp e).1
        rw [← List.append_assoc, List.getElem?_append_left hi, e]
  have len := R.core.len
  refine ⟨⟨by rw [← List.append_assoc, List.length_append, List.length_append, len]; rfl, ⟨f, ?_, pm⟩, fun i s h => ?_⟩, R.sub, R.nd, R.off, fun i q h => ?_⟩
  · rw [← List.append_assoc, rootS_app len, rootV_app]
    have := l.append (OwnL.cons (fp := []) (K := K) (F := F) (H := H) (Own.con (v := v)) .nil)
    simp only [List.append_nil] at this
    exact this
  · by_cases hi : i < E.length
    · rw [List.getElem?_append_left hi] at h
      obtain ⟨w, hw⟩ := R.core.set i s h
      exact ⟨w, by rw [← List.append_assoc, List.getElem?_append_left (by rw [← len]; exact hi)]; exact hw⟩
    · rw [List.getElem?_append_right (by omega)] at h
      cases hk : i - E.length with
      | zero => rw [hk] at h; cases h
      | succ k => rw [hk] at h; cases h
  · by_cases hi : i < E.length
    · rw [List.getElem?_append_left hi] at h
      obtain ⟨w, e1, e2, e3⟩ := R.bor i q h
      exact ⟨w, by rw [← List.append_assoc, List.getElem?_append_left (by rw [← len]; exact hi)]; exact e1, by rw [fo q ⟨w, e2⟩]; exact e2, by rw [eg q e3]; exact e3⟩
    · rw [List.getElem?_append_right (by omega)] at h
      cases hk : i - E.length with
      | zero =>
        rw [hk] at h
        cases h
        refine ⟨v, ?_, by rw [fo p ⟨v, h1⟩]; exact h1, by rw [eg p h2]; exact h2⟩
        rw [← List.append_assoc, List.getElem?_append_right (by rw [← len]; omega), ← len, hk]; rfl
      | succ k => rw [hk] at h; cases h
def stripOk (E : En) : Bool := match E.getLast? with
  | some (.own _) => false
  | some _ => true
  | none => false
theorem Rep.strip {σ : L2.St} {w : V} (R : Rep K F H (σ ++ (as ++ [some w])) E fp) (ok : stripOk E = true) : Rep K F H (σ ++ as) E.dropLast fp := by
  have len := R.core.len
  have hE : E ≠ [] := fun z => by rw [z] at len; simp at len
  have hd : E = E.dropLast ++ [E.getLast hE] := (List.dropLast_concat_getLast hE).symm
  have hl : E.dropLast.length = (σ ++ as).length := by rw [List.length_dropLast, len]; simp
  have hlast : ∀ s, E.getLast hE ≠ .own s := fun s z => by
    unfold stripOk at ok
    rw [List.getLast?_eq_some_getLast hE, z] at ok
    cases ok
  obtain ⟨f, l, pm⟩ := R.core.own
  have sl : slS (some w) (E.getLast hE) = .con w := by
    cases e : E.getLast hE with
    | own s => exact absurd e (hlast s)
    | no => rfl
    | bor p => rfl
  have eg : ∀ q, eget E q = eget E.dropLast q := by
    intro q
    cases q with
    | nil => rfl
    | cons i q =>
      by_cases hi : i < E.dropLast.length
      · simp only [eget]
        rw [show E[i]? = E.dropLast[i]? by rw [hd, List.getElem?_append_left (by simpa using hi)]; simp]
      · simp only [eget]
        rw [List.getElem?_eq_none_iff.mpr (Nat.le_of_not_lt hi)]
        cases e : E[i]? with
        | none => rfl
        | some sl =>
          have hi2 := (List.getElem?_eq_some_iff.mp e).1
          have : i = E.length - 1 := by rw [List.length_dropLast] at hi; omega
          have e2 : sl = E.getLast hE := by
            rw [List.getLast_eq_getElem]
            subst this
            exact (List.getElem?_eq_some_iff.mp e).2.symm
          cases sl with
          | own s => exact absurd e2.symm (hlast s)
          | no => rfl
          | bor p => rfl
  have gi : ∀ (i : Nat) (e : Sl), E.dropLast[i]? = some e → E[i]? = some e := fun i e h => by
    have hi := (List.getElem?_eq_some_iff.mp h).1
    rw [hd, List.getElem?_append_left hi]
    exact h
  have rr : ∀ (i : Nat), i < (σ ++ as).length → (σ ++ (as ++ [some w]))[i]? = (σ ++ as)[i]? := fun i h => by rw [← List.append_assoc, List.getElem?_append_left h]
  refine ⟨⟨hl, ?_, fun i s h => ?_⟩, R.sub, R.nd, R.off, fun i q h => ?_⟩
  · rw [hd, ← List.append_assoc, rootS_app hl, rootV_app] at l
    obtain ⟨g1, g2, rfl, l1, l2⟩ := l.split (by rw [rootS_len hl]; unfold rootV; rw [List.length_map])
    have : g2 = [] := by
      simp only [rootV, List.map_cons, List.map_nil, rootS] at l2
      rw [sl] at l2
      cases l2 with
      | cons a t => cases t; rw [(a.con_inv rfl).2]; rfl
    subst this
    exact ⟨g1, l1, by simpa using pm⟩
  · obtain ⟨z, hz⟩ := R.core.set i s (gi i _ h)
    have hi := (List.getElem?_eq_some_iff.mp h).1
    exact ⟨z, by rw [← rr i (by omega)]; exact hz⟩
  · obtain ⟨z, e1, e2, e3⟩ := R.bor i q (gi i _ h)
    have hi := (List.getElem?_eq_some_iff.mp h).1
    refine ⟨z, by rw [← rr i (by omega)]; exact e1, ?_, by rw [← eg q]; exact e3⟩
    rw [eg q] at e3
    obtain ⟨t, ht⟩ := Option.isSome_iff_exists.mp e3
    obtain ⟨j, r, s, rfl, ej, _⟩ := eget_some ht
    have hj := (List.getElem?_eq_some_iff.mp ej).1
    unfold followE at e2 ⊢
    dsimp only at e2 ⊢
    rw [rr j (by omega)] at e2
    exact e2
/-- the last root is given up -/
def strip1 (E : En) : En := (slotSet E (E.length - 1) .no).dropLast
def stripN : Nat → En → En
  | 0, E => E
  | k + 1, E => stripN k (strip1 E)
theorem Rep.strip1 {σ : L2.St} {w : V} (R : Rep K F H (σ ++ (as ++ [some w])) E fp) : ∃ fq, Rep K F H (σ ++ as) (strip1 E) fq ∧ ∀ a ∈ fq, a ∈ fp := by
  have len := R.core.len
  have hi : E.length - 1 < (σ ++ (as ++ [some w])).length := by rw [← len]; simp at len; omega
  obtain ⟨fq, R2, sb⟩ := R.setSlot (e := .no) (v := .non) (fr := []) hi rfl R.nd (fun _ m => nomatch m)
  have e1 : (σ ++ (as ++ [some w])).set (E.length - 1) (some V.non) = σ ++ (as ++ [some V.non]) := by
    rw [← List.append_assoc, ← List.append_assoc]
    have : E.length - 1 = (σ ++ as).length := by rw [len]; simp
    rw [this, List.set_append_right _ _ (Nat.le_refl _)]
    simp
  rw [e1] at R2
  have ok : stripOk (slotSet E (E.length - 1) .no) = true := by
    unfold stripOk
    rw [List.getLast?_eq_getElem?]
    have : (slotSet E (E.length - 1) Sl.no).length = E.length := by unfold slotSet; simp
    rw [this]
    unfold slotSet
    rw [List.getElem?_set_self (by rw [List.length_map]; omega)]
  exact ⟨fq, R2.strip ok, fun a m => by simpa using sb a m⟩
theorem Rep.stripN {σ : L2.St} : ∀ (k : Nat) {ex : List V} {E : En} {fp : List Addr}, ex.length = k → Rep K F H (σ ++ (as ++ ex.map some)) E fp → ∃ fq, Rep K F H (σ ++ as) (stripN k E) fq ∧ ∀ a ∈ fq, a ∈ fp
  | 0, ex, E, fp, h, R => by
    have : ex = [] := List.eq_nil_of_length_eq_zero h
    subst this
    refine ⟨fp, ?_, fun _ m => m⟩
    show Rep K F H (σ ++ as) E fp
    simpa using R
  | k + 1, ex, E, fp, h, R => by
    rcases List.eq_nil_or_concat ex with z | ⟨ys, w, rfl⟩
    · rw [z] at h; cases h
    · rw [List.concat_eq_append] at h
      rw [List.concat_eq_append, List.map_append, ← List.append_assoc as] at R
      obtain ⟨f1, R1, h1⟩ := Rep.strip1 (as := as ++ ys.map some) (w := w) R
      obtain ⟨f2, R2, h2⟩ := Rep.stripN k (ex := ys) (by simpa using h) R1
      exact ⟨f2, R2, fun a m => h1 a (h2 a m)⟩
end Mv
/-! for, comprehensions -/
namespace Mv
open PySem PySem.Spec PyProof.Rows L2
variable {K : PySem.W.Frag} {F F' F1 F2 H H' H1 H2 : Hp} {v u x y : V} {vs ws : List V} {s t : S} {ss tts : List S} {fp fq fr fp' fp1 fp2 f1 f2 : List Addr} {ρ as : Ro} {E E' : En} {n : Nat}
variable {W : WXm} {te ta tb tc : TE} {d da db dc : En → Option Rs} {tr : TA} {dr : En → Option (List Rs)} {de df : En → Option (S × En)}

theorem i_lst (h : EvP K n as te d) : EvI K n as (iList K te) (iLst d) := by
  intro F H σ E fp L R c e Rr q
  unfold iLst at e
  split at e
  · next ds ed =>
    cases e
    refine h L R ed fun v F1 H1 f1 g1 a1 n1 o1 => ?_
    obtain ⟨a, xs, rfl, hq, da⟩ := Mv.Dq.list_inv (Own.dat_inv (show Own K F1 H1 v _ f1 from a1) rfl).1
    refine ⟨a, rfl, ⟨xs, SqL.mono g1.sub hq⟩, q _ F1 H1 [] fp g1.mine (by simpa using R.grow g1) rfl fun F2 H2 σ2 E2 fp2 L2 g2 R2 i => ?_⟩
    have hq2 : SqL K H2 a xs := SqL.mono g2.sub (SqL.mono g2.f hq)
    have da2 := Mv.DqAll.mono g2.f da
    refine ⟨fun r hr => ?_, fun hr => ⟨xs, hq2, by rw [Mv.DqAll.len da]; exact rdD_stop (E := E2) hr⟩⟩
    obtain ⟨w, hw, ar⟩ := rdD_go (K := K) (H := H2) (E := E2) (ρ := σ2 ++ (as ++ ([] : List V).map some)) da2 hr
    exact ⟨⟨xs, w, hq2, hw⟩, fun x H' hy => ⟨hy.1, by rw [Option.some.inj ((hy.2 xs hq2).symm.trans hw)]; exact ar⟩⟩
  · next ss ed =>
    obtain ⟨ds, hd, rfl⟩ := Option.map_eq_some_iff.mp e
    refine h L R ed fun v F1 H1 f1 g1 a1 n1 o1 => ?_
    obtain ⟨a, xs, fq, rfl, hH, l, hf⟩ := Own.lst_inv (show Own K F1 H1 v _ f1 from a1) rfl
    obtain ⟨da, rfl⟩ := datsS_dp l hd
    refine ⟨a, rfl, ⟨xs, .inl (.inl hH)⟩, q _ F1 H1 [] fp g1.mine (by simpa using R.grow g1) rfl fun F2 H2 σ2 E2 fp2 L2 g2 R2 i => ?_⟩
    have na : a ∉ fp := by
      have := R.apart_new g1 n1
      rw [hf] at this
      exact fun m => (List.nodup_append.mp this).2.2 a List.mem_cons_self a m rfl
    have hq2 : SqL K H2 a xs := .inl (.inl (g2.keep a _ hH na))
    have da2 := Mv.DqAll.mono g2.f da
    refine ⟨fun r hr => ?_, fun hr => ⟨xs, hq2, by rw [Mv.DqAll.len da]; exact rdD_stop (E := E2) hr⟩⟩
    obtain ⟨w, hw, ar⟩ := rdD_go (K := K) (H := H2) (E := E2) (ρ := σ2 ++ (as ++ ([] : List V).map some)) da2 hr
    exact ⟨⟨xs, w, hq2, hw⟩, fun x H' hy => ⟨hy.1, by rw [Option.some.inj ((hy.2 xs hq2).symm.trans hw)]; exact ar⟩⟩
  · next p ed =>
    split at e
    · next ss es =>
      cases e
      refine h L R ed fun v F1 H1 f1 g1 a1 n1 o1 => ?_
      have R1 := R.grow g1
      obtain ⟨fq, ow⟩ := a1.own R1 (show (Rs.pl p).at E = some (.lst ss) from es)
      obtain ⟨a, xs, fq', rfl, hH, l, hf⟩ := ow.lst_inv rfl
      obtain ⟨b1, b2, b3⟩ := a1
      refine ⟨a, rfl, ⟨xs, .inl (.inl hH)⟩, q _ F1 H1 [.ref a] fp g1.mine (R1.hold b2 b3) rfl fun F2 H2 σ2 E2 fp2 L2 g2 R2 i => ?_⟩
      have len := R2.core.len
      have lastv : (σ2 ++ (as ++ [V.ref a].map some))[E2.length - 1]? = some (some (.ref a)) := by
        rw [← List.append_assoc, List.getElem?_append_right (by rw [len]; simp), len]
        simp
      have key : ∀ p2 ss2, E2.getLast? = some (Sl.bor p2) → eget E2 p2 = some (.lst ss2) → ∃ xs2 f2, H2 a = some (.lst xs2) ∧ OwnL K F2 H2 xs2 ss2 f2 ∧ RsAt K F2 H2 (σ2 ++ (as ++ [V.ref a].map some)) E2 (.ref a) (.pl p2) [] := by
        intro p2 ss2 hl hg
        rw [List.getLast?_eq_getElem?] at hl
        obtain ⟨w, e1, e2, e3⟩ := R2.bor _ p2 hl
        rw [lastv] at e1
        cases e1
        have at2 : RsAt K F2 H2 (σ2 ++ (as ++ [V.ref a].map some)) E2 (.ref a) (.pl p2) [] := ⟨rfl, e2, e3⟩
        obtain ⟨f2, ow2⟩ := at2.own R2 (show (Rs.pl p2).at E2 = some (.lst ss2) from hg)
        obtain ⟨a', xs2, f3, ea, hH2, l2, _⟩ := ow2.lst_inv rfl
        cases ea
        exact ⟨xs2, f3, hH2, l2, at2⟩
      refine ⟨fun r hr => ?_, fun hr => ?_⟩
      · dsimp only at hr
        split at hr
        · next p2 hl =>
          split at hr
          · next ss2 hg =>
            obtain ⟨xs2, f2, hH2, l2, at2⟩ := key p2 ss2 hl hg
            split at hr
            · next s hs =>
              obtain ⟨r', hr', er⟩ := Option.map_eq_some_iff.mp hr
              cases er
              obtain ⟨w, f, hw, ow⟩ := l2.nth hs
              have hq2 : SqL K H2 a xs2 := .inl (.inl hH2)
              exact ⟨⟨xs2, w, hq2, hw⟩, fun x H' hy => ⟨hy.1, by rw [Option.some.inj ((hy.2 xs2 hq2).symm.trans hw)]; exact at2.kid R2 hg hH2 hw hs ow hr'⟩⟩
            · cases hr
          · cases hr
        · cases hr
      · dsimp only at hr
        split at hr
        · next p2 hl =>
          split at hr
          · next ss2 hg =>
            obtain ⟨xs2, f2, hH2, l2, at2⟩ := key p2 ss2 hl hg
            split at hr
            · next s hs =>
              cases hk : (Rs.pl p2).kid i s with
              | none => rw [hk] at hr; cases hr
              | some r' => rw [hk] at hr; cases hr
            · next hs => exact ⟨xs2, .inl (.inl hH2), by rw [l2.length]; exact List.getElem?_eq_none_iff.mp hs⟩
          · cases hr
        · cases hr
    · cases e
  · cases e
/-! ### for -/
def dLoop (rd : En → Nat → Option (Option Rs)) (bd : Rs → En → Option En) (db : En → Option Out) : Nat → Nat → En → Option Out
  | fuel, i, E => match rd E i with
    | none => none
    | some none => some (.nx E)
    | some (some r) => match fuel with
      | 0 => none
      | fuel + 1 => match bd r E with
        | none => none
        | some E1 => match db E1 with
          | some (.nx E2) => dLoop rd bd db fuel (i + 1) E2
          | some (.ct E2) => dLoop rd bd db fuel (i + 1) E2
          | some (.bk E2) => some (.nx E2)
          | some (.rt s E2) => some (.rt s E2)
          | some (.ex c E2) => some (.ex c E2)
          | none => none
def stripE (c : Src) (E : En) : En := stripN c.exE.length E
def stripO (c : Src) : Option Out → Option Out
  | some (.nx E) => some (.nx (stripE c E))
  | some (.rt s E) => some (.rt s (stripE c E))
  | some (.bk E) => some (.bk (stripE c E))
  | some (.ct E) => some (.ct (stripE c E))
  | some (.ex x E) => some (.ex x (stripE c E))
  | none => none
def dFor (src : En → Option Src) (bd : Rs → En → Option En) (db : En → Option Out) (E : En) : Option Out := match src E with
  | some c => stripO c (dLoop c.rd bd db c.fuel 0 (c.env ++ c.exE))
  | none => none
theorem stripE_rep {σ : L2.St} {c : Src} {ex : List V} (R : Rep K F H (σ ++ (as ++ ex.map some)) E fp) (hl : ex.length = c.exE.length) : ∃ fq, Rep K F H (σ ++ as) (stripE c E) fq ∧ ∀ a ∈ fq, a ∈ fp := R.stripN _ hl
theorem s_for {wi : TI} {g : TG} {tb : TS} {src : En → Option Src} {bd : Rs → En → Option En} {db : En → Option Out} (hi : EvI K n as wi src) (hg : EvG K n g bd) (hb : ∀ as, EvS K n as W tb db) : EvS K n as W (tFor wi g tb) (dFor src bd db) := by
  intro F H σ E fp L R o e D gg
  unfold dFor at e
  split at e
  · next c ec =>
    refine hi L R ec fun J F1 H1 ex fpx g1' R1 hx spec => ?_
    generalize hd : dLoop c.rd bd db c.fuel 0 (c.env ++ c.exE) = o1 at e
    refine ⟨fun i m σ2 H2 => ∃ F2 E2 fp2, σ2.length = n ∧ Grow F1 H1 fpx F2 H2 fp2 ∧ Rep K F2 H2 (σ2 ++ (as ++ ex.map some)) E2 fp2 ∧ dLoop c.rd bd db m i E2 = o1,
      ⟨c.fuel, F1, _, fpx, L, .refl R1.sub fpx, R1, hd⟩, fun i m σ2 H2 hW => ?_⟩
    obtain ⟨F2, E2, fp2, L2, g2, R2, h2⟩ := hW
    obtain ⟨sp1, sp2⟩ := spec F2 H2 σ2 E2 fp2 L2 g2 R2 i
    rw [dLoop.eq_def] at h2
    dsimp only at h2
    cases hr : c.rd E2 i with
    | none => rw [hr] at h2; dsimp only at h2; rw [← h2] at e; cases e
    | some r0 => cases r0 with
      | none =>
        rw [hr] at h2
        dsimp only at h2
        rw [← h2] at e
        cases e
        obtain ⟨fq, R3, sb⟩ := stripE_rep R2 hx
        exact .inl ⟨sp2 hr, gg σ2 F2 H2 fq L2 ((g1'.trans g2).less sb) R3⟩
      | some r =>
        rw [hr] at h2
        dsimp only at h2
        obtain ⟨go, yl⟩ := sp1 r hr
        cases m with
        | zero => dsimp only at h2; rw [← h2] at e; cases e
        | succ m =>
          dsimp only at h2
          refine .inr ⟨go, fun σ' H' => ∃ F2 E2 fp2, σ'.length = n ∧ Grow F1 H1 fpx F2 H' fp2 ∧ Rep K F2 H' (σ' ++ (as ++ ex.map some)) E2 fp2 ∧ dLoop c.rd bd db m (i + 1) E2 = o1, fun σ' H' hN => ⟨m, Nat.lt_succ_self m, hN⟩, fun x H' hy => ?_⟩
          obtain ⟨rfl, ar⟩ := yl x H' hy
          split at h2
          · rw [← h2] at e; cases e
          · next E3 e3 =>
            refine hg L2 R2 ar e3 fun σ3 F3 H3 fp3 L3 g3 R3 => ?_
            have g23 := g2.trans g3
            split at h2
            · next E4 e4 => exact hb _ L3 R3 e4 fun σ' F' H' fp' L' g' R' => ⟨F', E4, fp', L', g23.trans g', R', h2⟩
            · next E4 e4 => exact hb _ L3 R3 e4 fun σ' F' H' fp' L' g' R' => ⟨F', E4, fp', L', g23.trans g', R', h2⟩
            · next E4 e4 =>
              rw [← h2] at e
              cases e
              refine hb _ L3 R3 e4 fun σ' F' H' fp' L' g' R' => ?_
              obtain ⟨fq, R5, sb⟩ := stripE_rep R' hx
              exact gg σ' F' H' fq L' ((g1'.trans (g23.trans g')).less sb) R5
            · next s E4 e4 =>
              rw [← h2] at e
              cases e
              refine hb _ L3 R3 e4 fun v σ' F' H' fr fp' L' g' R' ow nd of => ?_
              obtain ⟨fq, R5, sb⟩ := stripE_rep R' hx
              refine gg v σ' F' H' fr fq L' ((g1'.trans (g23.trans g')).less fun a m => ?_) R5 ow ?_ of
              · exact List.mem_append.mpr ((List.mem_append.mp m).imp id (sb a))
              · exact List.nodup_append.mpr ⟨(List.nodup_append.mp nd).1, R5.nd, fun a m b m2 => (List.nodup_append.mp nd).2.2 a m b (sb b m2)⟩
            · next x E4 e4 =>
              rw [← h2] at e
              cases e
              refine hb _ L3 R3 e4 fun C σ' F' H' fp' hC L' g' R' => ?_
              obtain ⟨fq, R5, sb⟩ := stripE_rep R' hx
              exact gg C σ' F' H' fq hC L' ((g1'.trans (g23.trans g')).less sb) R5
            · rw [← h2] at e; cases e
  · cases e
end Mv
/-! comprehensions -/
namespace Mv
open PySem PySem.Spec PyProof.Rows L2
variable {K : PySem.W.Frag} {F F' F1 F2 H H' H1 H2 : Hp} {v u x y : V} {vs ws : List V} {s t : S} {ss tts : List S} {fp fq fr fp' fp1 fp2 f1 f2 : List Addr} {ρ as : Ro} {E E' : En} {n : Nat}
variable {te ta tb tc : TE} {d da db dc : En → Option Rs} {tr : TA} {dr : En → Option (List Rs)} {de df : En → Option (S × En)} {tt : TT} {dte : En → Option (Bool × En)}

theorem OwnL.recon {w : V} : ∀ {vs : List V} {ss : List S} {fp : List Addr} {j : Nat} {c : V}, OwnL K F H vs ss fp → ss[j]? = some (.con c) → OwnL K F H (vs.set j w) (ss.set j (.con w)) fp
  | _, _, _, j, _, .nil, e => by simp at e
  | _, _, _, 0, c, .cons (fq := fq) h t, e => by
    simp only [List.getElem?_cons_zero, Option.some.injEq] at e
    obtain ⟨_, h2⟩ := h.con_inv e
    subst h2
    exact .cons (fp := []) .con t
  | _, _, _, j + 1, c, .cons h t, e => .cons h (OwnL.recon (j := j) t (by simpa using e))
theorem rootS_no_at : ∀ {ρ : Ro} {E : En} {j : Nat}, E.length = ρ.length → E[j]? = some Sl.no → ∃ c, (rootS ρ E)[j]? = some (.con c)
  | [], [], _, _, h => by simp at h
  | [], _ :: _, _, l, _ => by simp at l
  | _ :: _, [], _, l, _ => by simp at l
  | a :: ρ, b :: E, 0, l, h => by
    simp only [List.getElem?_cons_zero, Option.some.injEq] at h
    subst h
    exact ⟨_, rfl⟩
  | a :: ρ, b :: E, j + 1, l, h => by
    simp only [rootS, List.getElem?_cons_succ]
    exact rootS_no_at (by simpa using l) (by simpa using h)
/-- a slot of which nothing is known may hold anything -/
theorem Rep.forget {j : Nat} (w : Option V) (R : Rep K F H ρ E fp) (h : E[j]? = some Sl.no) : Rep K F H (ρ.set j w) E fp := by
  have hj : j < E.length := (List.getElem?_eq_some_iff.mp h).1
  have len := R.core.len
  obtain ⟨f, l, pm⟩ := R.core.own
  obtain ⟨c, hc⟩ := rootS_no_at len h
  have hn : E.set j Sl.no = E := by
    apply List.ext_getElem?
    intro i
    by_cases ij : j = i
    · subst ij; rw [List.getElem?_set_self hj, h]
    · rw [List.getElem?_set_ne ij]
  have hs : rootS (ρ.set j w) E = (rootS ρ E).set j (.con (w.getD .non)) := by
    have := rootS_set2 (ρ := ρ) (E := E) (i := j) (v := w) (e := Sl.no) len
    rw [hn] at this
    rw [this]
    cases w <;> rfl
  have hv : rootV (ρ.set j w) = (rootV ρ).set j (w.getD .non) := by unfold rootV; rw [List.map_set]
  refine ⟨⟨by rw [List.length_set]; exact len, ⟨f, by rw [hs, hv]; exact l.recon hc, pm⟩, fun i s hi => ?_⟩, R.sub, R.nd, R.off, fun i p hb => ?_⟩
  · have ij : j ≠ i := fun z => by rw [← z, h] at hi; cases hi
    rw [List.getElem?_set_ne ij]
    exact R.core.set i s hi
  · have ij : j ≠ i := fun z => by rw [← z, h] at hb; cases hb
    obtain ⟨z, e1, e2, e3⟩ := R.bor i p hb
    refine ⟨z, by rw [List.getElem?_set_ne ij]; exact e1, ?_, e3⟩
    have hp : p.head? ≠ some j := fun z => by
      obtain ⟨t, ht⟩ := Option.isSome_iff_exists.mp e3
      obtain ⟨k, r, s, rfl, ek, _⟩ := eget_some ht
      simp only [List.head?_cons, Option.some.injEq] at z
      subst z
      rw [h] at ek; cases ek
    rw [followE_set hp]
    exact e2
theorem Rep.grow2 (r : Rep K F H ρ E fp) (g : Grow F H fq F' H' fr) (dj : ∀ a ∈ fp, a ∉ fq) : Rep K F' H' ρ E fp := by
  have k : ∀ a ∈ fp, ∀ o, H a = some o → H' a = some o := fun a m o e => g.keep a o e (dj a m)
  refine ⟨r.core.frame g.f g.sub k, g.sub, r.nd, fun a m => ?_, fun i p h => ?_⟩
  · obtain ⟨o, e⟩ := r.there a m
    exact g.off a (by rw [e]; exact fun z => nomatch z) (dj a m) (r.off a m)
  · obtain ⟨v, h1, h2, h3⟩ := r.bor i p h
    obtain ⟨t, ht⟩ := Option.isSome_iff_exists.mp h3
    exact ⟨v, h1, by rw [r.core.follow_keep (fun b o e => g.sub b o (g.f b o e)) ht k]; exact h2, h3⟩
theorem Grow.beside (g : Grow F H fp F' H' fp') (X : List Addr) : Grow F H (X ++ fp) F' H' (X ++ fp') :=
  g.wide (fun a m => List.mem_append_right _ m) fun a m => by
    rcases List.mem_append.mp m with m | m
    · exact .inl (List.mem_append_left _ m)
    · exact (g.new a m).imp (List.mem_append_right _) id
/-- one object of ours written -/
theorem Grow.write {D : Addr} {o : HO} (sub : ∀ a o, F a = some o → H a = some o) (hF : F D = none) : Grow F H [D] F (upd H D o) [D] := by
  refine ⟨fun _ _ h => h, fun a u e => ?_, fun a u e m => ?_, fun a m => .inl m, fun _ _ _ h => h⟩
  · have : a ≠ D := fun z => by rw [z, hF] at e; cases e
    rw [upd_ne this]; exact sub a u e
  · have : a ≠ D := fun z => m (by rw [z]; exact List.mem_cons_self)
    rw [upd_ne this]; exact e
/-- a slot is forgotten -/
theorem Rep.wipe {j : Nat} (R : Rep K F H ρ E fp) (hj : j < ρ.length) (w : Option V) : ∃ fq, Rep K F H (ρ.set j w) (slotSet E j .no) fq ∧ ∀ a ∈ fq, a ∈ fp := by
  obtain ⟨fq, R2, sb⟩ := R.setSlot (e := .no) (v := .non) (fr := []) hj rfl R.nd (fun _ m => nomatch m)
  have hE : (slotSet E j .no)[j]? = some Sl.no := by
    unfold slotSet
    rw [List.getElem?_set_self (by rw [List.length_map, R.core.len]; exact hj)]
  have := R2.forget w hE
  rw [List.set_set] at this
  exact ⟨fq, this, fun a m => by simpa using sb a m⟩
def dLcLoop (rd : En → Nat → Option (Option Rs)) (j : Nat) (dt : En → Option (Bool × En)) (de : En → Option (S × En)) : Nat → Nat → List S → En → Option (List S × En)
  | fuel, i, acc, E => match rd E i with
    | none => none
    | some none => some (acc, E)
    | some (some r) => match fuel with
      | 0 => none
      | fuel + 1 => match bName j r E with
        | none => none
        | some E1 => match dt E1 with
          | some (true, E2) => match de E2 with
            | some (s, E3) => if acc.length < 100000 then dLcLoop rd j dt de fuel (i + 1) (acc ++ [s]) (slotSet E3 j .no) else none
            | none => none
          | some (false, E2) => dLcLoop rd j dt de fuel (i + 1) acc (slotSet E2 j .no)
          | none => none
def eLc (src : En → Option Src) (j : Nat) (dt : En → Option (Bool × En)) (de : En → Option (S × En)) (E : En) : Option (S × En) := match src E with
  | some c => match dLcLoop c.rd j dt de c.fuel 0 [] (slotSet (c.env ++ c.exE) j .no) with
    | some (acc, E') => some (.lst acc, stripE c E')
    | none => none
  | none => none
def eYes (E : En) : Option (Bool × En) := some (true, E)
theorem e_yes : EvTE K n as tYes eYes := by
  intro F H σ E fp L R b E' e Q q
  cases e
  exact q F H fp (.refl R.sub fp) R
theorem e_lc {wi : TI} {src : En → Option Src} {j : Nat} (hj : j < n) (hi : EvI K n as wi src) (ht : ∀ as, EvTE K n as tt dte) (he : ∀ as, EvE K n as te de) : EvE K n as (tLc wi (gName j) tt te [j]) (eLc src j dte de) := by
  intro F H σ E fp L R s0 E0 e Q q
  unfold eLc at e
  split at e
  · next c ec =>
    split at e
    · next acc0 E9 hd =>
      cases e
      refine hi L R ec fun J F1 H1 ex fpx g1' R1 hx spec => fun D hD => ?_
      have hjl : j < (σ ++ (as ++ ex.map some)).length := by rw [List.length_append]; omega
      have wl : ∀ w, (σ.set j w) ++ (as ++ ex.map some) = (σ ++ (as ++ ex.map some)).set j w := fun w => set_app (by omega)
      have gD : Grow F1 H1 [] F1 (upd H1 D (.lst [])) [D] := Grow.alloc R1.sub hD
      obtain ⟨fw, Rw, sbw⟩ := (R1.grow gD).wipe hjl none
      rw [← wl none] at Rw
      have back : ((σ.set j none) ++ (as ++ ex.map some)).set j (σ[j]?.getD none) = σ ++ (as ++ ex.map some) := by
        rw [wl none, List.set_set]
        apply List.ext_getElem?
        intro i
        by_cases ij : j = i
        · subst ij
          have h1 : j < σ.length := by omega
          rw [List.getElem?_set_self hjl, List.getElem?_append_left h1, List.getElem?_eq_getElem h1]; rfl
        · rw [List.getElem?_set_ne ij]
      -- the invariant
      refine ⟨fun i m Hm => ∃ Fm Em fpm accV accS fa, Grow F1 H1 fpx Fm Hm (D :: (fa ++ fpm)) ∧ Rep K Fm Hm ((σ.set j none) ++ (as ++ ex.map some)) Em fpm ∧ Em[j]? = some Sl.no ∧ Hm D = some (.lst accV) ∧ OwnL K Fm Hm accV accS fa ∧
          (D :: (fa ++ fpm)).Nodup ∧ (∀ a ∈ D :: fa, Fm a = none) ∧ dLcLoop c.rd j dte de m i accS Em = some (acc0, E9),
        ⟨c.fuel, F1, _, fw, [], [], [], ?_, Rw, ?_, upd_same, .nil, ?_, ?_, hd⟩, fun i m Hm hW => ?_⟩
      · have := gD.wide (fq := fpx) (fr := D :: ([] ++ fw)) (fun _ m => nomatch m) fun a m => ?_
        · exact this
        · rcases List.mem_cons.mp m with rfl | m
          · exact .inr hD
          · exact .inl (sbw a (by simpa using m))
      · unfold slotSet
        rw [List.getElem?_set_self]
        rw [List.length_map, R1.core.len]; exact hjl
      · refine List.nodup_cons.mpr ⟨fun m => ?_, by simpa using Rw.nd⟩
        obtain ⟨o, eo⟩ := R1.there D (sbw D (by simpa using m))
        rw [hD] at eo; cases eo
      · intro a m
        rw [List.mem_singleton.mp m]
        cases h : F1 D with
        | none => rfl
        | some o => rw [R1.sub D o h] at hD; cases hD
      · obtain ⟨Fm, Em, fpm, accV, accS, fa, gm, Rm, hno, hHD, lacc, nd, off, hl⟩ := hW
        have gm' : Grow F1 H1 fpx Fm Hm fpm := gm.less fun a m => List.mem_cons_of_mem _ (List.mem_append_right _ m)
        obtain ⟨sp1, sp2⟩ := spec Fm Hm (σ.set j none) Em fpm (by rw [List.length_set]; exact L) gm' Rm i
        rw [dLcLoop.eq_def] at hl
        dsimp only at hl
        have subD : (D :: fa ++ fpm).Nodup := by simpa using nd
        cases hr : c.rd Em i with
        | none => rw [hr] at hl; cases hl
        | some r0 => cases r0 with
          | none =>
            rw [hr] at hl
            cases hl
            refine .inl ⟨sp2 hr, ?_⟩
            have R3 : Rep K Fm Hm (σ ++ (as ++ ex.map some)) E9 fpm := by
              have := Rm.forget (σ[j]?.getD none) hno
              rw [back] at this
              exact this
            obtain ⟨fq9, R4, sb9⟩ := stripE_rep R3 hx
            refine q (.ref D) Fm Hm (D :: fa) fq9 (g1'.trans (gm.less fun a m => (List.mem_append.mp m).elim (fun m => (List.mem_cons.mp m).elim (fun z => by rw [z]; exact List.mem_cons_self) fun m => List.mem_cons_of_mem _ (List.mem_append_left _ m)) fun m => List.mem_cons_of_mem _ (List.mem_append_right _ (sb9 a m)))) R4 (Own.node (s := .lst acc0) (ex := []) hHD (show Head _ Hm D (.lst accV) (.lst acc0) [] from rfl) lacc) ?_ off
            have nd' := List.nodup_append.mp (show (D :: fa ++ fpm).Nodup by simpa using nd)
            exact List.nodup_append.mpr ⟨nd'.1, R4.nd, fun a m b m2 => nd'.2.2 a m b (sb9 b m2)⟩
          | some r =>
            rw [hr] at hl
            dsimp only at hl
            obtain ⟨go, yl⟩ := sp1 r hr
            cases m with
            | zero => cases hl
            | succ m =>
              dsimp only at hl
              refine .inr ⟨go, fun H' => ∃ Fm Em fpm accV accS fa, Grow F1 H1 fpx Fm H' (D :: (fa ++ fpm)) ∧ Rep K Fm H' ((σ.set j none) ++ (as ++ ex.map some)) Em fpm ∧ Em[j]? = some Sl.no ∧ H' D = some (.lst accV) ∧ OwnL K Fm H' accV accS fa ∧
                (D :: (fa ++ fpm)).Nodup ∧ (∀ a ∈ D :: fa, Fm a = none) ∧ dLcLoop c.rd j dte de m (i + 1) accS Em = some (acc0, E9), fun H' hN => ⟨m, Nat.lt_succ_self m, hN⟩, fun x H' hy => ?_⟩
              obtain ⟨rfl, ar⟩ := yl x H' hy
              split at hl
              · cases hl
              · next E1 e1 =>
                show wipe ((σ.set j none).set j (some x)) [j] = wipe σ [j] ∧ _
                refine ⟨by show ((σ.set j none).set j (some x)).set j none = σ.set j none; rw [List.set_set, List.set_set], ?_⟩
                have hLw : ((σ.set j none).set j (some x)).length = n := by rw [List.length_set, List.length_set]; exact L
                have hjw : j < (σ.set j none ++ (as ++ ex.map some)).length := by rw [List.length_append, List.length_set]; omega
                have hR1 : ∃ fq, Rep K Fm H' (((σ.set j none).set j (some x)) ++ (as ++ ex.map some)) E1 fq ∧ ∀ a ∈ fq, a ∈ fpm := by
                  rw [show ((σ.set j none).set j (some x)) ++ (as ++ ex.map some) = (σ.set j none ++ (as ++ ex.map some)).set j (some x) from set_app (by rw [List.length_set]; omega)]
                  cases r with
                  | val s =>
                    cases e1
                    obtain ⟨fq, k1, k2⟩ := Rm.setSlot (e := .own s) (fr := []) hjw ar Rm.nd (fun _ m => nomatch m)
                    exact ⟨fq, k1, fun a m => by simpa using k2 a m⟩
                  | pl p =>
                    unfold bName at e1
                    dsimp only at e1
                    split at e1
                    · cases e1
                    · next hp =>
                      cases e1
                      obtain ⟨a1, a2, a3⟩ := ar
                      obtain ⟨fq, k1, k2⟩ := Rm.setSlot (e := .bor p) (fr := []) hjw ⟨rfl, hp, a2, a3⟩ Rm.nd (fun _ m => nomatch m)
                      exact ⟨fq, k1, fun a m => by simpa using k2 a m⟩
                obtain ⟨fq, R1', sb1⟩ := hR1
                -- D and what is made so far stand aside
                have asideD : ∀ a ∈ D :: fa, a ∉ fq := fun a m m2 => (List.nodup_append.mp (show (D :: fa ++ fpm).Nodup by simpa using nd)).2.2 a m a (sb1 a m2) rfl
                have thD : ∀ a ∈ D :: fa, ∃ o, H' a = some o := fun a m => by
                  rcases List.mem_cons.mp m with rfl | m
                  · exact ⟨_, hHD⟩
                  · exact lacc.there a m
                have gfq : Grow F1 H1 fpx Fm H' (D :: fa ++ fq) := gm.less fun a m => by
                  rcases List.mem_append.mp m with m | m
                  · rcases List.mem_cons.mp m with rfl | m
                    · exact List.mem_cons_self
                    · exact List.mem_cons_of_mem _ (List.mem_append_left _ m)
                  · exact List.mem_cons_of_mem _ (List.mem_append_right _ (sb1 a m))
                have keepD : ∀ {F3 H3 fp3}, Grow Fm H' fq F3 H3 fp3 → H3 D = some (.lst accV) ∧ OwnL K F3 H3 accV accS fa ∧ (∀ a ∈ D :: fa, F3 a = none) ∧ (∀ a ∈ D :: fa, a ∉ fp3) := fun {F3 H3 fp3} g3 => by
                  refine ⟨g3.keep D _ hHD (asideD D List.mem_cons_self), lacc.frame g3.f g3.sub fun a m o e => g3.keep a o e (asideD a (List.mem_cons_of_mem _ m)), fun a m => ?_, fun a m m2 => ?_⟩
                  · obtain ⟨o, eo⟩ := thD a m
                    exact g3.off a (by rw [eo]; exact fun z => nomatch z) (asideD a m) (off a m)
                  · rcases g3.new a m2 with z | z
                    · exact asideD a m z
                    · obtain ⟨o, eo⟩ := thD a m
                      rw [eo] at z; cases z
                have ndD : (D :: fa).Nodup := (List.nodup_append.mp (show (D :: fa ++ fpm).Nodup by simpa using nd)).1
                split at hl
                · next E2 e2 =>
                  split at hl
                  · next s3 E3 e3 =>
                    split at hl
                    · next hlen =>
                      refine ht _ hLw R1' e2 fun F3 H3 fp3 g3 R3 => iteT (he _ hLw R3 e3 fun y F4 H4 fr fp4 g4 R4 ow nd4 of4 => ?_)
                      have g34 : Grow Fm H' fq F4 H4 (fr ++ fp4) := g3.trans g4
                      obtain ⟨kD, kacc, koff, kas⟩ := keepD g34
                      refine ⟨accV, kD, by rw [lacc.length, sizeLine_eq]; omega, ?_⟩
                      have hjw4 : j < (((σ.set j none).set j (some x)) ++ (as ++ ex.map some)).length := by rw [List.length_append, hLw]; omega
                      obtain ⟨fq5, R5, sb5⟩ := R4.wipe hjw4 none
                      rw [← show (((σ.set j none).set j (some x)).set j none) ++ (as ++ ex.map some) = (((σ.set j none).set j (some x)) ++ (as ++ ex.map some)).set j none from set_app (by omega), List.set_set, List.set_set] at R5
                      have gw : Grow F4 H4 [D] F4 (upd H4 D (.lst (accV ++ [y]))) [D] := Grow.write R4.sub (koff D List.mem_cons_self)
                      have D4 : D ∉ fr ++ fp4 := kas D List.mem_cons_self
                      have R6 := R5.grow2 gw (fun a m m2 => D4 (by rw [← List.mem_singleton.mp m2]; exact List.mem_append_right _ (sb5 a m)))
                      have nDfa : D ∉ fa := (List.nodup_cons.mp ndD).1
                      have ow6 : Own K F4 (upd H4 D (.lst (accV ++ [y]))) y s3 fr := ow.grow gw fun a m m2 => D4 (by rw [← List.mem_singleton.mp m2]; exact List.mem_append_left _ m)
                      have acc6 : OwnL K F4 (upd H4 D (.lst (accV ++ [y]))) accV accS fa := kacc.frame gw.f gw.sub fun a m o e => gw.keep a o e fun m2 => nDfa (by rw [← List.mem_singleton.mp m2]; exact m)
                      have lall := acc6.append (OwnL.cons ow6 .nil)
                      rw [List.append_nil] at lall
                      refine ⟨F4, slotSet E3 j .no, fq5, accV ++ [y], accS ++ [s3], fa ++ fr, ?_, R6, ?_, upd_same, lall, ?_, ?_, hl⟩
                      · have ga : Grow F1 H1 fpx F4 H4 (D :: fa ++ (fr ++ fp4)) := gfq.trans (g34.beside (D :: fa))
                        have gb : Grow F4 H4 (D :: fa ++ (fr ++ fp4)) F4 (upd H4 D (.lst (accV ++ [y]))) (D :: (fa ++ fr ++ fq5)) := gw.wide (fun a m => by rw [List.mem_singleton.mp m]; exact List.mem_append_left _ List.mem_cons_self) fun a m => by
                          left
                          rcases List.mem_cons.mp m with rfl | m
                          · exact List.mem_append_left _ List.mem_cons_self
                          · rcases List.mem_append.mp m with m | m
                            · rcases List.mem_append.mp m with m | m
                              · exact List.mem_append_left _ (List.mem_cons_of_mem _ m)
                              · exact List.mem_append_right _ (List.mem_append_left _ m)
                            · exact List.mem_append_right _ (List.mem_append_right _ (sb5 a m))
                        exact ga.trans gb
                      · unfold slotSet
                        rw [List.getElem?_set_self]
                        rw [List.length_map, R4.core.len]; exact hjw4
                      · refine List.nodup_cons.mpr ⟨fun m => ?_, ?_⟩
                        · rcases List.mem_append.mp m with m | m
                          · rcases List.mem_append.mp m with m | m
                            · exact nDfa m
                            · exact D4 (List.mem_append_left _ m)
                          · exact D4 (List.mem_append_right _ (sb5 D m))
                        · refine nodup_two (nodup_two (List.nodup_cons.mp ndD).2 (List.nodup_append.mp nd4).1 fun a m b m2 z => ?_) R5.nd fun a m b m2 z => ?_
                          · subst z; exact kas a (List.mem_cons_of_mem _ m) (List.mem_append_left _ m2)
                          · subst z
                            rcases List.mem_append.mp m with m | m
                            · exact kas a (List.mem_cons_of_mem _ m) (List.mem_append_right _ (sb5 a m2))
                            · exact (List.nodup_append.mp nd4).2.2 a m a (sb5 a m2) rfl
                      · intro a m
                        rcases List.mem_cons.mp m with rfl | m
                        · exact koff a List.mem_cons_self
                        · rcases List.mem_append.mp m with m | m
                          · exact koff a (List.mem_cons_of_mem _ m)
                          · exact of4 a m
                    · cases hl
                  · cases hl
                · next E2 e2 =>
                  refine ht _ hLw R1' e2 fun F3 H3 fp3 g3 R3 => iteF ?_
                  obtain ⟨kD, kacc, koff, kas⟩ := keepD g3
                  have hjw4 : j < (((σ.set j none).set j (some x)) ++ (as ++ ex.map some)).length := by rw [List.length_append, hLw]; omega
                  obtain ⟨fq5, R5, sb5⟩ := R3.wipe hjw4 none
                  rw [← show (((σ.set j none).set j (some x)).set j none) ++ (as ++ ex.map some) = (((σ.set j none).set j (some x)) ++ (as ++ ex.map some)).set j none from set_app (by omega), List.set_set, List.set_set] at R5
                  refine ⟨F3, slotSet E2 j .no, fq5, accV, accS, fa, ?_, R5, ?_, kD, kacc, ?_, koff, hl⟩
                  · exact (gfq.trans (g3.beside (D :: fa))).less fun a m => by
                      rcases List.mem_cons.mp m with rfl | m
                      · exact List.mem_append_left _ List.mem_cons_self
                      · rcases List.mem_append.mp m with m | m
                        · exact List.mem_append_left _ (List.mem_cons_of_mem _ m)
                        · exact List.mem_append_right _ (sb5 a m)
                  · unfold slotSet
                    rw [List.getElem?_set_self]
                    rw [List.length_map, R3.core.len]; exact hjw4
                  · have : (D :: fa ++ fq5).Nodup := nodup_two ndD R5.nd fun a m b m2 z => by subst z; exact kas a m (sb5 a m2)
                    simpa using this
                · cases hl
    · cases e
  · cases e
end Mv
/-! what changes a place: list methods, stores -/
namespace Mv
open PySem PySem.Spec PyProof.Rows L2
variable {K : PySem.W.Frag} {F F' F1 F2 H H' H1 H2 : Hp} {v u x y : V} {vs ws : List V} {s t : S} {ss tts : List S} {fp fq fr fp' fp1 fp2 f1 f2 : List Addr} {ρ as : Ro} {E E' : En} {n : Nat}
variable {te ta tb tc : TE} {d da db dc : En → Option Rs} {tr : TA} {dr : En → Option (List Rs)} {de df : En → Option (S × En)} {tt : TT} {dte : En → Option (Bool × En)}

/-- what a rule does to the node at u (t), handed y (s) -/
def Nd1 (K : PySem.W.Frag) (r : V → V → Hp → VK → Prop) (op : S → S → Option (S × S)) : Prop :=
  ∀ {F H : Hp} {u y : V} {t s t' c : S} {fp1 fr : List Addr}, (∀ a o, F a = some o → H a = some o) → Own K F H u t fp1 → Own K F H y s fr → (fr ++ fp1).Nodup → (∀ a ∈ fr ++ fp1, F a = none) → op t s = some (t', c) → ∀ {Q : VK},
    (∀ v F' H' fv fq, Grow F H (fr ++ fp1) F' H' (fv ++ fq) → Own K F' H' u t' fq → Own K F' H' v c fv → (fv ++ fq).Nodup → (∀ a ∈ fv ++ fq, F' a = none) → Q v H') → r u y H Q
def Nd0 (K : PySem.W.Frag) (r : V → Hp → VK → Prop) (op : S → Option (S × S)) : Prop :=
  ∀ {F H : Hp} {u : V} {t t' c : S} {fp1 : List Addr}, (∀ a o, F a = some o → H a = some o) → Own K F H u t fp1 → fp1.Nodup → (∀ a ∈ fp1, F a = none) → op t = some (t', c) → ∀ {Q : VK},
    (∀ v F' H' fv fq, Grow F H fp1 F' H' (fv ++ fq) → Own K F' H' u t' fq → Own K F' H' v c fv → (fv ++ fq).Nodup → (∀ a ∈ fv ++ fq, F' a = none) → Q v H') → r u H Q
def eMut1 (op : S → S → Option (S × S)) (da db : En → Option Rs) (E : En) : Option (S × En) := match da E, db E with
  | some (.pl p), some (.val s) => match eget E p with
    | some t => match op t s with
      | some (t', c) => some (c, ekill (eput E p t') p)
      | none => none
    | none => none
  | _, _ => none
def eMut0 (op : S → Option (S × S)) (da : En → Option Rs) (E : En) : Option (S × En) := match da E with
  | some (.pl p) => match eget E p with
    | some t => match op t with
      | some (t', c) => some (c, ekill (eput E p t') p)
      | none => none
    | none => none
  | _ => none
theorem mut1 {r : V → V → Hp → VK → Prop} {op : S → S → Option (S × S)} (hr : Nd1 K r op) {σ : L2.St} {p : List Nat} {t' c : S} (R : Rep K F H (σ ++ as) E fp) (a1 : RsAt K F H (σ ++ as) E u (.pl p) f1) (o2 : Own K F H y s fr) (nd : (fr ++ fp).Nodup) (of : ∀ a ∈ fr, F a = none)
    (ht : eget E p = some t) (ho : op t s = some (t', c)) {Q : VK} (q : ∀ v F' H' fv fp', Grow F H (fr ++ fp) F' H' (fv ++ fp') → Rep K F' H' (σ ++ as) (ekill (eput E p t') p) fp' → Own K F' H' v c fv → (fv ++ fp').Nodup → (∀ a ∈ fv, F' a = none) → Q v H') : r u y H Q := by
  obtain ⟨w, fp1, fp2, h1, h2, pm, close⟩ := R.focus2 ht
  rw [a1.2.1] at h1
  cases h1
  have in1 : ∀ a ∈ fp1, a ∈ fp := fun a m => pm.mem_iff.mpr (List.mem_append_left _ m)
  have nd1 : (fr ++ fp1).Nodup := nodup_two (List.nodup_append.mp nd).1 (List.nodup_append.mp (pm.nodup_iff.mp R.nd)).1 fun a m b m2 e => (List.nodup_append.mp nd).2.2 a m b (in1 b m2) e
  refine hr R.sub h2 o2 nd1 (fun a m => (List.mem_append.mp m).elim (of a) fun m => R.off a (in1 a m)) ho fun v F' H' fv fq g ou ov ndv ofv => ?_
  obtain ⟨R', nd', g'⟩ := close F' H' t' fq fr fv g (fun a m m2 => (List.nodup_append.mp nd).2.2 a m a m2 rfl) ou ndv fun a m => ofv a (List.mem_append_right _ m)
  exact q v F' H' fv _ g' R' ov nd' fun a m => ofv a (List.mem_append_left _ m)
theorem mut0 {r : V → Hp → VK → Prop} {op : S → Option (S × S)} (hr : Nd0 K r op) {σ : L2.St} {p : List Nat} {t' c : S} (R : Rep K F H (σ ++ as) E fp) (a1 : RsAt K F H (σ ++ as) E u (.pl p) f1)
    (ht : eget E p = some t) (ho : op t = some (t', c)) {Q : VK} (q : ∀ v F' H' fv fp', Grow F H fp F' H' (fv ++ fp') → Rep K F' H' (σ ++ as) (ekill (eput E p t') p) fp' → Own K F' H' v c fv → (fv ++ fp').Nodup → (∀ a ∈ fv, F' a = none) → Q v H') : r u H Q := by
  obtain ⟨w, fp1, fp2, h1, h2, pm, close⟩ := R.focus2 ht
  rw [a1.2.1] at h1
  cases h1
  have in1 : ∀ a ∈ fp1, a ∈ fp := fun a m => pm.mem_iff.mpr (List.mem_append_left _ m)
  refine hr R.sub h2 (List.nodup_append.mp (pm.nodup_iff.mp R.nd)).1 (fun a m => R.off a (in1 a m)) ho fun v F' H' fv fq g ou ov ndv ofv => ?_
  obtain ⟨R', nd', g'⟩ := close F' H' t' fq [] fv g (fun a m => nomatch m) ou ndv fun a m => ofv a (List.mem_append_right _ m)
  exact q v F' H' fv _ g' R' ov nd' fun a m => ofv a (List.mem_append_left _ m)
/-- what a list is to the rules of methods -/
theorem tyV_list {a : Addr} {xs : List V} (h : H a = some (.lst xs)) : tyV K "list" (.ref a) H := .inl ⟨rfl, xs, .inl (.inl h)⟩
def isLst : S → Bool | .lst _ => true | _ => false
/-- xs.m(e): a method of lists, its argument changing nothing -/
def eBM1 (op : S → S → Option (S × S)) (da db : En → Option Rs) (E : En) : Option (S × En) := match da E with
  | some (.pl p) => match eget E p with
    | some (.lst _) => eMut1 op da db E
    | _ => none
  | _ => none
theorem e_bm1 {r : V → List V → Hp → VK → Prop} {op : S → S → Option (S × S)} (hr : Nd1 K (fun u y H Q => r u [y] H Q) op) (ha : EvP K n as ta da) (hb : EvP K n as tb db) : EvE K n as (tBM K "list" r ta (tCons tb tNil)) (eBM1 op da db) := by
  intro F H σ E fp L R s0 E0 e Q q
  unfold eBM1 at e
  split at e
  · next p ea =>
    split at e
    · next ss es =>
      unfold eMut1 at e
      rw [ea] at e
      split at e
      · next p' s hp eb =>
        cases hp
        rw [es] at e
        dsimp only at e
        split at e
        · next t' c ho =>
          cases e
          refine ha L R ea fun u F1 H1 f1 g1 a1 n1 o1 => ?_
          have R1 := R.grow g1
          obtain ⟨fq, ow⟩ := a1.own R1 (show (Rs.pl p).at E = some (.lst ss) from es)
          obtain ⟨a, xs, _, rfl, hH, _⟩ := ow.lst_inv rfl
          refine ⟨tyV_list hH, hb L R1 eb fun y F2 H2 f2 g2 a2 n2 o2 => ?_⟩
          have R2 := R1.grow g2
          exact mut1 hr R2 (a1.grow R1 g2) a2 (R1.apart_new g2 n2) o2 es ho fun v F' H' fv fp' g R' ov nd' of' => q v F' H' fv fp' (((g1.ours fp).less fun a m => List.mem_append_right _ m).trans ((g2.ours fp).trans g)) R' ov nd' of'
        · cases e
      · cases e
    · cases e
  · cases e
def eBM0 (op : S → Option (S × S)) (da : En → Option Rs) (E : En) : Option (S × En) := match da E with
  | some (.pl p) => match eget E p with
    | some (.lst _) => eMut0 op da E
    | _ => none
  | _ => none
theorem e_bm0 {r : V → List V → Hp → VK → Prop} {op : S → Option (S × S)} (hr : Nd0 K (fun u H Q => r u [] H Q) op) (ha : EvP K n as ta da) : EvE K n as (tBM0 K "list" r ta) (eBM0 op da) := by
  intro F H σ E fp L R s0 E0 e Q q
  unfold eBM0 at e
  split at e
  · next p ea =>
    split at e
    · next ss es =>
      unfold eMut0 at e
      rw [ea] at e
      dsimp only at e
      rw [es] at e
      dsimp only at e
      split at e
      · next t' c ho =>
        cases e
        refine ha L R ea fun u F1 H1 f1 g1 a1 n1 o1 => ?_
        have R1 := R.grow g1
        obtain ⟨fq, ow⟩ := a1.own R1 (show (Rs.pl p).at E = some (.lst ss) from es)
        obtain ⟨a, xs, _, rfl, hH, _⟩ := ow.lst_inv rfl
        exact ⟨tyV_list hH, mut0 hr R1 a1 es ho fun v F' H' fv fp' g R' ov nd' of' => q v F' H' fv fp' (((g1.ours fp).less fun a m => List.mem_append_right _ m).trans g) R' ov nd' of'⟩
      · cases e
    · cases e
  · cases e

/-! the methods -/
def oAppend : S → S → Option (S × S)
  | .lst ss, s => if ss.length < 100000 then some (.lst (ss ++ [s]), .dat .none) else none
  | _, _ => none
theorem lst_write {a : Addr} {ys : List V} {f : List Addr} (o : OwnL K F (upd H a (.lst ys)) ys ss f) : Own K F (upd H a (.lst ys)) (.ref a) (.lst ss) (a :: f) := by
  have := Own.node (K := K) (F := F) (H := upd H a (.lst ys)) (s := .lst ss) (ex := []) upd_same (show Head _ _ a (.lst ys) (.lst ss) [] from rfl) o
  simpa using this
theorem upd_sub (sub : ∀ b u, F b = some u → H b = some u) {a : Addr} {o : HO} (fa : F a = none) : ∀ b u, F b = some u → upd H a o b = some u := fun b u e => by
  rw [upd_ne (ne_of_none e fa)]; exact sub b u e
theorem OwnL.off (l : OwnL K F H vs ss fp) (sub : ∀ b u, F b = some u → H b = some u) {a : Addr} {o : HO} (fa : F a = none) (h : a ∉ fp) : OwnL K F (upd H a o) vs ss fp := l.frame (fun _ _ h => h) (upd_sub sub fa) fun b m u e => by
  rw [upd_ne (fun z => h (by rw [← z]; exact m))]; exact e
theorem Own.off (l : Own K F H v s fp) (sub : ∀ b u, F b = some u → H b = some u) {a : Addr} {o : HO} (fa : F a = none) (h : a ∉ fp) : Own K F (upd H a o) v s fp := l.frame (fun _ _ h => h) (upd_sub sub fa) fun b m u e => by
  rw [upd_ne (fun z => h (by rw [← z]; exact m))]; exact e
theorem nd_append : Nd1 K (fun u y H Q => rAppend u [y] H Q) oAppend := by
  intro F H u y t s t' c fp1 fr sub ot os nd of e Q q
  unfold oAppend at e
  split at e
  · next ss s =>
    split at e
    · next hl =>
      cases e
      obtain ⟨a, vs, fq, rfl, hH, l, rfl⟩ := ot.lst_inv rfl
      have na : a ∉ fr := fun m => (List.nodup_append.mp nd).2.2 a m a List.mem_cons_self rfl
      have nq : a ∉ fq := (List.nodup_cons.mp (List.nodup_append.mp nd).2.1).1
      refine ⟨a, vs, y, rfl, rfl, hH, by rw [l.length, sizeLine_eq]; omega, ?_⟩
      have l2 := (l.off sub (o := .lst (vs ++ [y])) (of a (List.mem_append_right _ List.mem_cons_self)) nq).append (OwnL.cons (os.off sub (o := .lst (vs ++ [y])) (of a (List.mem_append_right _ List.mem_cons_self)) na) .nil)
      rw [List.append_nil] at l2
      have g0 : Grow F H [a] F (upd H a (.lst (vs ++ [y]))) [a] := Grow.write sub (of a (List.mem_append_right _ List.mem_cons_self))
      refine q .non F _ [] (a :: (fq ++ fr)) (g0.wide (fun b m => by rw [List.mem_singleton.mp m]; exact List.mem_append_right _ List.mem_cons_self) fun b m => ?_) (lst_write l2) (.dat .non) ?_ fun b m => ?_
      · left
        rw [List.nil_append] at m
        rcases List.mem_cons.mp m with rfl | m
        · exact List.mem_append_right _ List.mem_cons_self
        · rcases List.mem_append.mp m with m | m
          · exact List.mem_append_right _ (List.mem_cons_of_mem _ m)
          · exact List.mem_append_left _ m
      · rw [List.nil_append]
        have p : (fr ++ a :: fq).Perm (a :: (fq ++ fr)) := List.perm_middle.trans (List.Perm.cons a List.perm_append_comm)
        exact p.nodup_iff.mp nd
      · rw [List.nil_append] at m
        rcases List.mem_cons.mp m with rfl | m
        · exact of _ (List.mem_append_right _ List.mem_cons_self)
        · rcases List.mem_append.mp m with m | m
          · exact of b (List.mem_append_right _ (List.mem_cons_of_mem _ m))
          · exact of b (List.mem_append_left _ m)
    · cases e
  · cases e
def oPopAt : S → S → Option (S × S)
  | .lst ss, .dat (.int i) => match ixN ss.length i with
    | some j => match ss[j]? with
      | some s => if ss.length < 100000 then some (.lst (ss.eraseIdx j), s) else none
      | none => none
    | none => none
  | _, _ => none
theorem OwnL.erase : ∀ {vs : List V} {ss : List S} {fp : List Addr} {j : Nat} {s : S}, OwnL K F H vs ss fp → ss[j]? = some s → ∃ v f1 f2, vs[j]? = some v ∧ Own K F H v s f1 ∧ OwnL K F H (vs.eraseIdx j) (ss.eraseIdx j) f2 ∧ fp.Perm (f1 ++ f2)
  | _, _, _, j, _, .nil, e => by simp at e
  | _, _, _, 0, s, .cons h t, e => by
    simp only [List.getElem?_cons_zero, Option.some.injEq] at e
    subst e
    exact ⟨_, _, _, rfl, h, t, List.Perm.refl _⟩
  | _, _, _, j + 1, s, .cons (fp := fa) h t, e => by
    obtain ⟨v, f1, f2, e1, o, l, p⟩ := OwnL.erase (j := j) t (by simpa using e)
    refine ⟨v, f1, fa ++ f2, by simpa using e1, o, .cons h l, ?_⟩
    refine (List.Perm.append_left fa p).trans ?_
    rw [← List.append_assoc, ← List.append_assoc]
    exact List.Perm.append_right _ List.perm_append_comm
theorem nd_popAt : Nd1 K (fun u y H Q => rPopAt u [y] H Q) oPopAt := by
  intro F H u y t s t' c fp1 fr sub ot os nd of e Q q
  unfold oPopAt at e
  split at e
  · next ss i =>
    split at e
    · next j ej =>
      split at e
      · next s hs =>
        split at e
        · next hl =>
          cases e
          obtain ⟨hd, rfl⟩ := os.dat_inv rfl
          cases hd
          obtain ⟨a, vs, fq, rfl, hH, l, rfl⟩ := ot.lst_inv rfl
          obtain ⟨w, g1, g2, e1, ow, l2, pm⟩ := l.erase hs
          rw [List.nil_append] at nd of
          have nq : a ∉ fq := (List.nodup_cons.mp nd).1
          have n1 : a ∉ g1 := fun m => nq (pm.mem_iff.mpr (List.mem_append_left _ m))
          have n2 : a ∉ g2 := fun m => nq (pm.mem_iff.mpr (List.mem_append_right _ m))
          obtain ⟨k1, k2, k3, k4⟩ := ixN_seq ej
          refine ⟨a, vs, i, j, w, rfl, rfl, hH, ?_, ?_, by rw [l.length]; exact k1, e1, ?_⟩
          · have : (ss.length : Int) < 100000 := by omega
            omega
          · have : (ss.length : Int) < 100000 := by omega
            omega
          · have g0 : Grow F H [a] F (upd H a (.lst (vs.eraseIdx j))) [a] := Grow.write sub (of a List.mem_cons_self)
            refine q w F _ g1 (a :: g2) (g0.wide (fun b m => by rw [List.mem_singleton.mp m]; exact List.mem_cons_self) fun b m => ?_) (lst_write (l2.off sub (of a List.mem_cons_self) n2)) (ow.off sub (of a List.mem_cons_self) n1) ?_ fun b m => ?_
            · left
              rcases List.mem_append.mp m with m | m
              · exact List.mem_cons_of_mem _ (pm.mem_iff.mpr (List.mem_append_left _ m))
              · rcases List.mem_cons.mp m with rfl | m
                · exact List.mem_cons_self
                · exact List.mem_cons_of_mem _ (pm.mem_iff.mpr (List.mem_append_right _ m))
            · have p : (a :: fq).Perm (g1 ++ a :: g2) := (List.Perm.cons a pm).trans List.perm_middle.symm
              exact p.nodup_iff.mp nd
            · rcases List.mem_append.mp m with m | m
              · exact of b (List.mem_cons_of_mem _ (pm.mem_iff.mpr (List.mem_append_left _ m)))
              · rcases List.mem_cons.mp m with rfl | m
                · exact of _ List.mem_cons_self
                · exact of b (List.mem_cons_of_mem _ (pm.mem_iff.mpr (List.mem_append_right _ m)))
        · cases e
      · cases e
    · cases e
  · cases e
def oClear : S → Option (S × S)
  | .lst _ => some (.lst [], .dat .none)
  | _ => none
theorem nd_clear : Nd0 K (fun u H Q => rClear u [] H Q) oClear := by
  intro F H u t t' c fp1 sub ot nd of e Q q
  unfold oClear at e
  split at e
  · next ss =>
    cases e
    obtain ⟨a, vs, fq, rfl, hH, l, rfl⟩ := ot.lst_inv rfl
    refine ⟨a, vs, rfl, rfl, hH, ?_⟩
    have g0 : Grow F H [a] F (upd H a (.lst [])) [a] := Grow.write sub (of a List.mem_cons_self)
    refine q .non F _ [] [a] (g0.wide (fun b m => by rw [List.mem_singleton.mp m]; exact List.mem_cons_self) fun b m => ?_) (lst_write .nil) (.dat .non) (by simp) fun b m => ?_
    · rw [List.nil_append] at m
      rw [List.mem_singleton.mp m]; exact .inl List.mem_cons_self
    · rw [List.nil_append] at m
      rw [List.mem_singleton.mp m]; exact of a List.mem_cons_self
  · cases e
end Mv
/-! dicts -/
namespace Mv
open PySem PySem.Spec PyProof.Rows L2
variable {K : PySem.W.Frag} {F F' F1 F2 H H' H1 H2 : Hp} {v u x y : V} {vs ws : List V} {s t : S} {ss tts : List S} {fp fq fr fp' fp1 fp2 f1 f2 : List Addr} {ρ as : Ro} {E E' : En} {n : Nat}
variable {W : WXm} {te ta tb tc : TE} {d da db dc : En → Option Rs} {tr : TA} {dr : En → Option (List Rs)} {de df : En → Option (S × En)} {tt : TT} {dte : En → Option (Bool × En)}

def kix : List Key → Key → Option Nat
  | [], _ => none
  | a :: r, k => if a = k then some 0 else (kix r k).map (· + 1)
theorem valV_kix (k : Key) : ∀ kvs : List (Key × V), valV kvs k = (kix (kvs.map (·.1)) k).bind fun i => (kvs.map (·.2))[i]?
  | [] => rfl
  | p :: r => by
    by_cases e : p.1 = k
    · rw [valV_pos e]; simp [kix, e]
    · rw [valV_neg e, valV_kix k r, List.map_cons, List.map_cons, kix, if_neg e]
      cases kix (r.map (·.1)) k with
      | none => rfl
      | some i => simp
theorem kix_lt {k : Key} : ∀ {ks : List Key} {i : Nat}, kix ks k = some i → i < ks.length
  | [], _, h => by simp [kix] at h
  | a :: r, i, h => by
    unfold kix at h
    split at h
    · cases h; simp
    · obtain ⟨j, hj, rfl⟩ := Option.map_eq_some_iff.mp h
      have := kix_lt hj
      simp only [List.length_cons]; omega
theorem setSnd_none {α β : Type} (b : β) : ∀ (l : List (α × β)) (i : Nat), l.length ≤ i → setSnd l i b = l
  | [], _, _ => rfl
  | _ :: _, 0, h => by simp at h
  | p :: r, i + 1, h => by simp only [setSnd, setSnd_none b r i (by simpa using h)]
/-- in its place, or at the end -/
def putS {α : Type} (kss : List (Key × α)) (k : Key) (s : α) : List (Key × α) := match kix (kss.map (·.1)) k with
  | some i => setSnd kss i s
  | none => kss ++ [(k, s)]
theorem putK_kix {k : Key} (b : V) : ∀ (kvs : List (Key × V)), (kvs.map (·.1)).Nodup → putK kvs k b = putS kvs k b := by
  have map_no : ∀ (r : List (Key × V)), k ∉ r.map (·.1) → r.map (fun kv => if kv.1 = k then (kv.1, b) else kv) = r := by
    intro r h
    induction r with
    | nil => rfl
    | cons p r ih =>
      simp only [List.map_cons, List.mem_cons, not_or] at h
      rw [List.map_cons, if_neg (fun z => h.1 z.symm), ih h.2]
  have yes : ∀ (kvs : List (Key × V)) (i : Nat), (kvs.map (·.1)).Nodup → kix (kvs.map (·.1)) k = some i → kvs.map (fun kv => if kv.1 = k then (kv.1, b) else kv) = setSnd kvs i b := by
    intro kvs
    induction kvs with
    | nil => intro i _ h; simp [kix] at h
    | cons p r ih =>
      intro i nd h
      rw [List.map_cons, List.nodup_cons] at nd
      rw [List.map_cons, kix] at h
      by_cases e : p.1 = k
      · rw [if_pos e] at h
        cases h
        rw [List.map_cons, if_pos e]
        simp only [setSnd]
        rw [map_no r (by rw [← e]; exact nd.1)]
      · rw [if_neg e] at h
        obtain ⟨j, hj, rfl⟩ := Option.map_eq_some_iff.mp h
        rw [List.map_cons, if_neg e]
        simp only [setSnd]
        rw [ih j nd.2 hj]
  intro kvs nd
  unfold putK putS
  rw [valV_any, valV_kix]
  cases h : kix (kvs.map (·.1)) k with
  | none => simp
  | some i =>
    have hi := kix_lt h
    rw [List.length_map] at hi
    simp only [Option.bind_some, List.getElem?_map, List.getElem?_eq_getElem hi, Option.map_some, Option.isSome_some, if_true]
    exact yes kvs i nd h
theorem putK_nodup_map {k : Key} {b : V} {c : S} {kvs : List (Key × V)} {kss : List (Key × S)} (e : kvs.map (·.1) = kss.map (·.1)) : (putS kvs k b).map (·.1) = (putS kss k c).map (·.1) := by
  unfold putS
  rw [e]
  split
  · rw [setSnd_fst, setSnd_fst, e]
  · rw [List.map_append, List.map_append, e]; rfl

/-- a dict's node -/
theorem Own.dct_inv {l : Bool} {kss : List (Key × S)} (o : Own K F H v s fp) (e : s = .dct l kss) :
    ∃ a kvs u fq, v = .ref a ∧ H a = some u ∧ kidsV u = kvs.map (·.2) ∧ Rd H a (.dK kvs) ∧ kvs.map (·.1) = kss.map (·.1) ∧ OwnL K F H (kvs.map (·.2)) (kss.map (·.2)) fq ∧ (l = false → H a = some (.dK kvs) ∧ fp = a :: fq) := by
  cases o with
  | dat _ => cases e
  | con => cases e
  | @node a ob _ ex fq h hd ll =>
    subst e
    cases ob with
    | dK kvs => cases l with
      | false =>
        obtain ⟨rfl, hk⟩ := hd
        exact ⟨a, kvs, _, fq, rfl, h, rfl, .inl h, hk, ll, fun _ => ⟨h, rfl⟩⟩
      | true => exact hd.elim
    | frz o u => cases u <;> exact hd.elim
    | _ => exact hd.elim
  | @lck a ob kvs kss' fq hf h hk ll =>
    cases e
    exact ⟨a, kvs, _, fp, rfl, h, rfl, .inr ⟨_, h⟩, hk, ll, fun z => nomatch z⟩

def keyS : S → Option Key
  | .dat (.int i) => some (.inl i)
  | .dat (.str x) => some (.inr x)
  | _ => none
def Rs.key : Rs → Option Key
  | .val s => keyS s
  | _ => none
theorem RsAt.key {r : Rs} {k : Key} (a : RsAt K F H ρ E v r fr) (h : r.key = some k) : v = kV k := by
  cases r with
  | pl p => cases h
  | val s =>
    have o : Own K F H v s fr := a
    cases s with
    | dat d =>
      have dp := (o.dat_inv rfl).1
      cases d with
      | int i => cases h; cases dp; rfl
      | str x => cases h; cases dp; rfl
      | _ => cases h
    | _ => cases h
/-! d[k], k in d -/
def dDGet (da db : En → Option Rs) (E : En) : Option Rs := match da E, db E with
  | some r, some rk => match r.at E, rk.key with
    | some (.dct _ kss), some k => match kix (kss.map (·.1)) k with
      | some i => match (kss.map (·.2))[i]? with
        | some s => r.kid i s
        | none => none
      | none => none
    | _, _ => none
  | _, _ => none
theorem p_dget (ha : EvP K n as ta da) (hb : EvP K n as tb db) : EvP K n as (tDGet ta tb) (dDGet da db) := by
  intro F H σ E fp L R r' e Q q
  unfold dDGet at e
  split at e
  · next r rk ea eb =>
    refine ha L R ea fun x F1 H1 f1 g1 r1 n1 o1 => hb L (R.grow g1) eb fun y F2 H2 f2 g2 r2 n2 o2 => ?_
    have R2 := (R.grow g1).grow g2
    have r1' := r1.grow (R.grow g1) g2
    have gg := (g1.seq0 g2).drop
    split at e
    · next l kss k es ek =>
      split at e
      · next i ei =>
        split at e
        · next s hs =>
          obtain ⟨fq, o⟩ := r1'.own R2 es
          obtain ⟨a, kvs, u, fq', rfl, hH, hk, rd, hkk, ll, _⟩ := o.dct_inv rfl
          obtain ⟨w, f, hw, ow⟩ := ll.nth hs
          refine ⟨a, w, rfl, .inl ⟨kvs, k, rd, r2.key ek, ?_⟩, ?_⟩
          · rw [valV_kix, hkk, ei]; exact hw.symm
          · exact q w F2 H2 [] gg (r1'.kid R2 es hH (by rw [hk]; exact hw) hs ow e) List.nodup_nil (fun _ m => nomatch m)
        · cases e
      · cases e
    · cases e
  · cases e
def dDIn (neg : Bool) (db da : En → Option Rs) (E : En) : Option Rs := match db E, da E with
  | some rk, some r => match r.at E, rk.key with
    | some (.dct _ kss), some k => some (.val (.dat (.bool ((kix (kss.map (·.1)) k).isSome != neg))))
    | _, _ => none
  | _, _ => none
theorem din_core (R : Rep K F H ρ E fp) {r rk : Rs} {l : Bool} {kss : List (Key × S)} {k : Key} (a1 : RsAt K F H ρ E x r f1) (a2 : RsAt K F H ρ E y rk f2) (es : r.at E = some (.dct l kss)) (ek : rk.key = some k) :
    ∃ a o, x = .ref a ∧ DGet H a y o ∧ o.isSome = (kix (kss.map (·.1)) k).isSome := by
  obtain ⟨fq, o⟩ := a1.own R es
  obtain ⟨a, kvs, u, fq', rfl, hH, hk, rd, hkk, ll, _⟩ := o.dct_inv rfl
  refine ⟨a, _, rfl, .inl ⟨kvs, k, rd, a2.key ek, rfl⟩, ?_⟩
  rw [valV_kix, hkk]
  cases h : kix (kss.map (·.1)) k with
  | none => rfl
  | some i =>
    have hi := kix_lt h
    rw [← hkk, List.length_map] at hi
    simp [List.getElem?_eq_getElem hi]
theorem p_din (hb : EvP K n as tb db) (ha : EvP K n as ta da) : EvP K n as (tDIn tb ta) (dDIn false db da) := by
  intro F H σ E fp L R r' e Q q
  unfold dDIn at e
  split at e
  · next rk r eb ea =>
    refine hb L R eb fun y F1 H1 f1 g1 r1 n1 o1 => ha L (R.grow g1) ea fun x F2 H2 f2 g2 r2 n2 o2 => ?_
    have R2 := (R.grow g1).grow g2
    split at e
    · next l kss k es ek =>
      cases e
      obtain ⟨a, o, rfl, dg, hz⟩ := din_core R2 r2 (r1.grow (R.grow g1) g2) es ek
      refine ⟨a, o, rfl, dg, ?_⟩
      rw [hz]
      rw [Bool.bne_false] at q
      exact q _ F2 H2 [] (g1.seq0 g2).drop (.dat (.bl _)) List.nodup_nil (fun _ m => nomatch m)
    · cases e
  · cases e
theorem p_dnotin (hb : EvP K n as tb db) (ha : EvP K n as ta da) : EvP K n as (tDNotIn tb ta) (dDIn true db da) := by
  intro F H σ E fp L R r' e Q q
  unfold dDIn at e
  split at e
  · next rk r eb ea =>
    refine hb L R eb fun y F1 H1 f1 g1 r1 n1 o1 => ha L (R.grow g1) ea fun x F2 H2 f2 g2 r2 n2 o2 => ?_
    have R2 := (R.grow g1).grow g2
    split at e
    · next l kss k es ek =>
      cases e
      obtain ⟨a, o, rfl, dg, hz⟩ := din_core R2 r2 (r1.grow (R.grow g1) g2) es ek
      refine ⟨a, o, rfl, dg, ?_⟩
      rw [hz]
      rw [Bool.bne_true] at q
      exact q _ F2 H2 [] (g1.seq0 g2).drop (.dat (.bl _)) List.nodup_nil (fun _ m => nomatch m)
    · cases e
  · cases e
/-! d[k] = v -/
def nodupK : List Key → Bool
  | [] => true
  | k :: r => (kix r k).isNone && nodupK r
theorem kix_mem {k : Key} : ∀ {ks : List Key}, kix ks k = none → k ∉ ks
  | [], _, h => by simp at h
  | a :: r, e, h => by
    unfold kix at e
    split at e
    · cases e
    · next ne =>
      rcases List.mem_cons.mp h with z | z
      · exact ne z.symm
      · exact kix_mem (by cases hh : kix r k with | none => rfl | some i => rw [hh] at e; cases e) z
theorem nodupK_ok : ∀ {ks : List Key}, nodupK ks = true → ks.Nodup
  | [], _ => List.nodup_nil
  | k :: r, h => by
    simp only [nodupK, Bool.and_eq_true, Option.isNone_iff_eq_none] at h
    exact List.nodup_cons.mpr ⟨kix_mem h.1, nodupK_ok h.2⟩
def oDPut (k : Key) (t s : S) : Option (S × S) := match t with
  | .dct false kss => if nodupK (kss.map (·.1)) = true then if kss.length < 100000 then some (.dct false (putS kss k s), .dat .none) else none else none
  | _ => none
def rDPut (k : Key) (u y : V) (H : Hp) (Q : VK) : Prop := ∃ a H4, u = .ref a ∧ DPut H a (kV k) y H4 ∧ Q .non H4
theorem dct_write {a : Addr} {kvs : List (Key × V)} {kss : List (Key × S)} {f : List Addr} (hk : kvs.map (·.1) = kss.map (·.1)) (o : OwnL K F (upd H a (.dK kvs)) (kvs.map (·.2)) (kss.map (·.2)) f) : Own K F (upd H a (.dK kvs)) (.ref a) (.dct false kss) (a :: f) := by
  have := Own.node (K := K) (F := F) (H := upd H a (.dK kvs)) (s := .dct false kss) (ex := []) upd_same (show Head _ _ a (.dK kvs) (.dct false kss) [] from ⟨rfl, hk⟩) o
  simpa using this
/-- one of them replaced -/
theorem OwnL.repl : ∀ {vs : List V} {ss : List S} {fp : List Addr} {i : Nat} {y : V} {s : S} {fr : List Addr}, OwnL K F H vs ss fp → i < vs.length → Own K F H y s fr →
    ∃ f1 f2 g, OwnL K F H (vs.set i y) (ss.set i s) g ∧ g.Perm (fr ++ f2) ∧ fp.Perm (f1 ++ f2)
  | _, _, _, i, _, _, _, .nil, h, _ => by simp at h
  | _, _, _, 0, y, s, fr, .cons (fp := fa) (fq := fb) h t, _, o => ⟨fa, fb, _, .cons o t, List.Perm.refl _, List.Perm.refl _⟩
  | _, _, _, i + 1, y, s, fr, .cons (fp := fa) h t, hi, o => by
    obtain ⟨f1, f2, g, l, p1, p2⟩ := OwnL.repl (i := i) t (by simpa using hi) o
    refine ⟨f1, fa ++ f2, fa ++ g, .cons h l, ?_, ?_⟩
    · refine (List.Perm.append_left fa p1).trans ?_
      rw [← List.append_assoc, ← List.append_assoc]
      exact List.Perm.append_right _ List.perm_append_comm
    · refine (List.Perm.append_left fa p2).trans ?_
      rw [← List.append_assoc, ← List.append_assoc]
      exact List.Perm.append_right _ List.perm_append_comm
theorem nd_dput (k : Key) : Nd1 K (rDPut k) (oDPut k) := by
  intro F H u y t s t' c fp1 fr sub ot os nd of e Q q
  unfold oDPut at e
  split at e
  · next kss =>
    split at e
    · next hn =>
      split at e
      · next hl =>
        cases e
        obtain ⟨a, kvs, _, fq, rfl, _, _, _, hkk, l, z⟩ := ot.dct_inv rfl
        obtain ⟨hH, rfl⟩ := z rfl
        have na : a ∉ fr := fun m => (List.nodup_append.mp nd).2.2 a m a List.mem_cons_self rfl
        have nq : a ∉ fq := (List.nodup_cons.mp (List.nodup_append.mp nd).2.1).1
        have fa : F a = none := of a (List.mem_append_right _ List.mem_cons_self)
        have len : kvs.length = kss.length := by have := congrArg List.length hkk; simpa using this
        refine ⟨a, _, rfl, DPut.k hH (by rw [len, sizeLine_eq]; omega), ?_⟩
        rw [putK_kix y kvs (by rw [hkk]; exact nodupK_ok hn)]
        have g0 : Grow F H [a] F (upd H a (.dK (putS kvs k y))) [a] := Grow.write sub fa
        have fin : ∃ g, OwnL K F H ((putS kvs k y).map (·.2)) ((putS kss k s).map (·.2)) g ∧ (∀ b ∈ g, b ∈ fr ∨ b ∈ fq) ∧ g.Nodup := by
          unfold putS
          rw [hkk]
          have ndf := List.nodup_append.mp nd
          have ndq := (List.nodup_cons.mp ndf.2.1).2
          split
          · next i hi =>
            have hi' := kix_lt hi
            rw [List.length_map, ← len] at hi'
            obtain ⟨f1, f2, g, l2, p1, p2⟩ := l.repl (i := i) (by simpa using hi') os
            refine ⟨g, by rw [setSnd_snd, setSnd_snd]; exact l2, fun b m => ?_, p1.nodup_iff.mpr (List.nodup_append.mpr ⟨ndf.1, (List.nodup_append.mp (p2.nodup_iff.mp ndq)).2.1, fun b m c m2 e => ?_⟩)⟩
            · rcases List.mem_append.mp (p1.mem_iff.mp m) with m | m
              · exact .inl m
              · exact .inr (p2.mem_iff.mpr (List.mem_append_right _ m))
            · exact ndf.2.2 b m c (List.mem_cons_of_mem _ (p2.mem_iff.mpr (List.mem_append_right _ m2))) e
          · have l2 := l.append (OwnL.cons os .nil)
            rw [List.append_nil] at l2
            refine ⟨fq ++ fr, by simpa using l2, fun b m => (List.mem_append.mp m).symm, ?_⟩
            exact List.perm_append_comm.nodup_iff.mp (List.nodup_append.mpr ⟨ndf.1, ndq, fun b m c m2 e => ndf.2.2 b m c (List.mem_cons_of_mem _ m2) e⟩)
        obtain ⟨g, lg, hg, ng⟩ := fin
        have nag : a ∉ g := fun m => (hg a m).elim na nq
        refine q .non F _ [] (a :: g) (g0.wide (fun b m => by rw [List.mem_singleton.mp m]; exact List.mem_append_right _ List.mem_cons_self) fun b m => ?_) (dct_write (putK_nodup_map hkk) (lg.off sub fa nag)) (.dat .non) ?_ fun b m => ?_
        · left
          rw [List.nil_append] at m
          rcases List.mem_cons.mp m with rfl | m
          · exact List.mem_append_right _ List.mem_cons_self
          · exact (hg b m).elim (fun m => List.mem_append_left _ m) fun m => List.mem_append_right _ (List.mem_cons_of_mem _ m)
        · rw [List.nil_append]; exact List.nodup_cons.mpr ⟨nag, ng⟩
        · rw [List.nil_append] at m
          rcases List.mem_cons.mp m with rfl | m
          · exact fa
          · exact (hg b m).elim (fun m => of b (List.mem_append_left _ m)) fun m => of b (List.mem_append_right _ (List.mem_cons_of_mem _ m))
      · cases e
    · cases e
  · cases e
/-- what is put at a place -/
def stepAt (op : S → S → Option (S × S)) (E : En) (p : List Nat) (s : S) : Option Out := match eget E p with
  | some t => match op t s with
    | some (t', _) => some (.nx (ekill (eput E p t') p))
    | none => none
  | none => none
def dDPut (da db : En → Option Rs) (de : En → Option (S × En)) (E : En) : Option Out := match de E with
  | some (s, E1) => match da E1, db E1 with
    | some (.pl p), some rk => match rk.key with
      | some k => stepAt (oDPut k) E1 p s
      | none => none
    | _, _ => none
  | none => none
theorem s_dput (ha : EvP K n as ta da) (hb : EvP K n as tb db) (he : EvE K n as te de) : EvS K n as W (sDPut ta tb te) (dDPut da db de) := by
  intro F H σ E fp L R o e D g
  unfold dDPut at e
  split at e
  · next s E1 ee =>
    split at e
    · next p rk ea eb =>
      split at e
      · next k ek =>
        refine he L R ee fun v F1 H1 fr fp1 g1 R1 ov nd of => ha L R1 ea fun x F2 H2 f2 g2 r2 n2 o2 => hb L (R1.grow g2) eb fun y F3 H3 f3 g3 r3 n3 o3 => ?_
        have R3 := (R1.grow g2).grow g3
        have g23 : Grow F1 H1 [] F3 H3 [] := (g2.seq0 g3).drop
        have ov3 : Own K F3 H3 v s fr := ov.grow g23 fun _ _ m => nomatch m
        have of3 : ∀ a ∈ fr, F3 a = none := fun a m => by
          obtain ⟨o, eo⟩ := ov.there a m
          exact g23.off a (by rw [eo]; exact fun z => nomatch z) (fun z => nomatch z) (of a m)
        have r2' := r2.grow (R1.grow g2) g3
        unfold stepAt at e
        split at e
        · next t et =>
          split at e
          · next t' c eo =>
            cases e
            have ky := r3.key ek
            subst ky
            have gg : Grow F H fp F3 H3 (fr ++ fp1) := by
              have := g1.trans (g23.ours (fr ++ fp1))
              simpa using this
            have fin := mut1 (nd_dput k) R3 r2' ov3 nd of3 et eo (Q := fun _ H4 => D.nx σ H4) fun v F' H' fv fp' g4 R4 ov4 nd4 of4 => ?_
            · obtain ⟨a, H4, rfl, hp, hq⟩ := fin
              exact ⟨a, H4, rfl, hp, hq⟩
            · exact g σ F' H' fp' L ((gg.trans g4).less fun a m => List.mem_append_right _ m) R4
          · cases e
        · cases e
      · cases e
    · cases e
  · cases e
/-- d[k] op= v, worths without parts -/
def dDAug (da db : En → Option Rs) (f : PyData → PyData → Option PyData) (dv : En → Option Rs) (E : En) : Option Out := match da E, db E, dv E with
  | some (.pl p), some rk, some rv => match dDGet da db E, rk.key, rv.full E with
    | some (.val (.dat a)), some k, some b => match f a b with
      | some c => stepAt (oDPut k) E p (.dat c)
      | none => none
    | _, _, _ => none
  | _, _, _ => none
theorem s_daug {ti : R2} {f : PyData → PyData → Option PyData} (ha : EvP K n as ta da) (hb : EvP K n as tb db) (ht : Rv2 K ti f) (hc : EvP K n as tc dc) : EvS K n as W (sDAug ta tb tc ti) (dDAug da db f dc) := by
  intro F H σ E fp L R o e D g
  unfold dDAug at e
  split at e
  · next p rk rv ea eb ec =>
    split at e
    · next a k b eg ek ef =>
      split at e
      · next c efc =>
        unfold dDGet at eg
        rw [ea, eb] at eg
        dsimp only at eg
        refine ha L R ea fun x F1 H1 f1 g1 r1 n1 o1 => hb L (R.grow g1) eb fun y F2 H2 f2 g2 r2 n2 o2 => ?_
        have R2 := (R.grow g1).grow g2
        have r1' := r1.grow (R.grow g1) g2
        have g12 : Grow F H [] F2 H2 [] := (g1.seq0 g2).drop
        have ky := r2.key ek
        subst ky
        rw [ek] at eg
        split at eg
        · next l kss k' es ek' =>
          cases ek'
          split at eg
          · next i ei =>
            split at eg
            · next s hs =>
              obtain ⟨fq, ow0⟩ := r1'.own R2 es
              obtain ⟨a', kvs, u, fq', rfl, hH, hk, rd, hkk, ll, _⟩ := ow0.dct_inv rfl
              obtain ⟨w, f, hw, ow⟩ := ll.nth hs
              have kd := r1'.kid R2 es hH (by rw [hk]; exact hw) hs ow eg
              refine ⟨a', w, rfl, .inl ⟨kvs, k, rd, rfl, by rw [valV_kix, hkk, ei]; exact hw.symm⟩, hc L R2 ec fun z F3 H3 f3 g3 r3 n3 o3 => ?_⟩
              have R3 := R2.grow g3
              have kd3 := kd.grow R2 g3
              refine ht (kd3.dp R3 rfl) (r3.dp R3 ef) efc fun hc' => ?_
              unfold stepAt at e
              split at e
              · next t et =>
                split at e
                · next t' c' eo =>
                  cases e
                  have fin := mut1 (nd_dput k) R3 (r1'.grow R2 g3) (Own.dat (scV_dp hc')) (by simpa using R3.nd) (fun _ m => nomatch m) et eo (Q := fun _ H4 => D.nx σ H4) fun v F' H' fv fp' g4 R4 ov4 nd4 of4 => ?_
                  · obtain ⟨a2, H4, e2, hp, hq⟩ := fin
                    cases e2
                    exact ⟨H4, hp, hq⟩
                  · have gg : Grow F H fp F3 H3 fp := (((g12.seq0 g3).drop).ours fp).less fun a m => by simpa using m
                    exact g σ F' H' fp' L ((gg.trans (by simpa using g4)).less fun a m => List.mem_append_right _ m) R4
                · cases e
              · cases e
            · cases eg
          · cases eg
        · cases eg
      · cases e
    · cases e
  · cases e
end Mv
/-! a dict walked by its keys, locked meanwhile -/
namespace Mv
open PySem PySem.Spec PyProof.Rows L2
variable {K : PySem.W.Frag} {F F' F1 F2 F3 H H' H1 H2 H3 : Hp} {v u x y : V} {vs ws : List V} {s t : S} {ss tts : List S} {fp fq fr fp' fp1 fp2 f1 f2 : List Addr} {ρ as : Ro} {E E' : En} {n : Nat}
variable {te ta tb tc : TE} {d da db dc : En → Option Rs} {tr : TA} {dr : En → Option (List Rs)} {de df : En → Option (S × En)} {tt : TT} {dte : En → Option (Bool × En)}

/-! nothing in it is locked -/
mutual
def S.nl : S → Bool
  | .dat _ => true
  | .con _ => true
  | .lst xs => S.nls xs
  | .dct l kvs => !l && S.nlk kvs
  | .ins _ fs => S.nls fs
def S.nls : List S → Bool
  | [] => true
  | s :: r => S.nl s && S.nls r
def S.nlk : List (Key × S) → Bool
  | [] => true
  | p :: r => S.nl p.2 && S.nlk r
end
theorem S.nlk_map : ∀ (l : List (Key × S)), S.nlk l = S.nls (l.map (·.2))
  | [] => rfl
  | p :: r => by simp only [S.nlk, List.map_cons, S.nls, S.nlk_map r]
theorem S.nl_kids {s : S} (h : s.nl = true) : S.nls s.kids = true := by
  cases s with
  | dat d => rfl
  | con v => rfl
  | lst xs => exact h
  | dct l kvs => simp only [S.nl, Bool.and_eq_true] at h; rw [S.nlk_map] at h; exact h.2
  | ins C fs => exact h
theorem S.nls_set : ∀ (l : List S) (i : Nat) (a b : S), a.nl = b.nl → S.nls (l.set i a) = S.nls (l.set i b)
  | [], _, _, _, _ => rfl
  | s :: r, 0, a, b, h => by simp only [List.set_cons_zero, S.nls, h]
  | s :: r, i + 1, a, b, h => by simp only [List.set_cons_succ, S.nls, S.nls_set r i a b h]
theorem S.nl_setKid (s : S) (i : Nat) (a b : S) (h : a.nl = b.nl) : (s.setKid i a).nl = (s.setKid i b).nl := by
  cases s with
  | dat d => rfl
  | con v => rfl
  | lst xs => simp only [S.setKid, S.nl]; exact S.nls_set xs i a b h
  | dct l kvs => simp only [S.setKid, S.nl]; rw [S.nlk_map, S.nlk_map, setSnd_snd, setSnd_snd, S.nls_set _ i a b h]
  | ins C fs => simp only [S.setKid, S.nl]; rw [S.nls_set _ i a b h]
theorem S.nl_put : ∀ (p : List Nat) (s a b : S), a.nl = b.nl → (s.put p a).nl = (s.put p b).nl
  | [], s, a, b, h => by rw [S.put_nil, S.put_nil, h]
  | i :: p, s, a, b, h => by
    rw [S.put_cons, S.put_cons]
    cases s.kids[i]? with
    | none => rfl
    | some u => exact S.nl_setKid s i _ _ (S.nl_put p u a b h)
def Sl.nl : Sl → Bool
  | .own s => s.nl
  | _ => true
def nlE : En → Bool
  | [] => true
  | e :: E => e.nl && nlE E
theorem nlE_get : ∀ {E : En} {i : Nat} {s : S}, nlE E = true → E[i]? = some (Sl.own s) → s.nl = true
  | [], _, _, _, h => by simp at h
  | e :: E, 0, s, h, hi => by
    simp only [List.getElem?_cons_zero, Option.some.injEq] at hi
    subst hi
    simp only [nlE, Bool.and_eq_true] at h
    exact h.1
  | e :: E, i + 1, s, h, hi => by
    simp only [nlE, Bool.and_eq_true] at h
    exact nlE_get h.2 (by simpa using hi)
theorem nlE_set : ∀ (E : En) (i : Nat) (a b : S), a.nl = b.nl → nlE (E.set i (.own a)) = nlE (E.set i (.own b))
  | [], _, _, _, _ => rfl
  | e :: E, 0, a, b, h => by simp only [List.set_cons_zero, nlE, Sl.nl, h]
  | e :: E, i + 1, a, b, h => by simp only [List.set_cons_succ, nlE, nlE_set E i a b h]
theorem nlE_put (p : List Nat) (a b : S) (h : a.nl = b.nl) : nlE (eput E p a) = nlE (eput E p b) := by
  cases p with
  | nil => rfl
  | cons i p =>
    cases e : E[i]? with
    | none => simp only [eput, e]
    | some sl => cases sl with
      | own s => simp only [eput, e]; exact nlE_set E i _ _ (S.nl_put p s a b h)
      | no => simp only [eput, e]
      | bor r => simp only [eput, e]
theorem nlE_roots : ∀ (ρ : Ro) (E : En), nlE E = true → S.nls (rootS ρ E) = true
  | [], _, _ => by simp [rootS, S.nls]
  | _ :: _, [], _ => rfl
  | v :: ρ, e :: E, h => by
    simp only [nlE, Bool.and_eq_true] at h
    simp only [rootS, S.nls, Bool.and_eq_true]
    refine ⟨?_, nlE_roots ρ E h.2⟩
    cases e with
    | no => rfl
    | own s => exact h.1
    | bor p => rfl

/-! the lock taken off again -/
structure Unl (K : PySem.W.Frag) (F2 H2 : Hp) (a : Addr) (o : Obj) (kvs : List (Key × V)) (F3 H3 : Hp) : Prop where
  at2 : F2 a = some (.frz o (.dK kvs))
  f : ∀ b, b ≠ a → F3 b = F2 b
  h : ∀ b, b ≠ a → H3 b = H2 b
variable {a : Addr} {o : Obj} {kvs : List (Key × V)}
theorem Rd.unl (U : Unl K F2 H2 a o kvs F3 H3) {b : Addr} {w : HO} (nd : ∀ l, w ≠ .dK l) (nf : ∀ o' l, w ≠ .frz o' l) (h : Rd F2 b w) : Rd F3 b w := by
  rcases h with h | ⟨o', h⟩
  · refine .inl ?_
    rw [U.f b fun z => by rw [z, U.at2] at h; cases h; exact nf _ _ rfl]
    exact h
  · refine .inr ⟨o', ?_⟩
    rw [U.f b fun z => by rw [z, U.at2] at h; cases h; exact nd _ rfl]
    exact h
theorem SqL.unl (U : Unl K F2 H2 a o kvs F3 H3) {b : Addr} {xs : List V} (h : SqL K F2 b xs) : SqL K F3 b xs := h.imp (Rd.unl U (fun _ z => nomatch z) (fun _ _ z => nomatch z)) id
theorem TupQ.unl (U : Unl K F2 H2 a o kvs F3 H3) {b : Addr} {xs : List V} (h : TupQ K F2 b xs) : TupQ K F3 b xs := h.imp (fun ⟨ob, e, d⟩ => ⟨ob, by rw [U.f b fun z => by rw [z, U.at2] at e; cases e]; exact e, d⟩) id
mutual
theorem Dq.unl (U : Unl K F2 H2 a o kvs F3 H3) : ∀ {v : V} {d : PyData}, Dq K F2 v d → Dq K F3 v d
  | _, _, .non => .non
  | _, _, .bl b => .bl b
  | _, _, .int i => .int i
  | _, _, .str x => .str x
  | _, _, .lst h t => .lst (SqL.unl U h) (DqAll.unl U t)
  | _, _, .tup h t => .tup (TupQ.unl U h) (DqAll.unl U t)
theorem DqAll.unl (U : Unl K F2 H2 a o kvs F3 H3) : ∀ {vs : List V} {ds : List PyData}, DqAll K F2 vs ds → DqAll K F3 vs ds
  | _, _, .nil => .nil
  | _, _, .cons h t => .cons (Dq.unl U h) (DqAll.unl U t)
end
mutual
theorem Own.unl (U : Unl K F2 H2 a o kvs F3 H3) : ∀ {v : V} {s : S} {fp : List Addr}, Own K F2 H2 v s fp → s.nl = true → a ∉ fp → Own K F3 H3 v s fp
  | _, _, _, .dat d, _, _ => .dat (Dq.unl U d)
  | _, _, _, .con, _, _ => .con
  | _, _, _, .node (a := b) h hd t, n, k =>
    .node (by rw [U.h b fun z => k (by rw [z]; exact List.mem_cons_self)]; exact h)
      (hd.keep fun b m u e => by rw [U.h b fun z => k (by rw [← z]; exact List.mem_cons_of_mem _ (List.mem_append_left _ m))]; exact e)
      (OwnL.unl U t (S.nl_kids n) fun m => k (List.mem_cons_of_mem _ (List.mem_append_right _ m)))
  | _, _, _, .lck _ _ _ _, n, _ => by simp [S.nl] at n
theorem OwnL.unl (U : Unl K F2 H2 a o kvs F3 H3) : ∀ {vs : List V} {ss : List S} {fp : List Addr}, OwnL K F2 H2 vs ss fp → S.nls ss = true → a ∉ fp → OwnL K F3 H3 vs ss fp
  | _, _, _, .nil, _, _ => .nil
  | _, _, _, .cons h t, n, k => by
    simp only [S.nls, Bool.and_eq_true] at n
    exact .cons (Own.unl U h n.1 fun m => k (List.mem_append_left _ m)) (OwnL.unl U t n.2 fun m => k (List.mem_append_right _ m))
end
theorem follow_same (h : ∀ b, (H3 b).map kidsV = (H2 b).map kidsV) : ∀ (p : List Nat) (v : V), follow H3 v p = follow H2 v p
  | [], v => by rw [follow_nil, follow_nil]
  | i :: p, v => by
    cases v with
    | ref b =>
      have := h b
      simp only [follow]
      cases e3 : H3 b with
      | none => cases e2 : H2 b with
        | none => rfl
        | some o2 => rw [e3, e2] at this; cases this
      | some o3 => cases e2 : H2 b with
        | none => rw [e3, e2] at this; cases this
        | some o2 =>
          rw [e3, e2] at this
          have := Option.some.inj this
          dsimp only
          rw [show kidsV o3 = kidsV o2 from this]
          cases (kidsV o2)[i]? with
          | none => rfl
          | some w => exact follow_same h p w
    | _ => rfl
theorem followE_same (h : ∀ b, (H3 b).map kidsV = (H2 b).map kidsV) (p : List Nat) : followE H3 ρ p = followE H2 ρ p := by
  cases p with
  | nil => rfl
  | cons i p =>
    simp only [followE]
    cases ρ[i]? with
    | none => rfl
    | some w => cases w with
      | none => rfl
      | some w => exact follow_same h p w
theorem ekill_bor {p : List Nat} (hg : eget E p = some t) {i : Nat} {q : List Nat} {t' : S} (hb : (ekill (eput E p t') p)[i]? = some (Sl.bor q)) : E[i]? = some (Sl.bor q) ∧ within p q = false := by
  unfold ekill at hb
  rw [List.getElem?_map] at hb
  cases e : (eput E p t')[i]? with
  | none => rw [e] at hb; cases hb
  | some sl =>
    rw [e] at hb
    cases sl with
    | no => cases hb
    | own w => cases hb
    | bor w =>
      simp only [Option.map_some, kill1, Option.some.injEq] at hb
      have hw : within p w = false ∧ w = q := by
        cases hh : within p w with
        | true => rw [hh] at hb; simp at hb
        | false => rw [hh] at hb; simp at hb; exact ⟨rfl, hb⟩
      obtain ⟨hw1, rfl⟩ := hw
      refine ⟨?_, hw1⟩
      obtain ⟨j, r', s', rfl, ej, _⟩ := eget_some hg
      simp only [eput, ej] at e
      by_cases ij : j = i
      · subst ij
        have hj := (List.getElem?_eq_some_iff.mp ej).1
        rw [List.getElem?_set_self hj] at e
        cases e
      · rw [List.getElem?_set_ne ij] at e
        exact e
theorem eget_after {p q : List Nat} (hg : eget E p = some t) (hw : within p q = false) (e3 : (eget E q).isSome = true) {t' : S} : (eget (ekill (eput E p t') p) q).isSome = true := by
  obtain ⟨w, ew⟩ := Option.isSome_iff_exists.mp e3
  rw [ekill_get]
  rcases apart_or p q hw with e | e | e
  · subst e; rw [eget_eput hg]; rfl
  · rw [eget_apart e]; exact e3
  · have q0 : q ≠ [] := fun z => by rw [z] at ew; cases ew
    exact eget_above q0 e hg
/-- a place's dict, locked -/
theorem Rep.lock {p : List Nat} {kss : List (Key × S)} (R : Rep K F H ρ E fp) (hg : eget E p = some (.dct false kss)) :
    ∃ a kvs, followE H ρ p = some (.ref a) ∧ H a = some (.dK kvs) ∧ F a = none ∧ a ∈ fp ∧ ∀ o, ∃ fp1, Rep K (upd F a (.frz o (.dK kvs))) (upd H a (.frz o (.dK kvs))) ρ (ekill (eput E p (.dct true kss)) p) fp1 ∧ Grow F H fp (upd F a (.frz o (.dK kvs))) (upd H a (.frz o (.dK kvs))) fp1 := by
  obtain ⟨u, fp1, fp2, h1, h2, pm, close⟩ := R.focus2 hg
  obtain ⟨a, kvs, _, fq, rfl, _, _, _, hkk, l, z⟩ := h2.dct_inv rfl
  obtain ⟨hH, rfl⟩ := z rfl
  have am : a ∈ fp := pm.mem_iff.mpr (List.mem_append_left _ List.mem_cons_self)
  have fa : F a = none := R.off a am
  have ndq := (List.nodup_append.mp (pm.nodup_iff.mp R.nd)).1
  have nq : a ∉ fq := (List.nodup_cons.mp ndq).1
  refine ⟨a, kvs, h1, hH, fa, am, fun o => ?_⟩
  have sub1 : ∀ b w, upd F a (.frz o (.dK kvs)) b = some w → upd H a (.frz o (.dK kvs)) b = some w := fun b w e => by
    by_cases ba : b = a
    · subst ba; rw [upd_same] at e ⊢; exact e
    · rw [upd_ne ba] at e ⊢; exact R.sub b w e
  have ff : ∀ b w, F b = some w → upd F a (.frz o (.dK kvs)) b = some w := fun b w e => by
    rw [upd_ne (ne_of_none e fa)]; exact e
  have g : Grow F H (a :: fq) (upd F a (.frz o (.dK kvs))) (upd H a (.frz o (.dK kvs))) fq := by
    refine ⟨ff, sub1, fun b w e m => ?_, fun b m => .inl (List.mem_cons_of_mem _ m), fun b h0 m e => ?_⟩
    · rw [upd_ne fun z => m (by rw [z]; exact List.mem_cons_self)]; exact e
    · rw [upd_ne fun z => m (by rw [z]; exact List.mem_cons_self)]; exact e
  have l2 : OwnL K (upd F a (.frz o (.dK kvs))) (upd H a (.frz o (.dK kvs))) (kvs.map (·.2)) (kss.map (·.2)) fq := l.frame ff sub1 fun b m w e => by
    rw [upd_ne fun z => nq (by rw [← z]; exact m)]; exact e
  obtain ⟨R1, _, g1⟩ := close _ _ (.dct true kss) fq [] [] (by simpa using g) (fun _ m => nomatch m) (.lck upd_same upd_same hkk l2) (by simpa using (List.nodup_cons.mp ndq).2) fun b m => by
    rw [upd_ne fun z => nq (by rw [← z]; exact m)]
    exact R.off b (pm.mem_iff.mpr (List.mem_append_left _ (List.mem_cons_of_mem _ m)))
  exact ⟨_, R1, by simpa using g1⟩
/-- .. and unlocked -/
theorem Rep.unlock {p : List Nat} {kss : List (Key × S)} (R : Rep K F2 H2 ρ E fp) (hg : eget E p = some (.dct true kss)) (hf : followE H2 ρ p = some (.ref a)) (ha : F2 a = some (.frz o (.dK kvs))) (n : nlE (eput E p (.dct false kss)) = true) (nk : (S.dct false kss).nl = true) :
    ∃ fp2, Rep K (fun b => if b = a then none else F2 b) (upd H2 a (.dK kvs)) ρ (ekill (eput E p (.dct false kss)) p) fp2 ∧ (∀ b ∈ fp2, b = a ∨ b ∈ fp) := by
  obtain ⟨u, fp1, fp2, h1, h2, c, pm⟩ := R.core.take hg
  rw [hf] at h1
  cases h1
  have U : Unl K F2 H2 a o kvs (fun b => if b = a then none else F2 b) (upd H2 a (.dK kvs)) := ⟨ha, fun b h => if_neg h, fun b h => upd_ne h⟩
  have na : a ∉ fp := fun m => by rw [R.off a m] at ha; cases ha
  have in1 : ∀ b ∈ fp1, b ∈ fp := fun a m => pm.mem_iff.mpr (List.mem_append_left _ m)
  have in2 : ∀ b ∈ fp2, b ∈ fp := fun a m => pm.mem_iff.mpr (List.mem_append_right _ m)
  have hH := R.sub a _ ha
  have nd : (fp1 ++ fp2).Nodup := pm.nodup_iff.mp R.nd
  obtain ⟨a', kvs', u', fq', ea, hH', hku, rd, hkk, ll, _⟩ := h2.dct_inv rfl
  cases ea
  have ek : kvs' = kvs := by
    rcases rd with q | ⟨o', q⟩
    · rw [hH] at q; cases q
    · rw [hH] at q; cases q; rfl
  subst ek
  -- the children again, from the node itself
  have kid : OwnL K F2 H2 (kvs'.map (·.2)) (kss.map (·.2)) fp1 := by
    cases h2 with
    | @node _ ob _ ex fq h hd l => cases ob with
      | frz o u => cases u <;> exact hd.elim
      | dK k => exact hd.elim
      | _ => exact hd.elim
    | @lck _ ob kvs2 kss2 _ hf2 hh hk2 l =>
      rw [hH] at hh
      cases hh
      exact l
  have kid3 := kid.unl U (by have := S.nl_kids nk; exact this) fun m => na (in1 a m)
  have own3 : Own K (fun b => if b = a then none else F2 b) (upd H2 a (.dK kvs')) (.ref a) (.dct false kss) (a :: fp1) := by
    have := Own.node (K := K) (F := fun b => if b = a then none else F2 b) (H := upd H2 a (.dK kvs')) (s := .dct false kss) (ex := []) upd_same (show Head _ _ a (.dK kvs') (.dct false kss) [] from ⟨rfl, hkk⟩) kid3
    simpa using this
  have c3 : Core K (fun b => if b = a then none else F2 b) (upd H2 a (.dK kvs')) ρ (eput E p (.con (.ref a))) fp2 := by
    obtain ⟨fx, lx, px⟩ := c.own
    refine ⟨c.len, ⟨fx, lx.unl U (nlE_roots _ _ ?_) fun m => na (in2 a (px.mem_iff.mpr m)), px⟩, c.set⟩
    rw [nlE_put p (.con (.ref a)) (.dct false kss) (by rw [nk]; rfl)]
    exact n
  have c4 := c3.put (eget_eput hg) own3
  rw [eput_eput] at c4
  have kv : ∀ b, (upd H2 a (.dK kvs') b).map kidsV = (H2 b).map kidsV := fun b => by
    by_cases ba : b = a
    · subst ba; rw [upd_same, hH]; rfl
    · rw [upd_ne ba]
  refine ⟨(a :: fp1) ++ fp2, ⟨c4.kill p, fun b w e => ?_, ?_, fun b m => ?_, fun i q hb => ?_⟩, fun b m => ?_⟩
  · by_cases ba : b = a
    · rw [if_pos ba] at e; cases e
    · rw [if_neg ba] at e; rw [upd_ne ba]; exact R.sub b w e
  · rw [List.cons_append]
    exact List.nodup_cons.mpr ⟨fun m => na (pm.mem_iff.mpr m), nd⟩
  · by_cases ba : b = a
    · rw [if_pos ba]
    · rw [if_neg ba]
      rw [List.cons_append] at m
      rcases List.mem_cons.mp m with z | m
      · exact absurd z ba
      · exact R.off b (pm.mem_iff.mpr m)
  · obtain ⟨hb1, hw⟩ := ekill_bor hg hb
    obtain ⟨v, e1, e2, e3⟩ := R.bor i q hb1
    exact ⟨v, e1, by rw [followE_same kv]; exact e2, eget_after hg hw e3⟩
  · rw [List.cons_append] at m
    rcases List.mem_cons.mp m with z | m
    · exact .inl z
    · exact .inr (pm.mem_iff.mpr m)
end Mv
/-! a dict walked by its keys, locked meanwhile: the rules -/
namespace Mv
open PySem PySem.Spec PyProof.Rows L2
variable {K : PySem.W.Frag} {F F' F1 F2 F3 H H' H1 H2 H3 : Hp} {v u x y : V} {vs ws : List V} {s t : S} {ss tts : List S} {fp fq fr fp' fp1 fp2 f1 f2 : List Addr} {ρ as : Ro} {E E' : En} {n : Nat}
variable {W : WXm} {te ta tb tc : TE} {d da db dc : En → Option Rs} {tr : TA} {dr : En → Option (List Rs)} {de df : En → Option (S × En)} {tt : TT} {dte : En → Option (Bool × En)}
variable {a : Addr} {o : Obj} {kvs : List (Key × V)}

def keyD : Key → PyData
  | .inl i => .int i
  | .inr x => .str x
theorem keyD_dp (k : Key) : Dq K F (kV k) (keyD k) := by
  cases k with
  | inl i => exact .int i
  | inr x => exact .str x
def iKeysS (d : En → Option Rs) (E : En) : Option Src := match d E with
  | some (.pl p) => match eget E p with
    | some (.dct true kss) => some ⟨E, [], fun _ i => some (((kss.map (·.1))[i]?).map fun k => .val (.dat (keyD k))), kss.length⟩
    | _ => none
  | _ => none
theorem i_keys (h : EvP K n as te d) : EvI K n as (iKeys te) (iKeysS d) := by
  intro F H σ E fp L R c e Rr q
  unfold iKeysS at e
  split at e
  · next p ed =>
    split at e
    · next kss es =>
      cases e
      refine h L R ed fun v F1 H1 f1 g1 a1 n1 o1 => ?_
      have R1 := R.grow g1
      obtain ⟨fq, ow⟩ := a1.own R1 (show (Rs.pl p).at E = some (.dct true kss) from es)
      obtain ⟨a, o, kvs, rfl, hf, hk⟩ : ∃ a o kvs, v = .ref a ∧ F1 a = some (.frz o (.dK kvs)) ∧ kvs.map (·.1) = kss.map (·.1) := by
        cases ow with
        | @node _ ob _ ex fq h hd l => cases ob with
          | frz o u => cases u <;> exact hd.elim
          | dK k => exact hd.elim
          | _ => exact hd.elim
        | lck hf hh hk2 l => exact ⟨_, _, _, rfl, hf, hk2⟩
      have len : kvs.length = kss.length := by have := congrArg List.length hk; simpa using this
      refine ⟨a, o, rfl, .inl ⟨kvs, g1.sub a _ hf, q _ F1 H1 [] fp g1.mine (by simpa using R1) rfl fun F2 H2 σ2 E2 fp2 L2 g2 R2 i => ?_⟩⟩
      have hH2 := R2.sub a _ (g2.f a _ hf)
      refine ⟨fun r hr => ?_, fun hr => ?_⟩
      · have hr := Option.some.inj hr
        obtain ⟨k, hk1, rfl⟩ := Option.map_eq_some_iff.mp hr
        rw [← hk] at hk1
        have hi := (List.getElem?_eq_some_iff.mp hk1).1
        rw [List.length_map] at hi
        refine ⟨⟨hH2, hi⟩, fun x H' hy => ⟨hy.1, ?_⟩⟩
        obtain ⟨k', w, h1, rfl⟩ := hy.2
        rw [List.getElem?_map, h1] at hk1
        cases hk1
        exact .dat (keyD_dp k')
      · have hr := Option.some.inj hr
        refine ⟨hH2, ?_⟩
        cases e : (kss.map (·.1))[i]? with
        | none =>
          have := List.getElem?_eq_none_iff.mp e
          rw [List.length_map] at this
          omega
        | some k => rw [e] at hr; cases hr
    · cases e
  · cases e
def unlE (p : List Nat) (E2 : En) : Option En := match E2.getLast? with
  | some (.bor p') => if p' = p then match eget E2 p with
    | some (.dct true kss) => if (S.dct false kss).nl = true then if nlE (eput E2 p (.dct false kss)) = true then if stripOk (ekill (eput E2 p (.dct false kss)) p) = true then some (ekill (eput E2 p (.dct false kss)) p).dropLast else none else none else none
    | _ => none
    else none
  | _ => none
def unlO (p : List Nat) : Option Out → Option Out
  | some (.nx E) => (unlE p E).map .nx
  | some (.rt s E) => if s.nl = true then (unlE p E).map (.rt s) else none
  | _ => none
def dLock (da : En → Option Rs) (db : En → Option Out) (E : En) : Option Out := match da E with
  | some (.pl p) => match eget E p with
    | some (.dct false kss) => unlO p (db (ekill (eput E p (.dct true kss)) p ++ [.bor p]))
    | _ => none
  | _ => none
theorem Grow.unlock (g : Grow F H fp F2 H2 fp2) (fa : F a = none) (am : a ∈ fp) (h : ∀ b ∈ fq, b = a ∨ b ∈ fp2) : Grow F H fp (fun b => if b = a then none else F2 b) (upd H2 a (.dK kvs)) fq := by
  have ne : ∀ b w, F b = some w → b ≠ a := fun b w e z => by rw [z, fa] at e; cases e
  refine ⟨fun b w e => by rw [if_neg (ne b w e)]; exact g.f b w e, fun b w e => ?_, fun b w e m => ?_, fun b m => ?_, fun b h0 m e => ?_⟩
  · by_cases ba : b = a
    · rw [if_pos ba] at e; cases e
    · rw [if_neg ba] at e; rw [upd_ne ba]; exact g.sub b w e
  · rw [upd_ne fun z => m (by rw [z]; exact am)]; exact g.keep b w e m
  · rcases h b m with rfl | m
    · exact .inl am
    · exact g.new b m
  · by_cases ba : b = a
    · rw [if_pos ba]
    · rw [if_neg ba]; exact g.off b h0 m e
theorem unl_core {σ : L2.St} {p : List Nat} {E2 E3 : En} (R : Rep K F2 H2 (σ ++ (as ++ [some (V.ref a)])) E2 fp2) (ha : F2 a = some (.frz o (.dK kvs))) (e : unlE p E2 = some E3) :
    ∃ fp3, Rep K (fun b => if b = a then none else F2 b) (upd H2 a (.dK kvs)) (σ ++ as) E3 fp3 ∧ (∀ b ∈ fp3, b = a ∨ b ∈ fp2) := by
  unfold unlE at e
  split at e
  · next p' hl =>
    split at e
    · next pe =>
      subst pe
      split at e
      · next kss es =>
        split at e
        · next nk =>
          split at e
          · next nE =>
            split at e
            · next so =>
              cases e
              rw [List.getLast?_eq_getElem?] at hl
              obtain ⟨w, e1, e2, e3⟩ := R.bor _ _ hl
              have len := R.core.len
              have : (σ ++ (as ++ [some (V.ref a)]))[E2.length - 1]? = some (some (.ref a)) := by
                rw [← List.append_assoc, List.getElem?_append_right (by rw [len]; simp), len]
                simp
              rw [this] at e1
              cases e1
              obtain ⟨fp3, R3, h3⟩ := R.unlock es e2 ha nE nk
              exact ⟨fp3, R3.strip so, h3⟩
            · cases e
          · cases e
        · cases e
      · cases e
    · cases e
  · cases e
theorem s_lock {tb : TS} {db : En → Option Out} (hb : ∀ as, EvS K n as W tb db) : EvS K n as W (tLock tb) (dLock da db) := by
  intro F H σ E fp L R o e D g
  unfold dLock at e
  split at e
  · next p ed =>
    split at e
    · next kss es =>
      obtain ⟨a, kvs, h1, hH, fa, am, lk⟩ := R.lock es
      refine ⟨a, .dK kvs, hH, True.intro, fun od => ?_⟩
      obtain ⟨fp1, R1, g1⟩ := lk od
      have h1' : followE (upd H a (.frz od (.dK kvs))) (σ ++ as) p = some (.ref a) := by
        rw [followE_same (fun b => ?_)]
        · exact h1
        · by_cases ba : b = a
          · subst ba; rw [upd_same, hH]; rfl
          · rw [upd_ne ba]
      have eg : (eget (ekill (eput E p (.dct true kss)) p) p).isSome = true := by rw [ekill_get, eget_eput es]; rfl
      have Rh := R1.hold h1' eg
      generalize ho : db (ekill (eput E p (.dct true kss)) p ++ [.bor p]) = o1 at e
      have fin : ∀ {F2 H2 : Hp} {fp2 : List Addr}, Grow (upd F a (.frz od (.dK kvs))) (upd H a (.frz od (.dK kvs))) fp1 F2 H2 fp2 → F2 a = some (.frz od (.dK kvs)) := fun g2 => g2.f a _ upd_same
      cases o1 with
      | none => cases e
      | some o1 => cases o1 with
        | nx E2 =>
          obtain ⟨E3, h3, rfl⟩ := Option.map_eq_some_iff.mp e
          refine hb _ L Rh ho fun σ' F2 H2 fp2 L2 g2 R2 => ?_
          have ha := fin g2
          obtain ⟨fp3, R3, hp⟩ := unl_core R2 ha h3
          exact ⟨R2.sub a _ ha, g σ' _ _ fp3 L2 ((g1.trans g2).unlock fa am hp) R3⟩
        | rt s E2 =>
          unfold unlO at e
          dsimp only at e
          split at e
          · next ns =>
            obtain ⟨E3, h3, rfl⟩ := Option.map_eq_some_iff.mp e
            refine hb _ L Rh ho fun v σ' F2 H2 fr fp2 L2 g2 R2 ov nd of => ?_
            have ha := fin g2
            obtain ⟨fp3, R3, hp⟩ := unl_core R2 ha h3
            have nr : a ∉ fr := fun m => by rw [of a m] at ha; cases ha
            have U : Unl K F2 H2 a od kvs (fun b => if b = a then none else F2 b) (upd H2 a (.dK kvs)) := ⟨ha, fun b h => if_neg h, fun b h => upd_ne h⟩
            have g3 : Grow F H fp (fun b => if b = a then none else F2 b) (upd H2 a (.dK kvs)) (fr ++ fp3) := (g1.trans g2).unlock fa am fun b m => by
              rcases List.mem_append.mp m with m | m
              · exact .inr (List.mem_append_left _ m)
              · exact (hp b m).imp id fun m => List.mem_append_right _ m
            refine ⟨R2.sub a _ ha, g v σ' _ _ fr fp3 L2 g3 R3 (ov.unl U ns nr) ?_ fun b m => ?_⟩
            · refine List.nodup_append.mpr ⟨(List.nodup_append.mp nd).1, R3.nd, fun b m c m2 z => ?_⟩
              subst z
              rcases hp b m2 with rfl | m2
              · exact nr m
              · exact (List.nodup_append.mp nd).2.2 b m b m2 rfl
            · by_cases ba : b = a
              · rw [if_pos ba]
              · rw [if_neg ba]; exact of b m
          · cases e
        | bk E2 => cases e
        | ct E2 => cases e
        | ex x E2 => cases e
    · cases e
  · cases e
end Mv
/-! sealing: what is owned becomes data; what is walked may come of a call; tuples walked -/
namespace Mv
open PySem PySem.Spec PyProof.Rows L2
variable {K : PySem.W.Frag} {F F' F1 F2 F3 H H' H1 H2 H3 : Hp} {v u x y : V} {vs ws : List V} {s t : S} {ss tts : List S} {fp fq fr fp' fp1 fp2 f1 f2 : List Addr} {ρ as : Ro} {E E' : En} {n : Nat}
variable {te ta tb tc : TE} {d da db dc : En → Option Rs} {tr : TA} {dr : En → Option (List Rs)} {de df : En → Option (S × En)} {tt : TT} {dte : En → Option (Bool × En)}

mutual
theorem Own.dpIn (kF : ∀ b o, F b = some o → F' b = some o) : ∀ (s : S) {v : V} {fp : List Addr} {d : PyData}, Own K F H v s fp → (∀ a ∈ fp, ∀ o, H a = some o → F' a = some o) → s.toD = some d → Dq K F' v d
  | .dat d, v, fp, d', o, k, e => by
    simp only [S.toD, Option.some.injEq] at e
    subst e
    exact Dq.mono kF (o.dat_inv rfl).1
  | .lst xs, v, fp, d', o, k, e => by
    simp only [S.toD, Option.map_eq_some_iff] at e
    obtain ⟨ds, e, rfl⟩ := e
    obtain ⟨a, vs, fq, rfl, h, l, rfl⟩ := o.lst_inv rfl
    exact .lst (.inl (.inl (k a List.mem_cons_self _ h))) (Own.dpsIn kF xs l (fun b m => k b (List.mem_cons_of_mem _ m)) e)
  | .con _, _, _, _, _, _, e => by simp [S.toD] at e
  | .dct _ _, _, _, _, _, _, e => by simp [S.toD] at e
  | .ins _ _, _, _, _, _, _, e => by simp [S.toD] at e
theorem Own.dpsIn (kF : ∀ b o, F b = some o → F' b = some o) : ∀ (ss : List S) {vs : List V} {fp : List Addr} {ds : List PyData}, OwnL K F H vs ss fp → (∀ a ∈ fp, ∀ o, H a = some o → F' a = some o) → S.toDs ss = some ds → DqAll K F' vs ds
  | [], vs, fp, ds, o, k, e => by
    simp only [S.toDs, Option.some.injEq] at e
    subst e
    cases o
    exact .nil
  | s :: ss, vs, fp, ds, o, k, e => by
    cases o with
    | cons a l =>
      simp only [S.toDs] at e
      split at e
      · next d ds' e1 e2 =>
        cases e
        exact .cons (Own.dpIn kF s a (fun b m => k b (List.mem_append_left _ m)) e1) (Own.dpsIn kF ss l (fun b m => k b (List.mem_append_right _ m)) e2)
      · cases e
end
theorem Rep.seal {d : PyData} (R : Rep K F H ρ E fp) (ov : Own K F H v s fr) (nd : (fr ++ fp).Nodup) (of : ∀ a ∈ fr, F a = none) (e : s.toD = some d) :
    ∃ F', Rep K F' H ρ E fp ∧ Dq K F' v d ∧ Grow F H (fr ++ fp) F' H fp := by
  have ff : ∀ b o, F b = some o → (fun a => if a ∈ fr then H a else F a) b = some o := fun b o e => by
    dsimp only
    rw [if_neg fun m => by rw [of b m] at e; cases e]; exact e
  have sub : ∀ b o, (fun a => if a ∈ fr then H a else F a) b = some o → H b = some o := fun b o e => by
    dsimp only at e
    split at e
    · exact e
    · exact R.sub b o e
  refine ⟨fun a => if a ∈ fr then H a else F a, ⟨R.core.frame ff sub fun _ _ _ h => h, sub, R.nd, fun a m => ?_, R.bor⟩, Own.dpIn ff s ov (fun a m o h => ?_) e, ⟨ff, sub, fun _ _ h _ => h, fun a m => .inl (List.mem_append_right _ m), fun a h0 m e => ?_⟩⟩
  · have : a ∉ fr := fun m2 => (List.nodup_append.mp nd).2.2 a m2 a m rfl
    rw [if_neg this]; exact R.off a m
  · rw [if_pos m]; exact h
  · rw [if_neg fun m2 => m (List.mem_append_left _ m2)]; exact e
def eSeal (de : En → Option (S × En)) (E : En) : Option (S × En) := match de E with
  | some (s, E1) => match s.toD with
    | some d => some (.dat d, E1)
    | none => none
  | none => none
theorem e_seal (h : EvE K n as te de) : EvE K n as te (eSeal de) := by
  intro F H σ E fp L R s0 E0 e Q q
  unfold eSeal at e
  split at e
  · next s E1 ee =>
    split at e
    · next d ed =>
      cases e
      refine h L R ee fun v F1 H1 fr fp1 g1 R1 ov nd of => ?_
      obtain ⟨F2, R2, dp, g2⟩ := R1.seal ov nd of ed
      exact q v F2 H1 [] fp1 (by simpa using g1.trans g2) R2 (.dat dp) (by simpa using R2.nd) (fun _ m => nomatch m)
    · cases e
  · cases e
/-- a value held by a root of its own -/
theorem Rep.push {σ : L2.St} (R : Rep K F H (σ ++ as) E fp) (ov : Own K F H v s fr) (nd : (fr ++ fp).Nodup) (of : ∀ a ∈ fr, F a = none) : Rep K F H (σ ++ (as ++ [some v])) (E ++ [.own s]) (fr ++ fp) := by
  obtain ⟨f, l, pm⟩ := R.core.own
  have len := R.core.len
  have eg : ∀ q, (eget E q).isSome = true → eget (E ++ [Sl.own s]) q = eget E q := by
    intro q hq
    obtain ⟨t, ht⟩ := Option.isSome_iff_exists.mp hq
    obtain ⟨i, r, s, rfl, ei, _⟩ := eget_some ht
    have hi := (List.getElem?_eq_some_iff.mp ei).1
    simp only [eget, List.getElem?_append_left hi]
  have fo : ∀ q, (∃ w, followE H (σ ++ as) q = some w) → followE H (σ ++ (as ++ [some v])) q = followE H (σ ++ as) q := by
    intro q ⟨w, hw⟩
    cases q with
    | nil => rfl
    | cons i q =>
      unfold followE at hw ⊢
      dsimp only at hw ⊢
      cases e : (σ ++ as)[i]? with
      | none => rw [e] at hw; cases hw
      | some z =>
        have hi := (List.getElem?_eq_some_iff.mp e).1
        rw [← List.append_assoc, List.getElem?_append_left hi, e]
  refine ⟨⟨by rw [← List.append_assoc, List.length_append, List.length_append, len]; rfl, ⟨f ++ fr, ?_, ?_⟩, fun i w h => ?_⟩, R.sub, nd, fun a m => (List.mem_append.mp m).elim (of a) (R.off a), fun i q h => ?_⟩
  · rw [← List.append_assoc, rootS_app len, rootV_app]
    have := l.append (OwnL.cons (K := K) (F := F) (H := H) ov .nil)
    simpa [rootV, rootS, slS] using this
  · exact (List.Perm.append_left fr pm).trans List.perm_append_comm
  · by_cases hi : i < E.length
    · rw [List.getElem?_append_left hi] at h
      obtain ⟨z, hw⟩ := R.core.set i w h
      exact ⟨z, by rw [← List.append_assoc, List.getElem?_append_left (by rw [← len]; exact hi)]; exact hw⟩
    · rw [List.getElem?_append_right (by omega)] at h
      cases hk : i - E.length with
      | zero => exact ⟨v, by rw [← List.append_assoc, List.getElem?_append_right (by rw [← len]; omega), ← len, hk]; rfl⟩
      | succ k => rw [hk] at h; cases h
  · by_cases hi : i < E.length
    · rw [List.getElem?_append_left hi] at h
      obtain ⟨w, e1, e2, e3⟩ := R.bor i q h
      exact ⟨w, by rw [← List.append_assoc, List.getElem?_append_left (by rw [← len]; exact hi)]; exact e1, by rw [fo q ⟨w, e2⟩]; exact e2, by rw [eg q e3]; exact e3⟩
    · rw [List.getElem?_append_right (by omega)] at h
      cases hk : i - E.length with
      | zero => rw [hk] at h; cases h
      | succ k => rw [hk] at h; cases h
/-- a list at a held place, walked -/
def rdP (E2 : En) (i : Nat) : Option (Option Rs) := match E2.getLast? with
  | some (.bor p) => match eget E2 p with
    | some (.lst ss) => match ss[i]? with
      | some s => ((Rs.pl p).kid i s).map some
      | none => some none
    | _ => none
  | _ => none
theorem rdP_ok {σ : L2.St} {a : Addr} {ex : List V} (hx : ex.getLast? = some (.ref a)) (R : Rep K F H (σ ++ (as ++ ex.map some)) E fp) (i : Nat) :
    (∀ r, rdP E i = some (some r) → (Itl K a).go i H ∧ ∀ x H', (Itl K a).yld i H x H' → H' = H ∧ RsAt K F H (σ ++ (as ++ ex.map some)) E x r []) ∧ (rdP E i = some none → (Itl K a).stop i H) := by
  have len := R.core.len
  have ex1 : ex ≠ [] := fun z => by rw [z] at hx; cases hx
  have lastv : (σ ++ (as ++ ex.map some))[E.length - 1]? = some (some (.ref a)) := by
    have hm : (ex.map some).getLast? = some (some (V.ref a)) := by rw [List.getLast?_map, hx]; rfl
    have : (σ ++ (as ++ ex.map some)).getLast? = some (some (V.ref a)) := by
      rw [List.getLast?_append, List.getLast?_append, hm]; rfl
    rw [List.getLast?_eq_getElem?, ← len] at this
    exact this
  have key : ∀ p2 ss2, E.getLast? = some (Sl.bor p2) → eget E p2 = some (.lst ss2) → ∃ xs2 f2, H a = some (.lst xs2) ∧ OwnL K F H xs2 ss2 f2 ∧ RsAt K F H (σ ++ (as ++ ex.map some)) E (.ref a) (.pl p2) [] := by
    intro p2 ss2 hl hg
    rw [List.getLast?_eq_getElem?] at hl
    obtain ⟨w, e1, e2, e3⟩ := R.bor _ p2 hl
    rw [lastv] at e1
    cases e1
    have at2 : RsAt K F H (σ ++ (as ++ ex.map some)) E (.ref a) (.pl p2) [] := ⟨rfl, e2, e3⟩
    obtain ⟨f2, ow2⟩ := at2.own R (show (Rs.pl p2).at E = some (.lst ss2) from hg)
    obtain ⟨a', xs2, f3, ea, hH2, l2, _⟩ := ow2.lst_inv rfl
    cases ea
    exact ⟨xs2, f3, hH2, l2, at2⟩
  unfold rdP
  refine ⟨fun r hr => ?_, fun hr => ?_⟩
  · split at hr
    · next p2 hl =>
      split at hr
      · next ss2 hg =>
        obtain ⟨xs2, f2, hH2, l2, at2⟩ := key p2 ss2 hl hg
        split at hr
        · next s hs =>
          obtain ⟨r', hr', er⟩ := Option.map_eq_some_iff.mp hr
          cases er
          obtain ⟨w, f, hw, ow⟩ := l2.nth hs
          have hq2 : SqL K H a xs2 := .inl (.inl hH2)
          exact ⟨⟨xs2, w, hq2, hw⟩, fun x H' hy => ⟨hy.1, by rw [Option.some.inj ((hy.2 xs2 hq2).symm.trans hw)]; exact at2.kid R hg hH2 hw hs ow hr'⟩⟩
        · cases hr
      · cases hr
    · cases hr
  · split at hr
    · next p2 hl =>
      split at hr
      · next ss2 hg =>
        obtain ⟨xs2, f2, hH2, l2, at2⟩ := key p2 ss2 hl hg
        split at hr
        · next s hs =>
          cases hk : (Rs.pl p2).kid i s with
          | none => rw [hk] at hr; cases hr
          | some r' => rw [hk] at hr; cases hr
        · next hs => exact ⟨xs2, .inl (.inl hH2), by rw [l2.length]; exact List.getElem?_eq_none_iff.mp hs⟩
      · cases hr
    · cases hr
/-- a list that a call tells, walked: held by a root of its own -/
def iLstE (de : En → Option (S × En)) (E : En) : Option Src := match de E with
  | some (.lst ss, E1) => some ⟨E1, [.own (.lst ss), .bor [E1.length]], rdP, ss.length⟩
  | some (.dat (.list ds), E1) => some ⟨E1, [], rdD ds, ds.length⟩
  | _ => none
theorem i_lstE (h : EvE K n as te de) : EvI K n as (iList K te) (iLstE de) := by
  intro F H σ E fp L R c e Rr q
  unfold iLstE at e
  split at e
  · next ss E1 ee =>
    cases e
    refine h L R ee fun v F1 H1 fr fp1 g1 R1 ov nd of => ?_
    obtain ⟨a, xs, fq, rfl, hH, l, hf⟩ := ov.lst_inv rfl
    have R2 := R1.push ov nd of
    have len := R1.core.len
    have fo : followE H1 (σ ++ (as ++ [some (V.ref a)])) [E1.length] = some (.ref a) := by
      simp only [followE]
      rw [← List.append_assoc, List.getElem?_append_right (by rw [len]; exact Nat.le_refl _), len]
      simp [follow_nil]
    have eg : eget (E1 ++ [Sl.own (.lst ss)]) [E1.length] = some (.lst ss) := by
      simp [eget, S.get_nil]
    have R3 := Rep.hold (as := as ++ [some (V.ref a)]) (p := [E1.length]) R2 fo (by rw [eg]; rfl)
    refine ⟨a, rfl, ⟨xs, .inl (.inl hH)⟩, q _ F1 H1 [.ref a, .ref a] (fr ++ fp1) g1 (by simpa using R3) rfl fun F2 H2 σ2 E2 fp2 L2 g2 R2 i => rdP_ok rfl R2 i⟩
  · next ds E1 ee =>
    cases e
    refine h L R ee fun v F1 H1 fr fp1 g1 R1 ov nd of => ?_
    obtain ⟨a, xs, rfl, hq, da⟩ := Mv.Dq.list_inv (ov.dat_inv rfl).1
    refine ⟨a, rfl, ⟨xs, SqL.mono R1.sub hq⟩, q _ F1 H1 [] fp1 (g1.less fun a m => List.mem_append_right _ m) (by simpa using R1) rfl fun F2 H2 σ2 E2 fp2 L2 g2 R2 i => ?_⟩
    have hq2 : SqL K H2 a xs := SqL.mono g2.sub (SqL.mono g2.f hq)
    have da2 := Mv.DqAll.mono g2.f da
    refine ⟨fun r hr => ?_, fun hr => ⟨xs, hq2, by rw [Mv.DqAll.len da]; exact rdD_stop (E := E2) hr⟩⟩
    obtain ⟨w, hw, ar⟩ := rdD_go (K := K) (H := H2) (E := E2) (ρ := σ2 ++ (as ++ ([] : List V).map some)) da2 hr
    exact ⟨⟨xs, w, hq2, hw⟩, fun x H' hy => ⟨hy.1, by rw [Option.some.inj ((hy.2 xs hq2).symm.trans hw)]; exact ar⟩⟩
  · cases e
/-- a tuple walked -/
def iTupS (d : En → Option Rs) (E : En) : Option Src := match d E with
  | some (.val (.dat (.tuple ds))) => some ⟨E, [], rdD ds, ds.length⟩
  | _ => none
theorem i_tup (h : EvP K n as te d) : EvI K n as (iTup K te) (iTupS d) := by
  intro F H σ E fp L R c e Rr q
  unfold iTupS at e
  split at e
  · next ds ed =>
    cases e
    refine h L R ed fun v F1 H1 f1 g1 a1 n1 o1 => ?_
    obtain ⟨a, xs, rfl, hq, da⟩ := Mv.Dq.tuple_inv (Own.dat_inv (show Own K F1 H1 v _ f1 from a1) rfl).1
    refine ⟨a, rfl, ⟨xs, SqT.mono g1.sub hq⟩, q _ F1 H1 [] fp g1.mine (by simpa using R.grow g1) rfl fun F2 H2 σ2 E2 fp2 L2 g2 R2 i => ?_⟩
    have hq2 : SqT K H2 a xs := SqT.mono g2.sub (SqT.mono g2.f hq)
    have da2 := Mv.DqAll.mono g2.f da
    refine ⟨fun r hr => ?_, fun hr => ⟨xs, hq2, by rw [Mv.DqAll.len da]; exact rdD_stop (E := E2) hr⟩⟩
    obtain ⟨w, hw, ar⟩ := rdD_go (K := K) (H := H2) (E := E2) (ρ := σ2 ++ (as ++ ([] : List V).map some)) da2 hr
    exact ⟨⟨xs, w, hq2, hw⟩, fun x H' hy => ⟨hy.1, by rw [Option.some.inj ((hy.2 xs hq2).symm.trans hw)]; exact ar⟩⟩
  · cases e
end Mv
/-! expressions that make something new -/
namespace Mv
open PySem PySem.Spec PyProof.Rows L2
variable {K : PySem.W.Frag} {F F' F1 F2 F3 H H' H1 H2 H3 : Hp} {v u x y : V} {vs ws xs : List V} {s t c : S} {ss tts : List S} {fp fq fr fp' fp1 fp2 f1 f2 : List Addr} {ρ as : Ro} {E E' : En} {n : Nat}
variable {te ta tb tc tk tv td : TE} {d da db dc dk dv : En → Option Rs} {tr : TA} {dr : En → Option (List Rs)} {de df : En → Option (S × En)} {tt : TT} {dte : En → Option (Bool × En)} {ds : List PyData} {Q : VK}

/-- what follows on something new -/
def Mk (K : PySem.W.Frag) (F H : Hp) (c : S) (Q : VK) : Prop := ∀ v F' H' fr, Grow F H [] F' H' fr → Own K F' H' v c fr → fr.Nodup → (∀ a ∈ fr, F' a = none) → Q v H'
theorem Mk.grow (m : Mk K F H c Q) (g : Grow F H [] F1 H1 []) : Mk K F1 H1 c Q := fun v F' H' fr g2 o nd of => m v F' H' fr (by simpa using g.seq0 g2) o nd of
theorem fresh_none (sub : ∀ a o, F a = some o → H a = some o) {p : Addr} (hp : H p = none) : F p = none := by
  cases e : F p with
  | none => rfl
  | some o => rw [sub p o e] at hp; cases hp
theorem mk_lst (sub : ∀ a o, F a = some o → H a = some o) (l : OwnL K F H xs ss []) (m : Mk K F H (.lst ss) Q) : ∀ p, H p = none → Q (.ref p) (upd H p (.lst xs)) := fun p hp => by
  have g : Grow F H [] F (upd H p (.lst xs)) [p] := Grow.alloc sub hp
  refine m _ F _ [p] g (lst_write (l.frame (fun _ _ h => h) g.sub fun _ z => nomatch z)) (by simp) fun a z => ?_
  rw [List.mem_singleton.mp z]; exact fresh_none sub hp
theorem mk_dct {kvs : List (Key × V)} {kss : List (Key × S)} (sub : ∀ a o, F a = some o → H a = some o) (hk : kvs.map (·.1) = kss.map (·.1)) (l : OwnL K F H (kvs.map (·.2)) (kss.map (·.2)) []) (m : Mk K F H (.dct false kss) Q) : ∀ p, H p = none → Q (.ref p) (upd H p (.dK kvs)) := fun p hp => by
  have g : Grow F H [] F (upd H p (.dK kvs)) [p] := Grow.alloc sub hp
  refine m _ F _ [p] g (dct_write hk (l.frame (fun _ _ h => h) g.sub fun _ z => nomatch z)) (by simp) fun a z => ?_
  rw [List.mem_singleton.mp z]; exact fresh_none sub hp
theorem mk_tup (sub : ∀ a o, F a = some o → H a = some o) (l : DqAll K F xs ds) (m : Mk K F H (.dat (.tuple ds)) Q) : ∀ (p : Addr) (ob : Obj), H p = none → ob.dict = none → Q (.ref p) (upd H p (.frz ob (.tup xs))) := fun p ob hp hd => by
  have g : Grow F H [] (upd F p (.frz ob (.tup xs))) (upd H p (.frz ob (.tup xs))) [] := Grow.share sub hp
  exact m _ _ _ [] g (.dat (.tup (.inl ⟨ob, upd_same, hd⟩) (DqAll.mono g.f l))) List.nodup_nil (fun _ z => nomatch z)
theorem mk_dat (sub : ∀ a o, F a = some o → H a = some o) {d : PyData} (l : Dq K F v d) (m : Mk K F H (.dat d) Q) : Q v H := m v F H [] (.refl sub []) (.dat l) List.nodup_nil (fun _ z => nomatch z)
/-- data as values -/
theorem dats_own : ∀ {xs : List V} {ds : List PyData}, DqAll K F xs ds → OwnL K F H xs (ds.map S.dat) []
  | _, _, .nil => .nil
  | _, _, .cons a t => OwnL.cons (fp := []) (.dat a) (dats_own t)
theorem datsS_map : ∀ {ss : List S} {ds : List PyData}, datsS ss = some ds → ss = ds.map S.dat
  | [], _, e => by cases e; rfl
  | .dat d :: ss, _, e => by
    simp only [datsS] at e
    obtain ⟨r, hr, rfl⟩ := Option.map_eq_some_iff.mp e
    rw [datsS_map hr]; rfl
  | .con _ :: _, _, e => by simp [datsS] at e
  | .lst _ :: _, _, e => by simp [datsS] at e
  | .dct _ _ :: _, _, e => by simp [datsS] at e
  | .ins _ _ :: _, _, e => by simp [datsS] at e
theorem datsS_dats (ds : List PyData) : datsS (ds.map S.dat) = some ds := by
  induction ds with
  | nil => rfl
  | cons d ds ih => simp [datsS, ih]
/-! a row of data: list or tuple -/
def S.seqL : S → Option (List PyData)
  | .dat (.list ds) => some ds
  | .lst ss => datsS ss
  | _ => none
def S.seqT : S → Option (List PyData)
  | .dat (.tuple ds) => some ds
  | _ => none
theorem Own.sqL (sub : ∀ a o, F a = some o → H a = some o) (o : Own K F H v s fp) (e : s.seqL = some ds) : ∃ a xs, v = .ref a ∧ SqL K H a xs ∧ DqAll K F xs ds := by
  cases s with
  | dat d => cases d with
    | list ds' =>
      cases e
      obtain ⟨a, xs, rfl, hq, da⟩ := Mv.Dq.list_inv (o.dat_inv rfl).1
      exact ⟨a, xs, rfl, SqL.mono sub hq, da⟩
    | _ => cases e
  | lst ss =>
    obtain ⟨a, xs, fq, rfl, hH, l, hf⟩ := o.lst_inv rfl
    obtain ⟨da, _⟩ := datsS_dp l e
    exact ⟨a, xs, rfl, .inl (.inl hH), da⟩
  | _ => cases e
theorem Own.sqT (sub : ∀ a o, F a = some o → H a = some o) (o : Own K F H v s fp) (e : s.seqT = some ds) : ∃ a xs, v = .ref a ∧ SqT K H a xs ∧ DqAll K F xs ds := by
  cases s with
  | dat d => cases d with
    | tuple ds' =>
      cases e
      obtain ⟨a, xs, rfl, hq, da⟩ := Mv.Dq.tuple_inv (o.dat_inv rfl).1
      exact ⟨a, xs, rfl, SqT.mono sub hq, da⟩
    | _ => cases e
  | _ => cases e

theorem Own.sq (sub : ∀ a o, F a = some o → H a = some o) (o : Own K F H v s fp) (e : (s.seqL <|> s.seqT) = some ds) : ∃ a xs, v = .ref a ∧ (SqL K H a xs ∨ SqT K H a xs) ∧ DqAll K F xs ds := by
  cases h : s.seqL with
  | some ds' =>
    rw [h] at e
    cases e
    obtain ⟨p, xs, rfl, hq, da⟩ := o.sqL sub h
    exact ⟨p, xs, rfl, .inl hq, da⟩
  | none =>
    rw [h] at e
    obtain ⟨p, xs, rfl, hq, da⟩ := o.sqT sub (show s.seqT = some ds from e)
    exact ⟨p, xs, rfl, .inr hq, da⟩
/-! two values -/
def RvS2 (K : PySem.W.Frag) (r : R2) (f : S → S → Option S) : Prop :=
  ∀ {F H : Hp} {x y : V} {a b c : S} {f1 f2 : List Addr}, (∀ a o, F a = some o → H a = some o) → Own K F H x a f1 → Own K F H y b f2 → f a b = some c → ∀ {Q : VK}, Mk K F H c Q → r x y H Q
def dOpS (f : S → S → Option S) (da db : En → Option Rs) (E : En) : Option Rs := match da E, db E with
  | some a, some b => match a.at E, b.at E with
    | some s, some t => (f s t).map .val
    | _, _ => none
  | _, _ => none
theorem p_opS {r : R2} {f : S → S → Option S} (hr : RvS2 K r f) (ha : EvP K n as ta da) (hb : EvP K n as tb db) : EvP K n as (tOp r ta tb) (dOpS f da db) := by
  intro F H σ E fp L R r' e Q q
  unfold dOpS at e
  split at e
  · next a b ea eb =>
    split at e
    · next s t es et =>
      obtain ⟨c, ec, rfl⟩ := Option.map_eq_some_iff.mp e
      refine ha L R ea fun x F1 H1 f1 g1 r1 n1 o1 => hb L (R.grow g1) eb fun y F2 H2 f2 g2 r2 n2 o2 => ?_
      have R2 := (R.grow g1).grow g2
      obtain ⟨k1, w1⟩ := (r1.grow (R.grow g1) g2).own R2 es
      obtain ⟨k2, w2⟩ := r2.own R2 et
      exact hr R2.sub w1 w2 ec fun v F' H' fr g o nd of => q v F' H' fr (by simpa using (g1.seq0 g2).drop.seq0 g) o nd of
    · cases e
  · cases e
def fCat : S → S → Option S
  | .lst a, .lst b => match datsS a, datsS b with
    | some _, some _ => if a.length + b.length < 100000 then some (.lst (a ++ b)) else none
    | _, _ => none
  | _, _ => none
theorem rv_cat : RvS2 K rCat fCat := by
  intro F H x y a b c f1 f2 sub o1 o2 e Q m
  unfold fCat at e
  split at e
  · next a b =>
    split at e
    · next d1 d2 e1 e2 =>
      split at e
      · next hl =>
        cases e
        obtain ⟨l, xs, _, rfl, hH, l1, _⟩ := o1.lst_inv rfl
        obtain ⟨l', zs, _, rfl, hB, l2, _⟩ := o2.lst_inv rfl
        obtain ⟨da1, rfl⟩ := datsS_dp l1 e1
        obtain ⟨da2, rfl⟩ := datsS_dp l2 e2
        exact ⟨l, l', xs, zs, rfl, rfl, hH, hB, by rw [l1.length, l2.length, sizeLine_eq]; omega, mk_lst sub (by simpa using l1.append l2) m⟩
      · cases e
    · cases e
  · cases e
def fCatT : S → S → Option S
  | .dat (.tuple a), .dat (.tuple b) => if a.length + b.length < 100000 then some (.dat (.tuple (a ++ b))) else none
  | _, _ => none
theorem DqAll.append : ∀ {vs ws : List V} {ds es : List PyData}, DqAll K F vs ds → DqAll K F ws es → DqAll K F (vs ++ ws) (ds ++ es)
  | _, _, _, _, .nil, h => h
  | _, _, _, _, .cons a t, h => .cons a (Mv.DqAll.append t h)
theorem rv_catT : RvS2 K (rCatF K) fCatT := by
  intro F H x y a b c f1 f2 sub o1 o2 e Q m
  unfold fCatT at e
  split at e
  · next a b =>
    split at e
    · next hl =>
      cases e
      have d1 := (o1.dat_inv rfl).1
      have d2 := (o2.dat_inv rfl).1
      obtain ⟨p, xs, rfl, h1, l1⟩ := Mv.Dq.tuple_inv d1
      obtain ⟨p', ys, rfl, h2, l2⟩ := Mv.Dq.tuple_inv d2
      refine ⟨p, p', xs, ys, rfl, rfl, SqT.mono sub h1, SqT.mono sub h2, by rw [Mv.DqAll.len l1, Mv.DqAll.len l2, sizeLine_eq]; omega, fun z => ?_, fun _ z => ?_, fun _ _ => mk_tup sub (Mv.DqAll.append l1 l2) m⟩
      · subst z
        cases l1
        exact mk_dat sub d2 m
      · subst z
        cases l2
        rw [List.append_nil] at m
        exact mk_dat sub d1 m
    · cases e
  · cases e
/-! in, not in: ints in a row of ints -/
def fIn (neg : Bool) : S → S → Option S
  | .dat (.int i), s => match (s.seqL <|> s.seqT) with
    | some ds => match intsD ds with
      | some ns => some (.dat (.bool (decide (i ∈ ns) != neg)))
      | none => none
    | none => none
  | _, _ => none
theorem inV_ints (i : Int) (ns : List Int) : inV (.int i) (ns.map V.int) = decide (i ∈ ns) := by
  unfold inV
  induction ns with
  | nil => simp
  | cons a r ih =>
    rw [List.map_cons, List.any_cons, ih]
    have : eqV (.int a) (.int i) = decide (i = a) := by
      show decide (a = i) = decide (i = a)
      exact decide_eq_decide.mpr ⟨Eq.symm, Eq.symm⟩
    rw [this]
    simp
theorem rv_in (neg : Bool) : RvS2 K (rIn K neg) (fIn neg) := by
  intro F H x y a b c f1 f2 sub o1 o2 e Q m
  unfold fIn at e
  split at e
  · next s i =>
    split at e
    · next ds eds =>
      split at e
      · next ns en =>
        cases e
        cases (o1.dat_inv rfl).1
        have fin := o2.sq sub eds
        obtain ⟨p, xs, rfl, hq, da⟩ := fin
        obtain rfl := intsD_dp da en
        refine ⟨p, _, rfl, hq, rfl, by rw [List.all_map]; exact List.all_eq_true.mpr fun _ _ => rfl, ?_⟩
        have : (if neg = true then !inV (V.int i) (ns.map V.int) else inV (V.int i) (ns.map V.int)) = (decide (i ∈ ns) != neg) := by
          rw [inV_ints]
          cases neg <;> simp
        rw [this]
        exact mk_dat sub (.bl _) m
      · cases e
    · cases e
  · cases e
/-! parts of a row -/
def cutD {α : Type} (xs : List α) (lo hi : Option Int) : List α := (xs.drop (HT.sIx xs.length 0 lo)).take (HT.sIx xs.length xs.length hi - HT.sIx xs.length 0 lo)
theorem DqAll.drop : ∀ (k : Nat) {vs : List V} {ds : List PyData}, DqAll K F vs ds → DqAll K F (vs.drop k) (ds.drop k)
  | 0, _, _, h => by simpa using h
  | k + 1, _, _, .nil => by simpa using DqAll.nil
  | k + 1, _, _, .cons _ t => by simpa using Mv.DqAll.drop k t
theorem DqAll.take : ∀ (k : Nat) {vs : List V} {ds : List PyData}, DqAll K F vs ds → DqAll K F (vs.take k) (ds.take k)
  | 0, _, _, h => by simpa using DqAll.nil
  | k + 1, _, _, .nil => by simpa using DqAll.nil
  | k + 1, _, _, .cons a t => by simpa using DqAll.cons a (Mv.DqAll.take k t)
theorem DqAll.cut (l : DqAll K F xs ds) (lo hi : Option Int) : DqAll K F (cutV xs lo hi) (cutD ds lo hi) := by
  unfold cutV cutD
  rw [Mv.DqAll.len l]
  exact Mv.DqAll.take _ (Mv.DqAll.drop _ l)
def EvO (K : PySem.W.Frag) (n : Nat) (as : Ro) (t : TO) (d : En → Option (Option Int)) : Prop :=
  ∀ {F H : Hp} {σ : L2.St} {E : En} {fp : List Addr}, σ.length = n → Rep K F H (σ ++ as) E fp → ∀ {o : Option Int}, d E = some o → ∀ {Q : Option Int → Hp → Prop},
    (∀ F' H', Grow F H [] F' H' [] → Q o H') → t σ H Q
def dNoPart (_ : En) : Option (Option Int) := some none
def dPart (d : En → Option Rs) (E : En) : Option (Option Int) := match d E with
  | some (.val (.dat (.int i))) => some (some i)
  | _ => none
theorem p_noPart : EvO K n as tNoPart dNoPart := by
  intro F H σ E fp L R o e Q q
  cases e
  exact q F H (.refl R.sub [])
theorem p_part (h : EvP K n as te d) : EvO K n as (tPart te) (dPart d) := by
  intro F H σ E fp L R o e Q q
  unfold dPart at e
  split at e
  · next i ei =>
    cases e
    refine h L R ei fun v F1 H1 f1 g1 a1 n1 o1 => ?_
    cases (Own.dat_inv (show Own K F1 H1 v _ f1 from a1) rfl).1
    exact ⟨i, rfl, q F1 H1 g1.drop⟩
  · cases e
def RvSl (K : PySem.W.Frag) (r : V → Option Int → Option Int → Hp → VK → Prop) (f : S → Option Int → Option Int → Option S) : Prop :=
  ∀ {F H : Hp} {x : V} {a c : S} {lo hi : Option Int} {f1 : List Addr}, (∀ a o, F a = some o → H a = some o) → Own K F H x a f1 → f a lo hi = some c → ∀ {Q : VK}, Mk K F H c Q → r x lo hi H Q
def dSl (f : S → Option Int → Option Int → Option S) (d : En → Option Rs) (dl dh : En → Option (Option Int)) (E : En) : Option Rs := match d E, dl E, dh E with
  | some r, some l, some h => match r.at E with
    | some s => (f s l h).map .val
    | none => none
  | _, _, _ => none
theorem p_slice {r : V → Option Int → Option Int → Hp → VK → Prop} {f : S → Option Int → Option Int → Option S} {tl th : TO} {dl dh : En → Option (Option Int)} (hr : RvSl K r f) (h : EvP K n as te d) (hl : EvO K n as tl dl) (hh : EvO K n as th dh) : EvP K n as (tSl r te tl th) (dSl f d dl dh) := by
  intro F H σ E fp L R r' e Q q
  unfold dSl at e
  split at e
  · next r0 l h0 er el eh =>
    split at e
    · next s es =>
      obtain ⟨c, ec, rfl⟩ := Option.map_eq_some_iff.mp e
      refine h L R er fun x F1 H1 f1 g1 r1 n1 o1 => hl L (R.grow g1) el fun F2 H2 g2 => hh L ((R.grow g1).grow g2) eh fun F3 H3 g3 => ?_
      have R3 := ((R.grow g1).grow g2).grow g3
      obtain ⟨k1, w1⟩ := ((r1.grow (R.grow g1) g2).grow ((R.grow g1).grow g2) g3).own R3 es
      exact hr R3.sub w1 ec fun v F' H' fr g o nd of => q v F' H' fr (by simpa using ((g1.seq0 g2).drop.seq0 g3).drop.seq0 g) o nd of
    · cases e
  · cases e
def fSlL (s : S) (lo hi : Option Int) : Option S := (s.seqL).map fun ds => .lst ((cutD ds lo hi).map S.dat)
theorem rv_slL : RvSl K (rSlL K) fSlL := by
  intro F H x a c lo hi f1 sub o e Q m
  obtain ⟨ds, hd, rfl⟩ := Option.map_eq_some_iff.mp e
  obtain ⟨p, xs, rfl, hq, da⟩ := o.sqL sub hd
  exact ⟨p, xs, rfl, hq, mk_lst sub (dats_own (Mv.DqAll.cut da lo hi)) m⟩
def fSlT (s : S) (lo hi : Option Int) : Option S := (s.seqT).map fun ds => .dat (.tuple (cutD ds lo hi))
theorem cutD_all {α : Type} {xs : List α} {lo hi : Option Int} (h : HT.sIx xs.length 0 lo = 0 ∧ HT.sIx xs.length xs.length hi = xs.length) : cutD xs lo hi = xs := by
  unfold cutD
  rw [h.1, h.2]
  simp
theorem rv_slT : RvSl K (rSlF K) fSlT := by
  intro F H x a c lo hi f1 sub o e Q m
  obtain ⟨ds, hd, rfl⟩ := Option.map_eq_some_iff.mp e
  have dp : Dq K F x (.tuple ds) := by
    cases a with
    | dat d => cases d with
      | tuple ds' => cases hd; exact (o.dat_inv rfl).1
      | _ => cases hd
    | _ => cases hd
  obtain ⟨p, xs, rfl, hq, da⟩ := Mv.Dq.tuple_inv dp
  refine ⟨p, xs, rfl, SqT.mono sub hq, fun z => ?_, fun _ => mk_tup sub (Mv.DqAll.cut da lo hi) m⟩
  rw [cutD_all (by rw [← Mv.DqAll.len da]; exact z)] at m
  exact mk_dat sub dp m
/-! calls -/
inductive OwnE (K : PySem.W.Frag) (F H : Hp) : List V → List S → Prop
  | nil : OwnE K F H [] []
  | cons {v : V} {vs : List V} {s : S} {ss : List S} {f : List Addr} : Own K F H v s f → OwnE K F H vs ss → OwnE K F H (v :: vs) (s :: ss)
def atAll (E : En) : List Rs → Option (List S)
  | [] => some []
  | r :: rs => match r.at E, atAll E rs with
    | some s, some ss => some (s :: ss)
    | _, _ => none
theorem RsAll.owns {rs : List Rs} (R : Rep K F H ρ E fp) (a : RsAll K F H ρ E vs rs fr) (h : atAll E rs = some ss) : OwnE K F H vs ss := by
  induction a generalizing ss with
  | nil => cases h; exact .nil
  | @cons v vs r rs f g a t ih =>
    simp only [atAll] at h
    split at h
    · next d ds' e1 e2 =>
      cases h
      obtain ⟨f, o⟩ := a.own R e1
      exact .cons o (ih e2)
    · cases h
def RvSC (K : PySem.W.Frag) (r : List V → Hp → VK → Prop) (f : List S → Option S) : Prop :=
  ∀ {F H : Hp} {vs : List V} {ss : List S} {c : S}, (∀ a o, F a = some o → H a = some o) → OwnE K F H vs ss → f ss = some c → ∀ {Q : VK}, Mk K F H c Q → r vs H Q
def dCS (f : List S → Option S) (dr : En → Option (List Rs)) (E : En) : Option Rs := match dr E with
  | some rs => match atAll E rs with
    | some ss => (f ss).map .val
    | none => none
  | none => none
theorem p_cs {r : List V → Hp → VK → Prop} {f : List S → Option S} (hr : RvSC K r f) (h : EvA K n as tr dr) : EvP K n as (tCB r tr) (dCS f dr) := by
  intro F H σ E fp L R r1 e Q q
  unfold dCS at e
  split at e
  · next rs er =>
    split at e
    · next ss es =>
      obtain ⟨c, ec, rfl⟩ := Option.map_eq_some_iff.mp e
      refine h L R er fun vs F1 H1 f1 g1 a1 n1 o1 => hr (R.grow g1).sub (a1.owns (R.grow g1) es) ec fun v F' H' fr g o nd of => q v F' H' fr (by simpa using g1.drop.seq0 g) o nd of
    · cases e
  · cases e
def eCS (f : List S → Option S) (d : En → Option (S × En)) (E : En) : Option (S × En) := match d E with
  | some (s, E') => (f [s]).map (·, E')
  | none => none
/-- of what a call tells: f must not keep its parts (they are data) -/
theorem e_cs1 {r : List V → Hp → VK → Prop} {f : List S → Option S} (hr : RvSC K r f) (h : EvE K n as te de) : EvE K n as (tCB r (tCons te tNil)) (eCS f de) := by
  intro F H σ E fp L R s E' e Q q
  unfold eCS at e
  split at e
  · next s1 E1 ed =>
    obtain ⟨c, ec, e2⟩ := Option.map_eq_some_iff.mp e
    cases e2
    refine h L R ed fun v F1 H1 fr fp1 g1 R1 o1 nd1 of1 => hr R1.sub (.cons o1 .nil) ec fun w F' H' f2 g o nd of => ?_
    have R2 := R1.grow g
    exact q w F' H' f2 fp1 ((g1.less fun a m => List.mem_append_right _ m).trans (g.ours fp1)) R2 o (R1.apart_new g nd) of
  · cases e
def fList : List S → Option S
  | [s] => match (s.seqL <|> s.seqT) with
    | some ds => some (.lst (ds.map S.dat))
    | none => none
  | _ => none
theorem OwnE.one (o : OwnE K F H vs [s]) : ∃ v f, vs = [v] ∧ Own K F H v s f := by
  cases o with
  | cons a t => cases t; exact ⟨_, _, rfl, a⟩
theorem OwnE.two (o : OwnE K F H vs [s, t]) : ∃ v w f g, vs = [v, w] ∧ Own K F H v s f ∧ Own K F H w t g := by
  cases o with
  | cons a r => cases r with
    | cons b z => cases z; exact ⟨_, _, _, _, rfl, a, b⟩
theorem rc_list : RvSC K (fun xs H Q => ∃ p ys, xs = [.ref p] ∧ (SqL K H p ys ∨ SqT K H p ys) ∧ ∀ l, H l = none → Q (.ref l) (upd H l (.lst ys))) fList := by
  intro F H vs ss c sub o e Q m
  unfold fList at e
  split at e
  · next s =>
    split at e
    · next ds hd =>
      cases e
      obtain ⟨v, f, rfl, o'⟩ := o.one
      clear o
      have o := o'
      obtain ⟨p, xs, rfl, hq, da⟩ := o.sq sub hd
      exact ⟨p, xs, rfl, hq, mk_lst sub (dats_own da) m⟩
    · cases e
  · cases e
def fTuple : List S → Option S
  | [s] => match (s.seqL <|> s.seqT) with
    | some ds => some (.dat (.tuple ds))
    | none => none
  | _ => none
theorem rc_tuple : RvSC K (rTupQ K) fTuple := by
  intro F H vs ss c sub o e Q m
  unfold fTuple at e
  split at e
  · next s =>
    split at e
    · next ds hd =>
      cases e
      obtain ⟨v, f, rfl, o'⟩ := o.one
      clear o
      have o := o'
      cases h : s.seqL with
      | some ds' =>
        rw [h] at hd
        cases hd
        obtain ⟨p, xs, rfl, hq, da⟩ := o.sqL sub h
        exact ⟨p, xs, rfl, .inl ⟨hq, mk_tup sub da m⟩⟩
      | none =>
        rw [h] at hd
        have h2 : s.seqT = some ds := hd
        have dp : Dq K F v (.tuple ds) := by
          cases s with
          | dat d => cases d with
            | tuple ds' => cases h2; exact (o.dat_inv rfl).1
            | _ => cases h2
          | _ => cases h2
        obtain ⟨p, xs, rfl, hq, da⟩ := Mv.Dq.tuple_inv dp
        exact ⟨p, xs, rfl, .inr ⟨SqT.mono sub hq, mk_dat sub dp m⟩⟩
    · cases e
  · cases e
def fDivmod : List S → Option S
  | [.dat (.int i), .dat (.int j)] => if 0 < j ∧ j < 1073741824 then some (.dat (.tuple [.int (i / j), .int (i % j)])) else none
  | _ => none
theorem rc_divmod : RvSC K (fun xs H Q => ∃ i j, xs = [.int i, .int j] ∧ CDiv i j ∧ ∀ (p : Addr) (ob : Obj), H p = none → ob.dict = none → Q (.ref p) (upd H p (.frz ob (.tup [.int (i / j), .int (i % j)])))) fDivmod := by
  intro F H vs ss c sub o e Q m
  unfold fDivmod at e
  split at e
  · next i j =>
    split at e
    · next hj =>
      cases e
      obtain ⟨v, w, f, g, rfl, o1, o2⟩ := o.two
      cases (o1.dat_inv rfl).1
      cases (o2.dat_inv rfl).1
      exact ⟨i, j, rfl, hj, mk_tup sub (.cons (.int _) (.cons (.int _) .nil)) m⟩
    · cases e
  · cases e
def sortU (ns : List Int) : List Int := ns.mergeSort fun a b => decide (a ≤ b)
theorem sortU_uniq {ns ns' : List Int} (p : ns'.Perm ns) (h : ns'.Pairwise (· ≤ ·)) : ns' = sortU ns := by
  refine List.Perm.eq_of_pairwise (le := (· ≤ ·)) (fun a b _ _ h1 h2 => Int.le_antisymm h1 h2) h ?_ (p.trans (List.mergeSort_perm ns _).symm)
  have := List.pairwise_mergeSort (le := fun a b : Int => decide (a ≤ b)) (fun a b c h1 h2 => by simp only [decide_eq_true_eq] at *; omega) (fun a b => by simp only [Bool.or_eq_true, decide_eq_true_eq]; omega) ns
  exact this.imp fun h => of_decide_eq_true h
def fSorted : List S → Option S
  | [s] => match s.seqL with
    | some ds => (intsD ds).map fun ns => .lst ((sortU ns).map fun i => .dat (.int i))
    | none => none
  | _ => none
theorem ints_own (ns : List Int) : OwnL K F H (ns.map V.int) (ns.map fun i => S.dat (.int i)) [] := by
  induction ns with
  | nil => exact .nil
  | cons a r ih => exact .cons (fp := []) (.dat (.int a)) ih
theorem rc_sorted : RvSC K (rSortedI K) fSorted := by
  intro F H vs ss c sub o e Q m
  unfold fSorted at e
  split at e
  · next s =>
    split at e
    · next ds hd =>
      obtain ⟨ns, hn, rfl⟩ := Option.map_eq_some_iff.mp e
      obtain ⟨v, f, rfl, o'⟩ := o.one
      clear o
      have o := o'
      obtain ⟨p, xs, rfl, hq, da⟩ := o.sqL sub hd
      obtain rfl := intsD_dp da hn
      refine ⟨p, ns, rfl, hq, fun ns' q hp hw hn => ?_⟩
      rw [sortU_uniq hp hw]
      exact mk_lst sub (ints_own _) m q hn
    · cases e
  · cases e
/-! rows made of parts -/
def tupD (E : En) : List Rs → Option (List PyData)
  | [] => some []
  | .val (.dat d) :: rs => (tupD E rs).map (d :: ·)
  | _ => none
def dTup (dr : En → Option (List Rs)) (E : En) : Option Rs := match dr E with
  | some rs => (tupD E rs).map fun ds => .val (.dat (.tuple ds))
  | none => none
theorem RsAll.tupD {rs : List Rs} (a : RsAll K F H ρ E vs rs fr) (h : tupD E rs = some ds) : DqAll K F vs ds := by
  induction a generalizing ds with
  | nil => cases h; exact .nil
  | @cons v vs r rs f g a t ih => cases r with
    | pl p => cases h
    | val s => cases s with
      | dat d =>
        obtain ⟨ds', h1, rfl⟩ := Option.map_eq_some_iff.mp h
        exact .cons (Own.dat_inv (show Own K F H v (.dat d) f from a) rfl).1 (ih h1)
      | _ => cases h
theorem RsAll.len {rs : List Rs} (a : RsAll K F H ρ E vs rs fr) : vs.length = rs.length := by
  induction a with
  | nil => rfl
  | cons _ _ ih => simp only [List.length_cons, ih]
def dTupL (dr : En → Option (List Rs)) (E : En) : Option Rs := match dr E with
  | some rs => if rs.length < 1000 then dTup dr E else none
  | none => none
theorem p_tup (h : EvA K n as tr dr) : EvP K n as (tTupF tr) (dTupL dr) := by
  intro F H σ E fp L R r1 e Q q
  unfold dTupL at e
  split at e
  · next rs er =>
    split at e
    · next hl =>
      unfold dTup at e
      rw [er] at e
      obtain ⟨ds, hd, rfl⟩ := Option.map_eq_some_iff.mp e
      refine h L R er fun vs F1 H1 f1 g1 a1 n1 o1 => ⟨by rw [a1.len, sizeLine_eq]; omega, ?_⟩
      exact mk_tup (R.grow g1).sub (a1.tupD hd) fun v F' H' fr g o nd of => q v F' H' fr (by simpa using g1.drop.seq0 g) o nd of
    · cases e
  · cases e
def lstS : List Rs → Option (List S)
  | [] => some []
  | .val s :: rs => (lstS rs).map (s :: ·)
  | _ => none
def dLst (dr : En → Option (List Rs)) (E : En) : Option Rs := match dr E with
  | some rs => if rs.length < 1000 then (lstS rs).map fun ss => .val (.lst ss) else none
  | none => none
theorem RsAll.lstS {rs : List Rs} (a : RsAll K F H ρ E vs rs fr) (h : lstS rs = some ss) : OwnL K F H vs ss fr := by
  induction a generalizing ss with
  | nil => cases h; exact .nil
  | @cons v vs r rs f g a t ih => cases r with
    | pl p => cases h
    | val s =>
      obtain ⟨ss', h1, rfl⟩ := Option.map_eq_some_iff.mp h
      exact .cons a (ih h1)
theorem p_lst (h : EvA K n as tr dr) : EvP K n as (tLst tr) (dLst dr) := by
  intro F H σ E fp L R r1 e Q q
  unfold dLst at e
  split at e
  · next rs er =>
    split at e
    · next hl =>
      obtain ⟨ss, hs, rfl⟩ := Option.map_eq_some_iff.mp e
      refine h L R er fun vs F1 H1 f1 g1 a1 n1 o1 => ⟨by rw [a1.len, sizeLine_eq]; omega, fun p hp => ?_⟩
      have R1 := R.grow g1
      have g : Grow F1 H1 [] F1 (upd H1 p (.lst vs)) [p] := Grow.alloc R1.sub hp
      have o := a1.lstS hs
      have np : p ∉ f1 := fun m => by obtain ⟨w, hw⟩ := o.there p m; rw [hp] at hw; cases hw
      refine q _ F1 _ (p :: f1) ?_ (lst_write (o.frame (fun _ _ h => h) g.sub fun a m u e => g.keep a u e (fun z => nomatch z))) (List.nodup_cons.mpr ⟨np, n1⟩) fun a m => ?_
      · have := g1.seq0 g
        exact this.less fun a m => by
          rcases List.mem_cons.mp m with rfl | m
          · exact List.mem_append_right _ List.mem_cons_self
          · exact List.mem_append_left _ m
      · rcases List.mem_cons.mp m with rfl | m
        · exact fresh_none R1.sub hp
        · exact o1 a m
    · cases e
  · cases e
end Mv
/-! arguments with effects: each is held by a root of its own till the call -/
namespace Mv
open PySem PySem.Spec PyProof.Rows L2
variable {K : PySem.W.Frag} {F F' F1 F2 F3 H H' H1 H2 H3 : Hp} {v u x y w : V} {vs ws xs : List V} {s t c : S} {ss tts : List S} {fp fq fr fp' fp1 fp2 f1 f2 : List Addr} {ρ as : Ro} {E E' : En} {n : Nat}
variable {W : WXm} {te ta tb tc tk tv td : TE} {d da db dc dk dv : En → Option Rs} {tr : TA} {dr : En → Option (List Rs)} {de df : En → Option (S × En)} {tt : TT} {dte : En → Option (Bool × En)} {ds : List PyData} {Q : VK}

/-! ### reading a root -/
theorem rs_root {i : Nat} {r : Rs} (R : Rep K F H ρ E fp) (hv : ρ[i]? = some (some v)) (e : dVar i E = some r) : RsAt K F H ρ E v r [] := by
  unfold dVar at e
  cases he : E[i]? with
  | none => rw [he] at e; cases e
  | some sl =>
    rw [he] at e
    cases sl with
    | no => cases e
    | bor p =>
      cases e
      obtain ⟨v', h1, h2, h3⟩ := R.bor i p he
      rw [hv] at h1
      cases h1
      exact ⟨rfl, h2, h3⟩
    | own s =>
      have g : eget E [i] = some s := by simp only [eget, he, S.get_nil]
      obtain ⟨u, g1, g2, e1, o, c, _⟩ := R.core.take g
      have eu : u = v := by simp only [followE, hv, follow_nil] at e1; exact (Option.some.inj e1).symm
      subst eu
      have pl : some (Rs.pl [i]) = some r → RsAt K F H ρ E u r [] := fun e' => by
        have e2 := Option.some.inj e'
        subst e2
        exact ⟨rfl, e1, by rw [g]; rfl⟩
      cases s with
      | dat d => cases e; exact .dat (o.dat_inv rfl).1
      | con w =>
        cases e
        obtain ⟨rfl, _⟩ := o.con_inv rfl
        exact .con
      | lst _ => exact pl e
      | dct _ _ => exact pl e
      | ins _ _ => exact pl e
def tV (v : V) : TE := fun _ H Q => Q v H
def tVs (vs : List V) : TA := fun _ H QA => QA vs H
/-- the j-th of the k last roots -/
def dGh (k j : Nat) (E : En) : Option Rs := if j < k then dVar (E.length - k + j) E else none
theorem gh_at {σ : L2.St} (L : σ.length = n) (R : Rep K F H (σ ++ (as ++ vs.map some)) E fp) {j : Nat} (hj : vs[j]? = some v) : (σ ++ (as ++ vs.map some))[E.length - vs.length + j]? = some (some v) := by
  have len := R.core.len
  rw [List.length_append, List.length_append, List.length_map] at len
  have jl := (List.getElem?_eq_some_iff.mp hj).1
  rw [List.getElem?_append_right (by omega), List.getElem?_append_right (by omega), List.getElem?_map]
  rw [show E.length - vs.length + j - σ.length - as.length = j by omega, hj]; rfl
theorem p_gh {j : Nat} (hj : vs[j]? = some v) : EvP K n (as ++ vs.map some) (tV v) (dGh vs.length j) := by
  intro F H σ E fp L R r e Q q
  unfold dGh at e
  rw [if_pos (List.getElem?_eq_some_iff.mp hj).1] at e
  exact q v F H [] (.refl R.sub []) (rs_root R (gh_at L R hj) e) List.nodup_nil (fun _ m => nomatch m)
def ghs (k : Nat) (E : En) : Nat → Nat → Option (List Rs)
  | _, 0 => some []
  | j, m + 1 => match dVar (E.length - k + j) E, ghs k E (j + 1) m with
    | some r, some rs => some (r :: rs)
    | _, _ => none
def dGhs (k : Nat) (E : En) : Option (List Rs) := ghs k E 0 k
theorem ghs_len (k : Nat) : ∀ {m j : Nat} {rs : List Rs}, ghs k E j m = some rs → rs.length = m
  | 0, _, _, e => by cases e; rfl
  | m + 1, j, rs, e => by
    simp only [ghs] at e
    split at e
    · next r rs' e1 e2 => cases e; simp only [List.length_cons, ghs_len k e2]
    · cases e
theorem a_ghs : EvA K n (as ++ vs.map some) (tVs vs) (dGhs vs.length) := by
  intro F H σ E fp L R rs e Q q
  have go : ∀ (m j : Nat) (rs : List Rs), ghs vs.length E j m = some rs → j + m = vs.length → RsAll K F H (σ ++ (as ++ vs.map some)) E (vs.drop j) rs [] := by
    intro m
    induction m with
    | zero =>
      intro j rs e hj
      cases e
      rw [List.drop_eq_nil_of_le (by omega)]
      exact .nil
    | succ m ih =>
      intro j rs e hj
      simp only [ghs] at e
      split at e
      · next r rs' e1 e2 =>
        cases e
        have hv : vs[j]? = some (vs[j]'(by omega)) := List.getElem?_eq_getElem _
        rw [List.drop_eq_getElem_cons (by omega)]
        exact RsAll.cons (f := []) (g := []) (rs_root R (gh_at L R hv) e1) (ih (j + 1) rs' e2 (by omega))
      · cases e
  have := go vs.length 0 rs e (by omega)
  rw [List.drop_zero] at this
  exact q vs F H [] (.refl R.sub []) this List.nodup_nil (fun _ m => nomatch m)

/-! ### arguments to roots -/
def EvL (K : PySem.W.Frag) (n : Nat) (as : Ro) (tr : TA) (dl : En → Option (Nat × En)) : Prop :=
  ∀ {F H : Hp} {σ : L2.St} {E : En} {fp : List Addr}, σ.length = n → Rep K F H (σ ++ as) E fp → ∀ {k : Nat} {E' : En}, dl E = some (k, E') → ∀ {Q : List V → Hp → Prop},
    (∀ vs F' H' fp', vs.length = k → Grow F H fp F' H' fp' → Rep K F' H' (σ ++ (as ++ vs.map some)) E' fp' → Q vs H') → tr σ H Q
def lNil (E : En) : Option (Nat × En) := some (0, E)
theorem l_nil : EvL K n as tNil lNil := by
  intro F H σ E fp L R k E' e Q q
  cases e
  exact q [] F H fp rfl (.refl R.sub fp) (by simpa using R)
def up1 (o : Option (Nat × En)) : Option (Nat × En) := o.map fun p => (p.1 + 1, p.2)
variable {dl : En → Option (Nat × En)}
def lConsE (de : En → Option (S × En)) (dl : En → Option (Nat × En)) (E : En) : Option (Nat × En) := match de E with
  | some (s, E1) => up1 (dl (E1 ++ [.own s]))
  | none => none
theorem l_consE (ha : EvE K n as ta de) (hr : ∀ as, EvL K n as tr dl) : EvL K n as (tCons ta tr) (lConsE de dl) := by
  intro F H σ E fp L R k E' e Q q
  unfold lConsE at e
  split at e
  · next s E1 ee =>
    obtain ⟨⟨k1, E2⟩, e2, e3⟩ := Option.map_eq_some_iff.mp e
    cases e3
    refine ha L R ee fun v F1 H1 fr fp1 g1 R1 ov nd of => hr (as ++ [some v]) L (R1.push ov nd of) e2 fun vs F2 H2 fp2 hk g2 R2 => ?_
    exact q (v :: vs) F2 H2 fp2 (by rw [List.length_cons, hk]) (g1.trans g2) (by simpa using R2)
  · cases e
def lConsP (da : En → Option Rs) (dl : En → Option (Nat × En)) (E : En) : Option (Nat × En) := match da E with
  | some (.val s) => up1 (dl (E ++ [.own s]))
  | some (.pl p) => up1 (dl (E ++ [.bor p]))
  | none => none
theorem l_consP (ha : EvP K n as ta da) (hr : ∀ as, EvL K n as tr dl) : EvL K n as (tCons ta tr) (lConsP da dl) := by
  intro F H σ E fp L R k E' e Q q
  unfold lConsP at e
  split at e
  · next s ee =>
    obtain ⟨⟨k1, E2⟩, e2, e3⟩ := Option.map_eq_some_iff.mp e
    cases e3
    refine ha L R ee fun v F1 H1 fr g1 a nd of => hr (as ++ [some v]) L ((R.grow g1).push a (R.apart_new g1 nd) of) e2 fun vs F2 H2 fp2 hk g2 R2 => ?_
    exact q (v :: vs) F2 H2 fp2 (by rw [List.length_cons, hk]) ((g1.ours fp).trans g2) (by simpa using R2)
  · next p ee =>
    obtain ⟨⟨k1, E2⟩, e2, e3⟩ := Option.map_eq_some_iff.mp e
    cases e3
    refine ha L R ee fun v F1 H1 fr g1 a nd of => ?_
    obtain ⟨a1, a2, a3⟩ := a
    subst a1
    refine hr (as ++ [some v]) L ((R.grow g1).hold a2 a3) e2 fun vs F2 H2 fp2 hk g2 R2 => ?_
    exact q (v :: vs) F2 H2 fp2 (by rw [List.length_cons, hk]) (g1.mine.trans g2) (by simpa using R2)
  · cases e
/-- all of them pure: no roots wanted, but they may be held -/
def eEff (dl : En → Option (Nat × En)) (dc : Nat → En → Option (S × En)) (E : En) : Option (S × En) := match dl E with
  | some (k, E1) => match dc k E1 with
    | some (s, E2) => some (s, stripN k E2)
    | none => none
  | none => none
theorem e_eff {C : List V → Hp → VK → Prop} {dcc : Nat → En → Option (S × En)} (hl : EvL K n as tr dl) (hc : ∀ vs : List V, EvE K n (as ++ vs.map some) (fun _ H Q => C vs H Q) (dcc vs.length)) :
    EvE K n as (fun σ H Q => tr σ H fun vs H1 => C vs H1 Q) (eEff dl dcc) := by
  intro F H σ E fp L R s E' e Q q
  unfold eEff at e
  split at e
  · next k E1 el =>
    split at e
    · next s2 E2 ec =>
      cases e
      refine hl L R el fun vs F1 H1 fp1 hk g1 R1 => ?_
      subst hk
      refine hc vs L R1 ec fun v F2 H2 fr fp2 g2 R2 ov nd of => ?_
      obtain ⟨fq, R3, sb⟩ := R2.stripN vs.length rfl
      refine q v F2 H2 fr fq ((g1.trans g2).less fun a m => ?_) R3 ov ?_ of
      · exact List.mem_append.mpr ((List.mem_append.mp m).imp id (sb a))
      · exact List.nodup_append.mpr ⟨(List.nodup_append.mp nd).1, R3.nd, fun a m b m2 => (List.nodup_append.mp nd).2.2 a m b (sb b m2)⟩
    · cases e
  · cases e
/-- the same for tests -/
def eEffT (dl : En → Option (Nat × En)) (dc : Nat → En → Option (Bool × En)) (E : En) : Option (Bool × En) := match dl E with
  | some (k, E1) => match dc k E1 with
    | some (s, E2) => some (s, stripN k E2)
    | none => none
  | none => none
/-! ### what may take such arguments -/
variable {r : List V → Hp → VK → Prop}
theorem e_cbE {f : List PyData → Option PyData} (hr : RvC K r f) (hl : EvL K n as tr dl) : EvE K n as (tCB r tr) (eEff dl fun k => ePure (dCB f (dGhs k))) :=
  e_eff (C := r) hl fun vs => e_pure (p_cb hr a_ghs)
theorem e_csE {f : List S → Option S} (hr : RvSC K r f) (hl : EvL K n as tr dl) : EvE K n as (tCB r tr) (eEff dl fun k => ePure (dCS f (dGhs k))) :=
  e_eff (C := r) hl fun vs => e_pure (p_cs hr a_ghs)
def dWhen (k m : Nat) (d : En → Option (S × En)) (E : En) : Option (S × En) := if k = m then d E else none
theorem e_callE {m : Nat} {g : List S → Option (S × List S)} {EX : XK} (hl : EvL K n as tr dl) : EvE K n as (tCall (spMv K m g) [] EX tr) (eEff dl fun k => dWhen k m (eCall g (dGhs k))) := by
  have hc : ∀ vs : List V, EvE K n (as ++ vs.map some) (fun _ H Q => spMv K m g (vs ++ []) H Q EX) (dWhen vs.length m (eCall g (dGhs vs.length))) := by
    intro vs F H σ E fp L R s E' e Q q
    unfold dWhen at e
    by_cases hk : vs.length = m
    · rw [if_pos hk] at e
      exact e_call (tr := tVs vs) (EX := EX) a_ghs (fun E rs h => (ghs_len _ h).trans hk) L R e q
    · rw [if_neg hk] at e
      cases e
  intro F H σ E fp L R s E' e Q q
  exact e_eff (C := fun vs H Q => spMv K m g (vs ++ []) H Q EX) (dcc := fun k => dWhen k m (eCall g (dGhs k))) hl hc L R e q
theorem e_op2E {r2 : R2} {dop : (En → Option Rs) → (En → Option Rs) → En → Option Rs} (hp : ∀ {as : Ro} {ta tb : TE} {da db : En → Option Rs}, EvP K n as ta da → EvP K n as tb db → EvP K n as (tOp r2 ta tb) (dop da db)) (hl : EvL K n as (tCons ta (tCons tb tNil)) dl) :
    EvE K n as (tOp r2 ta tb) (eEff dl fun k => dWhen k 2 (ePure (dop (dGh k 0) (dGh k 1)))) := by
  have hc : ∀ vs : List V, EvE K n (as ++ vs.map some) (fun _ H Q => match vs with | [x, y] => r2 x y H Q | _ => False) (dWhen vs.length 2 (ePure (dop (dGh vs.length 0) (dGh vs.length 1)))) := by
    intro vs F H σ E fp L R s E' e Q q
    unfold dWhen at e
    split at e
    · next hk =>
      match vs, hk with
      | [x, y], _ => exact e_pure (hp (ta := tV x) (tb := tV y) (p_gh (vs := [x, y]) rfl) (p_gh (vs := [x, y]) rfl)) L R e q
    · cases e
  intro F H σ E fp L R s E' e Q q
  exact e_eff (tr := tCons ta (tCons tb tNil)) (C := fun vs H Q => match vs with | [x, y] => r2 x y H Q | _ => False) (dcc := fun k => dWhen k 2 (ePure (dop (dGh k 0) (dGh k 1)))) hl hc L R e q
/-- one value handed on -/
theorem e_un1E {t1 : TE → TE} {dop : (En → Option Rs) → En → Option Rs} {C : V → Hp → VK → Prop} (ht : ∀ ta σ H Q, t1 ta σ H Q = ta σ H fun x H1 => C x H1 Q) (hp : ∀ {as : Ro} {ta : TE} {da : En → Option Rs}, EvP K n as ta da → EvP K n as (t1 ta) (dop da)) (hl : EvL K n as (tCons ta tNil) dl) :
    EvE K n as (t1 ta) (eEff dl fun k => dWhen k 1 (ePure (dop (dGh k 0)))) := by
  have hc : ∀ vs : List V, EvE K n (as ++ vs.map some) (fun _ H Q => match vs with | [x] => C x H Q | _ => False) (dWhen vs.length 1 (ePure (dop (dGh vs.length 0)))) := by
    intro vs F H σ E fp L R s E' e Q q
    unfold dWhen at e
    split at e
    · next hk =>
      match vs, hk with
      | [x], _ =>
        have h := e_pure (hp (ta := tV x) (da := dGh 1 0) (as := as ++ [x].map some) (p_gh (vs := [x]) rfl)) L R e q
        rw [ht] at h
        exact h
    · cases e
  intro F H σ E fp L R s E' e Q q
  rw [ht]
  exact e_eff (tr := tCons ta tNil) (C := fun vs H Q => match vs with | [x] => C x H Q | _ => False) (dcc := fun k => dWhen k 1 (ePure (dop (dGh k 0)))) hl hc L R e q

/-! ### a root's value taken -/
theorem Rep.pop {σ : L2.St} {E0 : En} (R : Rep K F H (σ ++ (as ++ [some w])) (E0 ++ [.own s]) fp) :
    ∃ f1 f2, Own K F H w s f2 ∧ Rep K F H (σ ++ as) (E0.map (killHead E0.length)) f1 ∧ fp.Perm (f2 ++ f1) := by
  obtain ⟨f, l, pm⟩ := R.core.own
  have len : E0.length = (σ ++ as).length := by
    have := R.core.len
    simp only [List.length_append, List.length_cons, List.length_nil] at this ⊢
    omega
  rw [← List.append_assoc, rootS_app len, rootV_app] at l
  obtain ⟨f1, f2, rfl, l1, l2⟩ := l.split (by rw [rootS_len len]; unfold rootV; rw [List.length_map])
  have ow : ∃ f2', f2 = f2' ∧ Own K F H w s f2' := by
    cases l2 with
    | cons a t => cases t; exact ⟨_, by simp, a⟩
  obtain ⟨f2', rfl, ow⟩ := ow
  have pm2 : fp.Perm (f2 ++ f1) := pm.trans List.perm_append_comm
  have nd := pm2.nodup_iff.mp R.nd
  refine ⟨f1, f2, ow, ⟨⟨by rw [List.length_map]; exact len, ⟨f1, by rw [rootS_killHead]; exact l1, List.Perm.refl _⟩, fun j z hj => ?_⟩, R.sub, (List.nodup_append.mp nd).2.1, fun a m => R.off a (pm2.mem_iff.mpr (List.mem_append_right _ m)), fun j p hb => ?_⟩, pm2⟩
  · have hj' := (killHead_get E0 j z).mp hj
    have jl := (List.getElem?_eq_some_iff.mp hj').1
    obtain ⟨v, hv⟩ := R.core.set j z (by rw [List.getElem?_append_left jl]; exact hj')
    exact ⟨v, by rw [← List.append_assoc, List.getElem?_append_left (by omega)] at hv; exact hv⟩
  · rw [List.getElem?_map] at hb
    cases hE : E0[j]? with
    | none => rw [hE] at hb; cases hb
    | some sl =>
      rw [hE] at hb
      cases sl with
      | no => cases hb
      | own z => cases hb
      | bor q =>
        simp only [Option.map_some, killHead, Option.some.injEq] at hb
        by_cases hq : q.head? = some E0.length
        · rw [if_pos hq] at hb; cases hb
        · rw [if_neg hq] at hb
          cases hb
          have jl := (List.getElem?_eq_some_iff.mp hE).1
          obtain ⟨v, e1, e2, e3⟩ := R.bor j p (by rw [List.getElem?_append_left jl]; exact hE)
          refine ⟨v, by rw [← List.append_assoc, List.getElem?_append_left (by omega)] at e1; exact e1, ?_, ?_⟩
          · cases p with
            | nil => cases e2
            | cons i p =>
              unfold followE at e2 ⊢
              dsimp only at e2 ⊢
              rw [← List.append_assoc] at e2
              by_cases hi : i < (σ ++ as).length
              · rw [List.getElem?_append_left hi] at e2; exact e2
              · exfalso
                have : i ≠ E0.length := fun z => hq (by rw [z]; rfl)
                rw [List.getElem?_eq_none_iff.mpr (by simp only [List.length_append, List.length_cons, List.length_nil] at len hi ⊢; omega)] at e2
                cases e2
          · cases p with
            | nil => cases e3
            | cons i p =>
              obtain ⟨t, ht⟩ := Option.isSome_iff_exists.mp e3
              obtain ⟨i', q', s', he, ei, hg⟩ := eget_some ht
              cases he
              have hi : i ≠ E0.length := fun z => hq (by rw [z]; rfl)
              have hl := (List.getElem?_eq_some_iff.mp ei).1
              rw [List.length_append, List.length_cons, List.length_nil] at hl
              rw [List.getElem?_append_left (by omega)] at ei
              have := (killHead_get (i := E0.length) E0 i s').mpr ei
              simp only [eget, this, hg]; rfl
/-- the last k roots' values, from the first -/
def popS : Nat → En → Option (List S × En)
  | 0, E => some ([], E)
  | k + 1, E => match E.getLast? with
    | some (.own s) => match popS k (E.dropLast.map (killHead (E.length - 1))) with
      | some (ss, E') => some (ss ++ [s], E')
      | none => none
    | _ => none
theorem Rep.popN {σ : L2.St} : ∀ (k : Nat) {vs : List V} {E E' : En} {ss : List S} {fp : List Addr}, vs.length = k → Rep K F H (σ ++ (as ++ vs.map some)) E fp → popS k E = some (ss, E') →
    ∃ f1 f2, OwnL K F H vs ss f2 ∧ Rep K F H (σ ++ as) E' f1 ∧ fp.Perm (f2 ++ f1)
  | 0, vs, E, E', ss, fp, h, R, e => by
    have : vs = [] := List.eq_nil_of_length_eq_zero h
    subst this
    cases e
    exact ⟨fp, [], .nil, by simpa using R, by simp⟩
  | k + 1, vs, E, E', ss, fp, h, R, e => by
    rcases List.eq_nil_or_concat vs with z | ⟨ys, w, rfl⟩
    · rw [z] at h; cases h
    · rw [List.concat_eq_append] at h
      rw [List.concat_eq_append, List.map_append, ← List.append_assoc as] at R
      simp only [popS] at e
      split at e
      · next s hs =>
        split at e
        · next ss1 E1 e1 =>
          cases e
          have hE : E = E.dropLast ++ [.own s] := by
            rcases List.eq_nil_or_concat E with z | ⟨E0, z, rfl⟩
            · rw [z] at hs; cases hs
            · rw [List.concat_eq_append] at hs ⊢
              rw [List.getLast?_concat] at hs
              cases hs
              rw [List.dropLast_concat]
          rw [hE] at R
          obtain ⟨g1, g2, ow, R1, p1⟩ := Rep.pop (as := as ++ ys.map some) R
          rw [show E.length - 1 = E.dropLast.length by simp] at e1
          obtain ⟨h1, h2, l, R2, p2⟩ := Rep.popN k (vs := ys) (by simpa using h) R1 e1
          refine ⟨h1, h2 ++ g2, by rw [List.concat_eq_append]; simpa using l.append (OwnL.cons (K := K) (F := F) (H := H) ow .nil), R2, ?_⟩
          refine p1.trans ((List.Perm.append_left g2 p2).trans ?_)
          rw [← List.append_assoc]
          exact List.Perm.append_right h1 List.perm_append_comm
        · cases e
      · cases e
/-- [..] of what calls tell -/
def eLst (dl : En → Option (Nat × En)) (E : En) : Option (S × En) := match dl E with
  | some (k, E1) => if k < 1000 then match popS k E1 with
      | some (ss, E2) => some (.lst ss, E2)
      | none => none
    else none
  | none => none
theorem e_lst (hl : EvL K n as tr dl) : EvE K n as (tLst tr) (eLst dl) := by
  intro F H σ E fp L R s E' e Q q
  unfold eLst at e
  split at e
  · next k E1 el =>
    split at e
    · next hk =>
      split at e
      · next ss E2 ep =>
        cases e
        refine hl L R el fun vs F1 H1 fp1 hk2 g1 R1 => ?_
        subst hk2
        refine ⟨by rw [sizeLine_eq]; omega, fun p hp => ?_⟩
        obtain ⟨h1, h2, l, R2, pm⟩ := R1.popN vs.length rfl ep
        have nd := pm.nodup_iff.mp R1.nd
        have g : Grow F1 H1 [] F1 (upd H1 p (.lst vs)) [p] := Grow.alloc R1.sub hp
        have np : p ∉ h2 ++ h1 := fun m => by obtain ⟨w, hw⟩ := R1.there p (pm.mem_iff.mpr m); rw [hp] at hw; cases hw
        have R3 := R2.grow g
        refine q _ F1 _ (p :: h2) h1 ?_ R3 (lst_write (l.frame (fun _ _ h => h) g.sub fun a m u e => g.keep a u e (fun z => nomatch z))) (by simpa using List.nodup_cons.mpr ⟨np, nd⟩) fun a m => ?_
        · refine (g1.trans (g.ours fp1)).less fun a m => ?_
          rcases List.mem_cons.mp m with rfl | m
          · exact List.mem_append_left _ (List.mem_singleton.mpr rfl)
          · exact List.mem_append_right _ (pm.mem_iff.mpr m)
        · rcases List.mem_cons.mp m with rfl | m
          · exact fresh_none R1.sub hp
          · exact R1.off a (pm.mem_iff.mpr (List.mem_append_left _ m))
      · cases e
    · cases e
  · cases e
end Mv
/-! stores to lists, methods with effects in their arguments, ranges, slices, counts, sets -/
namespace Mv
open PySem PySem.Spec PyProof.Rows L2
variable {K : PySem.W.Frag} {F F' F1 F2 F3 H H' H1 H2 H3 : Hp} {v u x y w : V} {vs ws xs : List V} {s t c : S} {ss tts : List S} {fp fq fr fp' fp1 fp2 f1 f2 : List Addr} {ρ as : Ro} {E E' : En} {n : Nat}
variable {W : WXm} {te ta tb tc tk tv td : TE} {d da db dc dk dv : En → Option Rs} {tr : TA} {dr : En → Option (List Rs)} {de df : En → Option (S × En)} {tt : TT} {dte : En → Option (Bool × En)} {ds : List PyData} {Q : VK}

/-! ### xs[i] = v -/
def oLSet (i : Int) (t s : S) : Option (S × S) := match t with
  | .lst ss => match ixN ss.length i with
    | some j => some (.lst (ss.set j s), .dat .none)
    | none => none
  | _ => none
def rLSet1 (i : Int) (u y : V) (H : Hp) (Q : VK) : Prop := ∃ p xs j, u = .ref p ∧ H p = some (.lst xs) ∧ ixN xs.length i = some j ∧ Q .non (upd H p (.lst (xs.set j y)))
theorem nd_lset (i : Int) : Nd1 K (rLSet1 i) (oLSet i) := by
  intro F H u y t s t' c fp1 fr sub ot os nd of e Q q
  unfold oLSet at e
  split at e
  · next ss =>
    split at e
    · next j hj =>
      cases e
      obtain ⟨a, vs, fq, rfl, hH, l, rfl⟩ := ot.lst_inv rfl
      have na : a ∉ fr := fun m => (List.nodup_append.mp nd).2.2 a m a List.mem_cons_self rfl
      have nq : a ∉ fq := (List.nodup_cons.mp (List.nodup_append.mp nd).2.1).1
      have fa : F a = none := of a (List.mem_append_right _ List.mem_cons_self)
      have jl : j < vs.length := by rw [l.length]; exact ixN_at hj
      refine ⟨a, vs, j, rfl, hH, by rw [l.length]; exact hj, ?_⟩
      obtain ⟨g1, g2, g, l2, p1, p2⟩ := l.repl jl os
      have ndf := List.nodup_append.mp nd
      have ndq := (List.nodup_cons.mp ndf.2.1).2
      have hg : ∀ b ∈ g, b ∈ fr ∨ b ∈ fq := fun b m => (List.mem_append.mp (p1.mem_iff.mp m)).imp id fun m => p2.mem_iff.mpr (List.mem_append_right _ m)
      have ng : g.Nodup := p1.nodup_iff.mpr (List.nodup_append.mpr ⟨ndf.1, (List.nodup_append.mp (p2.nodup_iff.mp ndq)).2.1, fun b m c m2 e => ndf.2.2 b m c (List.mem_cons_of_mem _ (p2.mem_iff.mpr (List.mem_append_right _ m2))) e⟩)
      have nag : a ∉ g := fun m => (hg a m).elim na nq
      have g0 : Grow F H [a] F (upd H a (.lst (vs.set j y))) [a] := Grow.write sub fa
      refine q .non F _ [] (a :: g) (g0.wide (fun b m => by rw [List.mem_singleton.mp m]; exact List.mem_append_right _ List.mem_cons_self) fun b m => ?_) (lst_write (l2.off sub fa nag)) (.dat .non) ?_ fun b m => ?_
      · left
        rw [List.nil_append] at m
        rcases List.mem_cons.mp m with rfl | m
        · exact List.mem_append_right _ List.mem_cons_self
        · exact (hg b m).elim (fun m => List.mem_append_left _ m) fun m => List.mem_append_right _ (List.mem_cons_of_mem _ m)
      · rw [List.nil_append]; exact List.nodup_cons.mpr ⟨nag, ng⟩
      · rw [List.nil_append] at m
        rcases List.mem_cons.mp m with rfl | m
        · exact fa
        · exact (hg b m).elim (fun m => of b (List.mem_append_left _ m)) fun m => of b (List.mem_append_right _ (List.mem_cons_of_mem _ m))
    · cases e
  · cases e
def dLSet (da db : En → Option Rs) (de : En → Option (S × En)) (E : En) : Option Out := match de E with
  | some (s, E1) => match da E1, db E1 with
    | some (.pl p), some (.val (.dat (.int i))) => stepAt (oLSet i) E1 p s
    | _, _ => none
  | none => none
theorem s_lset (ha : EvP K n as ta da) (hb : EvP K n as tb db) (he : EvE K n as te de) : EvS K n as W (tAsg te (gSub ta tb rSetL)) (dLSet da db de) := by
  intro F H σ E fp L R o e D g
  unfold dLSet at e
  split at e
  · next s E1 ee =>
    split at e
    · next p i ea eb =>
      refine he L R ee fun v F1 H1 fr fp1 g1 R1 ov nd of => ha L R1 ea fun x F2 H2 f2 g2 r2 n2 o2 => hb L (R1.grow g2) eb fun y F3 H3 f3 g3 r3 n3 o3 => ?_
      have R3 := (R1.grow g2).grow g3
      have g23 : Grow F1 H1 [] F3 H3 [] := (g2.seq0 g3).drop
      have ov3 : Own K F3 H3 v s fr := ov.grow g23 fun _ _ m => nomatch m
      have of3 : ∀ a ∈ fr, F3 a = none := fun a m => by
        obtain ⟨o, eo⟩ := ov.there a m
        exact g23.off a (by rw [eo]; exact fun z => nomatch z) (fun z => nomatch z) (of a m)
      have r2' := r2.grow (R1.grow g2) g3
      cases (Own.dat_inv (show Own K F3 H3 y _ f3 from r3) rfl).1
      unfold stepAt at e
      split at e
      · next t et =>
        split at e
        · next t' c eo =>
          cases e
          have gg : Grow F H fp F3 H3 (fr ++ fp1) := by
            have := g1.trans (g23.ours (fr ++ fp1))
            simpa using this
          have fin := mut1 (nd_lset i) R3 r2' ov3 nd of3 et eo (Q := fun _ H4 => D.nx σ H4) fun v F' H' fv fp' g4 R4 ov4 nd4 of4 => ?_
          · obtain ⟨a, ys, j, rfl, hp, hj, hq⟩ := fin
            exact ⟨a, ys, i, j, rfl, rfl, hp, hj, hq⟩
          · exact g σ F' H' fp' L ((gg.trans g4).less fun a m => List.mem_append_right _ m) R4
        · cases e
      · cases e
    · cases e
  · cases e

/-! ### xs.m(e), e with effects -/
def eBM1E (op : S → S → Option (S × S)) (da : En → Option Rs) (db : En → Option (S × En)) (E : En) : Option (S × En) := match da E with
  | some (.pl p) => match eget E p with
    | some (.lst _) => match db (E ++ [.bor p]) with
      | some (s, E1) => match E1.getLast? with
        | some (.bor p') => match eget E1 p' with
          | some t => match op t s with
            | some (t', c) => some (c, strip1 (ekill (eput E1 p' t') p'))
            | none => none
          | none => none
        | _ => none
      | none => none
    | _ => none
  | _ => none
theorem e_bm1E {r : V → List V → Hp → VK → Prop} {op : S → S → Option (S × S)} (hr : Nd1 K (fun u y H Q => r u [y] H Q) op) (ha : EvP K n as ta da) (hb : ∀ as, EvE K n as tb de) : EvE K n as (tBM K "list" r ta (tCons tb tNil)) (eBM1E op da de) := by
  intro F H σ E fp L R s0 E0 e Q q
  unfold eBM1E at e
  split at e
  · next p ea =>
    split at e
    · next ss es =>
      split at e
      · next s E1 e1 =>
        split at e
        · next p' hl =>
          split at e
          · next t ht =>
            split at e
            · next t' c ho =>
              cases e
              refine ha L R ea fun u F1 H1 f1 g1 a1 n1 o1 => ?_
              have R1 := R.grow g1
              obtain ⟨fq, ow⟩ := a1.own R1 (show (Rs.pl p).at E = some (.lst ss) from es)
              obtain ⟨a, xs, _, rfl, hH, _⟩ := ow.lst_inv rfl
              obtain ⟨z1, z2, z3⟩ := a1
              subst z1
              refine ⟨tyV_list hH, hb (as ++ [some (.ref a)]) L (R1.hold z2 z3) e1 fun y F2 H2 fr fp2 g2 R2 ov nd of => ?_⟩
              have len := R2.core.len
              rw [List.getLast?_eq_getElem?] at hl
              obtain ⟨w, e3, e4, e5⟩ := R2.bor _ _ hl
              have : (σ ++ (as ++ [some (V.ref a)]))[E1.length - 1]? = some (some (.ref a)) := by
                rw [← List.append_assoc, List.getElem?_append_right (by rw [len]; simp), len]
                simp
              rw [this] at e3
              cases e3
              refine mut1 hr R2 (u := .ref a) (f1 := []) ⟨rfl, e4, e5⟩ ov nd of ht ho fun v F' H' fv fp' g R' ov' nd' of' => ?_
              obtain ⟨fz, R4, sb⟩ := R'.strip1
              refine q v F' H' fv fz ((g1.mine.trans (g2.trans g)).less fun b m => (List.mem_append.mp m).elim (fun m => List.mem_append_left _ m) fun m => List.mem_append_right _ (sb b m)) R4 ov' ?_ of'
              exact List.nodup_append.mpr ⟨(List.nodup_append.mp nd').1, R4.nd, fun b m d m2 => (List.nodup_append.mp nd').2.2 b m d (sb d m2)⟩
            · cases e
          · cases e
        · cases e
      · cases e
    · cases e
  · cases e
/-! ### extend -/
def oExtend : S → S → Option (S × S)
  | .lst ss, .lst tts => if ss.length + tts.length < 100000 then some (.lst (ss ++ tts), .dat .none) else none
  | _, _ => none
theorem nd_extend : Nd1 K (fun u y H Q => rExtend u [y] H Q) oExtend := by
  intro F H u y t s t' c fp1 fr sub ot os nd of e Q q
  unfold oExtend at e
  split at e
  · next ss tts =>
    split at e
    · next hl =>
      cases e
      obtain ⟨a, vs, fq, rfl, hH, l, rfl⟩ := ot.lst_inv rfl
      obtain ⟨b, zs, fz, rfl, hB, lz, rfl⟩ := os.lst_inv rfl
      have fa : F a = none := of a (List.mem_append_right _ List.mem_cons_self)
      have ndf := List.nodup_append.mp nd
      have nq : a ∉ fq := (List.nodup_cons.mp ndf.2.1).1
      have na : a ∉ fz := fun m => ndf.2.2 a (List.mem_cons_of_mem _ m) a List.mem_cons_self rfl
      refine ⟨a, b, vs, zs, rfl, rfl, hH, hB, by rw [l.length, lz.length, sizeLine_eq]; omega, ?_⟩
      have l2 := (l.off sub (o := .lst (vs ++ zs)) fa nq).append (lz.off sub (o := .lst (vs ++ zs)) fa na)
      have g0 : Grow F H [a] F (upd H a (.lst (vs ++ zs))) [a] := Grow.write sub fa
      refine q .non F _ [] (a :: (fq ++ fz)) (g0.wide (fun b m => by rw [List.mem_singleton.mp m]; exact List.mem_append_right _ List.mem_cons_self) fun d m => ?_) (lst_write l2) (.dat .non) ?_ fun d m => ?_
      · left
        rw [List.nil_append] at m
        rcases List.mem_cons.mp m with rfl | m
        · exact List.mem_append_right _ List.mem_cons_self
        · rcases List.mem_append.mp m with m | m
          · exact List.mem_append_right _ (List.mem_cons_of_mem _ m)
          · exact List.mem_append_left _ (List.mem_cons_of_mem _ m)
      · rw [List.nil_append]
        refine List.nodup_cons.mpr ⟨fun m => (List.mem_append.mp m).elim nq na, List.nodup_append.mpr ⟨(List.nodup_cons.mp ndf.2.1).2, (List.nodup_cons.mp ndf.1).2, fun d m d2 m2 e => ndf.2.2 d2 (List.mem_cons_of_mem _ m2) d (List.mem_cons_of_mem _ m) e.symm⟩⟩
      · rw [List.nil_append] at m
        rcases List.mem_cons.mp m with rfl | m
        · exact fa
        · rcases List.mem_append.mp m with m | m
          · exact of d (List.mem_append_right _ (List.mem_cons_of_mem _ m))
          · exact of d (List.mem_append_left _ (List.mem_cons_of_mem _ m))
    · cases e
  · cases e
/-! ### ranges -/
def rgS (a b : Int) : List S := (List.range (b - a).toNat).map fun i => .dat (.int (a + (i : Nat)))
theorem rg_own (a b : Int) : OwnL K F H (rgV a b) (rgS a b) [] := by
  unfold rgV rgS
  generalize List.range (b - a).toNat = l
  induction l with
  | nil => exact .nil
  | cons i r ih => exact OwnL.cons (fp := []) (.dat (.int _)) ih
def dLstRg1 (d : En → Option Rs) (E : En) : Option Rs := match d E with
  | some (.val (.dat (.int j))) => if 0 ≤ j ∧ j ≤ 16777216 then some (.val (.lst (rgS 0 j))) else none
  | _ => none
theorem p_lstRg1 (h : EvP K n as te d) : EvP K n as (tLstRg (tRg1 te)) (dLstRg1 d) := by
  intro F H σ E fp L R r e Q q
  unfold dLstRg1 at e
  split at e
  · next j ed =>
    split at e
    · next hj =>
      cases e
      refine h L R ed fun v F1 H1 f1 g1 a1 n1 o1 => ?_
      cases (Own.dat_inv (show Own K F1 H1 v _ f1 from a1) rfl).1
      refine ⟨j, rfl, RgOk.of_le (by omega) (by omega) (by omega) (by omega), ?_⟩
      exact mk_lst (R.grow g1).sub (rg_own 0 j) fun v F' H' fr g o nd of => q v F' H' fr (by simpa using g1.drop.seq0 g) o nd of
    · cases e
  · cases e
/-- range(e), e with effects -/
def iRangeE (de : En → Option (S × En)) (E : En) : Option Src := match de E with
  | some (.dat (.int j), E1) => if j < 2 ^ 62 ∧ -(2 ^ 62) ≤ j then some ⟨E1, [], fun _ i => some (if i < j.toNat then some (.val (.dat (.int (i : Nat)))) else none), j.toNat⟩ else none
  | _ => none
theorem i_rangeE (h : EvE K n as te de) : EvI K n as (iRng1 (tCons te tNil)) (iRangeE de) := by
  intro F H σ E fp L R c e Rr q
  unfold iRangeE at e
  split at e
  · next j E1 ed =>
    split at e
    · next hj =>
      cases e
      refine h L R ed fun v F1 H1 fr fp1 g1 R1 ov nd of => ?_
      cases (Own.dat_inv ov rfl).1
      refine ⟨j, rfl, hj.2, hj.1, q _ F1 H1 [] fp1 (g1.less fun a m => List.mem_append_right _ m) (by simpa using R1) rfl fun F2 H2 σ2 E2 fp2 L2 g2 R2 i => ⟨fun r hr => ?_, fun hr => ?_⟩⟩
      · have hr := Option.some.inj hr
        by_cases hi : i < j.toNat
        · rw [if_pos hi] at hr
          cases hr
          refine ⟨hi, fun x H' hy => ⟨hy.1, ?_⟩⟩
          rw [hy.2]
          have : (0 : Int) + (i : Int) = ((i : Nat) : Int) := by omega
          rw [this]
          exact .dat (.int _)
        · rw [if_neg hi] at hr; cases hr
      · have hr := Option.some.inj hr
        by_cases hi : i < j.toNat
        · rw [if_pos hi] at hr; cases hr
        · exact Nat.le_of_not_lt hi
    · cases e
  · cases e
/-- range(a, b) -/
def iRange2 (da db : En → Option Rs) (E : En) : Option Src := match da E, db E with
  | some (.val (.dat (.int i0))), some (.val (.dat (.int j))) => if (-(2 ^ 62) ≤ i0 ∧ i0 < 2 ^ 62) ∧ -(2 ^ 62) ≤ j ∧ j < 2 ^ 62 then some ⟨E, [], fun _ i => some (if i < (j - i0).toNat then some (.val (.dat (.int (i0 + (i : Nat))))) else none), (j - i0).toNat⟩ else none
  | _, _ => none
theorem i_range2 (ha : EvP K n as ta da) (hb : EvP K n as tb db) : EvI K n as (iRng2 (tCons ta (tCons tb tNil))) (iRange2 da db) := by
  intro F H σ E fp L R c e Rr q
  unfold iRange2 at e
  split at e
  · next i0 j ea eb =>
    split at e
    · next hj =>
      cases e
      refine ha L R ea fun x F1 H1 f1 g1 a1 n1 o1 => hb L (R.grow g1) eb fun y F2 H2 f2 g2 a2 n2 o2 => ?_
      cases (Own.dat_inv (show Own K F1 H1 x _ f1 from a1) rfl).1
      cases (Own.dat_inv (show Own K F2 H2 y _ f2 from a2) rfl).1
      have g12 : Grow F H [] F2 H2 [] := (g1.seq0 g2).drop
      refine ⟨i0, j, rfl, ⟨hj.1.1, hj.1.2, hj.2.1, hj.2.2⟩, q _ F2 H2 [] fp g12.mine (by simpa using R.grow g12) rfl fun F2 H2 σ2 E2 fp2 L2 g2 R2 i => ⟨fun r hr => ?_, fun hr => ?_⟩⟩
      · have hr := Option.some.inj hr
        by_cases hi : i < (j - i0).toNat
        · rw [if_pos hi] at hr
          cases hr
          refine ⟨hi, fun x H' hy => ⟨hy.1, ?_⟩⟩
          rw [hy.2]
          exact .dat (.int _)
        · rw [if_neg hi] at hr; cases hr
      · have hr := Option.some.inj hr
        by_cases hi : i < (j - i0).toNat
        · rw [if_pos hi] at hr; cases hr
        · exact Nat.le_of_not_lt hi
    · cases e
  · cases e
/-! ### x[lo:hi], hi with effects -/
def EvOE (K : PySem.W.Frag) (n : Nat) (as : Ro) (t : TO) (d : En → Option (Option Int × En)) : Prop :=
  ∀ {F H : Hp} {σ : L2.St} {E : En} {fp : List Addr}, σ.length = n → Rep K F H (σ ++ as) E fp → ∀ {o : Option Int} {E' : En}, d E = some (o, E') → ∀ {Q : Option Int → Hp → Prop},
    (∀ F' H' fp', Grow F H fp F' H' fp' → Rep K F' H' (σ ++ as) E' fp' → Q o H') → t σ H Q
def ePureO (d : En → Option (Option Int)) (E : En) : Option (Option Int × En) := (d E).map (·, E)
theorem e_pureO {t : TO} {d : En → Option (Option Int)} (h : EvO K n as t d) : EvOE K n as t (ePureO d) := by
  intro F H σ E fp L R o E' e Q q
  obtain ⟨c, h1, h2⟩ := Option.map_eq_some_iff.mp e
  cases h2
  exact h L R h1 fun F1 H1 g1 => q F1 H1 fp g1.mine (R.grow g1)
def ePartE (d : En → Option (S × En)) (E : En) : Option (Option Int × En) := match d E with
  | some (.dat (.int i), E1) => some (some i, E1)
  | _ => none
theorem e_partE (h : EvE K n as te de) : EvOE K n as (tPart te) (ePartE de) := by
  intro F H σ E fp L R o E' e Q q
  unfold ePartE at e
  split at e
  · next i E1 ei =>
    cases e
    refine h L R ei fun v F1 H1 fr fp1 g1 R1 ov nd of => ?_
    cases (Own.dat_inv ov rfl).1
    exact ⟨i, rfl, q F1 H1 fp1 (g1.less fun a m => List.mem_append_right _ m) R1⟩
  · cases e
def eSl (f : S → Option Int → Option Int → Option S) (dl0 : En → Option (Nat × En)) (dlo dhi : En → Option (Option Int × En)) (E : En) : Option (S × En) := match dl0 E with
  | some (1, E1) => match dlo E1 with
    | some (lo, E2) => match dhi E2 with
      | some (hi, E3) => match dVar (E3.length - 1) E3 with
        | some r => match r.at E3 with
          | some s => match f s lo hi with
            | some c => some (c, strip1 E3)
            | none => none
          | none => none
        | none => none
      | none => none
    | none => none
  | _ => none
theorem e_slice {dl : En → Option (Nat × En)} {r : V → Option Int → Option Int → Hp → VK → Prop} {f : S → Option Int → Option Int → Option S} {tl th : TO} {dlo dhi : En → Option (Option Int × En)} (hr : RvSl K r f) (h : EvL K n as (tCons te tNil) dl) (hl : ∀ as, EvOE K n as tl dlo) (hh : ∀ as, EvOE K n as th dhi) :
    EvE K n as (tSl r te tl th) (eSl f dl dlo dhi) := by
  intro F H σ E fp L R s0 E0 e Q q
  unfold eSl at e
  split at e
  · next E1 el =>
    split at e
    · next lo E2 e2 =>
      split at e
      · next hi E3 e3 =>
        split at e
        · next r0 er =>
          split at e
          · next s es =>
            split at e
            · next c ec =>
              cases e
              have := h L R el (Q := fun vs H1 => match vs with | [x] => tl σ H1 fun l H2 => th σ H2 fun u H3 => r x l u H3 Q | _ => False) fun vs F1 H1 fp1 hk g1 R1 => ?_
              · exact this
              match vs, hk with
              | [x], _ =>
              refine hl _ L R1 e2 fun F2 H2 fp2 g2 R2 => hh _ L R2 e3 fun F3 H3 fp3 g3 R3 => ?_
              have lst := gh_at (vs := [x]) (j := 0) L R3 rfl
              have ar := rs_root R3 lst er
              obtain ⟨fq, ow⟩ := ar.own R3 es
              refine hr R3.sub ow ec fun v F' H' fr g o nd of => ?_
              have R4 := R3.grow g
              obtain ⟨fz, R5, sb⟩ := Rep.strip1 (as := as) (w := x) R4
              have gg : Grow F H fp F' H' (fr ++ fp3) := (g1.trans (g2.trans g3)).trans (g.ours fp3)
              refine q v F' H' fr fz (gg.less fun b m => (List.mem_append.mp m).elim (fun m => List.mem_append_left _ m) fun m => List.mem_append_right _ (sb b m)) R5 o ?_ of
              have nd' := R3.apart_new g nd
              exact List.nodup_append.mpr ⟨nd, R5.nd, fun b m d m2 => (List.nodup_append.mp nd').2.2 b m d (sb d m2)⟩
            · cases e
          · cases e
        · cases e
      · cases e
    · cases e
  · cases e
/-! ### t.count(k) -/
def dTCnt (da db : En → Option Rs) (E : En) : Option Rs := match da E, db E with
  | some r, some (.val (.dat (.int k))) => match r.at E with
    | some (.dat (.tuple ds)) => match intsD ds with
      | some ns => some (.val (.dat (.int (ns.count k : Nat))))
      | none => none
    | _ => none
  | _, _ => none
theorem p_cnt (ha : EvP K n as ta da) (hb : EvP K n as tb db) : EvP K n as (tTM K (rCntT K) ta (tCons tb tNil)) (dTCnt da db) := by
  intro F H σ E fp L R r' e Q q
  unfold dTCnt at e
  split at e
  · next r k ea eb =>
    split at e
    · next ds es =>
      split at e
      · next ns en =>
        cases e
        refine ha L R ea fun x F1 H1 f1 g1 r1 n1 o1 => ?_
        have R1 := R.grow g1
        obtain ⟨fq, o⟩ := r1.own R1 es
        obtain ⟨a, xs, rfl, hq, da⟩ := Mv.Dq.tupleQ_inv (o.dat_inv rfl).1
        have hx := intsD_dp da en
        subst hx
        refine ⟨⟨a, _, rfl, TupQ.mono R1.sub hq⟩, hb L R1 eb fun y F2 H2 f2 g2 r2 n2 o2 => ?_⟩
        cases (Own.dat_inv (show Own K F2 H2 y _ f2 from r2) rfl).1
        have R2 := R1.grow g2
        exact ⟨a, ns, k, rfl, rfl, (TupQ.mono R2.sub (TupQ.mono g2.f hq)).sq, q _ F2 H2 [] (g1.seq0 g2).drop (.dat (.int _)) List.nodup_nil (fun _ m => nomatch m)⟩
      · cases e
    · cases e
  · cases e
/-! ### sorted(set(xs)) -/
def onceI : List Int → List Int
  | [] => []
  | a :: r => if a ∈ r then onceI r else a :: onceI r
theorem mem_onceI {k : Int} : ∀ {ns : List Int}, k ∈ onceI ns ↔ k ∈ ns
  | [] => Iff.rfl
  | a :: r => by
    unfold onceI
    by_cases h : a ∈ r
    · rw [if_pos h, mem_onceI, List.mem_cons]
      exact ⟨.inr, fun z => z.elim (fun e => by rw [e]; exact h) id⟩
    · rw [if_neg h, List.mem_cons, List.mem_cons, mem_onceI]
theorem nodup_onceI : ∀ (ns : List Int), (onceI ns).Nodup
  | [] => List.nodup_nil
  | a :: r => by
    unfold onceI
    by_cases h : a ∈ r
    · rw [if_pos h]; exact nodup_onceI r
    · rw [if_neg h]; exact List.nodup_cons.mpr ⟨fun m => h (mem_onceI.mp m), nodup_onceI r⟩
def sortSet (ns : List Int) : List Int := sortU (onceI ns)
theorem sortSet_uniq {ns ns' : List Int} (h : ns'.Pairwise (· < ·)) (hm : ∀ k : Int, k ∈ ns' ↔ k ∈ ns) : ns' = sortSet ns := by
  unfold sortSet
  refine sortU_uniq ?_ (h.imp fun h => Int.le_of_lt h)
  have nd : ns'.Nodup := h.imp fun h e => by omega
  exact (List.perm_ext_iff_of_nodup nd (nodup_onceI ns)).mpr fun k => by rw [hm, mem_onceI]
def fSortSet : List S → Option S
  | [s] => match s.seqL with
    | some ds => match intsD ds with
      | some ns => if ns.length < 64 then some (.lst ((sortSet ns).map fun i => .dat (.int i))) else none
      | none => none
    | none => none
  | _ => none
theorem p_sortSet {w : World} (h : EvP K n as te d) : EvP K n as (tCB (rSortedSet w) (tCons (tCB (rSetI K w) (tCons te tNil)) tNil)) (dCS fSortSet (dCons d dNil)) := by
  intro F H σ E fp L R r1 e Q q
  unfold dCS dCons dNil at e
  cases hd : d E with
  | none => rw [hd] at e; cases e
  | some r =>
    rw [hd] at e
    dsimp only at e
    cases hs : r.at E with
    | none => simp only [atAll, hs] at e; cases e
    | some s =>
      simp only [atAll, hs] at e
      obtain ⟨c, ec, rfl⟩ := Option.map_eq_some_iff.mp e
      unfold fSortSet at ec
      cases hq : s.seqL with
      | none => simp only [hq] at ec; cases ec
      | some ds =>
        simp only [hq] at ec
        cases hn : intsD ds with
        | none => simp only [hn] at ec; cases ec
        | some ns =>
          simp only [hn] at ec
          split at ec
          · next h64 =>
            cases ec
            refine h L R hd fun v F1 H1 f1 g1 a1 n1 o1 => ?_
            have R1 := R.grow g1
            obtain ⟨fq, ow⟩ := a1.own R1 hs
            obtain ⟨p, xs, rfl, hsq, da⟩ := ow.sqL R1.sub hq
            obtain rfl := intsD_dp da hn
            refine ⟨p, ns, rfl, hsq, h64, fun b c hb hc => ?_⟩
            have g2 : Grow F1 H1 [] F1 (upd H1 b (SetO w b (fun j => decide (j ∈ ns)) c)) [] := (Grow.alloc R1.sub hb).drop
            refine ⟨b, _, c, rfl, upd_same, by omega, fun ns' p2 hp hm hlen hn2 => ?_⟩
            have e2 : ns' = sortSet ns := sortSet_uniq hp fun k => by rw [hm k]; simp
            rw [e2]
            exact mk_lst (R1.grow g2).sub (ints_own _) (fun v F' H' fr g o nd of => q v F' H' fr (by simpa using (g1.drop.seq0 g2).seq0 g) o nd of) p2 hn2
          · cases ec
end Mv
/-! dicts of data: copies, of pairs, comprehensions, one more; the least of tuples -/
namespace Mv
open PySem PySem.Spec PyProof.Rows L2
variable {K : PySem.W.Frag} {F F' F1 F2 F3 H H' H1 H2 H3 : Hp} {v u x y w : V} {vs ws xs : List V} {s t c : S} {ss tts : List S} {fp fq fr fp' fp1 fp2 f1 f2 : List Addr} {ρ as : Ro} {E E' : En} {n : Nat}
variable {W : WXm} {te ta tb tc tk tv td : TE} {d da db dc dk dv : En → Option Rs} {tr : TA} {dr : En → Option (List Rs)} {de df : En → Option (S × En)} {tt : TT} {dte : En → Option (Bool × En)} {ds : List PyData} {Q : VK}

/-! ### dicts of data -/
abbrev KD := List (Key × PyData)
def dctD (l : Bool) (kds : KD) : S := .dct l (kds.map fun p => (p.1, S.dat p.2))
def kssD : List (Key × S) → Option KD
  | [] => some []
  | (k, .dat d) :: r => (kssD r).map ((k, d) :: ·)
  | _ => none
theorem kssD_eq : ∀ {kss : List (Key × S)} {kds : KD}, kssD kss = some kds → kss = kds.map fun p => (p.1, S.dat p.2)
  | [], _, e => by cases e; rfl
  | (k, .dat d) :: r, _, e => by
    simp only [kssD] at e
    obtain ⟨z, hz, rfl⟩ := Option.map_eq_some_iff.mp e
    rw [List.map_cons, ← kssD_eq hz]
  | (_, .con _) :: _, _, e => by simp [kssD] at e
  | (_, .lst _) :: _, _, e => by simp [kssD] at e
  | (_, .dct _ _) :: _, _, e => by simp [kssD] at e
  | (_, .ins _ _) :: _, _, e => by simp [kssD] at e
theorem kssD_map (kds : KD) : kssD (kds.map fun p => (p.1, S.dat p.2)) = some kds := by
  induction kds with
  | nil => rfl
  | cons p r ih => obtain ⟨k, d⟩ := p; simp [kssD, ih]
/-- a dict of data as it is laid -/
structure KDq (K : PySem.W.Frag) (F : Hp) (kvs : List (Key × V)) (kds : KD) : Prop where
  keys : kvs.map (·.1) = kds.map (·.1)
  vals : DqAll K F (kvs.map (·.2)) (kds.map (·.2))
theorem KDq.mono {kvs : List (Key × V)} {kds : KD} (h : KDq K F kvs kds) (k : ∀ b o, F b = some o → F' b = some o) : KDq K F' kvs kds := ⟨h.keys, DqAll.mono k h.vals⟩
theorem KDq.len {kvs : List (Key × V)} {kds : KD} (h : KDq K F kvs kds) : kvs.length = kds.length := by have := congrArg List.length h.keys; simpa using this
theorem KDq.own {kvs : List (Key × V)} {kds : KD} (h : KDq K F kvs kds) : OwnL K F H (kvs.map (·.2)) ((kds.map fun p => (p.1, S.dat p.2)).map (·.2)) [] := by
  have e : (kds.map fun p => (p.1, S.dat p.2)).map (·.2) = (kds.map (·.2)).map S.dat := by simp
  rw [e]
  exact dats_own (H := H) h.vals
theorem KDq.keysS {kvs : List (Key × V)} {kds : KD} (h : KDq K F kvs kds) : kvs.map (·.1) = (kds.map fun p => (p.1, S.dat p.2)).map (·.1) := by
  rw [h.keys]; simp
theorem KDq.of {kvs : List (Key × V)} {kss : List (Key × S)} {kds : KD} (hk : kvs.map (·.1) = kss.map (·.1)) (l : OwnL K F H (kvs.map (·.2)) (kss.map (·.2)) fq) (e : kssD kss = some kds) : KDq K F kvs kds ∧ fq = [] := by
  have e2 := kssD_eq e
  subst e2
  have : (kds.map fun p => (p.1, S.dat p.2)).map (·.2) = (kds.map (·.2)).map S.dat := by simp
  rw [this] at l
  obtain ⟨h1, h2⟩ := datsS_dp l (datsS_dats _)
  exact ⟨⟨by rw [hk]; simp, h1⟩, h2⟩
theorem DqAll.set {y : V} {d : PyData} : ∀ {i : Nat} {vs : List V} {ds : List PyData}, DqAll K F vs ds → Dq K F y d → DqAll K F (vs.set i y) (ds.set i d)
  | _, _, _, .nil, _ => by simpa using DqAll.nil
  | 0, _, _, .cons _ t, h => .cons h t
  | i + 1, _, _, .cons a t, h => .cons a (Mv.DqAll.set (i := i) t h)
theorem KDq.put {kvs : List (Key × V)} {kds : KD} {k : Key} {d : PyData} (h : KDq K F kvs kds) (nd : (kds.map (·.1)).Nodup) (hv : Dq K F v d) : KDq K F (putK kvs k v) (putS kds k d) := by
  rw [putK_kix v kvs (by rw [h.keys]; exact nd)]
  unfold putS
  rw [h.keys]
  split
  · next i hi =>
    exact ⟨by rw [setSnd_fst, setSnd_fst]; exact h.keys, by rw [setSnd_snd, setSnd_snd]; exact Mv.DqAll.set h.vals hv⟩
  · exact ⟨by simp [h.keys], by simpa using Mv.DqAll.append h.vals (.cons hv .nil)⟩
theorem putS_keys_nodup {α : Type} {kds : List (Key × α)} {k : Key} {d : α} (nd : (kds.map (·.1)).Nodup) : ((putS kds k d).map (·.1)).Nodup := by
  unfold putS
  split
  · rw [setSnd_fst]; exact nd
  · next hk =>
    rw [List.map_append]
    exact List.nodup_append.mpr ⟨nd, by simp, fun a m b m2 e => by
      simp at m2
      subst m2
      exact kix_mem hk (e ▸ m)⟩
def mergeD (acc more : KD) : KD := more.foldl (fun a p => putS a p.1 p.2) acc
theorem KDq.merge : ∀ {more : List (Key × V)} {mds : KD} {kvs : List (Key × V)} {kds : KD}, KDq K F kvs kds → (kds.map (·.1)).Nodup → KDq K F more mds → KDq K F (mergeK kvs more) (mergeD kds mds)
  | [], [], _, _, h, _, _ => h
  | [], _ :: _, _, _, _, _, m => by have := m.keys; simp at this
  | _ :: _, [], _, _, _, _, m => by have := m.keys; simp at this
  | (k, v) :: more, (k', d) :: mds, kvs, kds, h, nd, m => by
    have hk : k = k' := by have := m.keys; simp at this; exact this.1
    subst hk
    have hv := m.vals
    simp only [List.map_cons] at hv
    cases hv with
    | cons a t =>
      have mk := m.keys
      simp only [List.map_cons, List.cons.injEq, true_and] at mk
      show KDq K F (mergeK (putK kvs k v) more) (mergeD (putS kds k d) mds)
      exact KDq.merge (h.put nd a) (putS_keys_nodup nd) ⟨mk, t⟩
/-! ### dict(d) -/
def fDictD : List S → Option S
  | [.dct _ kss] => (kssD kss).map (dctD false)
  | _ => none
theorem rc_dictD : RvSC K (fun xs H Q => ∃ (a : Addr) (kvs : List (Key × V)), xs = [.ref a] ∧ Rd H a (.dK kvs) ∧ ∀ p, H p = none → Q (.ref p) (upd H p (.dK kvs))) fDictD := by
  intro F H vs ss c sub o e Q m
  unfold fDictD at e
  split at e
  · next l kss =>
    obtain ⟨kds, hd, rfl⟩ := Option.map_eq_some_iff.mp e
    obtain ⟨v, f, rfl, o1⟩ := o.one
    obtain ⟨a, kvs, u, fq, rfl, hH, hk, rd, hkk, ll, _⟩ := o1.dct_inv rfl
    obtain ⟨kq, rfl⟩ := KDq.of hkk ll hd
    exact ⟨a, kvs, rfl, rd, mk_dct sub kq.keysS kq.own m⟩
  · cases e
/-! ### dict(pairs) -/
def keyP : PyData → Option Key
  | .int i => some (.inl i)
  | .str x => some (.inr x)
  | _ => none
theorem keyP_dq {d : PyData} {k : Key} (h : Dq K F v d) (e : keyP d = some k) : v = kV k := by
  cases h <;> cases e <;> rfl
def pairsD : List PyData → Option KD
  | [] => some []
  | .tuple [a, b] :: r => match keyP a, pairsD r with
    | some k, some z => some ((k, b) :: z)
    | _, _ => none
  | _ => none
theorem pairs_of : ∀ {ds : List PyData} {xs : List V} {kds : KD}, DqAll K F xs ds → pairsD ds = some kds → ∃ (ps : List Addr) (kvs : List (Key × V)), xs = ps.map V.ref ∧ Paired (fun p kv => SqT K F p [kV kv.1, kv.2]) ps kvs ∧ KDq K F kvs kds
  | [], _, _, .nil, e => by cases e; exact ⟨[], [], rfl, .nil, ⟨rfl, .nil⟩⟩
  | .tuple [a, b] :: r, _, _, .cons h t, e => by
    simp only [pairsD] at e
    split at e
    · next k z ek er =>
      cases e
      obtain ⟨ps, kvs, h1, h2, h3⟩ := pairs_of t er
      obtain ⟨p, ys, rfl, hq, da⟩ := Mv.Dq.tuple_inv h
      cases da with
      | cons qa ta => cases ta with
        | cons qb tb =>
          cases tb
          have := keyP_dq qa ek
          subst this
          exact ⟨p :: ps, (k, _) :: kvs, by rw [h1]; rfl, .cons hq h2, ⟨by simp [h3.keys], .cons qb h3.vals⟩⟩
    · cases e
  | .tuple [] :: _, _, _, _, e => by simp [pairsD] at e
  | .tuple [_] :: _, _, _, _, e => by simp [pairsD] at e
  | .tuple (_ :: _ :: _ :: _) :: _, _, _, _, e => by simp [pairsD] at e
  | .none :: _, _, _, _, e => by simp [pairsD] at e
  | .bool _ :: _, _, _, _, e => by simp [pairsD] at e
  | .int _ :: _, _, _, _, e => by simp [pairsD] at e
  | .str _ :: _, _, _, _, e => by simp [pairsD] at e
  | .list _ :: _, _, _, _, e => by simp [pairsD] at e
  | .dict _ :: _, _, _, _, e => by simp [pairsD] at e
def fDictP : List S → Option S
  | [s] => match s.seqL with
    | some ds => (pairsD ds).map fun kds => dctD false (mergeD [] kds)
    | none => none
  | _ => none
theorem rc_dictP : RvSC K (fun xs H Q => ∃ (a : Addr) (ps : List Addr) (kvs : List (Key × V)), xs = [.ref a] ∧ SqL K H a (ps.map V.ref) ∧ Paired (fun p kv => SqT K H p [kV kv.1, kv.2]) ps kvs ∧
    ∀ p, H p = none → Q (.ref p) (upd H p (.dK (mergeK [] kvs)))) fDictP := by
  intro F H vs ss c sub o e Q m
  unfold fDictP at e
  split at e
  · next s =>
    split at e
    · next ds hd =>
      obtain ⟨kds, hp, rfl⟩ := Option.map_eq_some_iff.mp e
      obtain ⟨v, f, rfl, o'⟩ := o.one
      clear o
      have o := o'
      obtain ⟨a, xs, rfl, hq, da⟩ := o.sqL sub hd
      obtain ⟨ps, kvs, rfl, h2, h3⟩ := pairs_of da hp
      have kq : KDq K F (mergeK [] kvs) (mergeD [] kds) := KDq.merge ⟨rfl, .nil⟩ List.nodup_nil h3
      refine ⟨a, ps, kvs, rfl, hq, Paired.mapP h2 (fun p kv h => SqT.mono sub h), mk_dct sub kq.keysS kq.own m⟩
    · cases e
  · cases e
/-! ### {**d, k: v} -/
def dStar (da dk dv : En → Option Rs) (E : En) : Option Rs := match da E, dk E, dv E with
  | some (.pl p), some rk, some (.val (.dat d)) => match eget E p, rk.key with
    | some (.dct _ kss), some k => match kssD kss with
      | some kds => if kds.length < 1000 then some (.val (dctD false (putS (mergeD [] kds) k d))) else none
      | none => none
    | _, _ => none
  | _, _, _ => none
theorem mergeD_nodup : ∀ (more acc : KD), (acc.map (·.1)).Nodup → ((mergeD acc more).map (·.1)).Nodup
  | [], _, h => h
  | p :: r, acc, h => mergeD_nodup r _ (putS_keys_nodup h)
theorem p_star (ha : EvP K n as td da) (hk : EvP K n as tk dk) (hv : EvP K n as tv dv) : EvP K n as (tStar1 td tk tv) (dStar da dk dv) := by
  intro F H σ E fp L R r e Q q
  unfold dStar at e
  split at e
  · next pp rk d ea ek ev =>
    split at e
    · next l kss k es ekk =>
      split at e
      · next kds hkd =>
        split at e
        · next hlen =>
          cases e
          intro p hp
          have g0 : Grow F H [] F (upd H p (.dK [])) [p] := Grow.alloc R.sub hp
          have R0 := R.grow g0
          refine ha L R0 ea fun x F1 H1 f1 g1 a1 n1 o1 => ?_
          have R1 := R0.grow g1
          have gg : Grow F H [] F1 H1 [] := (g0.drop.seq0 g1).drop
          have Fp : F p = none := fresh_none R.sub hp
          have Fp1 : F1 p = none := g1.off p (by rw [upd_same]; exact fun z => nomatch z) (fun z => nomatch z) Fp
          have hHp : H1 p = some (.dK []) := g1.keep p _ upd_same (fun z => nomatch z)
          obtain ⟨b1, b2, b3⟩ := a1
          rw [R.core.follow_keep (fun b o e => gg.sub b o (gg.f b o e)) es fun a _ o e => gg.keep a o e (fun m => nomatch m)] at b2
          obtain ⟨u, k1, k2, e1, ow, _⟩ := R.core.take es
          rw [b2] at e1
          cases e1
          obtain ⟨o, more, hu, fq, rfl, hH, hhk, rd, hkk, ll, _⟩ := ow.dct_inv rfl
          have op : o ≠ p := fun z => by rw [z, hp] at hH; cases hH
          obtain ⟨kq, _⟩ := KDq.of hkk ll hkd
          have rd1 : Rd H1 o (.dK more) := by
            rcases rd with z | ⟨ob, z⟩
            · exact .inl (gg.keep o _ z (fun m => nomatch m))
            · exact .inr ⟨ob, gg.keep o _ z (fun m => nomatch m)⟩
          refine ⟨o, more, rfl, op, rd1, hHp, by rw [kq.len]; exact hlen, fun qa hq => ?_⟩
          have pfp : p ∉ fp := fun m => by obtain ⟨w, hw⟩ := R.there p m; rw [hp] at hw; cases hw
          have g2 : Grow F1 H1 [p] F1 (upd H1 p (.dK (mergeK [] more))) [p] := Grow.write R1.sub Fp1
          have R2 := R1.grow2 g2 (fun a m m2 => pfp (by rw [← List.mem_singleton.mp m2]; exact m))
          have g3 : Grow F1 (upd H1 p (.dK (mergeK [] more))) [] F1 (upd (upd H1 p (.dK (mergeK [] more))) qa (.dK [])) [qa] := Grow.alloc R2.sub hq
          have R3 := R2.grow g3
          have qp : qa ≠ p := fun z => by rw [z, upd_same] at hq; cases hq
          have Fq1 : F1 qa = none := fresh_none R2.sub hq
          refine hk L R3 ek fun y F4 H4 f4 g4 a4 n4 o4 => hv L (R3.grow g4) ev fun z F5 H5 f5 g5 a5 n5 o5 => ?_
          have R5 := (R3.grow g4).grow g5
          have g45 : Grow F1 (upd (upd H1 p (.dK (mergeK [] more))) qa (.dK [])) [] F5 H5 [] := (g4.seq0 g5).drop
          have hq5 : H5 qa = some (.dK []) := g45.keep qa _ upd_same (fun m => nomatch m)
          have hp5 : H5 p = some (.dK (mergeK [] more)) := g45.keep p _ (by rw [upd_ne (Ne.symm qp), upd_same]) (fun m => nomatch m)
          have Fp5 : F5 p = none := g45.off p (by rw [upd_ne (Ne.symm qp), upd_same]; exact fun z => nomatch z) (fun m => nomatch m) Fp1
          have Fq5 : F5 qa = none := g45.off qa (by rw [upd_same]; exact fun z => nomatch z) (fun m => nomatch m) Fq1
          have ky := a4.key ekk
          have dz := (Own.dat_inv (show Own K F5 H5 z _ f5 from a5) rfl).1
          refine ⟨hq5, hp5, k, ky, ?_⟩
          have f15 : ∀ b o, F b = some o → F5 b = some o := fun b o e => g45.f b o (gg.f b o e)
          have kq5 : KDq K F5 (putK (mergeK [] more) k z) (putS (mergeD [] kds) k d) := (KDq.merge (kvs := []) (kds := []) ⟨rfl, .nil⟩ List.nodup_nil (kq.mono f15)).put (mergeD_nodup _ _ List.nodup_nil) dz
          generalize hX : HO.dK (mergeK [] [(k, z)]) = X
          generalize hY : putK (mergeK [] more) k z = Y at kq5
          have g6 : Grow F5 H5 [qa] F5 (upd H5 qa X) [qa] := Grow.write R5.sub Fq5
          have g7 : Grow F5 (upd H5 qa X) [p] F5 (upd (upd H5 qa X) p (.dK Y)) [p] := Grow.write g6.sub Fp5
          have gA : Grow F H [] F1 H1 [p] := g0.trans ((g1.ours [p]).less fun a m => List.mem_append_right _ m)
          have gB : Grow F H [] F5 H5 ([] ++ ([qa] ++ [p])) := ((gA.trans g2).trans (g3.ours [p])).trans (g45.ours ([qa] ++ [p]))
          have gC : Grow F H [] F5 (upd H5 qa X) [qa, p] := gB.trans (g6.wide (fun a m => by rw [List.mem_singleton.mp m]; simp) fun a m => .inl (by simpa using m))
          have gD : Grow F H [] F5 (upd (upd H5 qa X) p (.dK Y)) [p] := gC.trans (g7.wide (fun a m => List.mem_cons_of_mem _ m) fun a m => .inl (List.mem_cons_of_mem _ m))
          exact q (.ref p) F5 _ [p] gD (dct_write kq5.keysS kq5.own) (by simp) fun a m => by rw [List.mem_singleton.mp m]; exact Fp5
        · cases e
      · cases e
    · cases e
  · cases e
/-! ### {k: v for ..} -/
def dDcLoop (rd : En → Nat → Option (Option Rs)) (j : Nat) (dt : En → Option (Bool × En)) (dk dv : En → Option (S × En)) : Nat → Nat → KD → En → Option (KD × En)
  | fuel, i, acc, E => match rd E i with
    | none => none
    | some none => some (acc, E)
    | some (some r) => match fuel with
      | 0 => none
      | fuel + 1 => match bName j r E with
        | none => none
        | some E1 => match dt E1 with
          | some (true, E2) => match dk E2 with
            | some (.dat a, E3) => match keyP a, dv E3 with
              | some k, some (.dat d, E4) => if acc.length < 100000 then dDcLoop rd j dt dk dv fuel (i + 1) (putS acc k d) (slotSet E4 j .no) else none
              | _, _ => none
            | _ => none
          | some (false, E2) => dDcLoop rd j dt dk dv fuel (i + 1) acc (slotSet E2 j .no)
          | none => none
def eDc (src : En → Option Src) (j : Nat) (dt : En → Option (Bool × En)) (dk dv : En → Option (S × En)) (E : En) : Option (S × En) := match src E with
  | some c => match dDcLoop c.rd j dt dk dv c.fuel 0 [] (slotSet (c.env ++ c.exE) j .no) with
    | some (acc, E') => some (dctD false acc, stripE c E')
    | none => none
  | none => none
theorem e_dc {wi : TI} {src : En → Option Src} {j : Nat} (hj : j < n) (hi : EvI K n as wi src) (ht : ∀ as, EvTE K n as tt dte) (hk : ∀ as, EvE K n as tk de) (he : ∀ as, EvE K n as tv df) : EvE K n as (tDc wi (gName j) tt tk tv [j]) (eDc src j dte de df) := by
  intro F H σ E fp L R s0 E0 e Q q
  unfold eDc at e
  split at e
  · next c ec =>
    split at e
    · next acc0 E9 hd =>
      cases e
      refine hi L R ec fun J F1 H1 ex fpx g1' R1 hx spec => fun D hD => ?_
      have hjl : j < (σ ++ (as ++ ex.map some)).length := by rw [List.length_append]; omega
      have wl : ∀ w, (σ.set j w) ++ (as ++ ex.map some) = (σ ++ (as ++ ex.map some)).set j w := fun w => set_app (by omega)
      have gD : Grow F1 H1 [] F1 (upd H1 D (.dK [])) [D] := Grow.alloc R1.sub hD
      obtain ⟨fw, Rw, sbw⟩ := (R1.grow gD).wipe hjl none
      rw [← wl none] at Rw
      have back : ((σ.set j none) ++ (as ++ ex.map some)).set j (σ[j]?.getD none) = σ ++ (as ++ ex.map some) := by
        rw [wl none, List.set_set]
        apply List.ext_getElem?
        intro i
        by_cases ij : j = i
        · subst ij
          have h1 : j < σ.length := by omega
          rw [List.getElem?_set_self hjl, List.getElem?_append_left h1, List.getElem?_eq_getElem h1]; rfl
        · rw [List.getElem?_set_ne ij]
      refine ⟨fun i m Hm => ∃ Fm Em fpm accV accD, Grow F1 H1 fpx Fm Hm (D :: fpm) ∧ Rep K Fm Hm ((σ.set j none) ++ (as ++ ex.map some)) Em fpm ∧ Em[j]? = some Sl.no ∧ Hm D = some (.dK accV) ∧ KDq K Fm accV accD ∧ (accD.map (·.1)).Nodup ∧
          D ∉ fpm ∧ Fm D = none ∧ dDcLoop c.rd j dte de df m i accD Em = some (acc0, E9),
        ⟨c.fuel, F1, _, fw, [], [], ?_, Rw, ?_, upd_same, ⟨rfl, .nil⟩, List.nodup_nil, ?_, fresh_none R1.sub hD, hd⟩, fun i m Hm hW => ?_⟩
      · have := gD.wide (fq := fpx) (fr := D :: fw) (fun _ m => nomatch m) fun a m => ?_
        · exact this
        · rcases List.mem_cons.mp m with rfl | m
          · exact .inr hD
          · exact .inl (sbw a m)
      · unfold slotSet
        rw [List.getElem?_set_self]
        rw [List.length_map, R1.core.len]; exact hjl
      · intro m
        obtain ⟨o, eo⟩ := R1.there D (sbw D m)
        rw [hD] at eo; cases eo
      · obtain ⟨Fm, Em, fpm, accV, accD, gm, Rm, hno, hHD, kacc, knd, nD, FD, hl⟩ := hW
        have gm' : Grow F1 H1 fpx Fm Hm fpm := gm.less fun a m => List.mem_cons_of_mem _ m
        obtain ⟨sp1, sp2⟩ := spec Fm Hm (σ.set j none) Em fpm (by rw [List.length_set]; exact L) gm' Rm i
        rw [dDcLoop.eq_def] at hl
        dsimp only at hl
        cases hr : c.rd Em i with
        | none => rw [hr] at hl; cases hl
        | some r0 => cases r0 with
          | none =>
            rw [hr] at hl
            cases hl
            refine .inl ⟨sp2 hr, ?_⟩
            have R3 : Rep K Fm Hm (σ ++ (as ++ ex.map some)) E9 fpm := by
              have := Rm.forget (σ[j]?.getD none) hno
              rw [back] at this
              exact this
            obtain ⟨fq9, R4, sb9⟩ := stripE_rep R3 hx
            have ow : Own K Fm Hm (.ref D) (dctD false acc0) [D] := by
              have := Own.node (K := K) (F := Fm) (H := Hm) (s := dctD false acc0) (ex := []) hHD (show Head _ Hm D (.dK accV) (dctD false acc0) [] from ⟨rfl, kacc.keysS⟩) kacc.own
              simpa using this
            refine q (.ref D) Fm Hm [D] fq9 (g1'.trans (gm.less fun a m => ?_)) R4 ow ?_ fun a m => by rw [List.mem_singleton.mp m]; exact FD
            · rcases List.mem_append.mp m with m | m
              · rw [List.mem_singleton.mp m]; exact List.mem_cons_self
              · exact List.mem_cons_of_mem _ (sb9 a m)
            · exact List.nodup_cons.mpr ⟨fun m => nD (sb9 D m), R4.nd⟩
          | some r =>
            rw [hr] at hl
            dsimp only at hl
            obtain ⟨go, yl⟩ := sp1 r hr
            cases m with
            | zero => cases hl
            | succ m =>
              dsimp only at hl
              refine .inr ⟨go, fun H' => ∃ Fm Em fpm accV accD, Grow F1 H1 fpx Fm H' (D :: fpm) ∧ Rep K Fm H' ((σ.set j none) ++ (as ++ ex.map some)) Em fpm ∧ Em[j]? = some Sl.no ∧ H' D = some (.dK accV) ∧ KDq K Fm accV accD ∧ (accD.map (·.1)).Nodup ∧
                D ∉ fpm ∧ Fm D = none ∧ dDcLoop c.rd j dte de df m (i + 1) accD Em = some (acc0, E9), fun H' hN => ⟨m, Nat.lt_succ_self m, hN⟩, fun x H' hy => ?_⟩
              obtain ⟨rfl, ar⟩ := yl x H' hy
              split at hl
              · cases hl
              · next E1 e1 =>
                show wipe ((σ.set j none).set j (some x)) [j] = wipe σ [j] ∧ _
                refine ⟨by show ((σ.set j none).set j (some x)).set j none = σ.set j none; rw [List.set_set, List.set_set], ?_⟩
                have hLw : ((σ.set j none).set j (some x)).length = n := by rw [List.length_set, List.length_set]; exact L
                have hjw : j < (σ.set j none ++ (as ++ ex.map some)).length := by rw [List.length_append, List.length_set]; omega
                have hR1 : ∃ fq, Rep K Fm H' (((σ.set j none).set j (some x)) ++ (as ++ ex.map some)) E1 fq ∧ ∀ a ∈ fq, a ∈ fpm := by
                  rw [show ((σ.set j none).set j (some x)) ++ (as ++ ex.map some) = (σ.set j none ++ (as ++ ex.map some)).set j (some x) from set_app (by rw [List.length_set]; omega)]
                  cases r with
                  | val s =>
                    cases e1
                    obtain ⟨fq, k1, k2⟩ := Rm.setSlot (e := .own s) (fr := []) hjw ar Rm.nd (fun _ m => nomatch m)
                    exact ⟨fq, k1, fun a m => by simpa using k2 a m⟩
                  | pl p =>
                    unfold bName at e1
                    dsimp only at e1
                    split at e1
                    · cases e1
                    · next hp =>
                      cases e1
                      obtain ⟨a1, a2, a3⟩ := ar
                      obtain ⟨fq, k1, k2⟩ := Rm.setSlot (e := .bor p) (fr := []) hjw ⟨rfl, hp, a2, a3⟩ Rm.nd (fun _ m => nomatch m)
                      exact ⟨fq, k1, fun a m => by simpa using k2 a m⟩
                obtain ⟨fq, R1', sb1⟩ := hR1
                have asideD : D ∉ fq := fun m => nD (sb1 D m)
                have gfq : Grow F1 H1 fpx Fm H' ([D] ++ fq) := gm.less fun a m => by
                  rcases List.mem_append.mp m with m | m
                  · rw [List.mem_singleton.mp m]; exact List.mem_cons_self
                  · exact List.mem_cons_of_mem _ (sb1 a m)
                have keepD : ∀ {F3 H3 fp3}, Grow Fm H' fq F3 H3 fp3 → H3 D = some (.dK accV) ∧ KDq K F3 accV accD ∧ F3 D = none ∧ D ∉ fp3 := fun {F3 H3 fp3} g3 => by
                  refine ⟨g3.keep D _ hHD asideD, kacc.mono g3.f, g3.off D (by rw [hHD]; exact fun z => nomatch z) asideD FD, fun m2 => ?_⟩
                  rcases g3.new D m2 with z | z
                  · exact asideD z
                  · rw [hHD] at z; cases z
                split at hl
                · next E2 e2 =>
                  split at hl
                  · next a3 E3 e3 =>
                    split at hl
                    · next k4 d4 E4 ek4 e4 =>
                      split at hl
                      · next hlen =>
                        refine ht _ hLw R1' e2 fun F2 H2 fp2 g2 R2 => iteT (hk _ hLw R2 e3 fun y F3 H3 fr3 fp3 g3 R3 ow3 nd3 of3 => he _ hLw R3 e4 fun z F4 H4 fr4 fp4 g4 R4 ow4 nd4 of4 => ?_)
                        have g24 : Grow Fm H' fq F4 H4 (fr4 ++ fp4) := (g2.trans (g3.less fun a m => List.mem_append_right _ m)).trans g4
                        obtain ⟨kD, kacc4, koff, kas⟩ := keepD g24
                        have ky := keyP_dq (ow3.dat_inv rfl).1 ek4
                        have dz := (ow4.dat_inv rfl).1
                        refine ⟨accV, k4, ky, kD, by rw [kacc.len, sizeLine_eq]; omega, ?_⟩
                        have hjw4 : j < (((σ.set j none).set j (some x)) ++ (as ++ ex.map some)).length := by rw [List.length_append, hLw]; omega
                        obtain ⟨fq5, R5, sb5⟩ := R4.wipe hjw4 none
                        rw [← show (((σ.set j none).set j (some x)).set j none) ++ (as ++ ex.map some) = (((σ.set j none).set j (some x)) ++ (as ++ ex.map some)).set j none from set_app (by omega), List.set_set, List.set_set] at R5
                        have gw : Grow F4 H4 [D] F4 (upd H4 D (.dK (putK accV k4 z))) [D] := Grow.write R4.sub koff
                        have D5 : D ∉ fq5 := fun m => kas (List.mem_append_right _ (sb5 D m))
                        have R6 := R5.grow2 gw (fun a m m2 => D5 (by rw [← List.mem_singleton.mp m2]; exact m))
                        refine ⟨F4, slotSet E4 j .no, fq5, putK accV k4 z, putS accD k4 d4, ?_, R6, ?_, upd_same, kacc4.put knd dz, putS_keys_nodup knd, D5, koff, hl⟩
                        · have ga : Grow F1 H1 fpx F4 H4 ([D] ++ (fr4 ++ fp4)) := gfq.trans (g24.beside [D])
                          have gb : Grow F4 H4 ([D] ++ (fr4 ++ fp4)) F4 (upd H4 D (.dK (putK accV k4 z))) (D :: fq5) := gw.wide (fun a m => List.mem_append_left _ m) fun a m => by
                            left
                            rcases List.mem_cons.mp m with rfl | m
                            · exact List.mem_append_left _ (List.mem_singleton.mpr rfl)
                            · exact List.mem_append_right _ (List.mem_append_right _ (sb5 a m))
                          exact ga.trans gb
                        · unfold slotSet
                          rw [List.getElem?_set_self]
                          rw [List.length_map, R4.core.len]; exact hjw4
                      · cases hl
                    · cases hl
                  · cases hl
                · next E2 e2 =>
                  refine ht _ hLw R1' e2 fun F3 H3 fp3 g3 R3 => iteF ?_
                  obtain ⟨kD, kacc3, koff, kas⟩ := keepD g3
                  have hjw4 : j < (((σ.set j none).set j (some x)) ++ (as ++ ex.map some)).length := by rw [List.length_append, hLw]; omega
                  obtain ⟨fq5, R5, sb5⟩ := R3.wipe hjw4 none
                  rw [← show (((σ.set j none).set j (some x)).set j none) ++ (as ++ ex.map some) = (((σ.set j none).set j (some x)) ++ (as ++ ex.map some)).set j none from set_app (by omega), List.set_set, List.set_set] at R5
                  refine ⟨F3, slotSet E2 j .no, fq5, accV, accD, ?_, R5, ?_, kD, kacc3, knd, fun m => kas (sb5 D m), koff, hl⟩
                  · exact (gfq.trans (g3.beside [D])).less fun a m => by
                      rcases List.mem_cons.mp m with rfl | m
                      · exact List.mem_append_left _ (List.mem_singleton.mpr rfl)
                      · exact List.mem_append_right _ (sb5 a m)
                  · unfold slotSet
                    rw [List.getElem?_set_self]
                    rw [List.length_map, R3.core.len]; exact hjw4
                · cases hl
    · cases e
  · cases e
/-! ### min of tuples of ints -/
open PySem.W (alike alikeAll AlikeAll minD)
def tupI : PyData → Bool
  | .tuple ds => (intsD ds).isSome
  | _ => false
def fMinD : List S → Option S
  | [s] => match s.seqL with
    | some (d :: ds) => if (d :: ds).all tupI = true then some (.dat (minD d ds)) else none
    | _ => none
  | _ => none
theorem alikeAll_ints : ∀ (xs ys : List PyData), (intsD xs).isSome = true → (intsD ys).isSome = true → alikeAll xs ys = true
  | [], ys, _, _ => by cases ys <;> rfl
  | .int i :: xs, [], _, _ => rfl
  | .int i :: xs, .int j :: ys, hx, hy => by
    simp only [intsD, Option.isSome_map] at hx hy
    simp [PySem.W.alikeAll, PySem.W.alike, alikeAll_ints xs ys hx hy]
  | .int i :: xs, .none :: ys, _, hy => by simp [intsD] at hy
  | .int i :: xs, .bool _ :: ys, _, hy => by simp [intsD] at hy
  | .int i :: xs, .str _ :: ys, _, hy => by simp [intsD] at hy
  | .int i :: xs, .list _ :: ys, _, hy => by simp [intsD] at hy
  | .int i :: xs, .tuple _ :: ys, _, hy => by simp [intsD] at hy
  | .int i :: xs, .dict _ :: ys, _, hy => by simp [intsD] at hy
  | .none :: _, _, hx, _ => by simp [intsD] at hx
  | .bool _ :: _, _, hx, _ => by simp [intsD] at hx
  | .str _ :: _, _, hx, _ => by simp [intsD] at hx
  | .list _ :: _, _, hx, _ => by simp [intsD] at hx
  | .tuple _ :: _, _, hx, _ => by simp [intsD] at hx
  | .dict _ :: _, _, hx, _ => by simp [intsD] at hx
theorem alike_tupI {a b : PyData} (ha : tupI a = true) (hb : tupI b = true) : alike a b = true := by
  cases a <;> cases b <;> simp [tupI] at ha hb
  simp only [PySem.W.alike]
  exact alikeAll_ints _ _ ha hb
theorem depthAll_ints : ∀ (xs : List PyData), (intsD xs).isSome = true → PyData.depthAll xs ≤ 1
  | [], _ => by simp [PyData.depthAll]
  | .int i :: xs, hx => by
    simp only [intsD, Option.isSome_map] at hx
    have := depthAll_ints xs hx
    simp only [PyData.depthAll, PyData.depth]
    omega
  | .none :: _, hx => by simp [intsD] at hx
  | .bool _ :: _, hx => by simp [intsD] at hx
  | .str _ :: _, hx => by simp [intsD] at hx
  | .list _ :: _, hx => by simp [intsD] at hx
  | .tuple _ :: _, hx => by simp [intsD] at hx
  | .dict _ :: _, hx => by simp [intsD] at hx
theorem depthAll_tupI : ∀ (xs : List PyData), xs.all tupI = true → PyData.depthAll xs ≤ 2
  | [], _ => by simp [PyData.depthAll]
  | x :: xs, h => by
    simp only [List.all_cons, Bool.and_eq_true] at h
    have h2 := depthAll_tupI xs h.2
    have h1 : PyData.depth x ≤ 2 := by
      have h1 := h.1
      cases x <;> simp [tupI] at h1
      have := depthAll_ints _ h1
      simp only [PyData.depth]
      omega
    simp only [PyData.depthAll]
    omega
theorem rc_minD {X : Cx} (hu : X.A.units + 64 < cLine) : RvSC X.K (rMinD X) fMinD := by
  intro F H vs ss c sub o e Q m
  unfold fMinD at e
  split at e
  · next s =>
    split at e
    · next d ds hd =>
      split at e
      · next hall =>
        cases e
        obtain ⟨v, f, rfl, o'⟩ := o.one
        clear o
        have o := o'
        obtain ⟨a, xs, rfl, hq, da⟩ := o.sqL sub hd
        have hal : ∀ x ∈ d :: ds, tupI x = true := List.all_eq_true.mp hall
        refine ⟨a, xs, d, ds, rfl, hq, (DqAll.mono sub da).dp, ⟨fun x hx y hy => alike_tupI (hal x hx) (hal y hy), fun x hx z => by have := hal x hx; rw [z] at this; cases this⟩, ?_, fun i v hv hi => ?_⟩
        · have := depthAll_tupI (d :: ds) hall
          omega
        · obtain ⟨w, hw, dw⟩ := Mv.DqAll.nth da hi
          rw [hv] at hw
          cases hw
          exact mk_dat sub dw m
      · cases e
    · cases e
  · cases e
end Mv
/-! what a slot holds handed back; odds and ends for the terms that are printed -/
namespace Mv
open PySem PySem.Spec PyProof.Rows L2
variable {K : PySem.W.Frag} {F F' F1 F2 F3 H H' H1 H2 H3 : Hp} {v u x y w : V} {vs ws xs : List V} {s t c : S} {ss tts : List S} {fp fq fr fp' fp1 fp2 f1 f2 : List Addr} {ρ as : Ro} {E E' : En} {n : Nat}
variable {W : WXm} {te ta tb tc tk tv td : TE} {d da db dc dk dv : En → Option Rs} {tr : TA} {dr : En → Option (List Rs)} {de df : En → Option (S × En)} {tt : TT} {dte dtf : En → Option (Bool × En)} {ds : List PyData} {Q : VK}

theorem rootS_killNo {i : Nat} : ∀ {ρ : Ro} {E : En} {v : Option V}, E.length = ρ.length → ρ[i]? = some v → rootS ρ (slotSet E i .no) = (rootS ρ E).set i (.con (v.getD .non)) := by
  intro ρ E v l h
  have hi := (List.getElem?_eq_some_iff.mp h).1
  have e1 : ρ = ρ.set i v := by
    apply List.ext_getElem?
    intro j
    by_cases ij : i = j
    · subst ij; rw [List.getElem?_set_self hi, h]
    · rw [List.getElem?_set_ne ij]
  have := rootS_set2 (ρ := ρ) (E := E.map (killHead i)) (i := i) (v := v) (e := .no) (by rw [List.length_map]; exact l)
  rw [← e1, rootS_killHead] at this
  unfold slotSet
  rw [this]
  rfl
theorem Rep.takeSlot {i : Nat} (R : Rep K F H ρ E fp) (hE : E[i]? = some (Sl.own s)) (hv : ρ[i]? = some (some v)) :
    ∃ fr fq, Own K F H v s fr ∧ Rep K F H ρ (slotSet E i .no) fq ∧ fp.Perm (fr ++ fq) := by
  obtain ⟨f, l, pm⟩ := R.core.own
  have len := R.core.len
  obtain ⟨x, g1, g2, e1, o1, l2, p1⟩ := l.take (rootS_get len hE)
  have ex : x = v := by
    unfold rootV at e1
    rw [List.getElem?_map, hv] at e1
    simpa using e1.symm
  subst ex
  have hi := (List.getElem?_eq_some_iff.mp hv).1
  have pm2 : fp.Perm (g1 ++ g2) := pm.trans p1
  have nd := pm2.nodup_iff.mp R.nd
  have hEl : i < E.length := by omega
  refine ⟨g1, g2, o1, ⟨⟨by unfold slotSet; rw [List.length_set, List.length_map]; exact len, ⟨g2, ?_, List.Perm.refl _⟩, fun j z hj => ?_⟩, R.sub, (List.nodup_append.mp nd).2.1, fun a m => R.off a (pm2.mem_iff.mpr (List.mem_append_right _ m)), fun j p hb => ?_⟩, pm2⟩
  · rw [rootS_killNo len hv]; exact l2
  · by_cases ij : i = j
    · subst ij; exact ⟨_, hv⟩
    · unfold slotSet at hj
      rw [List.getElem?_set_ne ij] at hj
      exact R.core.set j z ((killHead_get E j z).mp hj)
  · by_cases ij : i = j
    · subst ij
      unfold slotSet at hb
      rw [List.getElem?_set_self (by rw [List.length_map]; exact hEl)] at hb
      cases hb
    · unfold slotSet at hb
      rw [List.getElem?_set_ne ij, List.getElem?_map] at hb
      cases hE2 : E[j]? with
      | none => rw [hE2] at hb; cases hb
      | some sl =>
        rw [hE2] at hb
        cases sl with
        | no => cases hb
        | own w => cases hb
        | bor q =>
          simp only [Option.map_some, killHead, Option.some.injEq] at hb
          by_cases hq : q.head? = some i
          · rw [if_pos hq] at hb; cases hb
          · rw [if_neg hq] at hb
            cases hb
            obtain ⟨w, e1, e2, e3⟩ := R.bor j _ hE2
            exact ⟨w, e1, e2, by rw [eget_set hq]; exact e3⟩
def eMove (i : Nat) (E : En) : Option (S × En) := match E[i]? with
  | some (.own s) => some (s, slotSet E i .no)
  | _ => none
theorem e_move {i : Nat} (hi : i < n) : EvE K n as (tVar i) (eMove i) := by
  intro F H σ E fp L R s0 E0 e Q q
  unfold eMove at e
  split at e
  · next s he =>
    cases e
    obtain ⟨v, hv⟩ := R.core.set i _ he
    have hv' : σ[i]? = some (some v) := by rwa [List.getElem?_append_left (by omega)] at hv
    obtain ⟨fr, fq, ow, R2, pm⟩ := R.takeSlot he hv
    exact ⟨v, hv', q v F H fr fq ((Grow.refl R.sub fp).less fun a m => pm.mem_iff.mpr m) R2 ow (pm.nodup_iff.mp R.nd) fun a m => R.off a (pm.mem_iff.mpr (List.mem_append_left _ m))⟩
  · cases e
def dLenD (d : En → Option Rs) (E : En) : Option Rs := match d E with
  | some r => match r.at E with
    | some (.dct false kss) => some (.val (.dat (.int (kss.length : Nat))))
    | _ => none
  | none => none
theorem p_lenD (h : EvP K n as te d) : EvP K n as (tCB (fun xs H Q => ∃ a kvs, xs = [V.ref a] ∧ H a = some (.dK kvs) ∧ Q (.int kvs.length) H) (tCons te tNil)) (dLenD d) := by
  intro F H σ E fp L R r e Q q
  unfold dLenD at e
  split at e
  · next r1 ed =>
    split at e
    · next kss es =>
      cases e
      refine h L R ed fun v F1 H1 f1 g1 a1 n1 o1 => ?_
      obtain ⟨fq, ow⟩ := a1.own (R.grow g1) es
      obtain ⟨a, kvs, u, fq', rfl, hH, hk, rd, hkk, ll, z⟩ := ow.dct_inv rfl
      have len : kvs.length = kss.length := by have := congrArg List.length hkk; simpa using this
      exact ⟨a, kvs, rfl, (z rfl).1, by rw [len]; exact q _ F1 H1 [] g1.drop (.dat (.int _)) List.nodup_nil (fun _ m => nomatch m)⟩
    · cases e
  · cases e
theorem dl_nil : ∀ E rs, dNil E = some rs → rs.length = 0 := fun E rs h => by cases h; rfl
theorem dl_cons {m : Nat} (h : ∀ E rs, dr E = some rs → rs.length = m) : ∀ E rs, dCons da dr E = some rs → rs.length = m + 1 := fun E rs e => by
  unfold dCons at e
  split at e
  · next a r ea er => cases e; rw [List.length_cons, h E r er]
  · cases e
def eIfE (dt : En → Option (Bool × En)) (da db : En → Option (S × En)) (E : En) : Option (S × En) := match dt E with
  | some (true, E1) => da E1
  | some (false, E1) => db E1
  | none => none
theorem e_ifE (ht : EvTE K n as tt dte) (ha : EvE K n as ta de) (hb : EvE K n as tb df) : EvE K n as (tIf tt ta tb) (eIfE dte de df) := by
  intro F H σ E fp L R s E' e Q q
  unfold eIfE at e
  split at e
  · next E1 et => exact ht L R et fun F1 H1 fp1 g1 R1 => iteT (ha L R1 e fun v F2 H2 fr fp2 g2 => q v F2 H2 fr fp2 (g1.trans g2))
  · next E1 et => exact ht L R et fun F1 H1 fp1 g1 R1 => iteF (hb L R1 e fun v F2 H2 fr fp2 g2 => q v F2 H2 fr fp2 (g1.trans g2))
  · cases e
/-- the promise of nothing -/
def gNone (_ : List S) : Option (S × List S) := none
/-- a promise that says less -/
theorem spMv_le {m : Nat} {g g' : List S → Option (S × List S)} (h : ∀ ss r, g' ss = some r → g ss = some r) {H : Hp} {E : XK} (p : spMv K m g' vs H Q E) : spMv K m g vs H Q E := by
  obtain ⟨hl, F, ss, fp, s, ss', sub, l, nd, of, hg, q⟩ := p
  exact ⟨hl, F, ss, fp, s, ss', sub, l, nd, of, h _ _ hg, q⟩
theorem fn_le {P : Program} {w : World} {mg : Str → Option Value} {base : Heap} {CX : CXT} {k m : Nat} {f : Addr} {fd : FuncData} {ps : List Str} {g g' : List S → Option (S × List S)} (G : FnOk P w K mg base CX k f fd ps (spMv K m g)) (h : ∀ ss r, g' ss = some r → g ss = some r) :
    FnOk P w K mg base CX k f fd ps (spMv K m g') := G.imp fun vs H Q E p => spMv_le h p
theorem fn_none {P : Program} {w : World} {mg : Str → Option Value} {base : Heap} {CX : CXT} {k : Nat} {f : Addr} {fd : FuncData} {ps : List Str} : FnOk P w K mg base CX k f fd ps (spMv K ps.length gNone) :=
  ⟨fun vs H Q E h => h.1, fun A outer s H args us vs Q E hr he hb hv h => by
    obtain ⟨_, F, ss, fp, s, ss', sub, l, nd, of, hg, q⟩ := h
    cases hg⟩
end Mv
/-! x = {k: v for ..} -/
namespace L2
open PySem PySem.Spec PyProof.Rows
section
variable {X : Cx}
theorem ps_setDc {i : Nat} {y : Str} {py pos spos : Pos} {kx vx tg iter : Expr} {ifs : List Expr} {scope : Scope} {own : List (Str × Nat)} {wi : TI} {g : TG} {tt : TT} {tk tv : TE}
    (calm : X.calm = true) (nd : X.N.Nodup) (at_i : X.N[i]? = some y) (loc : X.env.scope.names.lookup y = some .local)
    (sw : swapsWith (.DictComp kx vx [⟨tg, iter, ifs, 0⟩] scope pos) (some (.Name y py)) spos.line X.env = pure true) (walk : PI X tg iter wi) (blk : BlkOk X.N X.env.scope scope own)
    (pg : ∀ (s : Shared) (H : Hp) (C : Addr) (l : List (Str × Addr)) (fp : List Addr), PG (X.blk s H scope (compEnvC scope l C X.env) fp) tg g) (pts : ∀ (s : Shared) (H : Hp) (C : Addr) (l : List (Str × Addr)) (fp : List Addr), PTs (X.blk s H scope (compEnvC scope l C X.env) fp) ifs tt)
    (pk : ∀ (s : Shared) (H : Hp) (C : Addr) (l : List (Str × Addr)) (fp : List Addr), PE (X.blk s H scope (compEnvC scope l C X.env) fp) kx tk)
    (pv : ∀ (s : Shared) (H : Hp) (C : Addr) (l : List (Str × Addr)) (fp : List Addr), PE (X.blk s H scope (compEnvC scope l C X.env) fp) vx tv) (fold : ∀ x, foldedSetIterable iter X.env x = pure x := by intro _; rfl) :
    PS X (.Assign [.Name y py] (.DictComp kx vx [⟨tg, iter, ifs, 0⟩] scope pos) spos) (tAsg (tDc wi g tt tk tv (own.map (·.2))) (gName i)) := by
  constructor
  intro pn st σ H D inv want
  rw [exec_Assign_Name_used _ _ _ _ sw]
  refine wpAny_bind <| wpAny_standAt <| wpAny_bind ?_
  show wpAny _ X.A (do let _ ← comprehension (.DictComp kx vx [⟨tg, iter, ifs, 0⟩] scope pos) scope X.env (firstIterPos [⟨tg, iter, ifs, 0⟩] pos) newDict false (eval iter X.env) (some (assign (.Name y py) X.env))) _ _ st
  have want' : tDc wi g tt tk tv (own.map (·.2)) σ H (fun x H1 => gName i x σ H1 D.nx) := want
  refine wpAny_bind (thn (dc_core (Qf := fun _ s' => SP X pn D .next s') calm nd inv walk blk pg pts pk pv fold want' fun L C s' m H' inv' q names fp => ?_) fun _ _ z => wpAny_pure (wpAny_pure z))
  show wpAny _ _ (assign (.Name y py) X.env (.ref L)) _ _ _
  refine wpAny_assign_Name (store_ok2 (v := V.ref L) inv' nd at_i (.inl loc) rfl (fun s2 inv2 ⟨a, same, wh⟩ => ?_) (.inr loc))
  obtain ⟨p0, p1, p2, p3, p4, p5⟩ := fp
  have apart : C ≠ a := wh.elim (fun z => by rw [z]; exact p1) fun z e => p4 y a z e.symm
  exact ⟨m, names.sameBut same apart, fun h3 same3 => ⟨_, H', inv2.turned (t' := s2.toks) (fun b o hb e => (same3.2 b hb).trans e) p0 p1 p3 p4 p5, q⟩⟩
theorem swD_true {kx vx : Expr} {gs : List Comprehension} {scope : Scope} {pos py : Pos} {y : Str} {l : Nat} {env : Env} (kind : env.scope.kind = .function) (loc : env.scope.names.lookup y = some .local) (line : (py.line == pos.line) = true)
    (none : (scope.names.any fun (n, k) => n == y && (k == .local || k == .cell)) = false) : swapsWith (.DictComp kx vx gs scope pos) (some (.Name y py)) l env = pure true := by
  have k1 : env.kindOf y = some .local := loc
  have k2 : env.blockKind = .function := by unfold Env.blockKind; rw [kind]; rfl
  unfold swapsWith
  simp only [k2, k1, none, Expr.pos, line]
  rfl
end
end L2
/-! readings by the written part itself, for what stands within comprehensions -/
namespace Mv
open PySem PySem.Spec PyProof.Rows L2
variable {X : Cx} {K : PySem.W.Frag} {e : Expr}
theorem pe_K {t : PySem.W.Frag → TE} (h : PE X e (t X.K)) (hK : X.K = K := by rfl) : PE X e (t K) := hK ▸ h
def rLenK (K : PySem.W.Frag) : List V → Hp → VK → Prop := fun xs H Q => ∃ p ys, xs = [.ref p] ∧ (SqL K H p ys ∨ SqT K H p ys) ∧ Q (.int ys.length) H
theorem call_lenK : CallR X (.builtin "len") (rLenK X.K) := call_len_seq
def rListOfK (K : PySem.W.Frag) : List V → Hp → VK → Prop := fun xs H Q => ∃ p ys, xs = [.ref p] ∧ (SqL K H p ys ∨ SqT K H p ys) ∧ ∀ l, H l = none → Q (.ref l) (upd H l (.lst ys))
theorem call_listK : CallR X (.type "list") (rListOfK X.K) := call_list_of
def rDictPK (K : PySem.W.Frag) : List V → Hp → VK → Prop := fun xs H Q => ∃ (a : Addr) (ps : List Addr) (kvs : List (Key × V)), xs = [.ref a] ∧ SqL K H a (ps.map V.ref) ∧ Paired (fun p kv => SqT K H p [kV kv.1, kv.2]) ps kvs ∧
    ∀ p, H p = none → Q (.ref p) (upd H p (.dK (mergeK [] kvs)))
theorem call_dictPK (hc : X.calm = true) : CallR X (.type "dict") (rDictPK X.K) := call_dictP hc
theorem rc_minDK (hu : X.A.units + 64 < cLine) (hK : X.K = K) : RvSC K (rMinD X) fMinD := by
  subst hK
  exact rc_minD hu
variable {n : Nat} {as : Ro} {te : TE} {tl th : TO} {d : En → Option Rs} {dl dh : En → Option (Option Int)} {dn : En → Option (Nat × En)} {dlo dhi : En → Option (Option Int × En)}
theorem p_sliceL (h : EvP K n as te d) (hl : EvO K n as tl dl) (hh : EvO K n as th dh) : EvP K n as (tSl (rSlL K) te tl th) (dSl fSlL d dl dh) := p_slice (r := rSlL K) (f := fSlL) (@rv_slL K) h hl hh
theorem p_sliceT (h : EvP K n as te d) (hl : EvO K n as tl dl) (hh : EvO K n as th dh) : EvP K n as (tSl (rSlF K) te tl th) (dSl fSlT d dl dh) := p_slice (r := rSlF K) (f := fSlT) (@rv_slT K) h hl hh
theorem e_sliceL (h : EvL K n as (tCons te tNil) dn) (hl : ∀ as, EvOE K n as tl dlo) (hh : ∀ as, EvOE K n as th dhi) : EvE K n as (tSl (rSlL K) te tl th) (eSl fSlL dn dlo dhi) := e_slice (r := rSlL K) (f := fSlL) (@rv_slL K) h hl hh
theorem e_sliceT (h : EvL K n as (tCons te tNil) dn) (hl : ∀ as, EvOE K n as tl dlo) (hh : ∀ as, EvOE K n as th dhi) : EvE K n as (tSl (rSlF K) te tl th) (eSl fSlT dn dlo dhi) := e_slice (r := rSlF K) (f := fSlT) (@rv_slT K) h hl hh
end Mv
/-! reckoning what the printed worths come to -/
namespace Mv
open PySem PySem.Spec PyProof.Rows L2
variable {E E' E1 E2 : En} {s t : S} {d1 d2 : En → Option Out} {dt : En → Option (Bool × En)}
theorem dSeq_nx (h : d1 E = some (.nx E1)) : dSeq d1 d2 E = d2 E1 := by unfold dSeq; rw [h]
theorem dSeq_go {r : Option Out} (h : d1 E = some (.nx E1)) (h2 : d2 E1 = r) : dSeq d1 d2 E = r := by rw [dSeq_nx h]; exact h2
theorem fnG_rt {n : Nat} {ss ss' : List S} (h : d1 (entry n ss) = some (.rt s E)) (h2 : ownSs (E.drop n) = some ss') : fnG n d1 ss = some (s, ss') := by unfold fnG; rw [h]; simp only [h2]; rfl
theorem fnG_nx {n : Nat} {ss ss' : List S} (h : d1 (entry n ss) = some (.nx E)) (h2 : ownSs (E.drop n) = some ss') : fnG n d1 ss = some (.dat .none, ss') := by unfold fnG; rw [h]; simp only [h2]; rfl
theorem dSeq_rt (h : d1 E = some (.rt s E1)) : dSeq d1 d2 E = some (.rt s E1) := by unfold dSeq; rw [h]
theorem dSeq_ct (h : d1 E = some (.ct E1)) : dSeq d1 d2 E = some (.ct E1) := by unfold dSeq; rw [h]
theorem dSeq_bk (h : d1 E = some (.bk E1)) : dSeq d1 d2 E = some (.bk E1) := by unfold dSeq; rw [h]
theorem dIf_true (h : dt E = some (true, E1)) : dIf dt d1 d2 E = d1 E1 := by unfold dIf; rw [h]
theorem dIf_false (h : dt E = some (false, E1)) : dIf dt d1 d2 E = d2 E1 := by unfold dIf; rw [h]
theorem dIf_t {r : Option Out} (h : dt E = some (true, E1)) (h2 : d1 E1 = r) : dIf dt d1 d2 E = r := by rw [dIf_true h]; exact h2
theorem dIf_f {r : Option Out} (h : dt E = some (false, E1)) (h2 : d2 E1 = r) : dIf dt d1 d2 E = r := by rw [dIf_false h]; exact h2
theorem dLoop_end {rd : En → Nat → Option (Option Rs)} {bd : Rs → En → Option En} {db : En → Option Out} {fuel i : Nat} (h : rd E i = some none) : dLoop rd bd db fuel i E = some (.nx E) := by
  rw [dLoop.eq_def]; simp only [h]
theorem dLoop_nx {rd : En → Nat → Option (Option Rs)} {bd : Rs → En → Option En} {db : En → Option Out} {fuel i : Nat} {r : Rs} (h : rd E i = some (some r)) (hb : bd r E = some E1) (hd : db E1 = some (.nx E2)) : dLoop rd bd db (fuel + 1) i E = dLoop rd bd db fuel (i + 1) E2 := by
  rw [dLoop.eq_def]; simp only [h, hb, hd]
theorem dLoop_ct {rd : En → Nat → Option (Option Rs)} {bd : Rs → En → Option En} {db : En → Option Out} {fuel i : Nat} {r : Rs} (h : rd E i = some (some r)) (hb : bd r E = some E1) (hd : db E1 = some (.ct E2)) : dLoop rd bd db (fuel + 1) i E = dLoop rd bd db fuel (i + 1) E2 := by
  rw [dLoop.eq_def]; simp only [h, hb, hd]
theorem dLoop_rt {rd : En → Nat → Option (Option Rs)} {bd : Rs → En → Option En} {db : En → Option Out} {fuel i : Nat} {r : Rs} (h : rd E i = some (some r)) (hb : bd r E = some E1) (hd : db E1 = some (.rt s E2)) : dLoop rd bd db (fuel + 1) i E = some (.rt s E2) := by
  rw [dLoop.eq_def]; simp only [h, hb, hd]
theorem dLoop_bk {rd : En → Nat → Option (Option Rs)} {bd : Rs → En → Option En} {db : En → Option Out} {fuel i : Nat} {r : Rs} (h : rd E i = some (some r)) (hb : bd r E = some E1) (hd : db E1 = some (.bk E2)) : dLoop rd bd db (fuel + 1) i E = some (.nx E2) := by
  rw [dLoop.eq_def]; simp only [h, hb, hd]
theorem lcLoop_end {rd : En → Nat → Option (Option Rs)} {j : Nat} {de : En → Option (S × En)} {fuel i : Nat} {acc : List S} (h : rd E i = some none) : dLcLoop rd j dt de fuel i acc E = some (acc, E) := by
  rw [dLcLoop.eq_def]; simp only [h]
theorem lcLoop_yes {rd : En → Nat → Option (Option Rs)} {j : Nat} {de : En → Option (S × En)} {fuel i : Nat} {acc : List S} {r : Rs} {E3 : En} (h : rd E i = some (some r)) (hb : bName j r E = some E1) (ht : dt E1 = some (true, E2)) (he : de E2 = some (s, E3)) (hl : acc.length < 100000) :
    dLcLoop rd j dt de (fuel + 1) i acc E = dLcLoop rd j dt de fuel (i + 1) (acc ++ [s]) (slotSet E3 j .no) := by
  rw [dLcLoop.eq_def]; simp only [h, hb, ht, he, if_pos hl]
theorem lcLoop_no {rd : En → Nat → Option (Option Rs)} {j : Nat} {de : En → Option (S × En)} {fuel i : Nat} {acc : List S} {r : Rs} (h : rd E i = some (some r)) (hb : bName j r E = some E1) (ht : dt E1 = some (false, E2)) :
    dLcLoop rd j dt de (fuel + 1) i acc E = dLcLoop rd j dt de fuel (i + 1) acc (slotSet E2 j .no) := by
  rw [dLcLoop.eq_def]; simp only [h, hb, ht]
theorem dcLoop_end {rd : En → Nat → Option (Option Rs)} {j : Nat} {dk dv : En → Option (S × En)} {fuel i : Nat} {acc : KD} (h : rd E i = some none) : dDcLoop rd j dt dk dv fuel i acc E = some (acc, E) := by
  rw [dDcLoop.eq_def]; simp only [h]
theorem dcLoop_yes {rd : En → Nat → Option (Option Rs)} {j : Nat} {dk dv : En → Option (S × En)} {fuel i : Nat} {acc : KD} {r : Rs} {E3 E4 : En} {a d : PyData} {k : Key} (h : rd E i = some (some r)) (hb : bName j r E = some E1) (ht : dt E1 = some (true, E2)) (hk : dk E2 = some (.dat a, E3)) (ha : keyP a = some k) (hv : dv E3 = some (.dat d, E4)) (hl : acc.length < 100000) :
    dDcLoop rd j dt dk dv (fuel + 1) i acc E = dDcLoop rd j dt dk dv fuel (i + 1) (putS acc k d) (slotSet E4 j .no) := by
  rw [dDcLoop.eq_def]; simp only [h, hb, ht, hk, ha, hv, if_pos hl]
/-! data of the usual kinds -/
def kI (g : List (Int × Int)) : KD := g.map fun p => (.inl p.1, .int p.2)
def dI (g : List (Int × Int)) : S := dctD false (kI g)
def tI (ns : List Int) : S := .dat (.tuple (ns.map .int))
def lI (ns : List Int) : S := .lst (ns.map fun i => .dat (.int i))
theorem intsD_map (ns : List Int) : intsD (ns.map .int) = some ns := by
  induction ns with
  | nil => rfl
  | cons a r ih => simp [intsD, ih]
theorem kI_keys (g : List (Int × Int)) : (kI g).map (·.1) = (g.map (·.1)).map Sum.inl := by simp [kI]
theorem nlk_dct : ∀ (kds : KD), S.nlk (kds.map fun p => (p.1, S.dat p.2)) = true
  | [] => rfl
  | p :: r => by simp [S.nlk, S.nl, nlk_dct r]
theorem kix_at : ∀ {ks : List Key} {i : Nat} {k : Key}, ks.Nodup → ks[i]? = some k → kix ks k = some i
  | [], i, k, _, h => by simp at h
  | a :: r, 0, k, nd, h => by
    simp at h
    subst h
    simp [kix]
  | a :: r, i + 1, k, nd, h => by
    simp at h
    obtain ⟨h1, h2⟩ := List.nodup_cons.mp nd
    have : a ≠ k := fun e => h1 (e ▸ List.mem_of_getElem? h)
    simp [kix, this, kix_at h2 h]
theorem eCall_go {g : List S → Option (S × List S)} {dr : En → Option (List Rs)} {rs : List Rs} {ss ss' : List S} (h1 : dr E = some rs) (h2 : placesOk rs = true) (h3 : argS E rs = some ss) (h4 : g ss = some (s, ss')) : eCall g dr E = some (s, killAll (putAll E rs ss') rs) := by
  unfold eCall
  simp only [h1, if_pos h2, h3, h4]
theorem dSet_go {i : Nat} {de : En → Option (S × En)} (h : de E = some (s, E1)) : dSet i de E = some (.nx (slotSet E1 i (.own s))) := by unfold dSet; rw [h]
theorem cutD_from {α : Type} {xs : List α} {k : Nat} (h : k ≤ xs.length) : cutD xs (some (k : Int)) none = xs.drop k := by
  unfold cutD
  rw [HT.sIx_nat, HT.sIx_none, Nat.min_eq_left h, List.take_of_length_le]
  rw [List.length_drop]; exact Nat.le_refl _
theorem dcons_go {da : En → Option Rs} {dr : En → Option (List Rs)} {r : Rs} {rs : List Rs} (h : da E = some r) (h2 : dr E = some rs) : dCons da dr E = some (r :: rs) := by unfold dCons; rw [h, h2]
theorem slT_from {da dl : En → Option Rs} {ns : List Int} {k : Nat} (ha : da E = some (.val (tI ns))) (hl : dl E = some (.val (.dat (.int (k : Int))))) (h : k ≤ ns.length) : dSl fSlT da (dPart dl) dNoPart E = some (.val (tI (ns.drop k))) := by
  unfold dSl dPart
  rw [ha, hl]
  show (fSlT (tI ns) (some (k : Int)) none).map Rs.val = _
  show (some (S.dat (.tuple (cutD (ns.map PyData.int) (some (k : Int)) none)))).map Rs.val = _
  rw [cutD_from (by simpa using h), ← List.map_drop]; rfl
theorem ixN_in {n j : Nat} (hj : j < n) : ixN n (j : Int) = some j := by
  unfold ixN
  rw [if_pos (Int.natCast_nonneg j), if_pos (by exact_mod_cast hj)]; rfl
theorem ixT_I {da db : En → Option Rs} {ns : List Int} {k : Nat} {v : Int} (ha : da E = some (.val (tI ns))) (hb : db E = some (.val (.dat (.int (k : Int))))) (h : ns[k]? = some v) : dIxT da db E = some (.val (.dat (.int v))) := by
  unfold dIxT
  rw [ha, hb]
  have hk := (List.getElem?_eq_some_iff.mp h).1
  have e1 : ixN (ns.map PyData.int).length (k : Int) = some k := ixN_in (by simpa using hk)
  simp only [Rs.at, tI, e1, List.getElem?_map, h]
  rfl
end Mv
/-! reckoning comprehensions and walks -/
namespace Mv
open PySem PySem.Spec PyProof.Rows L2
variable {E E' E1 E2 : En} {s t : S}
theorem lc_pure {rd : En → Nat → Option (Option Rs)} {j : Nat} {de : En → Option (S × En)} {E : En} (out : Nat → S) (n : Nat) (hn : n < 100000)
    (hs : ∀ i, i < n → ∃ r E1 E3, rd E i = some (some r) ∧ bName j r E = some E1 ∧ de E1 = some (out i, E3) ∧ slotSet E3 j .no = E) (he : rd E n = some none) :
    ∀ (m i fuel : Nat) (acc : List S), i + m = n → m ≤ fuel → acc.length = i → dLcLoop rd j eYes de fuel i acc E = some (acc ++ (List.range' i m).map out, E) := by
  intro m
  induction m with
  | zero =>
    intro i fuel acc hi _ _
    have : i = n := by omega
    subst this
    rw [lcLoop_end he]; simp
  | succ m ih =>
    intro i fuel acc hi hf ha
    cases fuel with
    | zero => omega
    | succ fuel =>
      obtain ⟨r, E1, E3, h1, h2, h3, h4⟩ := hs i (by omega)
      rw [lcLoop_yes h1 h2 rfl h3 (by omega), h4, ih (i + 1) fuel (acc ++ [out i]) (by omega) (by omega) (by simp [ha])]
      simp [List.range'_succ]
theorem rdP_I {p : List Nat} {hs : List Int} {i : Nat} {h : Int} (h1 : E2.getLast? = some (.bor p)) (h2 : eget E2 p = some (lI hs)) (h3 : hs[i]? = some h) : rdP E2 i = some (some (.val (.dat (.int h)))) := by
  unfold rdP
  simp only [h1, h2, lI, List.getElem?_map, h3, Option.map_some]
  rfl
theorem rdP_end {p : List Nat} {hs : List Int} {i : Nat} (h1 : E2.getLast? = some (.bor p)) (h2 : eget E2 p = some (lI hs)) (h3 : hs.length ≤ i) : rdP E2 i = some none := by
  unfold rdP
  simp only [h1, h2, lI, List.getElem?_map, List.getElem?_eq_none_iff.mpr h3, Option.map_none]
theorem rdD_I {ns : List Int} {i : Nat} {h : Int} (h3 : ns[i]? = some h) : rdD (ns.map .int) E i = some (some (.val (.dat (.int h)))) := by
  unfold rdD
  simp [List.getElem?_map, h3]
theorem rdD_end {ns : List Int} {i : Nat} (h3 : ns.length ≤ i) : rdD (ns.map .int) E i = some none := by
  unfold rdD
  simp [List.getElem?_map, List.getElem?_eq_none_iff.mpr h3]
theorem map_range' {α β : Type} (f : α → β) (xs : List α) (out : Nat → β) (h : ∀ i a, xs[i]? = some a → out i = f a) : (List.range' 0 xs.length).map out = xs.map f := by
  apply List.ext_getElem?
  intro i
  rw [List.getElem?_map, List.getElem?_map]
  by_cases hi : i < xs.length
  · have e : (List.range' 0 xs.length)[i]? = some i := by rw [List.getElem?_range' (by omega)]; simp
    rw [e, List.getElem?_eq_getElem hi]
    simp [h i xs[i] (List.getElem?_eq_getElem hi)]
  · have e : (List.range' 0 xs.length)[i]? = none := List.getElem?_eq_none_iff.mpr (by simp; omega)
    rw [e, List.getElem?_eq_none_iff.mpr (by omega)]; rfl
theorem boolsD_trues (n : Nat) : boolsD (List.replicate n (PyData.bool true)) = some (List.replicate n true) := by
  induction n with
  | zero => rfl
  | succ n ih => rw [List.replicate_succ, List.replicate_succ]; simp [boolsD, ih]
theorem toDs_dats : ∀ (ds : List PyData), S.toDs (ds.map S.dat) = some ds
  | [] => rfl
  | d :: ds => by simp [S.toDs, S.toD, toDs_dats ds]
theorem all_trues {n : Nat} : fAll [.list (List.replicate n (.bool true))] = some (.bool true) := by
  simp [fAll, boolsD_trues]
variable {de df : En → Option (S × En)} {a c : PyData}
theorem eAndV_t {r : Option (S × En)} (h : de E = some (.dat (.bool true), E1)) (h2 : df E1 = r) : eAndV de df E = r := by unfold eAndV; rw [h]; exact h2
theorem eCB1_go {f : List PyData → Option PyData} (h : de E = some (s, E1)) (h2 : s.toD = some a) (h3 : f [a] = some c) : eCB1 f de E = some (.dat c, E1) := by unfold eCB1; rw [h]; simp only [h2, h3]; rfl
theorem eCS_go {f : List S → Option S} (h : de E = some (s, E1)) (h3 : f [s] = some t) : eCS f de E = some (t, E1) := by unfold eCS; rw [h]; simp only [h3]; rfl
theorem dRet_go (h : de E = some (s, E1)) : dRet de E = some (.rt s E1) := by unfold dRet; rw [h]
theorem dDrop_go (h : de E = some (s, E1)) : dDrop de E = some (.nx E1) := by unfold dDrop; rw [h]
theorem eTest_go {b : Bool} (h : de E = some (.dat (.bool b), E1)) : eTest de E = some (b, E1) := by unfold eTest; rw [h]
theorem eNot_go {dt : En → Option (Bool × En)} {b : Bool} (h : dt E = some (b, E1)) : eNot dt E = some (!b, E1) := by unfold eNot; rw [h]; rfl
theorem eOr_f {dt du : En → Option (Bool × En)} {r : Option (Bool × En)} (h : dt E = some (false, E1)) (h2 : du E1 = r) : eOr dt du E = r := by unfold eOr; rw [h]; exact h2
theorem eLc_go {src : En → Option Src} {j : Nat} {dt : En → Option (Bool × En)} {acc : List S} {c : Src} (h : src E = some c) (h2 : dLcLoop c.rd j dt de c.fuel 0 [] (slotSet (c.env ++ c.exE) j .no) = some (acc, E1)) : eLc src j dt de E = some (.lst acc, stripE c E1) := by
  unfold eLc; rw [h]; simp only [h2]
theorem dFor_go {src : En → Option Src} {bd : Rs → En → Option En} {db : En → Option Out} {c : Src} (h : src E = some c) (h2 : dLoop c.rd bd db c.fuel 0 (c.env ++ c.exE) = some (.nx E1)) : dFor src bd db E = some (.nx (stripE c E1)) := by
  unfold dFor; rw [h]; simp only [h2]; rfl
/-- a loop of n turns that each go on -/
theorem loop_nx {rd : En → Nat → Option (Option Rs)} {bd : Rs → En → Option En} {db : En → Option Out} (env : Nat → En) (n : Nat) (hs : ∀ i, i < n → ∃ r E1, rd (env i) i = some (some r) ∧ bd r (env i) = some E1 ∧ db E1 = some (.nx (env (i + 1)))) (he : rd (env n) n = some none) :
    ∀ (m i fuel : Nat), i + m = n → m ≤ fuel → dLoop rd bd db fuel i (env i) = some (.nx (env n)) := by
  intro m
  induction m with
  | zero => intro i fuel hi _; have : i = n := by omega
            subst this; exact dLoop_end he
  | succ m ih =>
    intro i fuel hi hf
    cases fuel with
    | zero => omega
    | succ fuel =>
      obtain ⟨r, E1, h1, h2, h3⟩ := hs i (by omega)
      rw [dLoop_nx h1 h2 h3]
      exact ih (i + 1) fuel (by omega) (by omega)
/-- a loop whose state is found on the way: J i E what holds ahead of turn i -/
theorem loop_inv {rd : En → Nat → Option (Option Rs)} {bd : Rs → En → Option En} {db : En → Option Out} (J : Nat → En → Prop) (n : Nat) (hs : ∀ i E, i < n → J i E → ∃ r E1 E2, rd E i = some (some r) ∧ bd r E = some E1 ∧ db E1 = some (.nx E2) ∧ J (i + 1) E2) (he : ∀ E, J n E → rd E n = some none) :
    ∀ (m i fuel : Nat) (E : En), i + m = n → m ≤ fuel → J i E → ∃ E', dLoop rd bd db fuel i E = some (.nx E') ∧ J n E' := by
  intro m
  induction m with
  | zero => intro i fuel E hi _ hJ; have : i = n := by omega
            subst this; exact ⟨E, dLoop_end (he E hJ), hJ⟩
  | succ m ih =>
    intro i fuel E hi hf hJ
    cases fuel with
    | zero => omega
    | succ fuel =>
      obtain ⟨r, E1, E2, h1, h2, h3, h4⟩ := hs i E (by omega) hJ
      rw [dLoop_nx h1 h2 h3]
      exact ih (i + 1) fuel E2 (by omega) (by omega) h4
/-- the same of a comprehension that has effects -/
theorem lc_inv {rd : En → Nat → Option (Option Rs)} {j : Nat} {de : En → Option (S × En)} (J : Nat → List S → En → Prop) (n : Nat) (hn : n < 100000)
    (hs : ∀ i acc E, i < n → J i acc E → ∃ r E1 s E3, rd E i = some (some r) ∧ bName j r E = some E1 ∧ de E1 = some (s, E3) ∧ J (i + 1) (acc ++ [s]) (slotSet E3 j .no)) (he : ∀ acc E, J n acc E → rd E n = some none) :
    ∀ (m i fuel : Nat) (acc : List S) (E : En), i + m = n → m ≤ fuel → acc.length = i → J i acc E → ∃ acc' E', dLcLoop rd j eYes de fuel i acc E = some (acc', E') ∧ J n acc' E' := by
  intro m
  induction m with
  | zero => intro i fuel acc E hi _ _ hJ; have : i = n := by omega
            subst this; exact ⟨acc, E, lcLoop_end (he acc E hJ), hJ⟩
  | succ m ih =>
    intro i fuel acc E hi hf ha hJ
    cases fuel with
    | zero => omega
    | succ fuel =>
      obtain ⟨r, E1, s, E3, h1, h2, h3, h4⟩ := hs i acc E (by omega) hJ
      rw [lcLoop_yes h1 h2 rfl h3 (by omega)]
      exact ih (i + 1) fuel (acc ++ [s]) _ (by omega) (by omega) (by simp [ha]) h4
theorem iRange_go {d : En → Option Rs} {j : Int} (h : d E = some (.val (.dat (.int j)))) (h1 : 0 ≤ j) (h2 : j < 1000000) : iRange d E = some ⟨E, [], fun _ i => some (if i < j.toNat then some (.val (.dat (.int (i : Nat)))) else none), j.toNat⟩ := by
  unfold iRange
  rw [h]
  exact if_pos ⟨by omega, by omega⟩
theorem iRangeE_go {d : En → Option (S × En)} {j : Int} (h : d E = some (.dat (.int j), E1)) (h1 : 0 ≤ j) (h2 : j < 1000000) : iRangeE d E = some ⟨E1, [], fun _ i => some (if i < j.toNat then some (.val (.dat (.int (i : Nat)))) else none), j.toNat⟩ := by
  unfold iRangeE
  rw [h]
  exact if_pos ⟨by omega, by omega⟩
theorem rng_rd {n i : Nat} (h : i < n) : (fun (_ : En) (i : Nat) => (some (if i < n then some (Rs.val (.dat (.int (i : Nat)))) else none) : Option (Option Rs))) E i = some (some (.val (.dat (.int (i : Nat))))) := by
  show some (if i < n then _ else _) = _
  rw [if_pos h]
theorem rng_end {n : Nat} : (fun (_ : En) (i : Nat) => (some (if i < n then some (Rs.val (.dat (.int (i : Nat)))) else none) : Option (Option Rs))) E n = some none := by
  show some (if n < n then _ else _) = _
  rw [if_neg (by omega)]
end Mv
/-! rules more: xs * n, d.get(k, x), a < b of data, max and min of a list, a, b = x, y, tuples of what calls tell -/
namespace Mv
open PySem PySem.Spec PyProof.Rows L2
variable {X : Cx} {K : PySem.W.Frag} {F F' F1 F2 F3 H H' H1 H2 H3 : Hp} {v u x y w : V} {vs ws xs : List V} {s t c : S} {ss tts : List S} {fp fq fr fp' fp1 fp2 f1 f2 : List Addr} {ρ as : Ro} {E E' : En} {n : Nat}
variable {W : WXm} {te ta tb tc tk tv td : TE} {d da db dc dk dv : En → Option Rs} {tr : TA} {dr : En → Option (List Rs)} {de df : En → Option (S × En)} {dl : En → Option (Nat × En)} {ds : List PyData} {Q : VK}
def fRep : S → S → Option S
  | .lst a, .dat (.int k) => match datsS a with
    | some _ => if 0 ≤ k ∧ k < 100000 ∧ a.length * k.toNat < 100000 then some (.lst (List.replicate k.toNat a).flatten) else none
    | none => none
  | _, _ => none
theorem OwnL.rep (l : OwnL K F H vs ss []) : ∀ (k : Nat), OwnL K F H (List.replicate k vs).flatten (List.replicate k ss).flatten []
  | 0 => .nil
  | k + 1 => by
    rw [List.replicate_succ, List.replicate_succ, List.flatten_cons, List.flatten_cons]
    simpa using l.append (OwnL.rep l k)
theorem rv_rep : RvS2 K rRep fRep := by
  intro F H x y a b c f1 f2 sub o1 o2 e Q m
  unfold fRep at e
  split at e
  · next a k =>
    split at e
    · next d1 e1 =>
      split at e
      · next hl =>
        cases e
        obtain ⟨l, xs, _, rfl, hH, l1, _⟩ := o1.lst_inv rfl
        cases (o2.dat_inv rfl).1
        obtain ⟨da1, rfl⟩ := datsS_dp l1 e1
        refine ⟨l, k, xs, rfl, rfl, hH, by omega, by omega, by rw [l1.length, sizeLine_eq]; omega, mk_lst sub (OwnL.rep l1 _) m⟩
      · cases e
    · cases e
  · cases e
def dDGet2 (da db dx : En → Option Rs) (E : En) : Option Rs := match da E, db E, dx E with
  | some r, some rk, some (.val (.dat d)) => match r.at E, rk.key with
    | some (.dct _ kss), some k => match kix (kss.map (·.1)) k with
      | some i => match (kss.map (·.2))[i]? with
        | some s => r.kid i s
        | none => none
      | none => some (.val (.dat d))
    | _, _ => none
  | _, _, _ => none
theorem p_dget2 (ha : EvP K n as ta da) (hb : EvP K n as tb db) (hc : EvP K n as tc dc) : EvP K n as (tDGet2 ta tb tc) (dDGet2 da db dc) := by
  intro F H σ E fp L R r' e Q q
  unfold dDGet2 at e
  split at e
  · next r rk d ea eb ec =>
    split at e
    · next l kss k es ek =>
      refine ha L R ea fun x F1 H1 f1 g1 r1 n1 o1 => ?_
      have R1 := R.grow g1
      obtain ⟨fq1, ow1⟩ := r1.own R1 es
      obtain ⟨a, kvs1, u1, fq1', rfl, hH1, hk1, rd1, hkk1, ll1, _⟩ := ow1.dct_inv rfl
      refine ⟨a, rfl, .inl ⟨kvs1, rd1⟩, hb L R1 eb fun y F2 H2 f2 g2 r2 n2 o2 => hc L (R1.grow g2) ec fun z F3 H3 f3 g3 r3 n3 o3 => ?_⟩
      have R3 := (R1.grow g2).grow g3
      have r1' := (r1.grow R1 g2).grow (R1.grow g2) g3
      have ky := r2.key ek
      subst ky
      obtain ⟨fq, ow⟩ := r1'.own R3 es
      obtain ⟨a', kvs, u, fq', ea', hH, hk, rd, hkk, ll, _⟩ := ow.dct_inv rfl
      cases ea'
      have gg : Grow F H [] F3 H3 [] := (((g1.seq0 g2).drop).seq0 g3).drop
      cases hi : kix (kss.map (·.1)) k with
      | none =>
        rw [hi] at e
        cases e
        exact ⟨none, .inl ⟨kvs, k, rd, rfl, by rw [valV_kix, hkk, hi]; rfl⟩, q z F3 H3 f3 (((g1.seq0 g2).drop).seq0 g3) r3 n3 o3⟩
      | some i =>
        rw [hi] at e
        dsimp only at e
        split at e
        · next s hs =>
          obtain ⟨w, f, hw, ow2⟩ := ll.nth hs
          refine ⟨some w, .inl ⟨kvs, k, rd, rfl, by rw [valV_kix, hkk, hi]; exact hw.symm⟩, ?_⟩
          exact q w F3 H3 [] gg (r1'.kid R3 es hH (by rw [hk]; exact hw) hs ow2 e) List.nodup_nil (fun _ m => nomatch m)
        · cases e
    · cases e
  · cases e
def fLtD (a b : PyData) : Option PyData := if PySem.W.alike a b = true ∧ isNone a = false ∧ min a.depth b.depth < 60 then some (.bool (PySem.W.dataLt a b)) else none
theorem rv_ltD (hu : X.A.units + 64 < cLine) (hK : X.K = K) : Rv2 K (rLtD X) fLtD := by
  subst hK
  intro H x y a b c ha hb e Q q
  unfold fLtD at e
  split at e
  · next h =>
    cases e
    exact ⟨a, b, ha.dp, hb.dp, h.1, fun z => by rw [z] at h; simp [isNone] at h, by omega, q rfl⟩
  · cases e
def maxI : List Int → Int
  | [] => 0
  | a :: r => r.foldl max a
def minI : List Int → Int
  | [] => 0
  | a :: r => r.foldl min a
theorem foldl_maxI : ∀ (r : List Int) (a : Int), (r.foldl max a = a ∨ r.foldl max a ∈ r) ∧ a ≤ r.foldl max a ∧ ∀ y ∈ r, y ≤ r.foldl max a
  | [], a => ⟨.inl rfl, Int.le_refl _, fun _ m => nomatch m⟩
  | b :: r, a => by
    obtain ⟨h1, h2, h3⟩ := foldl_maxI r (max a b)
    rw [List.foldl_cons]
    refine ⟨?_, by omega, fun y m => ?_⟩
    · rcases h1 with h | h
      · by_cases ab : a ≤ b
        · right; rw [h, Int.max_eq_right ab]; exact List.mem_cons_self
        · left; rw [h, Int.max_eq_left (by omega)]
      · right; exact List.mem_cons_of_mem _ h
    · rcases List.mem_cons.mp m with rfl | m
      · omega
      · exact h3 y m
theorem foldl_minI : ∀ (r : List Int) (a : Int), (r.foldl min a = a ∨ r.foldl min a ∈ r) ∧ r.foldl min a ≤ a ∧ ∀ y ∈ r, r.foldl min a ≤ y
  | [], a => ⟨.inl rfl, Int.le_refl _, fun _ m => nomatch m⟩
  | b :: r, a => by
    obtain ⟨h1, h2, h3⟩ := foldl_minI r (min a b)
    rw [List.foldl_cons]
    refine ⟨?_, by omega, fun y m => ?_⟩
    · rcases h1 with h | h
      · by_cases ab : a ≤ b
        · left; rw [h, Int.min_eq_left ab]
        · right; rw [h, Int.min_eq_right (by omega)]; exact List.mem_cons_self
      · right; exact List.mem_cons_of_mem _ h
    · rcases List.mem_cons.mp m with rfl | m
      · omega
      · exact h3 y m
def fBest (pick : List Int → Int) : List S → Option S
  | [s] => match s.seqL with
    | some ds => match intsD ds with
      | some (a :: r) => some (.dat (.int (pick (a :: r))))
      | _ => none
    | none => none
  | _ => none
theorem rc_maxL : RvSC K (rMax K) (fBest maxI) := by
  intro F H vs ss c sub o e Q m
  unfold fBest at e
  split at e
  · next s =>
    split at e
    · next ds hd =>
      split at e
      · next a r hn =>
        cases e
        obtain ⟨v, f, rfl, o'⟩ := o.one
        clear o
        have o := o'
        obtain ⟨p, xs, rfl, hq, da⟩ := o.sqL sub hd
        obtain rfl := intsD_dp da hn
        refine ⟨p, a :: r, rfl, hq, by simp, fun z hz hle => ?_⟩
        obtain ⟨h1, h2, h3⟩ := foldl_maxI r a
        have : z = maxI (a :: r) := by
          have e1 : maxI (a :: r) ∈ a :: r := h1.elim (fun e => by show r.foldl max a ∈ _; rw [e]; exact List.mem_cons_self) fun m => List.mem_cons_of_mem _ m
          have e2 := hle _ e1
          have e3 : z ≤ maxI (a :: r) := (List.mem_cons.mp hz).elim (fun e => by rw [e]; exact h2) (h3 z)
          omega
        rw [this]
        exact mk_dat sub (.int _) m
      · cases e
    · cases e
  · cases e
theorem rc_minL : RvSC K (rMin K) (fBest minI) := by
  intro F H vs ss c sub o e Q m
  unfold fBest at e
  split at e
  · next s =>
    split at e
    · next ds hd =>
      split at e
      · next a r hn =>
        cases e
        obtain ⟨v, f, rfl, o'⟩ := o.one
        clear o
        have o := o'
        obtain ⟨p, xs, rfl, hq, da⟩ := o.sqL sub hd
        obtain rfl := intsD_dp da hn
        refine ⟨p, a :: r, rfl, hq, by simp, fun z hz hle => ?_⟩
        obtain ⟨h1, h2, h3⟩ := foldl_minI r a
        have : z = minI (a :: r) := by
          have e1 : minI (a :: r) ∈ a :: r := h1.elim (fun e => by show r.foldl min a ∈ _; rw [e]; exact List.mem_cons_self) fun m => List.mem_cons_of_mem _ m
          have e2 := hle _ e1
          have e3 : minI (a :: r) ≤ z := (List.mem_cons.mp hz).elim (fun e => by rw [e]; exact h2) (h3 z)
          omega
        rw [this]
        exact mk_dat sub (.int _) m
      · cases e
    · cases e
  · cases e
def dPar (i j : Nat) (dr : En → Option (List Rs)) (E : En) : Option Out := match dr E with
  | some [.val (.dat a), .val (.dat b)] => some (.nx (slotSet (slotSet E i (.own (.dat a))) j (.own (.dat b))))
  | _ => none
theorem s_par {i j : Nat} (hi : i < n) (hj : j < n) (h : EvA K n as tr dr) : EvS K n as W (tPar i j tr) (dPar i j dr) := by
  intro F H σ E fp L R o e D g
  unfold dPar at e
  split at e
  · next a b er =>
    cases e
    refine h L R er fun vs F1 H1 fr g1 al nd of => ?_
    have R1 := R.grow g1
    cases al with
    | @cons v _ _ _ fa fb qa ta => cases ta with
      | @cons w _ _ _ fc fd qb tb =>
        cases tb
        have d1 := (Own.dat_inv (show Own K F1 H1 v (.dat a) fa from qa) rfl).1
        have d2 := (Own.dat_inv (show Own K F1 H1 w (.dat b) fc from qb) rfl).1
        obtain ⟨fq, R2, sb⟩ := R1.setSlot (i := i) (e := .own (.dat a)) (v := v) (fr := []) (by rw [List.length_append]; omega) (.dat d1) R1.nd (fun _ m => nomatch m)
        obtain ⟨fz, R3, sc⟩ := R2.setSlot (i := j) (e := .own (.dat b)) (v := w) (fr := []) (by rw [List.length_set, List.length_append]; omega) (.dat d2) R2.nd (fun _ m => nomatch m)
        refine ⟨v, w, rfl, g _ F1 H1 fz (by rw [List.length_set, List.length_set]; exact L) ((g1.mine).less fun a m => ?_) ?_⟩
        · exact by simpa using sb a (by simpa using sc a m)
        · rw [set_app (by rw [List.length_set]; omega), set_app (by omega)]
          exact R3
  · cases e
theorem e_tupE (hl : EvL K n as tr dl) : EvE K n as (tTupF tr) (eEff dl fun k => ePure (dTupL (dGhs k))) := by
  have hc : ∀ vs : List V, EvE K n (as ++ vs.map some) (fun _ H Q => vs.length ≤ sizeLine ∧ ∀ (p : Addr) (ob : Obj), H p = none → ob.dict = none → Q (.ref p) (upd H p (.frz ob (.tup vs)))) (ePure (dTupL (dGhs vs.length))) := by
    intro vs F H σ E fp L R s E' e Q q
    exact e_pure (p_tup (tr := tVs vs) a_ghs) L R e q
  intro F H σ E fp L R s E' e Q q
  exact e_eff (C := fun vs H Q => vs.length ≤ sizeLine ∧ ∀ (p : Addr) (ob : Obj), H p = none → ob.dict = none → Q (.ref p) (upd H p (.frz ob (.tup vs)))) (dcc := fun k => ePure (dTupL (dGhs k))) hl hc L R e q
end Mv
namespace K02
open PySem PySem.Spec PyProof.Rows L2 Mv
def d_is_within : En → Option Out := (dRet (ePure (dAndV (dIsi .int (dVar 0)) (dAndV (dNotV (dIsi .bool (dVar 0))) (dChain fLe fLe (dVar 1) (dVar 0) (dVar 2))))))
def g_is_within : List S → Option (S × List S) := fnG 3 d_is_within
def d_is_house : En → Option Out := (dRet (eCall g_is_within (dCons (dVar 0) (dCons (dC (.int 0)) (dCons (dC (.int 19)) dNil)))))
def g_is_house : List S → Option (S × List S) := fnG 1 d_is_house
def d_is_owners : En → Option Out := (dRet (eAndV (ePure (dIsi .tuple (dVar 0))) (eAndV (ePure (dOp fEqS (dLen (dVar 0)) (dC (.int 12)))) (eCB1 fAll (eLc (iTupS (dVar 0)) 1 eYes (eCall g_is_house (dCons (dVar 1) dNil)))))))
def g_is_owners : List S → Option (S × List S) := fnG 2 d_is_owners
def d_are_houses : En → Option Out := (dSeq (dIf (eOr (ePureT (dNot (dTest (dChain fLe fLe (dC (.int 1)) (dLen (dVar 0)) (dC (.int 6)))))) (eNot (eTest (eCB1 fAll (eLc (iLst (dVar 0)) 1 eYes (eCall g_is_house (dCons (dVar 1) dNil))))))) (dRet (ePure (dC (.bool false)))) dNext)
    (dRet (ePure (dOp fEqD (dVar 0) (dCS fSortSet (dCons (dVar 0) dNil))))))
def g_are_houses : List S → Option (S × List S) := fnG 2 d_are_houses
def d_most_kept : En → Option Out := (dSeq (dAsg (bTup 2 (bCons (bName 2) (bCons (bName 3) bNil))) (ePure (dCS fDivmod (dCons (dC (.int 12)) (dCons (dLenD (dVar 0)) dNil)))))
    (dSeq (dAlias 4 (dC (.int 0)))
    (dSeq (dAlias 5 (dC (.int 0)))
    (dSeq (dLock (dVar 0) (dFor (iKeysS (dVar 0)) (bName 6) (dSeq (dAlias 7 (dOp fSub (dVar 2) (dDGet (dVar 0) (dVar 6))))
    (dSeq (dIf (ePureT (dTest (dOp fLt (dVar 7) (dNeg (dC (.int 1)))))) (dRet (ePure (dC .none))) dNext)
    (dSeq (dIf (ePureT (dTest (dOp fEqS (dVar 7) (dNeg (dC (.int 1)))))) (dSeq (dAug 3 fSub (dC (.int 1)))
    dCnt) dNext)
    (dSeq (dAug 4 fAdd (dCB fMin2 (dCons (dVar 7) (dCons (dTCnt (dVar 1) (dVar 6)) dNil))))
    (dIf (ePureT (dTest (dOp fGt (dTCnt (dVar 1) (dVar 6)) (dVar 7)))) (dAug 5 fAdd (dC (.int 1))) dNext)))))))
    (dSeq (dIf (ePureT (dTest (dOp fLt (dVar 3) (dC (.int 0))))) (dRet (ePure (dC .none))) dNext)
    (dRet (ePure (dOp fAdd (dVar 4) (dCB fMin2 (dCons (dVar 3) (dCons (dVar 5) dNil)))))))))))
def g_most_kept : List S → Option (S × List S) := fnG 8 d_most_kept
def d_first_owner : En → Option Out := (dSeq (dSet 2 (eCall g_most_kept (dCons (dVar 0) (dCons (dVar 1) dNil))))
    (dLock (dVar 0) (dFor (iKeysS (dVar 0)) (bName 3) (dSeq (dSet 4 (eCall g_most_kept (dCons (dStar (dVar 0) (dVar 3) (dOp fAdd (dDGet (dVar 0) (dVar 3)) (dC (.int 1)))) (dCons (dSl fSlT (dVar 1) (dPart (dC (.int 1))) dNoPart) dNil))))
    (dSeq (dAlias 5 (dIfE (dTest (dOp fEqS (dVar 3) (dIxT (dVar 1) (dC (.int 0))))) (dC (.int 1)) (dC (.int 0))))
    (dIf (ePureT (dAnd (dTest (dOp fNotN (dVar 4) (dC .none))) (dTest (dOp fEqS (dOp fAdd (dVar 4) (dVar 5)) (dVar 2))))) (dRet (eMove 3)) dNext))))))
def g_first_owner : List S → Option (S × List S) := fnG 6 d_first_owner
def d_shared : En → Option Out := (dSeq (dIf (eNot (eTest (eCall g_is_owners (dCons (dVar 0) dNil)))) dNever dNext)
    (dSeq (dIf (eNot (eTest (eCall g_are_houses (dCons (dVar 1) dNil)))) dNever dNext)
    (dSeq (dSet 2 (eDc (iLst (dVar 1)) 5 eYes (ePure (dVar 5)) (ePure (dC (.int 0)))))
    (dSeq (dAlias 3 (dLst dNil))
    (dSeq (dFor (iRange (dC (.int 12))) (bName 4) (dSeq (dSet 5 (eCall g_first_owner (dCons (dVar 2) (dCons (dSl fSlT (dVar 0) (dPart (dVar 4)) dNoPart) dNil))))
    (dSeq (dDAug (dVar 2) (dVar 5) fAdd (dC (.int 1)))
    (dDrop (eBM1 oAppend (dVar 3) (dVar 5))))))
    (dRet (ePure (dCS fTuple (dCons (dVar 3) dNil)))))))))
def g_shared : List S → Option (S × List S) := fnG 6 d_shared
def d__law_begun : En → Option Out := (dSeq (dAlias 1 (dC (.int 0)))
    (dSeq (dFor (iLst (dVar 0)) (bName 2) (dAlias 1 (dOp fMod (dOp fAdd (dOp fAdd (dOp fMul (dVar 1) (dC (.int 48271))) (dOp fMul (dVar 2) (dC (.int 69621)))) (dC (.int 11))) (dC (.int 2147483647)))))
    (dRet (ePure (dLst (dCons (dCS fList (dCons (dVar 0) dNil)) (dCons (dOp fMul (dVar 1) (dCB fInt (dCons (dOp fGt (dLen (dVar 0)) (dC (.int 2))) dNil))) dNil)))))))
def g__law_begun : List S → Option (S × List S) := fnG 3 d__law_begun
def d__law_take : En → Option Out := (dSeq (dIf (ePureT (dTest (dOp fEqD (dIxL (dVar 0) (dC (.int 0))) (dLst dNil)))) (dSeq (dLSet (dVar 0) (dC (.int 1)) (ePure (dOp fMod (dOp fMul (dIxL (dVar 0) (dC (.int 1))) (dC (.int 48271))) (dC (.int 2147483647)))))
    (dRet (ePure (dOp fMod (dOp fDiv (dIxL (dVar 0) (dC (.int 1))) (dC (.int 7))) (dVar 1))))) dNext)
    (dSeq (dAlias 2 (dIxL (dIxL (dVar 0) (dC (.int 0))) (dC (.int 0))))
    (dSeq (dLSet (dIxL (dVar 0) (dC (.int 0))) (dC (.int 0)) (ePure (dOp fDiv (dVar 2) (dVar 1))))
    (dSeq (dIf (ePureT (dOr (dTest (dOp fEqS (dIxL (dIxL (dVar 0) (dC (.int 0))) (dC (.int 0))) (dC (.int 0)))) (dTest (dOp fEqS (dIxL (dIxL (dVar 0) (dC (.int 0))) (dC (.int 0))) (dNeg (dC (.int 1))))))) (dDrop (eBM1 oPopAt (dIxL (dVar 0) (dC (.int 0))) (dC (.int 0)))) dNext)
    (dRet (ePure (dOp fMod (dVar 2) (dVar 1))))))))
def g__law_take : List S → Option (S × List S) := fnG 3 d__law_take
def f__law_alike (g : List S → Option (S × List S)) : En → Option Out := (dSeq (dIf (ePureT (dTest (dOp fIsN (dVar 1) (dC .none)))) (dRet (ePure (dOp fIsN (dVar 0) (dC .none)))) dNext)
    (dSeq (dIf (ePureT (dTest (dIsi .bool (dVar 1)))) (dRet (ePure (dAndV (dIsi .bool (dVar 0)) (dOp fEqS (dVar 0) (dVar 1))))) dNext)
    (dSeq (dIf (ePureT (dTest (dIsi .int (dVar 1)))) (dRet (ePure (dAndV (dIsi .int (dVar 0)) (dAndV (dNotV (dIsi .bool (dVar 0))) (dOp fEqS (dVar 0) (dVar 1)))))) dNext)
    (dSeq (dIf (ePureT (dTest (dIsi .str (dVar 1)))) (dRet (ePure (dAndV (dIsi .str (dVar 0)) (dOp fEqS (dVar 0) (dVar 1))))) dNext)
    (dSeq (dIf (ePureT (dOr (dTest (dOp fNeS (dIsi .tuple (dVar 1)) (dIsi .tuple (dVar 0)))) (dTest (dOp fNeS (dIsi .list (dVar 1)) (dIsi .list (dVar 0)))))) (dRet (ePure (dC (.bool false)))) dNext)
    (dSeq (dIf (ePureT (dTest (dOp fNeS (dLen (dVar 0)) (dLen (dVar 1))))) (dRet (ePure (dC (.bool false)))) dNext)
    (dSeq (dFor (iRange (dLen (dVar 1))) (bName 2) (dIf (eNot (eTest (eCall g (dCons (dIxT (dVar 0) (dVar 2)) (dCons (dIxT (dVar 1) (dVar 2)) dNil))))) (dRet (ePure (dC (.bool false)))) dNext))
    (dRet (ePure (dC (.bool true)))))))))))
def g__law_alike : Nat → List S → Option (S × List S)
  | 0 => gNone
  | k + 1 => fnG 3 (f__law_alike (g__law_alike k))
def d__law_moved : En → Option Out := (dRet (eEff (lConsE (eLc (iRange (dC (.int 12))) 2 (ePureT (dTest (dOp fNeS (dIxT (dVar 0) (dVar 2)) (dIxT (dVar 1) (dVar 2))))) (ePure (dVar 2))) lNil) fun k => dWhen k 1 (ePure (dLen (dGh k 0)))))
def g__law_moved : List S → Option (S × List S) := fnG 3 d__law_moved
def f__law_choices (g : List S → Option (S × List S)) : En → Option Out := (dSeq (dIf (ePureT (dTest (dOp fEqS (dVar 1) (dC (.int 0))))) (dRet (ePure (dLst (dCons (dLst dNil) dNil)))) dNext)
    (dSeq (dAlias 2 (dLst dNil))
    (dSeq (dFor (iRange (dLen (dVar 0))) (bName 3) (dDrop (eBM1E oExtend (dVar 2) (eLc (iLstE (eCall g (dCons (dSl fSlL (dVar 0) (dPart (dOp fAdd (dVar 3) (dC (.int 1)))) dNoPart) (dCons (dOp fSub (dVar 1) (dC (.int 1))) dNil)))) 4 eYes (ePure (dOpS fCat (dLst (dCons (dIxL (dVar 0) (dVar 3)) dNil)) (dVar 4)))))))
    (dRet (eMove 2)))))
def g__law_choices : Nat → List S → Option (S × List S)
  | 0 => gNone
  | k + 1 => fnG 5 (f__law_choices (g__law_choices k))
def d__law_stay : En → Option Out := (dSeq (dAlias 2 (dOp fDiv (dC (.int 12)) (dLen (dVar 1))))
    (dSeq (dAlias 3 (dC (.int 0)))
    (dSeq (dFor (iLstE (eCall (g__law_choices 9) (dCons (dVar 1) (dCons (dOp fMod (dC (.int 12)) (dLen (dVar 1))) dNil)))) (bName 4) (dSet 3 (eEff (lConsP (dVar 3) (lConsE (eCB1 fSum (eLc (iLst (dVar 1)) 5 eYes (ePure (dCB fMin2 (dCons (dTCnt (dVar 0) (dVar 5)) (dCons (dOp fAdd (dVar 2) (dCB fInt (dCons (dOpS (fIn false) (dVar 5) (dVar 4)) dNil))) dNil)))))) lNil)) fun k => ePure (dCB fMax2 (dGhs k)))))
    (dRet (eMove 3)))))
def g__law_stay : List S → Option (S × List S) := fnG 6 d__law_stay
def d__law_first : En → Option Out := (dSeq (dAlias 2 (dCS fDictD (dCons (dVar 2) dNil)))
    (dSeq (dAlias 3 (dTupL dNil))
    (dSeq (dFor (iRange (dC (.int 12))) (bName 4) (dSeq (dAlias 5 (dSl fSlT (dVar 0) (dPart (dOp fAdd (dVar 4) (dC (.int 1)))) dNoPart))
    (dSeq (dSet 6 (eCB1 fSum (eLc (iLst (dVar 1)) 7 eYes (ePure (dCB fMin2 (dCons (dTCnt (dSl fSlT (dVar 0) (dPart (dVar 4)) dNoPart) (dVar 7)) (dCons (dDGet (dVar 2) (dVar 7)) dNil)))))))
    (dFor (iLst (dVar 1)) (bName 7) (dIf (ePureT (dAnd (dTest (dOp fEqS (dLen (dVar 3)) (dVar 4))) (dTest (dOp fGt (dDGet (dVar 2) (dVar 7)) (dC (.int 0)))))) (dSeq (dDPut (dVar 2) (dVar 7) (ePure (dOp fSub (dDGet (dVar 2) (dVar 7)) (dC (.int 1)))))
    (dSeq (dSet 8 (eCB1 fSum (eLc (iLst (dVar 1)) 9 eYes (ePure (dCB fMin2 (dCons (dTCnt (dVar 5) (dVar 9)) (dCons (dDGet (dVar 2) (dVar 9)) dNil)))))))
    (dIf (ePureT (dTest (dOp fEqS (dOp fAdd (dVar 8) (dCB fInt (dCons (dOp fEqS (dIxT (dVar 0) (dVar 4)) (dVar 7)) dNil))) (dVar 6)))) (dAlias 3 (dOpS fCatT (dVar 3) (dTupL (dCons (dVar 7) dNil)))) (dDPut (dVar 2) (dVar 7) (ePure (dOp fAdd (dDGet (dVar 2) (dVar 7)) (dC (.int 1)))))))) dNext)))))
    (dRet (eMove 3)))))
def g__law_first : List S → Option (S × List S) := fnG 10 d__law_first
def d__law_shared : En → Option Out := (dSeq (dSet 2 (eCall g__law_stay (dCons (dVar 0) (dCons (dVar 1) dNil))))
    (dSeq (dAlias 3 (dOp fDiv (dC (.int 12)) (dLen (dVar 1))))
    (dSeq (dAlias 4 (dLst dNil))
    (dSeq (dFor (iLstE (eCall (g__law_choices 9) (dCons (dVar 1) (dCons (dOp fMod (dC (.int 12)) (dLen (dVar 1))) dNil)))) (bName 5) (dSeq (dSet 6 (eCS fDictP (eLc (iLst (dVar 1)) 7 eYes (ePure (dTupL (dCons (dVar 7) (dCons (dOp fAdd (dVar 3) (dCB fInt (dCons (dOpS (fIn false) (dVar 7) (dVar 5)) dNil))) dNil)))))))
    (dIf (eTest (eOp fEqS (eCB1 fSum (eLc (iLst (dVar 1)) 7 eYes (ePure (dCB fMin2 (dCons (dTCnt (dVar 0) (dVar 7)) (dCons (dDGet (dVar 6) (dVar 7)) dNil)))))) (ePure (dVar 2)))) (dDrop (eBM1E oAppend (dVar 4) (eCall g__law_first (dCons (dVar 0) (dCons (dVar 1) (dCons (dVar 6) dNil)))))) dNext)))
    (dRet (ePure (dCS fMinD (dCons (dVar 4) dNil))))))))
def g__law_shared : List S → Option (S × List S) := fnG 8 d__law_shared
def d_law : En → Option Out := (dSeq (dSet 1 (eCall g__law_begun (dCons (dVar 0) dNil)))
    (dSeq (dFor (iRange (dC (.int 4))) (bName 2) (dSeq (dAlias 3 (dLstRg1 (dC (.int 20))))
    (dSeq (dSet 4 (eLc (iRange (dC (.int 8))) 12 eYes (eBM1E oPopAt (dVar 3) (eCall g__law_take (dCons (dVar 1) (dCons (dLen (dVar 3)) dNil))))))
    (dSeq (dSet 5 (eEff (lConsP (dLst (dCons (dC (.int 1)) (dCons (dC (.int 2)) (dCons (dC (.int 6)) dNil)))) (lConsE (eCall g__law_take (dCons (dVar 1) (dCons (dC (.int 3)) dNil))) lNil)) fun k => dWhen k 2 (ePure (dIxL (dGh k 0) (dGh k 1)))))
    (dSeq (dSet 6 (eCS fTuple (eLc (iRange (dC (.int 12))) 12 eYes (eEff (lConsP (dVar 4) (lConsE (eCall g__law_take (dCons (dVar 1) (dCons (dVar 5) dNil))) lNil)) fun k => dWhen k 2 (ePure (dIxL (dGh k 0) (dGh k 1)))))))
    (dFor (iRangeE (eOp fAdd (ePure (dC (.int 1))) (eCall g__law_take (dCons (dVar 1) (dCons (dC (.int 3)) dNil))))) (bName 7) (dSeq (dSet 8 (eCall g__law_take (dCons (dVar 1) (dCons (dC (.int 4)) dNil))))
    (dSeq (dSet 9 (eCS fSorted (eSl fSlL (lConsP (dVar 4) lNil) (ePureO (dPart (dVar 8))) (ePartE (eOp fAdd (ePure (dOp fAdd (dVar 8) (dC (.int 1)))) (eCall g__law_take (dCons (dVar 1) (dCons (dCB fMin2 (dCons (dC (.int 6)) (dCons (dOp fSub (dC (.int 8)) (dVar 8)) dNil))) dNil))))))))
    (dSeq (dAlias 10 (dCS fList (dCons (dVar 9) dNil)))
    (dSeq (dSet 11 (eCall g_shared (dCons (dVar 6) (dCons (dVar 10) dNil))))
    (dSeq (dIf (eOr (eNot (eTest (eEff (lConsP (dVar 11) (lConsE (eCall g__law_shared (dCons (dVar 6) (dCons (dVar 9) dNil))) lNil)) fun k => dWhen k 2 (eCall (g__law_alike 4) (dGhs k))))) (ePureT (dTest (dOp fNeD (dVar 10) (dVar 9))))) (dRet (ePure (dC (.bool false)))) dNext)
    (dSeq (dDrop (eBM0 oClear (dVar 10)))
    (dSeq (dIf (eNot (eTest (eEff (lConsE (eCall g_shared (dCons (dVar 6) (dCons (dVar 9) dNil))) (lConsP (dVar 11) lNil)) fun k => dWhen k 2 (eCall (g__law_alike 4) (dGhs k))))) (dRet (ePure (dC (.bool false)))) dNext)
    (dAlias 6 (dVar 11)))))))))))))))
    (dRet (ePure (dC (.bool true))))))
def g_law : List S → Option (S × List S) := fnG 13 d_law
end K02
namespace Sh

def cnt (l : List Int) (h : Int) : Int := (l.count h : Int)
theorem cnt_nil (h : Int) : cnt [] h = 0 := rfl
theorem cnt_cons (a h : Int) (l : List Int) : cnt (a :: l) h = cnt l h + (if a = h then 1 else 0) := by
  unfold cnt
  rw [List.count_cons]
  by_cases e : a = h
  · subst e; simp
  · simp [e]
theorem cnt_nn (l : List Int) (h : Int) : 0 ≤ cnt l h := Int.natCast_nonneg _
theorem cnt_eq_zero {l : List Int} {h : Int} (e : h ∉ l) : cnt l h = 0 := by
  unfold cnt
  rw [List.count_eq_zero_of_not_mem e]; rfl

/-- how many places are alike -/
def score : List Int → List Int → Int
  | a :: t, r :: rs => (if a = r then 1 else 0) + score t rs
  | _, _ => 0

def bump (h d : Int) (g : List (Int × Int)) : List (Int × Int) := g.map fun p => if p.1 = h then (p.1, p.2 + d) else p
theorem bump_keys (h d : Int) (g : List (Int × Int)) : (bump h d g).map (·.1) = g.map (·.1) := by
  unfold bump
  rw [List.map_map]
  apply List.map_congr_left
  intro p _
  simp only [Function.comp]
  split <;> rfl
theorem bump_length (h d : Int) (g : List (Int × Int)) : (bump h d g).length = g.length := by simp [bump]

/-- a sum over a list -/
def sumL {α : Type} (f : α → Int) : List α → Int
  | [] => 0
  | a :: l => f a + sumL f l
theorem sumL_congr {α : Type} {f g : α → Int} : ∀ {l : List α}, (∀ a ∈ l, f a = g a) → sumL f l = sumL g l
  | [], _ => rfl
  | a :: l, h => by
    simp only [sumL]
    rw [h a List.mem_cons_self, sumL_congr fun b m => h b (List.mem_cons_of_mem _ m)]
theorem sumL_le {α : Type} {f g : α → Int} : ∀ {l : List α}, (∀ a ∈ l, f a ≤ g a) → sumL f l ≤ sumL g l
  | [], _ => Int.le_refl _
  | a :: l, h => by
    simp only [sumL]
    have h1 := h a List.mem_cons_self
    have h2 := sumL_le fun b m => h b (List.mem_cons_of_mem a m)
    omega
theorem sumL_nn {α : Type} {f : α → Int} {l : List α} (h : ∀ a ∈ l, 0 ≤ f a) : 0 ≤ sumL f l := by
  induction l with
  | nil => exact Int.le_refl _
  | cons a l ih =>
    simp only [sumL]
    have h1 := h a List.mem_cons_self
    have h2 := ih fun b m => h b (List.mem_cons_of_mem a m)
    omega
theorem sumL_add {α : Type} {f g : α → Int} : ∀ {l : List α}, sumL (fun a => f a + g a) l = sumL f l + sumL g l
  | [] => rfl
  | a :: l => by
    simp only [sumL]
    rw [sumL_add (l := l)]
    omega
theorem sumL_map {α β : Type} {f : β → Int} {k : α → β} : ∀ {l : List α}, sumL f (l.map k) = sumL (fun a => f (k a)) l
  | [] => rfl
  | a :: l => by
    simp only [sumL, List.map]
    rw [sumL_map (l := l)]
/-- strictly less at one place -/
theorem sumL_lt {α : Type} {f g : α → Int} : ∀ {l : List α}, (∀ a ∈ l, f a ≤ g a) → ∀ b, b ∈ l → f b + 1 ≤ g b → sumL f l + 1 ≤ sumL g l
  | [], _, _, m, _ => nomatch m
  | a :: l, h, b, m, e => by
    simp only [sumL]
    have h1 := h a List.mem_cons_self
    rcases List.mem_cons.mp m with rfl | m'
    · have h2 := sumL_le fun b m => h b (List.mem_cons_of_mem _ m)
      omega
    · have h2 := sumL_lt (fun b m => h b (List.mem_cons_of_mem a m)) b m' e
      omega
/-- one key among keys without repetition: an indicator's sum -/
theorem sumL_ind {h : Int} {d : Int} : ∀ {g : List (Int × Int)}, (g.map (·.1)).Nodup → sumL (fun p => if p.1 = h then d else 0) g = if h ∈ g.map (·.1) then d else 0
  | [], _ => rfl
  | p :: g, n => by
    simp only [sumL, List.map, List.nodup_cons] at *
    rw [sumL_ind n.2]
    by_cases e : p.1 = h
    · have : h ∉ g.map (·.1) := e ▸ n.1
      simp only [e, this, List.mem_cons, true_or, if_true, if_false]
      omega
    · have e' : ¬ h = p.1 := fun x => e x.symm
      simp only [e, e', List.mem_cons, false_or, if_false]
      omega
theorem sum_bump {h d : Int} {g : List (Int × Int)} (n : (g.map (·.1)).Nodup) (m : h ∈ g.map (·.1)) : sumL (·.2) (bump h d g) = sumL (·.2) g + d := by
  unfold bump
  rw [sumL_map]
  have : sumL (fun a : Int × Int => (if a.1 = h then (a.1, a.2 + d) else a).2) g = sumL (fun a => a.2 + (if a.1 = h then d else 0)) g := by
    apply sumL_congr
    intro a _
    split <;> simp
  rw [this, sumL_add, sumL_ind n, if_pos m]

/-! ### the greedy choice, in general -/
/-- lexicographic order of lists of one length -/
def lexLe : List Int → List Int → Prop
  | a :: t, b :: u => a < b ∨ (a = b ∧ lexLe t u)
  | _, _ => True
theorem lexLe_refl : ∀ t, lexLe t t
  | [] => trivial
  | _ :: t => .inr ⟨rfl, lexLe_refl t⟩
theorem lexLe_antisymm : ∀ {t u : List Int}, t.length = u.length → lexLe t u → lexLe u t → t = u
  | [], [], _, _, _ => rfl
  | a :: t, b :: u, l, h1, h2 => by
    simp only [lexLe] at h1 h2
    have e : a = b := by omega
    subst e
    have h1' : lexLe t u := by rcases h1 with h | h; omega; exact h.2
    have h2' : lexLe u t := by rcases h2 with h | h; omega; exact h.2
    rw [lexLe_antisymm (by simpa using l) h1' h2']
theorem lexLe_trans : ∀ {t u v : List Int}, t.length = u.length → u.length = v.length → lexLe t u → lexLe u v → lexLe t v
  | [], [], [], _, _, _, _ => trivial
  | a :: t, b :: u, c :: v, l1, l2, h1, h2 => by
    simp only [lexLe] at *
    rcases h1 with h1 | h1 <;> rcases h2 with h2 | h2
    · left; omega
    · left; omega
    · left; omega
    · right; exact ⟨by omega, lexLe_trans (by simpa using l1) (by simpa using l2) h1.2 h2.2⟩
theorem lexLe_total : ∀ (t u : List Int), lexLe t u ∨ lexLe u t
  | [], _ => .inl (by simp [lexLe])
  | _ :: _, [] => .inl (by simp [lexLe])
  | a :: t, b :: u => by
    simp only [lexLe]
    rcases lexLe_total t u with h | h
    · by_cases e : a < b
      · left; left; exact e
      · by_cases e2 : a = b
        · left; right; exact ⟨e2, h⟩
        · right; left; omega
    · by_cases e : b < a
      · right; left; exact e
      · by_cases e2 : a = b
        · right; right; exact ⟨e2.symm, h⟩
        · left; left; omega

structure Sys (S : Type) where
  hs : List Int
  step : Int → S → S
  val : List Int → S → Option Int
  Ok : S → List Int → Prop
  Inv : S → Nat → Prop
  up : hs.Pairwise (· < ·)
  ok_nil : ∀ {s t}, Inv s 0 → t.length = 0 → Ok s t → t = []
  ok_cons : ∀ {s n h t}, Inv s (n + 1) → (Ok s (h :: t) ↔ h ∈ hs ∧ Ok (step h s) t)
  inv_step : ∀ {s n h}, Inv s (n + 1) → h ∈ hs → Inv (step h s) n
  att : ∀ {s rest m}, Inv s rest.length → val rest s = some m → ∃ t, t.length = rest.length ∧ Ok s t ∧ score t rest = m
  bound : ∀ {s rest t}, Inv s rest.length → t.length = rest.length → Ok s t → ∃ m, val rest s = some m ∧ score t rest ≤ m

section
variable {S : Type} (Y : Sys S)
/-- is this house a good one -/
def Sys.good (s : S) (r : Int) (rs : List Int) (m : Int) (h : Int) : Bool :=
  match Y.val rs (Y.step h s) with
  | some k => decide (k + (if h = r then 1 else 0) = m)
  | none => false
def Sys.run : S → List Int → List Int
  | _, [] => []
  | s, r :: rs =>
    match Y.val (r :: rs) s with
    | some m => match Y.hs.find? (Y.good s r rs m) with
      | some h => h :: Sys.run (Y.step h s) rs
      | none => []
    | none => []

/-- the head of a best one is a good one -/
theorem Sys.good_of {s : S} {r : Int} {rs : List Int} {m h : Int} {t : List Int} (I : Y.Inv s (rs.length + 1)) (e : Y.val (r :: rs) s = some m)
    (l : t.length = rs.length) (o : Y.Ok s (h :: t)) (sc : score (h :: t) (r :: rs) = m) : h ∈ Y.hs ∧ Y.good s r rs m h = true ∧ ∃ k, Y.val rs (Y.step h s) = some k ∧ score t rs = k := by
  obtain ⟨mh, o'⟩ := (Y.ok_cons I).mp o
  have I' := Y.inv_step I mh
  obtain ⟨k, ek, bk⟩ := Y.bound I' l o'
  obtain ⟨t2, l2, o2, s2⟩ := Y.att I' ek
  have o3 : Y.Ok s (h :: t2) := (Y.ok_cons I).mpr ⟨mh, o2⟩
  obtain ⟨m', em', bm'⟩ := Y.bound (rest := r :: rs) I (by simp [l2]) o3
  rw [e] at em'
  cases em'
  simp only [score] at sc bm'
  have : k + (if h = r then 1 else 0) = m := by omega
  refine ⟨mh, ?_, k, ek, by omega⟩
  unfold Sys.good
  rw [ek]
  simp only [this, decide_true]
theorem Sys.good_some {s : S} {r : Int} {rs : List Int} {m : Int} (I : Y.Inv s (rs.length + 1)) (e : Y.val (r :: rs) s = some m) : ∃ h, Y.hs.find? (Y.good s r rs m) = some h := by
  obtain ⟨t, l, o, sc⟩ := Y.att (rest := r :: rs) I e
  cases t with
  | nil => simp at l
  | cons h t =>
    obtain ⟨mh, g, _⟩ := Y.good_of I e (by simpa using l) o sc
    exact Option.isSome_iff_exists.mp (List.find?_isSome.mpr ⟨h, mh, g⟩)
theorem Sys.good_iff {s : S} {r : Int} {rs : List Int} {m h : Int} (g : Y.good s r rs m h = true) : ∃ k, Y.val rs (Y.step h s) = some k ∧ k + (if h = r then 1 else 0) = m := by
  unfold Sys.good at g
  split at g
  · next k e => exact ⟨k, e, of_decide_eq_true g⟩
  · cases g
theorem find_first {p : Int → Bool} : ∀ {l : List Int}, l.Pairwise (· < ·) → ∀ {h : Int}, l.find? p = some h → ∀ x ∈ l, p x = true → h ≤ x
  | a :: l, u, h, e, x, m, px => by
    rw [List.find?_cons] at e
    by_cases pa : p a = true
    · rw [pa] at e
      cases e
      rcases List.mem_cons.mp m with rfl | m
      · exact Int.le_refl _
      · exact Int.le_of_lt ((List.pairwise_cons.mp u).1 x m)
    · have pa' : p a = false := by simpa using pa
      rw [pa'] at e
      rcases List.mem_cons.mp m with rfl | m
      · exact absurd px pa
      · exact find_first (List.pairwise_cons.mp u).2 e x m px
theorem Sys.run_ok : ∀ {rest : List Int} {s : S} {m : Int}, Y.Inv s rest.length → Y.val rest s = some m →
    (Y.run s rest).length = rest.length ∧ Y.Ok s (Y.run s rest) ∧ score (Y.run s rest) rest = m ∧ ∀ t, t.length = rest.length → Y.Ok s t → score t rest = m → lexLe (Y.run s rest) t
  | [], s, m, I, e => by
    obtain ⟨t, l, o, sc⟩ := Y.att I e
    have := Y.ok_nil I (by simpa using l) o
    subst this
    exact ⟨rfl, o, sc, fun t l _ _ => by cases t <;> simp [Sys.run, lexLe]⟩
  | r :: rs, s, m, I, e => by
    obtain ⟨h, eh⟩ := Y.good_some I e
    have g := List.find?_some eh
    have mh := List.mem_of_find?_eq_some eh
    obtain ⟨k, ek, sk⟩ := Y.good_iff g
    obtain ⟨h1, h2, h3, h4⟩ := Sys.run_ok (rest := rs) (Y.inv_step I mh) ek
    have er : Y.run s (r :: rs) = h :: Y.run (Y.step h s) rs := by
      rw [Sys.run, e]
      simp only
      rw [eh]
    rw [er]
    refine ⟨by simp [h1], (Y.ok_cons I).mpr ⟨mh, h2⟩, by simp only [score]; omega, fun t l o sc => ?_⟩
    cases t with
    | nil => simp at l
    | cons a t =>
      have l' : t.length = rs.length := by simpa using l
      obtain ⟨ma, ga, k', ek', sk'⟩ := Y.good_of I e l' o sc
      have le := find_first Y.up eh a ma ga
      simp only [lexLe]
      by_cases ea : h = a
      · subst ea
        right
        rw [ek] at ek'
        cases ek'
        exact ⟨rfl, h4 t l' ((Y.ok_cons I).mp o).2 sk'⟩
      · left; omega
end

/-! ### just so many of each -/
def capV (rest : List Int) (c : List (Int × Int)) : Int := sumL (fun p => min (cnt rest p.1) p.2) c
def exVal (rest : List Int) (c : List (Int × Int)) : Option Int := if c.all (fun p => decide (0 ≤ p.2)) then some (capV rest c) else none
def exOk (hs : List Int) (c : List (Int × Int)) (t : List Int) : Prop := (∀ x ∈ t, x ∈ hs) ∧ ∀ p ∈ c, cnt t p.1 = p.2
def exInv (hs : List Int) (c : List (Int × Int)) (n : Nat) : Prop := c.map (·.1) = hs ∧ sumL (·.2) c = n

theorem up_nodup {l : List Int} (h : l.Pairwise (· < ·)) : l.Nodup := h.imp fun h e => by omega

theorem mem_bump {h d : Int} {g : List (Int × Int)} {p : Int × Int} : p ∈ bump h d g ↔ ∃ q ∈ g, p = (q.1, q.2 + if q.1 = h then d else 0) := by
  unfold bump
  rw [List.mem_map]
  constructor
  · rintro ⟨q, m, rfl⟩
    refine ⟨q, m, ?_⟩
    split <;> simp
  · rintro ⟨q, m, rfl⟩
    refine ⟨q, m, ?_⟩
    split <;> simp

theorem ex_cons {hs : List Int} {c : List (Int × Int)} {h : Int} {t : List Int} : exOk hs c (h :: t) ↔ h ∈ hs ∧ exOk hs (bump h (-1) c) t := by
  unfold exOk
  constructor
  · rintro ⟨a, b⟩
    refine ⟨a h List.mem_cons_self, fun x m => a x (List.mem_cons_of_mem _ m), fun p m => ?_⟩
    obtain ⟨q, mq, rfl⟩ := mem_bump.mp m
    have := b q mq
    rw [cnt_cons] at this
    show cnt t q.1 = q.2 + _
    by_cases e : h = q.1
    · simp only [e, if_true] at *; omega
    · have e' : ¬ q.1 = h := fun x => e x.symm
      simp only [e, e', if_false] at *; omega
  · rintro ⟨mh, a, b⟩
    refine ⟨fun x m => ?_, fun q mq => ?_⟩
    · rcases List.mem_cons.mp m with rfl | m
      · exact mh
      · exact a x m
    · have := b _ (mem_bump.mpr ⟨q, mq, rfl⟩)
      rw [cnt_cons]
      simp only at this
      by_cases e : h = q.1
      · simp only [e, if_true] at *; omega
      · have e' : ¬ q.1 = h := fun x => e x.symm
        simp only [e, e', if_false] at *; omega
theorem ex_step {hs : List Int} (up : hs.Pairwise (· < ·)) {c : List (Int × Int)} {n : Nat} {h : Int} (I : exInv hs c (n + 1)) (m : h ∈ hs) : exInv hs (bump h (-1) c) n := by
  obtain ⟨k, e⟩ := I
  refine ⟨by rw [bump_keys]; exact k, ?_⟩
  rw [sum_bump (by rw [k]; exact up_nodup up) (by rw [k]; exact m), e]
  omega

/-- the score is at most what the counts let -/
theorem score_le (hs : List Int) (nd : hs.Nodup) : ∀ (t rest : List Int), (∀ x ∈ t, x ∈ hs) → score t rest ≤ sumL (fun h => min (cnt rest h) (cnt t h)) hs
  | [], rest, _ => by
    have : score [] rest = 0 := by cases rest <;> rfl
    rw [this]
    exact sumL_nn fun a _ => by rw [cnt_nil]; have := cnt_nn rest a; omega
  | a :: t, [], _ => by
    show (0 : Int) ≤ _
    exact sumL_nn fun b _ => by rw [cnt_nil]; have := cnt_nn (a :: t) b; omega
  | a :: t, r :: rs, h => by
    have ih := score_le hs nd t rs fun x m => h x (List.mem_cons_of_mem _ m)
    have ma := h a List.mem_cons_self
    simp only [score]
    by_cases e : a = r
    · subst e
      simp only [if_true]
      have := sumL_lt (f := fun h => min (cnt rs h) (cnt t h)) (g := fun h => min (cnt (a :: rs) h) (cnt (a :: t) h)) (l := hs) (fun x _ => by
        simp only [cnt_cons]; split <;> omega) a ma (by simp only [cnt_cons, if_true]; omega)
      omega
    · simp only [e, if_false]
      have := sumL_le (f := fun h => min (cnt rs h) (cnt t h)) (g := fun h => min (cnt (r :: rs) h) (cnt (a :: t) h)) (l := hs) (fun x _ => by
        simp only [cnt_cons]; split <;> split <;> omega)
      omega

theorem sum_keys {f : Int → Int} {c : List (Int × Int)} {hs : List Int} (k : c.map (·.1) = hs) : sumL f hs = sumL (fun p => f p.1) c := by
  rw [← k, sumL_map]

theorem ex_bound {hs : List Int} (nd : hs.Nodup) {c : List (Int × Int)} {rest t : List Int} (k : c.map (·.1) = hs) (o : exOk hs c t) : exVal rest c = some (capV rest c) ∧ score t rest ≤ capV rest c := by
  constructor
  · unfold exVal
    rw [if_pos]
    rw [List.all_eq_true]
    intro p m
    have := o.2 p m
    have := cnt_nn t p.1
    simp only [decide_eq_true_eq]; omega
  · have := score_le hs nd t rest o.1
    rw [sum_keys k] at this
    have e : sumL (fun p : Int × Int => min (cnt rest p.1) (cnt t p.1)) c = capV rest c := by
      unfold capV
      apply sumL_congr
      intro p m
      rw [o.2 p m]
    omega

theorem sum_exists {f g : Int × Int → Int} : ∀ {c : List (Int × Int)}, sumL f c < sumL g c → ∃ p ∈ c, f p < g p
  | [], h => by simp [sumL] at h
  | a :: c, h => by
    simp only [sumL] at h
    by_cases e : f a < g a
    · exact ⟨a, List.mem_cons_self, e⟩
    · obtain ⟨p, m, q⟩ := sum_exists (f := f) (g := g) (c := c) (by omega)
      exact ⟨p, List.mem_cons_of_mem _ m, q⟩
theorem cnt_sum_le (hs : List Int) (nd : hs.Nodup) : ∀ (rest : List Int), sumL (cnt rest) hs ≤ rest.length
  | [] => by
    have : sumL (cnt []) hs = sumL (fun _ => 0) hs := sumL_congr fun a _ => rfl
    rw [this]
    have : ∀ l : List Int, sumL (fun _ => 0) l = 0 := fun l => by induction l with
      | nil => rfl
      | cons a l ih => simp only [sumL, ih]; rfl
    rw [this]
    simp
  | r :: rs => by
    have ih := cnt_sum_le hs nd rs
    have : sumL (cnt (r :: rs)) hs = sumL (cnt rs) hs + sumL (fun h => if r = h then 1 else 0) hs := by
      rw [← sumL_add]
      apply sumL_congr
      intro a _
      rw [cnt_cons]
    rw [this]
    have one : ∀ l : List Int, l.Nodup → sumL (fun h => if r = h then (1 : Int) else 0) l ≤ 1 ∧ (r ∉ l → sumL (fun h => if r = h then (1 : Int) else 0) l = 0) := by
      intro l
      induction l with
      | nil => intro _; simp [sumL]
      | cons a l ih =>
        intro n
        have n' := List.nodup_cons.mp n
        obtain ⟨i1, i2⟩ := ih n'.2
        simp only [sumL]
        by_cases e : r = a
        · subst e
          rw [i2 n'.1]
          simp
        · simp only [e, if_false, List.mem_cons, false_or]
          exact ⟨by omega, fun x => by rw [i2 x]; rfl⟩
    have := (one hs nd).1
    simp only [List.length_cons]
    omega

theorem key_inj {l : List (Int × Int)} (n : (l.map (·.1)).Nodup) {x y : Int × Int} (mx : x ∈ l) (my : y ∈ l) (e : x.1 = y.1) : x = y := by
  induction l with
  | nil => nomatch mx
  | cons a l ih =>
    have n' := List.nodup_cons.mp n
    rcases List.mem_cons.mp mx with h1 | mx <;> rcases List.mem_cons.mp my with h2 | my
    · rw [h1, h2]
    · exact absurd (List.mem_map.mpr ⟨y, my, by rw [← e, h1]⟩) n'.1
    · exact absurd (List.mem_map.mpr ⟨x, mx, by rw [e, h2]⟩) n'.1
    · exact ih n'.2 mx my
theorem ex_att {hs : List Int} (up : hs.Pairwise (· < ·)) : ∀ {rest : List Int} {c : List (Int × Int)}, exInv hs c rest.length → (∀ p ∈ c, 0 ≤ p.2) → ∃ t, t.length = rest.length ∧ exOk hs c t ∧ score t rest = capV rest c
  | [], c, I, nn => by
    refine ⟨[], rfl, ⟨(fun _ m => by cases m), (fun p m => ?_)⟩, ?_⟩
    · -- all are 0, as the sum is
      rw [cnt_nil]
      have s0 : sumL (·.2) c = 0 := by have := I.2; simpa using this
      have z : ∀ (c : List (Int × Int)), (∀ p ∈ c, 0 ≤ p.2) → sumL (·.2) c = 0 → ∀ p ∈ c, p.2 = 0 := by
        intro c
        induction c with
        | nil => intro _ _ p m; nomatch m
        | cons a c ih =>
          intro nn s p m
          simp only [sumL] at s
          have h1 := nn a List.mem_cons_self
          have h2 : 0 ≤ sumL (·.2) c := sumL_nn fun b m => nn b (List.mem_cons_of_mem _ m)
          rcases List.mem_cons.mp m with rfl | m
          · omega
          · exact ih (fun b m => nn b (List.mem_cons_of_mem _ m)) (by omega) p m
      exact (z c nn s0 p m).symm
    · show (0 : Int) = _
      unfold capV
      have : sumL (fun p : Int × Int => min (cnt [] p.1) p.2) c = sumL (fun _ => 0) c := by
        apply sumL_congr
        intro p m
        have := nn p m
        rw [cnt_nil]; omega
      rw [this]
      have : ∀ l : List (Int × Int), sumL (fun _ => 0) l = 0 := fun l => by induction l with
        | nil => rfl
        | cons a l ih => simp only [sumL, ih]; rfl
      rw [this]
  | r :: rs, c, I, nn => by
    have nd := up_nodup up
    -- a house that may take the place, no match lost
    have key : ∃ p ∈ c, 0 < p.2 ∧ ((if p.1 = r then 1 else 0) + capV rs (bump p.1 (-1) c) = capV (r :: rs) c) := by
      have kc := I.1
      have ndc : (c.map (·.1)).Nodup := by rw [kc]; exact nd
      by_cases q : ∃ p ∈ c, p.1 = r ∧ 0 < p.2
      · obtain ⟨p, m, e, pp⟩ := q
        refine ⟨p, m, pp, ?_⟩
        rw [if_pos e]
        unfold capV
        unfold bump
        rw [sumL_map]
        have : sumL (fun q : Int × Int => min (cnt (r :: rs) q.1) q.2) c = sumL (fun q => min (cnt rs (if q.1 = p.1 then (q.1, q.2 + -1) else q).1) (if q.1 = p.1 then (q.1, q.2 + -1) else q).2 + (if q.1 = p.1 then 1 else 0)) c := by
          apply sumL_congr
          intro x mx
          rw [cnt_cons]
          by_cases ex : x.1 = p.1
          · simp only [ex, if_true, e]
            have : x = p := by
              exact key_inj ndc mx m ex
            subst this
            omega
          · have : ¬ r = x.1 := fun z => ex (by rw [← z, e])
            simp only [ex, this, if_false]
            omega
        rw [this, sumL_add, sumL_ind ndc, if_pos (List.mem_map.mpr ⟨p, m, rfl⟩)]
        omega
      · -- some house has room beyond its slots in what is left
        have lt : sumL (fun p : Int × Int => cnt rs p.1) c < sumL (·.2) c := by
          rw [I.2]
          have := cnt_sum_le hs nd rs
          rw [sum_keys kc] at this
          simp only [List.length_cons]
          omega
        obtain ⟨p, m, pp⟩ := sum_exists lt
        have nn0 := cnt_nn rs p.1
        refine ⟨p, m, by omega, ?_⟩
        have pr : ¬ p.1 = r := fun e => q ⟨p, m, e, by omega⟩
        rw [if_neg pr]
        unfold capV
        unfold bump
        rw [sumL_map]
        have : sumL (fun q : Int × Int => min (cnt (r :: rs) q.1) q.2) c = sumL (fun q => min (cnt rs (if q.1 = p.1 then (q.1, q.2 + -1) else q).1) (if q.1 = p.1 then (q.1, q.2 + -1) else q).2) c := by
          apply sumL_congr
          intro x mx
          rw [cnt_cons]
          by_cases ex : x.1 = p.1
          · have : x = p := by
              exact key_inj ndc mx m ex
            subst this
            have : ¬ r = x.1 := fun z => pr z.symm
            simp only [this, if_true, if_false]
            omega
          · simp only [ex, if_false]
            by_cases er : r = x.1
            · have x0 : x.2 = 0 := by
                have := nn x mx
                have : ¬ 0 < x.2 := fun z => q ⟨x, mx, er.symm, z⟩
                omega
              have := cnt_nn rs x.1
              simp only [er, if_true]
              omega
            · simp only [er, if_false]
              omega
        rw [this]
        omega
    obtain ⟨p, m, pp, e⟩ := key
    have mh : p.1 ∈ hs := by rw [← I.1]; exact List.mem_map.mpr ⟨p, m, rfl⟩
    have ndc : (c.map (·.1)).Nodup := by rw [I.1]; exact nd
    have nn' : ∀ x ∈ bump p.1 (-1) c, 0 ≤ x.2 := by
      intro x mx
      obtain ⟨y, my, rfl⟩ := mem_bump.mp mx
      by_cases ey : y.1 = p.1
      · have := key_inj ndc my m ey
        subst this
        simp only [if_true]; omega
      · simp only [ey, if_false]
        have := nn y my
        omega
    obtain ⟨t, l, o, sc⟩ := ex_att up (ex_step up I mh) nn'
    refine ⟨p.1 :: t, by simp [l], ex_cons.mpr ⟨mh, o⟩, ?_⟩
    simp only [score]
    omega

def exSys (hs : List Int) (up : hs.Pairwise (· < ·)) : Sys (List (Int × Int)) where
  hs := hs
  step := fun h c => bump h (-1) c
  val := exVal
  Ok := exOk hs
  Inv := exInv hs
  up := up
  ok_nil := fun _ l _ => List.eq_nil_of_length_eq_zero l
  ok_cons := fun _ => ex_cons
  inv_step := ex_step up
  att := fun {s rest m} I e => by
    unfold exVal at e
    split at e
    · next h =>
      cases e
      exact ex_att up I fun p m => of_decide_eq_true (List.all_eq_true.mp h p m)
    · cases e
  bound := fun {s rest t} I _ o => ⟨_, ex_bound (up_nodup up) I.1 o⟩
end Sh
namespace Sh
/-! ### even ones -/
def roomK (low : Int) (rest : List Int) (p : Int × Int) : Int := if low - p.2 = -1 then 0 else min (low - p.2) (cnt rest p.1)
def roomF (low : Int) (p : Int × Int) : Int := if low - p.2 = -1 then 1 else 0
def roomM (low : Int) (rest : List Int) (p : Int × Int) : Int := if low - p.2 ≠ -1 ∧ low - p.2 < cnt rest p.1 then 1 else 0
def evVal (low larger : Int) (rest : List Int) (g : List (Int × Int)) : Option Int :=
  if g.all (fun p => decide (-1 ≤ low - p.2)) ∧ sumL (roomF low) g ≤ larger then
    some (sumL (roomK low rest) g + min (larger - sumL (roomF low) g) (sumL (roomM low rest) g))
  else none
def evOk (low : Int) (hs : List Int) (g : List (Int × Int)) (t : List Int) : Prop := (∀ x ∈ t, x ∈ hs) ∧ ∀ p ∈ g, low ≤ p.2 + cnt t p.1 ∧ p.2 + cnt t p.1 ≤ low + 1
def evInv (low larger : Int) (hs : List Int) (g : List (Int × Int)) (n : Nat) : Prop := g.map (·.1) = hs ∧ sumL (·.2) g + n = low * g.length + larger ∧ larger ≤ g.length

theorem cnt_sum (hs : List Int) (nd : hs.Nodup) : ∀ (t : List Int), (∀ x ∈ t, x ∈ hs) → sumL (cnt t) hs = t.length
  | [], _ => by
    have : sumL (cnt []) hs = sumL (fun _ => 0) hs := sumL_congr fun a _ => rfl
    rw [this]
    have : ∀ l : List Int, sumL (fun _ => 0) l = 0 := fun l => by induction l with
      | nil => rfl
      | cons a l ih => simp only [sumL, ih]; rfl
    rw [this]; rfl
  | r :: rs, h => by
    have ih := cnt_sum hs nd rs fun x m => h x (List.mem_cons_of_mem _ m)
    have : sumL (cnt (r :: rs)) hs = sumL (cnt rs) hs + sumL (fun h => if r = h then 1 else 0) hs := by
      rw [← sumL_add]
      apply sumL_congr
      intro a _
      rw [cnt_cons]
    rw [this, ih]
    have one : ∀ l : List Int, l.Nodup → (r ∉ l → sumL (fun h => if r = h then (1 : Int) else 0) l = 0) ∧ (r ∈ l → sumL (fun h => if r = h then (1 : Int) else 0) l = 1) := by
      intro l
      induction l with
      | nil => intro _; simp [sumL]
      | cons a l ih =>
        intro n
        have n' := List.nodup_cons.mp n
        obtain ⟨i1, i2⟩ := ih n'.2
        simp only [sumL]
        by_cases e : r = a
        · subst e
          rw [i1 n'.1]
          simp
        · simp only [e, if_false, List.mem_cons, false_or]
          exact ⟨fun x => by rw [i1 x]; rfl, fun x => by rw [i2 x]; rfl⟩
    rw [(one hs nd).2 (h r List.mem_cons_self)]
    simp

theorem sum_const (low : Int) : ∀ (g : List (Int × Int)), sumL (fun p => low - p.2) g = low * g.length - sumL (·.2) g
  | [] => by simp [sumL]
  | p :: g => by
    simp only [sumL, sum_const low g, List.length_cons]
    rw [Int.natCast_add, Int.mul_add]
    simp
    omega
theorem sum_one : ∀ (g : List (Int × Int)), sumL (fun _ => (1 : Int)) g = g.length
  | [] => rfl
  | p :: g => by simp only [sumL, sum_one g, List.length_cons]; omega

/-- which ones get one more -/
theorem ev_caps (low : Int) (rest : List Int) : ∀ (g : List (Int × Int)) (L : Int), (∀ p ∈ g, -1 ≤ low - p.2) → 0 ≤ L → L + sumL (roomF low) g ≤ g.length →
    ∃ c : List (Int × Int), c.map (·.1) = g.map (·.1) ∧ (∀ p ∈ c, 0 ≤ p.2) ∧ sumL (·.2) c = sumL (fun p => low - p.2) g + sumL (roomF low) g + L ∧
      capV rest c = sumL (roomK low rest) g + min L (sumL (roomM low rest) g) ∧ ∀ p ∈ g, ∃ q ∈ c, q.1 = p.1 ∧ (q.2 = low - p.2 ∨ q.2 = low - p.2 + 1)
  | [], L, _, h0, hl => by
    simp only [sumL, List.length_nil] at hl
    have : L = 0 := by simp at hl; omega
    subst this
    exact ⟨[], rfl, (fun _ m => by cases m), rfl, rfl, (fun _ m => by cases m)⟩
  | p :: g, L, hb, h0, hl => by
    have hp := hb p List.mem_cons_self
    have hb' : ∀ q ∈ g, -1 ≤ low - q.2 := fun q m => hb q (List.mem_cons_of_mem _ m)
    have fn : 0 ≤ sumL (roomF low) g := sumL_nn fun q _ => by unfold roomF; split <;> omega
    have mn : 0 ≤ sumL (roomM low rest) g := sumL_nn fun q _ => by unfold roomM; split <;> omega
    have mle : sumL (roomM low rest) g + sumL (roomF low) g ≤ g.length := by
      rw [← sumL_add, ← sum_one]
      apply sumL_le
      intro q _
      unfold roomM roomF
      split <;> split <;> omega
    have cn := cnt_nn rest p.1
    simp only [sumL, List.length_cons, Int.natCast_add, Int.natCast_one] at hl ⊢
    have take : ∀ (L' x : Int), 0 ≤ L' → L' + sumL (roomF low) g ≤ g.length → (x = 0 ∨ x = 1) → 0 ≤ low - p.2 + x → x + L' = roomF low p + L →
        min (cnt rest p.1) (low - p.2 + x) + min L' (sumL (roomM low rest) g) = roomK low rest p + min L (roomM low rest p + sumL (roomM low rest) g) →
        ∃ c : List (Int × Int), c.map (·.1) = (p :: g).map (·.1) ∧ (∀ p ∈ c, 0 ≤ p.2) ∧ sumL (·.2) c = low - p.2 + sumL (fun p => low - p.2) g + (roomF low p + sumL (roomF low) g) + L ∧
          capV rest c = roomK low rest p + sumL (roomK low rest) g + min L (roomM low rest p + sumL (roomM low rest) g) ∧ ∀ q ∈ p :: g, ∃ r ∈ c, r.1 = q.1 ∧ (r.2 = low - q.2 ∨ r.2 = low - q.2 + 1) := by
      intro L' x a1 a2 a3 a4 a5 a6
      obtain ⟨c, c1, c2, c3, c4, c5⟩ := ev_caps low rest g L' hb' a1 a2
      refine ⟨(p.1, low - p.2 + x) :: c, by simp [c1], fun q m => ?_, by simp only [sumL]; omega, by unfold capV at *; simp only [sumL]; omega, fun q m => ?_⟩
      · rcases List.mem_cons.mp m with rfl | m
        · exact a4
        · exact c2 q m
      · rcases List.mem_cons.mp m with rfl | m
        · exact ⟨_, List.mem_cons_self, rfl, by rcases a3 with rfl | rfl <;> simp⟩
        · obtain ⟨r, mr, er⟩ := c5 q m
          exact ⟨r, List.mem_cons_of_mem _ mr, er⟩
    by_cases f : low - p.2 = -1
    · -- one that must have one more
      have e1 : roomF low p = 1 := by unfold roomF; rw [if_pos f]
      have e2 : roomK low rest p = 0 := by unfold roomK; rw [if_pos f]
      have e3 : roomM low rest p = 0 := by unfold roomM; rw [if_neg (fun z => z.1 f)]
      exact take L 1 h0 (by omega) (.inr rfl) (by omega) (by omega) (by rw [e2, e3, f]; omega)
    · have e1 : roomF low p = 0 := by unfold roomF; rw [if_neg f]
      have e2 : roomK low rest p = min (low - p.2) (cnt rest p.1) := by unfold roomK; rw [if_neg f]
      by_cases m : low - p.2 < cnt rest p.1
      · have e3 : roomM low rest p = 1 := by unfold roomM; rw [if_pos ⟨f, m⟩]
        by_cases l : 1 ≤ L
        · exact take (L - 1) 1 (by omega) (by omega) (.inr rfl) (by omega) (by omega) (by rw [e2, e3]; omega)
        · exact take L 0 h0 (by omega) (.inl rfl) (by omega) (by omega) (by rw [e2, e3]; omega)
      · have e3 : roomM low rest p = 0 := by unfold roomM; rw [if_neg (fun z => m z.2)]
        by_cases l : L + sumL (roomF low) g ≤ g.length
        · exact take L 0 h0 l (.inl rfl) (by omega) (by omega) (by rw [e2, e3]; omega)
        · exact take (L - 1) 1 (by omega) (by omega) (.inr rfl) (by omega) (by omega) (by rw [e2, e3]; omega)

theorem ev_att {low larger : Int} {hs : List Int} (up : hs.Pairwise (· < ·)) {g : List (Int × Int)} {rest : List Int} {m : Int} (I : evInv low larger hs g rest.length) (e : evVal low larger rest g = some m) :
    ∃ t, t.length = rest.length ∧ evOk low hs g t ∧ score t rest = m := by
  obtain ⟨k, s, lg⟩ := I
  unfold evVal at e
  split at e
  · next h =>
    cases e
    obtain ⟨hb, hf⟩ := h
    have hb' : ∀ p ∈ g, -1 ≤ low - p.2 := fun p m => of_decide_eq_true (List.all_eq_true.mp hb p m)
    obtain ⟨c, c1, c2, c3, c4, c5⟩ := ev_caps low rest g (larger - sumL (roomF low) g) hb' (by omega) (by omega)
    have I : exInv hs c rest.length := ⟨by rw [c1, k], by rw [c3, sum_const]; omega⟩
    obtain ⟨t, t1, t2, t3⟩ := ex_att up I c2
    refine ⟨t, t1, ⟨t2.1, fun p m => ?_⟩, by rw [t3, c4]⟩
    obtain ⟨q, mq, eq, o⟩ := c5 p m
    have := t2.2 q mq
    rw [eq] at this
    omega
  · cases e

theorem ev_bound {low larger : Int} {hs : List Int} (up : hs.Pairwise (· < ·)) {g : List (Int × Int)} {rest t : List Int} (I : evInv low larger hs g rest.length) (l : t.length = rest.length) (o : evOk low hs g t) :
    ∃ m, evVal low larger rest g = some m ∧ score t rest ≤ m := by
  obtain ⟨k, s, lg⟩ := I
  have nd := up_nodup up
  have hb : g.all (fun p => decide (-1 ≤ low - p.2)) = true := by
    rw [List.all_eq_true]
    intro p m
    have := o.2 p m
    have := cnt_nn t p.1
    simp only [decide_eq_true_eq]
    omega
  have sx : sumL (fun p : Int × Int => cnt t p.1 - (low - p.2)) g = larger := by
    have h1 := cnt_sum hs nd t o.1
    rw [sum_keys k] at h1
    have h2 := sum_const low g
    have : sumL (fun p : Int × Int => cnt t p.1) g = sumL (fun p : Int × Int => (cnt t p.1 - (low - p.2)) + (low - p.2)) g := by
      apply sumL_congr
      intro p _
      omega
    rw [this, sumL_add, h2] at h1
    omega
  have hf : sumL (roomF low) g ≤ larger := by
    rw [← sx]
    apply sumL_le
    intro p m
    have := o.2 p m
    have := cnt_nn t p.1
    unfold roomF
    split <;> omega
  refine ⟨_, by unfold evVal; rw [if_pos ⟨hb, hf⟩], ?_⟩
  have h1 := score_le hs nd t rest o.1
  rw [sum_keys k] at h1
  have h2 : sumL (fun p : Int × Int => min (cnt rest p.1) (cnt t p.1)) g ≤ sumL (fun p => roomK low rest p + roomM low rest p * (cnt t p.1 - (low - p.2))) g := by
    apply sumL_le
    intro p m
    have h3 := o.2 p m
    have h4 := cnt_nn t p.1
    have h5 := cnt_nn rest p.1
    unfold roomK roomM
    by_cases f : low - p.2 = -1
    · rw [if_pos f, if_neg (fun z => z.1 f)]; omega
    · rw [if_neg f]
      by_cases q : low - p.2 < cnt rest p.1
      · rw [if_pos ⟨f, q⟩]; omega
      · rw [if_neg (fun z => q z.2)]; omega
  rw [sumL_add] at h2
  have h3 : sumL (fun p => roomM low rest p * (cnt t p.1 - (low - p.2))) g ≤ sumL (roomM low rest) g := by
    apply sumL_le
    intro p m
    have h3 := o.2 p m
    unfold roomM
    split <;> omega
  have h4 : sumL (fun p => roomM low rest p * (cnt t p.1 - (low - p.2))) g + sumL (roomF low) g ≤ larger := by
    rw [← sx, ← sumL_add]
    apply sumL_le
    intro p m
    have h3 := o.2 p m
    have h4 := cnt_nn t p.1
    unfold roomM roomF
    by_cases f : low - p.2 = -1
    · rw [if_pos f, if_neg (fun z => z.1 f)]; omega
    · rw [if_neg f]
      split <;> omega
  omega

theorem ev_cons {low : Int} {hs : List Int} {g : List (Int × Int)} {h : Int} {t : List Int} : evOk low hs g (h :: t) ↔ h ∈ hs ∧ evOk low hs (bump h 1 g) t := by
  unfold evOk
  constructor
  · rintro ⟨a, b⟩
    refine ⟨a h List.mem_cons_self, fun x m => a x (List.mem_cons_of_mem _ m), fun p m => ?_⟩
    obtain ⟨q, mq, rfl⟩ := mem_bump.mp m
    have := b q mq
    rw [cnt_cons] at this
    show low ≤ (q.2 + _) + cnt t q.1 ∧ (q.2 + _) + cnt t q.1 ≤ low + 1
    by_cases e : h = q.1
    · simp only [e, if_true] at *; omega
    · have e' : ¬ q.1 = h := fun x => e x.symm
      simp only [e, e', if_false] at *; omega
  · rintro ⟨mh, a, b⟩
    refine ⟨fun x m => ?_, fun q mq => ?_⟩
    · rcases List.mem_cons.mp m with rfl | m
      · exact mh
      · exact a x m
    · have := b _ (mem_bump.mpr ⟨q, mq, rfl⟩)
      rw [cnt_cons]
      simp only at this
      by_cases e : h = q.1
      · simp only [e, if_true] at *; omega
      · have e' : ¬ q.1 = h := fun x => e x.symm
        simp only [e, e', if_false] at *; omega

def evSys (low larger : Int) (hs : List Int) (up : hs.Pairwise (· < ·)) : Sys (List (Int × Int)) where
  hs := hs
  step := fun h c => bump h 1 c
  val := evVal low larger
  Ok := evOk low hs
  Inv := evInv low larger hs
  up := up
  ok_nil := fun _ l _ => List.eq_nil_of_length_eq_zero l
  ok_cons := fun _ => ev_cons
  inv_step := fun {s n h} I m => by
    obtain ⟨k, e, lg⟩ := I
    refine ⟨by rw [bump_keys]; exact k, ?_, by rw [bump_length]; exact lg⟩
    rw [sum_bump (by rw [k]; exact up_nodup up) (by rw [k]; exact m), bump_length]
    omega
  att := ev_att up
  bound := ev_bound up
end Sh
namespace Sh
/-! ### the law's own way -/
def choices : List Int → Nat → List (List Int)
  | _, 0 => [[]]
  | [], _ + 1 => []
  | h :: t, m + 1 => (choices t m).map (h :: ·) ++ choices t (m + 1)
theorem ch_mem : ∀ {hs : List Int} {m : Nat} {s : List Int}, s ∈ choices hs m → s.length = m ∧ s.Sublist hs
  | hs, 0, s, h => by
    have : s = [] := by cases hs <;> simpa [choices] using h
    subst this
    exact ⟨rfl, List.nil_sublist _⟩
  | [], m + 1, s, h => by simp [choices] at h
  | a :: t, m + 1, s, h => by
    simp only [choices, List.mem_append, List.mem_map] at h
    rcases h with ⟨u, hu, rfl⟩ | h
    · obtain ⟨l, sub⟩ := ch_mem hu
      exact ⟨by simp [l], sub.cons_cons a⟩
    · obtain ⟨l, sub⟩ := ch_mem h
      exact ⟨l, sub.cons a⟩
theorem ch_of : ∀ {hs : List Int} {m : Nat} {s : List Int}, s.Sublist hs → s.length = m → s ∈ choices hs m
  | hs, 0, s, h, l => by
    have : s = [] := List.eq_nil_of_length_eq_zero l
    subst this
    cases hs <;> simp [choices]
  | [], m + 1, s, h, l => by
    have := List.sublist_nil.mp h
    subst this
    simp at l
  | a :: t, m + 1, s, h, l => by
    simp only [choices, List.mem_append, List.mem_map]
    cases h with
    | cons _ h => exact .inr (ch_of h l)
    | cons_cons _ h => exact .inl ⟨_, ch_of h (by simpa using l), rfl⟩

def capOf (share : Int) (s hs : List Int) : List (Int × Int) := hs.map fun h => (h, share + if h ∈ s then 1 else 0)
theorem capOf_keys (share : Int) (s hs : List Int) : (capOf share s hs).map (·.1) = hs := by
  unfold capOf
  rw [List.map_map]
  have : ((fun p : Int × Int => p.1) ∘ fun h => (h, share + if h ∈ s then (1 : Int) else 0)) = id := rfl
  rw [this, List.map_id]
theorem cnt_ind {s : List Int} (n : s.Nodup) (h : Int) : cnt s h = if h ∈ s then 1 else 0 := by
  by_cases e : h ∈ s
  · rw [if_pos e]
    unfold cnt
    rw [List.Nodup.count n, if_pos e]; rfl
  · rw [if_neg e, cnt_eq_zero e]
theorem sum_const2 (c : Int) : ∀ (g : List Int), sumL (fun _ => c) g = c * g.length
  | [] => by simp [sumL]
  | p :: g => by
    simp only [sumL, sum_const2 c g, List.length_cons]
    rw [Int.natCast_add, Int.mul_add]
    simp
    omega
theorem capOf_sum {share : Int} {s hs : List Int} (nd : hs.Nodup) (sub : s.Sublist hs) : sumL (·.2) (capOf share s hs) = share * hs.length + s.length := by
  unfold capOf
  rw [sumL_map, sumL_add, sum_const2]
  have := cnt_sum hs nd s fun x m => sub.subset m
  rw [← this]
  congr 1
  apply sumL_congr
  intro h _
  exact (cnt_ind (nd.sublist sub) h).symm
theorem capOf_nn {share : Int} {s hs : List Int} (h : 0 ≤ share) : ∀ p ∈ capOf share s hs, 0 ≤ p.2 := by
  intro p m
  unfold capOf at m
  obtain ⟨x, _, rfl⟩ := List.mem_map.mp m
  show 0 ≤ share + _
  split <;> omega

def stayOf (share : Int) (more : Nat) (owners hs : List Int) : Int := (choices hs more).foldl (fun b s => max b (capV owners (capOf share s hs))) 0
theorem foldl_max {f : List Int → Int} : ∀ (l : List (List Int)) (b : Int), b ≤ l.foldl (fun b s => max b (f s)) b ∧ (∀ s ∈ l, f s ≤ l.foldl (fun b s => max b (f s)) b) ∧ (l.foldl (fun b s => max b (f s)) b = b ∨ ∃ s ∈ l, l.foldl (fun b s => max b (f s)) b = f s)
  | [], b => ⟨Int.le_refl _, (fun _ m => by cases m), .inl rfl⟩
  | a :: l, b => by
    obtain ⟨h1, h2, h3⟩ := foldl_max (f := f) l (max b (f a))
    simp only [List.foldl_cons]
    refine ⟨by omega, fun s m => ?_, ?_⟩
    · rcases List.mem_cons.mp m with rfl | m
      · omega
      · exact h2 s m
    · rcases h3 with h3 | ⟨s, m, e⟩
      · by_cases q : b ≤ f a
        · right; exact ⟨a, List.mem_cons_self, by omega⟩
        · left; omega
      · right; exact ⟨s, List.mem_cons_of_mem _ m, e⟩

/-- the first of the best ones of one choice -/
def firstOf (hs : List Int) (up : hs.Pairwise (· < ·)) (c : List (Int × Int)) (owners : List Int) : List Int := (exSys hs up).run c owners

def zeros (hs : List Int) : List (Int × Int) := hs.map fun h => (h, 0)
theorem zeros_inv {low larger : Int} {hs : List Int} {n : Nat} (e : (n : Int) = low * hs.length + larger) (l : larger ≤ hs.length) : evInv low larger hs (zeros hs) n := by
  refine ⟨?_, ?_, ?_⟩
  · unfold zeros
    rw [List.map_map]
    exact List.map_id _
  · unfold zeros
    rw [sumL_map, List.length_map]
    have : sumL (fun _ : Int => (0 : Int)) hs = 0 := by rw [sum_const2]; simp
    show sumL (fun _ : Int => (0 : Int)) hs + _ = _
    omega
  · simp [zeros]; exact l

/-- even owners, in plain words -/
def Even (low : Int) (hs t : List Int) : Prop := (∀ x ∈ t, x ∈ hs) ∧ ∀ h ∈ hs, low ≤ cnt t h ∧ cnt t h ≤ low + 1
theorem even_iff {low : Int} {hs t : List Int} : evOk low hs (zeros hs) t ↔ Even low hs t := by
  unfold evOk Even zeros
  constructor
  · rintro ⟨a, b⟩
    refine ⟨a, fun h m => ?_⟩
    have := b (h, 0) (List.mem_map.mpr ⟨h, m, rfl⟩)
    simp only at this
    omega
  · rintro ⟨a, b⟩
    refine ⟨a, fun p m => ?_⟩
    obtain ⟨h, mh, rfl⟩ := List.mem_map.mp m
    have := b h mh
    simp only
    omega

section
variable {low : Int} {more : Nat} {hs : List Int} (up : hs.Pairwise (· < ·)) {owners : List Int} (e : (owners.length : Int) = low * hs.length + more) (l : (more : Int) ≤ hs.length) (h0 : 0 ≤ low)
include up e l h0
set_option linter.unusedSectionVars false

/-- what one choice gives is even, keeps as many as its caps let, and is the first of these -/
theorem first_ok {s : List Int} (m : s ∈ choices hs more) : let c := capOf low s hs
    (firstOf hs up c owners).length = owners.length ∧ exOk hs c (firstOf hs up c owners) ∧ score (firstOf hs up c owners) owners = capV owners c ∧
    ∀ t, t.length = owners.length → exOk hs c t → score t owners = capV owners c → lexLe (firstOf hs up c owners) t := by
  intro c
  obtain ⟨sl, sub⟩ := ch_mem m
  have I : exInv hs c owners.length := ⟨capOf_keys _ _ _, by rw [capOf_sum (up_nodup up) sub, sl, e]⟩
  have v : (exSys hs up).val owners c = some (capV owners c) := by
    show exVal owners c = _
    unfold exVal
    rw [if_pos]
    rw [List.all_eq_true]
    intro p m
    exact decide_eq_true (capOf_nn h0 p m)
  exact (exSys hs up).run_ok I v

theorem ex_even {s t : List Int} (o : exOk hs (capOf low s hs) t) : Even low hs t := by
  refine ⟨o.1, fun h m => ?_⟩
  have := o.2 (h, low + if h ∈ s then 1 else 0) (by unfold capOf; exact List.mem_map.mpr ⟨h, m, rfl⟩)
  simp only at this
  split at this <;> omega

/-- even ones are of some choice -/
theorem even_ex {t : List Int} (lt : t.length = owners.length) (o : Even low hs t) : ∃ s ∈ choices hs more, exOk hs (capOf low s hs) t := by
  let s := hs.filter fun h => decide (cnt t h = low + 1)
  have ok : exOk hs (capOf low s hs) t := by
    refine ⟨o.1, fun p m => ?_⟩
    unfold capOf at m
    obtain ⟨h, mh, rfl⟩ := List.mem_map.mp m
    have := o.2 h mh
    show cnt t h = low + _
    by_cases q : cnt t h = low + 1
    · rw [if_pos (show h ∈ s from List.mem_filter.mpr ⟨mh, decide_eq_true q⟩)]; omega
    · rw [if_neg (show ¬ h ∈ s from fun z => q (of_decide_eq_true (List.mem_filter.mp z).2))]; omega
  refine ⟨s, ch_of List.filter_sublist ?_, ok⟩
  have h1 := cnt_sum hs (up_nodup up) t o.1
  have h2 := capOf_sum (share := low) (s := s) (up_nodup up) List.filter_sublist
  have h3 : sumL (cnt t) hs = sumL (·.2) (capOf low s hs) := by
    rw [sum_keys (capOf_keys low s hs)]
    apply sumL_congr
    intro p m
    exact ok.2 p m
  omega

/-- THE PROGRAM'S NEXT OWNERS: even, with the most that stay, the first of these -/
theorem shared_ok : ∃ b, evVal low more owners (zeros hs) = some b ∧ let P := (evSys low more hs up).run (zeros hs) owners
    P.length = owners.length ∧ Even low hs P ∧ score P owners = b ∧ (∀ t, t.length = owners.length → Even low hs t → score t owners ≤ b ∧ (score t owners = b → lexLe P t)) := by
  have I : evInv low more hs (zeros hs) owners.length := zeros_inv e l
  -- there is an even one
  have ⟨s, ms⟩ : ∃ s, s ∈ choices hs more := ⟨hs.take more, ch_of (List.take_sublist _ _) (by rw [List.length_take]; omega)⟩
  obtain ⟨f1, f2, f3, _⟩ := first_ok up e l h0 ms
  have fe : evOk low hs (zeros hs) _ := even_iff.mpr (ex_even up e l h0 f2)
  obtain ⟨b, eb, _⟩ := ev_bound up I f1 fe
  obtain ⟨r1, r2, r3, r4⟩ := (evSys low more hs up).run_ok I eb
  refine ⟨b, eb, r1, even_iff.mp r2, r3, fun t lt o => ?_⟩
  obtain ⟨b', eb', sb⟩ := ev_bound up I lt (even_iff.mpr o)
  rw [eb] at eb'
  cases eb'
  exact ⟨sb, fun z => r4 t lt (even_iff.mpr o) z⟩

/-- THE LAW'S OWN ONES ARE THE SAME -/
theorem law_is {r : List Int} (mr : r ∈ ((choices hs more).filter fun s => decide (capV owners (capOf low s hs) = stayOf low more owners hs)).map fun s => firstOf hs up (capOf low s hs) owners)
    (least : ∀ x ∈ ((choices hs more).filter fun s => decide (capV owners (capOf low s hs) = stayOf low more owners hs)).map fun s => firstOf hs up (capOf low s hs) owners, lexLe r x) :
    r = (evSys low more hs up).run (zeros hs) owners := by
  obtain ⟨b, _, p1, p2, p3, p4⟩ := shared_ok up e l h0
  obtain ⟨s, ms, rfl⟩ := List.mem_map.mp mr
  obtain ⟨ms, es⟩ := List.mem_filter.mp ms
  have es := of_decide_eq_true es
  obtain ⟨f1, f2, f3, f4⟩ := first_ok up e l h0 ms
  have fe := ex_even up e l h0 f2
  obtain ⟨g1, g2⟩ := p4 _ f1 fe
  obtain ⟨u, mu, ou⟩ := even_ex up e l h0 p1 p2
  obtain ⟨_, c2⟩ := ex_bound (up_nodup up) (rest := owners) (capOf_keys low u hs) ou
  have c3 := (foldl_max (f := fun s => capV owners (capOf low s hs)) (choices hs more) 0).2.1 u mu
  have c4 : capV owners (capOf low u hs) ≤ stayOf low more owners hs := c3
  have eb : score (firstOf hs up (capOf low s hs) owners) owners = b := by omega
  have eu : capV owners (capOf low u hs) = stayOf low more owners hs := by omega
  have h1 := g2 eb
  obtain ⟨u1, u2, u3, u4⟩ := first_ok up e l h0 mu
  have h2 := least _ (List.mem_map.mpr ⟨u, List.mem_filter.mpr ⟨mu, decide_eq_true eu⟩, rfl⟩)
  have h3 := u4 _ p1 ou (by omega)
  exact lexLe_antisymm (by omega) (lexLe_trans (by omega) (by omega) h2 h3) h1
/-- there is one -/
theorem law_some : ((choices hs more).filter fun s => decide (capV owners (capOf low s hs) = stayOf low more owners hs)) ≠ [] := by
  obtain ⟨b, _, p1, p2, p3, p4⟩ := shared_ok up e l h0
  obtain ⟨u, mu, ou⟩ := even_ex up e l h0 p1 p2
  obtain ⟨_, _, f3⟩ := foldl_max (f := fun s => capV owners (capOf low s hs)) (choices hs more) 0
  intro z
  have nn : 0 ≤ capV owners (capOf low u hs) := sumL_nn fun p m => by
    have := cnt_nn owners p.1
    have := capOf_nn h0 p m
    omega
  have lt := (foldl_max (f := fun s => capV owners (capOf low s hs)) (choices hs more) 0).2.1 u mu
  rcases f3 with f3 | ⟨s, ms, es⟩
  · have : u ∈ ((choices hs more).filter fun s => decide (capV owners (capOf low s hs) = stayOf low more owners hs)) := List.mem_filter.mpr ⟨mu, decide_eq_true (by
      show _ = (choices hs more).foldl _ 0
      omega)⟩
    rw [z] at this
    cases this
  · have : s ∈ ((choices hs more).filter fun s => decide (capV owners (capOf low s hs) = stayOf low more owners hs)) := List.mem_filter.mpr ⟨ms, decide_eq_true es.symm⟩
    rw [z] at this
    cases this
end
end Sh
namespace K02
open PySem PySem.Spec PyProof.Rows L2 Mv Sh
theorem dget_I {E : En} {da db : En → Option Rs} {g : List (Int × Int)} {i : Nat} {h v : Int} {l : Bool} {r : Rs} (nd : (g.map (·.1)).Nodup) (hi : g[i]? = some (h, v)) (ha : da E = some r) (hr : r.at E = some (dctD l (kI g))) (hb : db E = some (.val (.dat (.int h)))) :
    dDGet da db E = some (.val (.dat (.int v))) := by
  have hk : kix ((kI g).map (·.1)) (.inl h) = some i := kix_at (by rw [kI_keys]; exact List.Pairwise.map Sum.inl (fun a b n e => n (Sum.inl.inj e)) nd) (by rw [kI_keys]; simp [List.getElem?_map, hi])
  unfold dDGet
  rw [ha, hb]
  simp only [hr, Rs.key, dctD]
  have e1 : ((kI g).map fun p => (p.1, S.dat p.2)).map (·.1) = (kI g).map (·.1) := by simp
  have e2 : (((kI g).map fun p => (p.1, S.dat p.2)).map (·.2))[i]? = some (S.dat (.int v)) := by simp [kI, List.getElem?_map, hi]
  simp only [keyS, e1, hk, e2]
  cases r <;> rfl
def optI : Option Int → S
  | none => .dat .none
  | some i => .dat (.int i)
def mkGo (low : Int) (rest : List Int) : List (Int × Int) → Int → Int → Int → Option (Int × Int × Int)
  | [], L, K, M => some (L, K, M)
  | p :: t, L, K, M => if low - p.2 < -1 then none else if low - p.2 = -1 then mkGo low rest t (L - 1) K M
    else mkGo low rest t L (K + min (low - p.2) (cnt rest p.1)) (M + if low - p.2 < cnt rest p.1 then 1 else 0)
def eMk (g : List (Int × Int)) (rest : List Int) (low L K M : Int) (s6 s7 : Sl) : En := [.bor [8], .own (tI rest), .own (.dat (.int low)), .own (.dat (.int L)), .own (.dat (.int K)), .own (.dat (.int M)), s6, s7, .own (dctD true (kI g)), .own (tI rest), .bor [8]]
def dMkBody : En → Option Out := (dSeq (dAlias 7 (dOp fSub (dVar 2) (dDGet (dVar 0) (dVar 6))))
    (dSeq (dIf (ePureT (dTest (dOp fLt (dVar 7) (dNeg (dC (.int 1)))))) (dRet (ePure (dC .none))) dNext)
    (dSeq (dIf (ePureT (dTest (dOp fEqS (dVar 7) (dNeg (dC (.int 1)))))) (dSeq (dAug 3 fSub (dC (.int 1)))
    dCnt) dNext)
    (dSeq (dAug 4 fAdd (dCB fMin2 (dCons (dVar 7) (dCons (dTCnt (dVar 1) (dVar 6)) dNil))))
    (dIf (ePureT (dTest (dOp fGt (dTCnt (dVar 1) (dVar 6)) (dVar 7)))) (dAug 5 fAdd (dC (.int 1))) dNext)))))
def rdMk (g : List (Int × Int)) : En → Nat → Option (Option Rs) := fun _ i => some (((((kI g).map fun p => (p.1, S.dat p.2)).map (·.1))[i]?).map fun k => .val (.dat (keyD k)))
theorem tcnt_I {E : En} {da db : En → Option Rs} {rest : List Int} {h : Int} (ha : da E = some (.val (tI rest))) (hb : db E = some (.val (.dat (.int h)))) : dTCnt da db E = some (.val (.dat (.int (cnt rest h)))) := by
  unfold dTCnt
  rw [ha, hb]
  simp only [Rs.at, tI, intsD_map]
  rfl
theorem mk_body {g : List (Int × Int)} {rest : List Int} {low L K M : Int} {s6 s7 : Sl} {i : Nat} {h v : Int} (nd : (g.map (·.1)).Nodup) (hi : g[i]? = some (h, v)) :
    ∃ E1 s6' s7', s6'.nl = true ∧ s7'.nl = true ∧ bName 6 (.val (.dat (.int h))) (eMk g rest low L K M s6 s7) = some E1 ∧ dMkBody E1 = (if low - v < -1 then some (.rt (.dat .none) (eMk g rest low L K M s6' s7')) else if low - v = -1 then some (.ct (eMk g rest low (L - 1) K M s6' s7'))
      else some (.nx (eMk g rest low L (K + min (low - v) (cnt rest h)) (M + if low - v < cnt rest h then 1 else 0) s6' s7'))) := by
  refine ⟨_, .own (.dat (.int h)), .own (.dat (.int (low - v))), rfl, rfl, rfl, ?_⟩
  unfold dMkBody
  have hg : ∀ E : En, dVar 0 E = some (.pl [8]) → dVar 6 E = some (.val (.dat (.int h))) → eget E [8] = some (dctD true (kI g)) → dDGet (dVar 0) (dVar 6) E = some (.val (.dat (.int v))) := fun E e1 e2 e3 => dget_I nd hi e1 e3 e2
  rw [dSeq_nx (E1 := eMk g rest low L K M (.own (.dat (.int h))) (.own (.dat (.int (low - v))))) (by
    unfold dAlias dOp
    rw [hg _ rfl rfl rfl]
    rfl)]
  by_cases c1 : low - v < -1
  · rw [if_pos c1]
    refine dSeq_rt ?_
    rw [dIf_true (E1 := eMk g rest low L K M (.own (.dat (.int h))) (.own (.dat (.int (low - v))))) (by
      show some (decide (low - v < -1), _) = _
      rw [decide_eq_true c1])]
    rfl
  · rw [if_neg c1]
    rw [dSeq_nx (E1 := eMk g rest low L K M (.own (.dat (.int h))) (.own (.dat (.int (low - v))))) (by
      rw [dIf_false (E1 := eMk g rest low L K M (.own (.dat (.int h))) (.own (.dat (.int (low - v))))) (by
        show some (decide (low - v < -1), _) = _
        rw [decide_eq_false c1])]
      rfl)]
    by_cases c2 : low - v = -1
    · rw [if_pos c2]
      refine dSeq_ct ?_
      rw [dIf_true (E1 := eMk g rest low L K M (.own (.dat (.int h))) (.own (.dat (.int (low - v))))) (by
        show some (decide (low - v = -1), _) = _
        rw [decide_eq_true c2])]
      rfl
    · rw [if_neg c2]
      rw [dSeq_nx (E1 := eMk g rest low L K M (.own (.dat (.int h))) (.own (.dat (.int (low - v))))) (by
        rw [dIf_false (E1 := eMk g rest low L K M (.own (.dat (.int h))) (.own (.dat (.int (low - v))))) (by
          show some (decide (low - v = -1), _) = _
          rw [decide_eq_false c2])]
        rfl)]
      have hc : ∀ E : En, dVar 1 E = some (.val (tI rest)) → dVar 6 E = some (.val (.dat (.int h))) → dTCnt (dVar 1) (dVar 6) E = some (.val (.dat (.int (cnt rest h)))) := fun E e1 e2 => tcnt_I e1 e2
      rw [dSeq_nx (E1 := eMk g rest low L (K + min (low - v) (cnt rest h)) M (.own (.dat (.int h))) (.own (.dat (.int (low - v))))) (by
        unfold dAug dCB dCons
        rw [hc _ rfl rfl]
        have : (if cnt rest h < low - v then cnt rest h else low - v) = min (low - v) (cnt rest h) := by
          split <;> omega
        rw [← this]
        rfl)]
      by_cases c3 : low - v < cnt rest h
      · rw [dIf_true (E1 := eMk g rest low L (K + min (low - v) (cnt rest h)) M (.own (.dat (.int h))) (.own (.dat (.int (low - v))))) (by
          unfold ePureT dTest dOp
          rw [hc _ rfl rfl]
          show some (decide (low - v < cnt rest h), _) = _
          rw [decide_eq_true c3]), if_pos c3]
        rfl
      · rw [dIf_false (E1 := eMk g rest low L (K + min (low - v) (cnt rest h)) M (.own (.dat (.int h))) (.own (.dat (.int (low - v))))) (by
          unfold ePureT dTest dOp
          rw [hc _ rfl rfl]
          show some (decide (low - v < cnt rest h), _) = _
          rw [decide_eq_false c3]), if_neg c3, Int.add_zero]
        rfl
theorem rd_Mk {g pre suf : List (Int × Int)} {p : Int × Int} (e : g = pre ++ p :: suf) (E : En) : rdMk g E pre.length = some (some (.val (.dat (.int p.1)))) := by
  unfold rdMk
  subst e
  simp [kI, keyD]
theorem rd_Mk_end {g pre : List (Int × Int)} (e : g = pre) (E : En) : rdMk g E pre.length = some none := by
  unfold rdMk
  subst e
  simp [kI]
theorem mk_loop {g : List (Int × Int)} {rest : List Int} {low : Int} (nd : (g.map (·.1)).Nodup) : ∀ (suf pre : List (Int × Int)) (L K M : Int) (s6 s7 : Sl) (fuel : Nat), s6.nl = true → s7.nl = true → g = pre ++ suf → suf.length ≤ fuel →
    ∃ L' K' M' s6' s7', s6'.nl = true ∧ s7'.nl = true ∧ dLoop (rdMk g) (bName 6) dMkBody fuel pre.length (eMk g rest low L K M s6 s7) = some (match mkGo low rest suf L K M with
      | some _ => .nx (eMk g rest low L' K' M' s6' s7')
      | none => .rt (.dat .none) (eMk g rest low L' K' M' s6' s7')) ∧ ∀ q, mkGo low rest suf L K M = some q → q = (L', K', M')
  | [], pre, L, K, M, s6, s7, fuel, n6, n7, e, _ => ⟨L, K, M, s6, s7, n6, n7, dLoop_end (rd_Mk_end (by simpa using e) _), fun q h => by cases h; rfl⟩
  | p :: suf, pre, L, K, M, s6, s7, fuel, n6, n7, e, hf => by
    cases fuel with
    | zero => simp at hf
    | succ fuel =>
      have hi : g[pre.length]? = some (p.1, p.2) := by rw [e]; simp
      obtain ⟨E1, s6', s7', m6, m7, h1, h2⟩ := mk_body (rest := rest) (low := low) (L := L) (K := K) (M := M) (s6 := s6) (s7 := s7) nd hi
      have hr := rd_Mk e (eMk g rest low L K M s6 s7)
      have e' : g = (pre ++ [p]) ++ suf := by rw [e]; simp
      have hl : (pre ++ [p]).length = pre.length + 1 := by simp
      unfold mkGo
      by_cases c1 : low - p.2 < -1
      · rw [if_pos c1] at h2 ⊢
        exact ⟨L, K, M, s6', s7', m6, m7, dLoop_rt hr h1 h2, fun q h => by cases h⟩
      · rw [if_neg c1] at h2 ⊢
        by_cases c2 : low - p.2 = -1
        · rw [if_pos c2] at h2 ⊢
          rw [dLoop_ct hr h1 h2, ← hl]
          exact mk_loop nd suf (pre ++ [p]) _ _ _ _ _ fuel m6 m7 e' (by simpa using hf)
        · rw [if_neg c2] at h2 ⊢
          rw [dLoop_nx hr h1 h2, ← hl]
          exact mk_loop nd suf (pre ++ [p]) _ _ _ _ _ fuel m6 m7 e' (by simpa using hf)
theorem mkGo_is (low : Int) (rest : List Int) : ∀ (g : List (Int × Int)) (L K M : Int), mkGo low rest g L K M = if g.all (fun p => decide (-1 ≤ low - p.2)) = true then some (L - sumL (roomF low) g, K + sumL (roomK low rest) g, M + sumL (roomM low rest) g) else none
  | [], L, K, M => by simp [mkGo, sumL]
  | p :: t, L, K, M => by
    unfold mkGo
    by_cases c1 : low - p.2 < -1
    · rw [if_pos c1, if_neg]
      rw [List.all_cons, decide_eq_false (by omega)]
      simp
    · rw [if_neg c1]
      have hall : ((p :: t).all (fun p => decide (-1 ≤ low - p.2)) = true) ↔ (t.all (fun p => decide (-1 ≤ low - p.2)) = true) := by
        rw [List.all_cons, decide_eq_true (by omega), Bool.true_and]
      have fin : ∀ {L K M : Int} {q : Int × Int × Int}, (t.all (fun p => decide (-1 ≤ low - p.2)) = true → (L - sumL (roomF low) t, K + sumL (roomK low rest) t, M + sumL (roomM low rest) t) = q) →
          mkGo low rest t L K M = if (p :: t).all (fun p => decide (-1 ≤ low - p.2)) = true then some q else none := fun {L K M q} h => by
        rw [mkGo_is low rest t]
        by_cases ht : t.all (fun p => decide (-1 ≤ low - p.2)) = true
        · rw [if_pos ht, if_pos (hall.mpr ht), h ht]
        · rw [if_neg ht, if_neg fun z => ht (hall.mp z)]
      by_cases c2 : low - p.2 = -1
      · rw [if_pos c2]
        refine fin fun _ => ?_
        have a1 : roomF low p = 1 := if_pos c2
        have a2 : roomK low rest p = 0 := if_pos c2
        have a3 : roomM low rest p = 0 := if_neg (fun z => z.1 c2)
        simp only [sumL, a1, a2, a3, Prod.mk.injEq]
        omega
      · rw [if_neg c2]
        refine fin fun _ => ?_
        have a1 : roomF low p = 0 := if_neg c2
        have a2 : roomK low rest p = min (low - p.2) (cnt rest p.1) := if_neg c2
        have a3 : roomM low rest p = if low - p.2 < cnt rest p.1 then 1 else 0 := by
          unfold roomM
          by_cases c3 : low - p.2 < cnt rest p.1
          · rw [if_pos ⟨c2, c3⟩, if_pos c3]
          · rw [if_neg (fun z => c3 z.2), if_neg c3]
        simp only [sumL, a1, a2, a3, Prod.mk.injEq]
        omega
def eMkOut (g : List (Int × Int)) (rest : List Int) (low L K M : Int) (s6 s7 : Sl) : En := [.bor [8], .own (tI rest), .own (.dat (.int low)), .own (.dat (.int L)), .own (.dat (.int K)), .own (.dat (.int M)), s6, s7, .own (dI g), .own (tI rest)]
theorem mk_unl {g : List (Int × Int)} {rest : List Int} {low L K M : Int} {s6 s7 : Sl} (h6 : s6.nl = true) (h7 : s7.nl = true) : unlE [8] (eMk g rest low L K M s6 s7) = some (eMkOut g rest low L K M (kill1 [8] s6) (kill1 [8] s7)) := by
  have n1 : (S.dct false ((kI g).map fun p => (p.1, S.dat p.2))).nl = true := nlk_dct _
  have n2 : nlE (eput (eMk g rest low L K M s6 s7) [8] (.dct false ((kI g).map fun p => (p.1, S.dat p.2)))) = true := by
    show ([Sl.bor [8], .own (tI rest), .own (.dat (.int low)), .own (.dat (.int L)), .own (.dat (.int K)), .own (.dat (.int M)), s6, s7, .own (dI g), .own (tI rest), .bor [8]] : En).all Sl.nl = true
    simp only [List.all_cons, h6, h7]
    have n3 : (Sl.own (dI g)).nl = true := n1
    rw [n3]; rfl
  show (if (S.dct false ((kI g).map fun p => (p.1, S.dat p.2))).nl = true then if nlE (eput (eMk g rest low L K M s6 s7) [8] (.dct false ((kI g).map fun p => (p.1, S.dat p.2)))) = true then _ else _ else _) = _
  rw [if_pos n1, if_pos n2]
  rfl
theorem v_most_kept {g : List (Int × Int)} {rest : List Int} (nd : (g.map (·.1)).Nodup) (h0 : 0 < g.length) (h1 : g.length < 1000) :
    g_most_kept [dI g, tI rest] = some (optI (evVal (12 / (g.length : Int)) (12 % (g.length : Int)) rest g), [dI g, tI rest]) := by
  have hl : ((kI g).map fun p => (p.1, S.dat p.2)).length = g.length := by simp [kI]
  have hlen : dLenD (dVar 0) (entry 8 [dI g, tI rest]) = some (.val (.dat (.int (g.length : Int)))) := by
    rw [← hl]; rfl
  have hdm : dCS fDivmod (dCons (dC (.int 12)) (dCons (dLenD (dVar 0)) dNil)) (entry 8 [dI g, tI rest]) = some (.val (.dat (.tuple [.int (12 / (g.length : Int)), .int (12 % (g.length : Int))]))) := by
    unfold dCS dCons
    rw [hlen]
    show (fDivmod [.dat (.int 12), .dat (.int (g.length : Int))]).map Rs.val = _
    show (if 0 < (g.length : Int) ∧ (g.length : Int) < 1073741824 then some (S.dat (.tuple [.int (12 / (g.length : Int)), .int (12 % (g.length : Int))])) else none).map Rs.val = _
    rw [if_pos (by omega)]; rfl
  generalize hlo : (12 / (g.length : Int)) = low at hdm
  generalize hla : (12 % (g.length : Int)) = larger at hdm
  obtain ⟨L', K', M', s6', s7', n6, n7, hloop, hq⟩ := mk_loop (rest := rest) (low := low) nd g [] larger 0 0 .no .no g.length rfl rfl rfl (Nat.le_refl _)
  have hfor : dFor (iKeysS (dVar 0)) (bName 6) dMkBody (eMk g rest low larger 0 0 .no .no) = some (match mkGo low rest g larger 0 0 with
      | some _ => .nx (eMk g rest low L' K' M' s6' s7')
      | none => .rt (.dat .none) (eMk g rest low L' K' M' s6' s7')) := by
    show stripO ⟨_, [], _, _⟩ (dLoop (rdMk g) (bName 6) dMkBody ((kI g).map fun p => (p.1, S.dat p.2)).length 0 (eMk g rest low larger 0 0 .no .no)) = _
    rw [hl]
    rw [show (0 : Nat) = ([] : List (Int × Int)).length from rfl, hloop]
    cases mkGo low rest g larger 0 0 <;> rfl
  have hlock : dLock (dVar 0) (dFor (iKeysS (dVar 0)) (bName 6) dMkBody) [.bor [8], .own (tI rest), .own (.dat (.int low)), .own (.dat (.int larger)), .own (.dat (.int 0)), .own (.dat (.int 0)), .no, .no, .own (dI g), .own (tI rest)] = some (match mkGo low rest g larger 0 0 with
      | some _ => .nx (eMkOut g rest low L' K' M' (kill1 [8] s6') (kill1 [8] s7'))
      | none => .rt (.dat .none) (eMkOut g rest low L' K' M' (kill1 [8] s6') (kill1 [8] s7'))) := by
    show unlO [8] (dFor (iKeysS (dVar 0)) (bName 6) dMkBody (eMk g rest low larger 0 0 .no .no)) = _
    rw [hfor]
    cases mkGo low rest g larger 0 0 with
    | none =>
      show (if (S.dat PyData.none).nl = true then (unlE [8] (eMk g rest low L' K' M' s6' s7')).map (Out.rt (.dat .none)) else none) = _
      rw [if_pos (show (S.dat PyData.none).nl = true from rfl), mk_unl n6 n7]; rfl
    | some q =>
      show (unlE [8] _).map Out.nx = _
      rw [mk_unl n6 n7]; rfl
  have hgo := mkGo_is low rest g larger 0 0
  -- ahead of the loop
  have h1 : dAsg (bTup 2 (bCons (bName 2) (bCons (bName 3) bNil))) (ePure (dCS fDivmod (dCons (dC (.int 12)) (dCons (dLenD (dVar 0)) dNil)))) (entry 8 [dI g, tI rest]) = some (.nx [.bor [8], .own (tI rest), .own (.dat (.int low)), .own (.dat (.int larger)), .no, .no, .no, .no, .own (dI g), .own (tI rest)]) := by
    unfold dAsg ePure
    rw [hdm]
    rfl
  unfold evVal
  cases hm : mkGo low rest g larger 0 0 with
  | none =>
    rw [hm] at hlock hgo
    have hall : ¬ g.all (fun p => decide (-1 ≤ low - p.2)) = true := fun z => by rw [if_pos z] at hgo; cases hgo
    rw [if_neg (fun z => hall z.1)]
    exact fnG_rt (dSeq_go h1 (dSeq_go rfl (dSeq_go rfl (dSeq_rt hlock)))) rfl
  | some q =>
    rw [hm] at hlock hgo
    have hq := hq q hm
    subst hq
    have hall : g.all (fun p => decide (-1 ≤ low - p.2)) = true := by
      by_cases z : g.all (fun p => decide (-1 ≤ low - p.2)) = true
      · exact z
      · rw [if_neg z] at hgo; cases hgo
    rw [if_pos hall] at hgo
    simp only [Option.some.injEq, Prod.mk.injEq] at hgo
    obtain ⟨e1, e2, e3⟩ := hgo
    have hc : ePureT (dTest (dOp fLt (dVar 3) (dC (.int 0)))) (eMkOut g rest low L' K' M' (kill1 [8] s6') (kill1 [8] s7')) = some (decide (L' < 0), eMkOut g rest low L' K' M' (kill1 [8] s6') (kill1 [8] s7')) := rfl
    by_cases hL : L' < 0
    · rw [if_neg (fun z => by have := z.2; omega)]
      rw [decide_eq_true hL] at hc
      exact fnG_rt (dSeq_go h1 (dSeq_go rfl (dSeq_go rfl (dSeq_go hlock (dSeq_rt (dIf_t hc rfl)))))) rfl
    · rw [if_pos ⟨hall, by omega⟩]
      rw [decide_eq_false hL] at hc
      have : sumL (roomK low rest) g + min (larger - sumL (roomF low) g) (sumL (roomM low rest) g) = (K' + if M' < L' then M' else L') := by
        split <;> omega
      rw [this]
      exact fnG_rt (dSeq_go h1 (dSeq_go rfl (dSeq_go rfl (dSeq_go hlock (dSeq_go (dIf_f hc rfl) rfl))))) rfl
end K02
namespace K02
open PySem PySem.Spec PyProof.Rows L2 Mv Sh
def goodF (low larger : Int) (g : List (Int × Int)) (r : Int) (rs : List Int) (m h : Int) : Bool :=
  match evVal low larger rs (Sh.bump h 1 g) with
  | some k => decide (k + (if h = r then 1 else 0) = m)
  | none => false
theorem mergeD_same : ∀ (more acc : KD), ((acc ++ more).map (·.1)).Nodup → mergeD acc more = acc ++ more
  | [], acc, _ => by simp [mergeD]
  | p :: r, acc, nd => by
    have hk : kix (acc.map (·.1)) p.1 = none := by
      cases h : kix (acc.map (·.1)) p.1 with
      | none => rfl
      | some i =>
        exfalso
        rw [List.map_append, List.map_cons] at nd
        have hm : ∀ {ks : List Key} {i : Nat}, kix ks p.1 = some i → p.1 ∈ ks := by
          intro ks
          induction ks with
          | nil => intro i h; cases h
          | cons a t ih =>
            intro i h
            unfold kix at h
            by_cases e : a = p.1
            · rw [e]; exact List.mem_cons_self
            · rw [if_neg e] at h
              obtain ⟨j, hj, _⟩ := Option.map_eq_some_iff.mp h
              exact List.mem_cons_of_mem _ (ih hj)
        exact (List.nodup_append.mp nd).2.2 _ (hm h) _ List.mem_cons_self rfl
    have e1 : putS acc p.1 p.2 = acc ++ [p] := by unfold putS; rw [hk]
    show mergeD (putS acc p.1 p.2) r = _
    rw [e1, mergeD_same r (acc ++ [p]) (by simpa using nd)]
    simp
theorem kI_nd {g : List (Int × Int)} (nd : (g.map (·.1)).Nodup) : ((kI g).map (·.1)).Nodup := by
  rw [kI_keys]; exact List.Pairwise.map Sum.inl (fun a b n e => n (Sum.inl.inj e)) nd
theorem setSnd_bump : ∀ {g : List (Int × Int)} {i : Nat} {h v d : Int}, (g.map (·.1)).Nodup → g[i]? = some (h, v) → setSnd (kI g) i (.int (v + d)) = kI (Sh.bump h d g)
  | [], _, _, _, _, _, e => by simp at e
  | p :: t, 0, h, v, d, nd, e => by
    simp at e
    subst e
    obtain ⟨n1, _⟩ := List.nodup_cons.mp nd
    have : Sh.bump h d t = t := by
      unfold Sh.bump
      have : ∀ q ∈ t, (if q.1 = h then (q.1, q.2 + d) else q) = q := fun q m => if_neg fun z => n1 (List.mem_map.mpr ⟨q, m, z⟩)
      rw [List.map_congr_left this]; simp
    show _ = kI (Sh.bump h d ((h, v) :: t))
    have e2 : Sh.bump h d ((h, v) :: t) = (h, v + d) :: Sh.bump h d t := by simp [Sh.bump]
    rw [e2, this]
    rfl
  | p :: t, i + 1, h, v, d, nd, e => by
    simp at e
    obtain ⟨n1, n2⟩ := List.nodup_cons.mp nd
    have ph : p.1 ≠ h := fun z => n1 (by show p.1 ∈ _; rw [z]; exact List.mem_map.mpr ⟨(h, v), List.mem_of_getElem? e, rfl⟩)
    have e2 : Sh.bump h d (p :: t) = p :: Sh.bump h d t := by simp [Sh.bump, ph]
    rw [e2]
    show _ :: setSnd (kI t) i _ = _ :: kI (Sh.bump h d t)
    rw [setSnd_bump n2 e]
theorem putS_kI {g : List (Int × Int)} {i : Nat} {h v d : Int} (nd : (g.map (·.1)).Nodup) (hi : g[i]? = some (h, v)) : putS (kI g) (.inl h) (.int (v + d)) = kI (Sh.bump h d g) := by
  unfold putS
  rw [kix_at (i := i) (kI_nd nd) (by rw [kI_keys]; simp [List.getElem?_map, hi])]
  exact setSnd_bump nd hi
theorem star_I {E : En} {da dk dv : En → Option Rs} {g : List (Int × Int)} {i : Nat} {h v d : Int} {l : Bool} {p : List Nat} (nd : (g.map (·.1)).Nodup) (hl : g.length < 1000) (hi : g[i]? = some (h, v)) (ha : da E = some (.pl p)) (hr : eget E p = some (dctD l (kI g))) (hk : dk E = some (.val (.dat (.int h)))) (hv : dv E = some (.val (.dat (.int (v + d))))) :
    dStar da dk dv E = some (.val (dI (Sh.bump h d g))) := by
  unfold dStar
  rw [ha, hk, hv]
  simp only [hr, dctD, Rs.key, keyS, kssD_map]
  rw [if_pos (by simp [kI]; exact hl), mergeD_same _ _ (by simpa using kI_nd nd), List.nil_append, putS_kI nd hi]
  rfl
def eFo (g : List (Int × Int)) (rest : List Int) (m : Int) (s3 s4 s5 : Sl) : En := [.bor [6], .own (tI rest), .own (.dat (.int m)), s3, s4, s5, .own (dctD true (kI g)), .own (tI rest), .bor [6]]
def dFoBody : En → Option Out := (dSeq (dSet 4 (eCall g_most_kept (dCons (dStar (dVar 0) (dVar 3) (dOp fAdd (dDGet (dVar 0) (dVar 3)) (dC (.int 1)))) (dCons (dSl fSlT (dVar 1) (dPart (dC (.int 1))) dNoPart) dNil))))
    (dSeq (dAlias 5 (dIfE (dTest (dOp fEqS (dVar 3) (dIxT (dVar 1) (dC (.int 0))))) (dC (.int 1)) (dC (.int 0))))
    (dIf (ePureT (dAnd (dTest (dOp fNotN (dVar 4) (dC .none))) (dTest (dOp fEqS (dOp fAdd (dVar 4) (dVar 5)) (dVar 2))))) (dRet (eMove 3)) dNext)))
theorem fo_body {g : List (Int × Int)} {r : Int} {rs : List Int} {m : Int} {s3 s4 s5 : Sl} {i : Nat} {h v : Int} (nd : (g.map (·.1)).Nodup) (hl : g.length < 1000) (hi : g[i]? = some (h, v)) :
    ∃ E1 s3' s4' s5', s3'.nl = true ∧ s4'.nl = true ∧ s5'.nl = true ∧ bName 3 (.val (.dat (.int h))) (eFo g (r :: rs) m s3 s4 s5) = some E1 ∧
      dFoBody E1 = (if goodF (12 / (g.length : Int)) (12 % (g.length : Int)) g r rs m h = true then some (.rt (.dat (.int h)) (eFo g (r :: rs) m s3' s4' s5')) else some (.nx (eFo g (r :: rs) m s3' s4' s5'))) := by
  have hgl : 0 < g.length := Nat.lt_of_le_of_lt (Nat.zero_le _) (List.getElem?_eq_some_iff.mp hi).1
  have nd2 : ((Sh.bump h 1 g).map (·.1)).Nodup := by rw [bump_keys]; exact nd
  have hmk := v_most_kept (g := Sh.bump h 1 g) (rest := rs) nd2 (by rw [bump_length]; exact hgl) (by rw [bump_length]; exact hl)
  rw [bump_length] at hmk
  generalize hk : evVal (12 / (g.length : Int)) (12 % (g.length : Int)) rs (Sh.bump h 1 g) = ok at hmk
  have s1 : ∀ {s4 s5 : Sl}, dSet 4 (eCall g_most_kept (dCons (dStar (dVar 0) (dVar 3) (dOp fAdd (dDGet (dVar 0) (dVar 3)) (dC (.int 1)))) (dCons (dSl fSlT (dVar 1) (dPart (dC (.int 1))) dNoPart) dNil))) [.bor [6], .own (tI (r :: rs)), .own (.dat (.int m)), .own (.dat (.int h)), s4, s5, .own (dctD true (kI g)), .own (tI (r :: rs)), .bor [6]] =
      some (.nx [.bor [6], .own (tI (r :: rs)), .own (.dat (.int m)), .own (.dat (.int h)), .own (optI ok), killHead 4 s5, .own (dctD true (kI g)), .own (tI (r :: rs)), .bor [6]]) := by
    intro s4 s5
    refine dSet_go (eCall_go (rs := [.val (dI (Sh.bump h 1 g)), .val (tI rs)]) (dcons_go (star_I (d := 1) (l := true) nd hl hi rfl rfl rfl ?_) (dcons_go (slT_from (ns := r :: rs) (k := 1) rfl rfl (by simp)) rfl)) rfl rfl hmk)
    unfold dOp
    rw [dget_I (l := true) (r := .pl [6]) nd hi rfl rfl rfl]
    rfl
  have s2 : ∀ {s5 : Sl}, dAlias 5 (dIfE (dTest (dOp fEqS (dVar 3) (dIxT (dVar 1) (dC (.int 0))))) (dC (.int 1)) (dC (.int 0))) [.bor [6], .own (tI (r :: rs)), .own (.dat (.int m)), .own (.dat (.int h)), .own (optI ok), s5, .own (dctD true (kI g)), .own (tI (r :: rs)), .bor [6]] =
      some (.nx (eFo g (r :: rs) m (.own (.dat (.int h))) (.own (optI ok)) (.own (.dat (.int (if h = r then 1 else 0)))))) := by
    intro s5
    have ht : dTest (dOp fEqS (dVar 3) (dIxT (dVar 1) (dC (.int 0)))) [.bor [6], .own (tI (r :: rs)), .own (.dat (.int m)), .own (.dat (.int h)), .own (optI ok), s5, .own (dctD true (kI g)), .own (tI (r :: rs)), .bor [6]] = some (decide (h = r)) := by
      unfold dTest dOp
      rw [ixT_I (ns := r :: rs) (k := 0) (v := r) rfl rfl rfl]
      rfl
    unfold dAlias dIfE
    rw [ht]
    by_cases hr : h = r
    · rw [decide_eq_true hr, if_pos hr]
      cases ok <;> rfl
    · rw [decide_eq_false hr, if_neg hr]
      cases ok <;> rfl
  have n4 : (Sl.own (optI ok)).nl = true := by cases ok <;> rfl
  unfold goodF dFoBody
  rw [hk]
  cases ok with
  | none =>
    refine ⟨_, .own (.dat (.int h)), .own (optI none), .own (.dat (.int (if h = r then 1 else 0))), rfl, n4, rfl, rfl, ?_⟩
    rw [if_neg (by simp)]
    exact dSeq_go s1 (dSeq_go s2 (dIf_f rfl rfl))
  | some k =>
    have hc : ePureT (dAnd (dTest (dOp fNotN (dVar 4) (dC .none))) (dTest (dOp fEqS (dOp fAdd (dVar 4) (dVar 5)) (dVar 2)))) (eFo g (r :: rs) m (.own (.dat (.int h))) (.own (optI (some k))) (.own (.dat (.int (if h = r then 1 else 0))))) = some (decide (k + (if h = r then 1 else 0) = m), eFo g (r :: rs) m (.own (.dat (.int h))) (.own (optI (some k))) (.own (.dat (.int (if h = r then 1 else 0))))) := rfl
    by_cases hm : k + (if h = r then 1 else 0) = m
    · rw [decide_eq_true hm] at hc
      refine ⟨_, .no, .own (optI (some k)), .own (.dat (.int (if h = r then 1 else 0))), rfl, n4, rfl, rfl, ?_⟩
      rw [if_pos (decide_eq_true hm)]
      exact dSeq_go s1 (dSeq_go s2 (dIf_t hc rfl))
    · rw [decide_eq_false hm] at hc
      refine ⟨_, .own (.dat (.int h)), .own (optI (some k)), .own (.dat (.int (if h = r then 1 else 0))), rfl, n4, rfl, rfl, ?_⟩
      rw [if_neg (by simpa using hm)]
      exact dSeq_go s1 (dSeq_go s2 (dIf_f hc rfl))
theorem fo_loop {g : List (Int × Int)} {r : Int} {rs : List Int} {m : Int} {h0 : Int} (nd : (g.map (·.1)).Nodup) (hl : g.length < 1000) : ∀ (suf pre : List (Int × Int)) (s3 s4 s5 : Sl) (fuel : Nat), s3.nl = true → s4.nl = true → s5.nl = true → g = pre ++ suf → suf.length ≤ fuel →
    (suf.map (·.1)).find? (goodF (12 / (g.length : Int)) (12 % (g.length : Int)) g r rs m) = some h0 →
    ∃ s3' s4' s5', s3'.nl = true ∧ s4'.nl = true ∧ s5'.nl = true ∧ dLoop (rdMk g) (bName 3) dFoBody fuel pre.length (eFo g (r :: rs) m s3 s4 s5) = some (.rt (.dat (.int h0)) (eFo g (r :: rs) m s3' s4' s5'))
  | [], pre, s3, s4, s5, fuel, _, _, _, e, _, hf => by simp at hf
  | p :: suf, pre, s3, s4, s5, fuel, n3, n4, n5, e, hfu, hf => by
    cases fuel with
    | zero => simp at hfu
    | succ fuel =>
      have hi : g[pre.length]? = some (p.1, p.2) := by rw [e]; simp
      obtain ⟨E1, s3', s4', s5', m3, m4, m5, h1, h2⟩ := fo_body (r := r) (rs := rs) (m := m) (s3 := s3) (s4 := s4) (s5 := s5) nd hl hi
      have hr := rd_Mk e (eFo g (r :: rs) m s3 s4 s5)
      rw [List.map_cons, List.find?_cons] at hf
      cases hg : goodF (12 / (g.length : Int)) (12 % (g.length : Int)) g r rs m p.1 with
      | true =>
        rw [hg] at hf
        rw [if_pos hg] at h2
        cases hf
        exact ⟨s3', s4', s5', m3, m4, m5, dLoop_rt hr h1 h2⟩
      | false =>
        rw [hg] at hf
        rw [if_neg (by rw [hg]; simp)] at h2
        have e' : g = (pre ++ [p]) ++ suf := by rw [e]; simp
        have hlen : (pre ++ [p]).length = pre.length + 1 := by simp
        rw [dLoop_nx hr h1 h2, ← hlen]
        exact fo_loop nd hl suf (pre ++ [p]) _ _ _ fuel m3 m4 m5 e' (by simpa using hfu) hf
def eFoOut (g : List (Int × Int)) (rest : List Int) (m : Int) (s3 s4 s5 : Sl) : En := [.bor [6], .own (tI rest), .own (.dat (.int m)), s3, s4, s5, .own (dI g), .own (tI rest)]
theorem fo_unl {g : List (Int × Int)} {rest : List Int} {m : Int} {s3 s4 s5 : Sl} (h3 : s3.nl = true) (h4 : s4.nl = true) (h5 : s5.nl = true) : unlE [6] (eFo g rest m s3 s4 s5) = some (eFoOut g rest m (kill1 [6] s3) (kill1 [6] s4) (kill1 [6] s5)) := by
  have n1 : (S.dct false ((kI g).map fun p => (p.1, S.dat p.2))).nl = true := nlk_dct _
  have n2 : nlE (eput (eFo g rest m s3 s4 s5) [6] (.dct false ((kI g).map fun p => (p.1, S.dat p.2)))) = true := by
    show ([Sl.bor [6], .own (tI rest), .own (.dat (.int m)), s3, s4, s5, .own (dI g), .own (tI rest), .bor [6]] : En).all Sl.nl = true
    simp only [List.all_cons, h3, h4, h5]
    have n3 : (Sl.own (dI g)).nl = true := n1
    rw [n3]; rfl
  show (if (S.dct false ((kI g).map fun p => (p.1, S.dat p.2))).nl = true then if nlE (eput (eFo g rest m s3 s4 s5) [6] (.dct false ((kI g).map fun p => (p.1, S.dat p.2)))) = true then _ else _ else _) = _
  rw [if_pos n1, if_pos n2]
  rfl
theorem v_first_owner {g : List (Int × Int)} {r : Int} {rs : List Int} {m h0 : Int} (nd : (g.map (·.1)).Nodup) (hl0 : 0 < g.length) (hl : g.length < 1000) (hm : evVal (12 / (g.length : Int)) (12 % (g.length : Int)) (r :: rs) g = some m)
    (hf : (g.map (·.1)).find? (goodF (12 / (g.length : Int)) (12 % (g.length : Int)) g r rs m) = some h0) : g_first_owner [dI g, tI (r :: rs)] = some (.dat (.int h0), [dI g, tI (r :: rs)]) := by
  have hmk := v_most_kept (g := g) (rest := r :: rs) nd hl0 hl
  rw [hm] at hmk
  have h1 : dSet 2 (eCall g_most_kept (dCons (dVar 0) (dCons (dVar 1) dNil))) (entry 6 [dI g, tI (r :: rs)]) = some (.nx [.bor [6], .own (tI (r :: rs)), .own (.dat (.int m)), .no, .no, .no, .own (dI g), .own (tI (r :: rs))]) :=
    dSet_go (eCall_go (rs := [.pl [6], .val (tI (r :: rs))]) rfl rfl rfl hmk)
  obtain ⟨s3', s4', s5', n3, n4, n5, hloop⟩ := fo_loop (h0 := h0) (r := r) (rs := rs) (m := m) nd hl g [] .no .no .no g.length rfl rfl rfl rfl (Nat.le_refl _) hf
  have hlen : ((kI g).map fun p => (p.1, S.dat p.2)).length = g.length := by simp [kI]
  have hfor : dFor (iKeysS (dVar 0)) (bName 3) dFoBody (eFo g (r :: rs) m .no .no .no) = some (.rt (.dat (.int h0)) (eFo g (r :: rs) m s3' s4' s5')) := by
    show stripO ⟨_, [], _, _⟩ (dLoop (rdMk g) (bName 3) dFoBody ((kI g).map fun p => (p.1, S.dat p.2)).length 0 (eFo g (r :: rs) m .no .no .no)) = _
    rw [hlen, show (0 : Nat) = ([] : List (Int × Int)).length from rfl, hloop]
    rfl
  have hlock : dLock (dVar 0) (dFor (iKeysS (dVar 0)) (bName 3) dFoBody) [.bor [6], .own (tI (r :: rs)), .own (.dat (.int m)), .no, .no, .no, .own (dI g), .own (tI (r :: rs))] = some (.rt (.dat (.int h0)) (eFoOut g (r :: rs) m (kill1 [6] s3') (kill1 [6] s4') (kill1 [6] s5'))) := by
    show unlO [6] (dFor (iKeysS (dVar 0)) (bName 3) dFoBody (eFo g (r :: rs) m .no .no .no)) = _
    rw [hfor]
    show (if (S.dat (.int h0)).nl = true then (unlE [6] (eFo g (r :: rs) m s3' s4' s5')).map (Out.rt (.dat (.int h0))) else none) = _
    rw [if_pos (show (S.dat (.int h0)).nl = true from rfl), fo_unl n3 n4 n5]; rfl
  exact fnG_rt (dSeq_go h1 hlock) rfl
end K02
namespace K02
open PySem PySem.Spec PyProof.Rows L2 Mv Sh
theorem v_house (i : Int) : g_is_house [.dat (.int i)] = some (.dat (.bool (decide (0 ≤ i) && decide (i ≤ 19))), [.dat (.int i)]) := rfl
theorem v_house_ok {i : Int} (h : 0 ≤ i ∧ i ≤ 19) : g_is_house [.dat (.int i)] = some (.dat (.bool true), [.dat (.int i)]) := by
  rw [v_house, decide_eq_true h.1, decide_eq_true h.2]; rfl
theorem lst_trues (ns : List Int) : S.toD (.lst (ns.map fun _ => S.dat (.bool true))) = some (.list (List.replicate ns.length (.bool true))) := by
  have : (ns.map fun _ => S.dat (.bool true)) = (List.replicate ns.length (PyData.bool true)).map S.dat := by
    rw [List.map_const', List.map_replicate]
  rw [this]
  show (S.toDs _).map PyData.list = _
  rw [toDs_dats]; rfl
theorem v_is_owners {ns : List Int} (hl : ns.length = 12) (h : ∀ i ∈ ns, 0 ≤ i ∧ i ≤ 19) : g_is_owners [tI ns] = some (.dat (.bool true), [tI ns]) := by
  have hlen : (ns.map PyData.int).length = 12 := by simpa using hl
  have hloop : dLcLoop (rdD (ns.map .int)) 1 eYes (eCall g_is_house (dCons (dVar 1) dNil)) 12 0 [] [.own (tI ns), .no, .own (tI ns)] = some (ns.map (fun _ => S.dat (.bool true)), [.own (tI ns), .no, .own (tI ns)]) := by
    rw [lc_pure (fun _ => S.dat (.bool true)) 12 (by decide) (fun i hi => ?_) (rdD_end (by omega)) 12 0 12 [] rfl (Nat.le_refl _) rfl]
    · rw [List.nil_append, ← hl, map_range' (fun _ => S.dat (.bool true)) ns _ (fun _ _ _ => rfl)]
    · have hv : ns[i]? = some (ns[i]'(by omega)) := List.getElem?_eq_getElem _
      exact ⟨_, _, _, rdD_I hv, rfl, eCall_go (rs := [.val (.dat (.int (ns[i]'(by omega))))]) rfl rfl rfl (v_house_ok (h _ (List.getElem_mem _))), rfl⟩
  have hcomp : eLc (iTupS (dVar 0)) 1 eYes (eCall g_is_house (dCons (dVar 1) dNil)) [.own (tI ns), .no, .own (tI ns)] = some (.lst (ns.map fun _ => S.dat (.bool true)), [.own (tI ns), .no, .own (tI ns)]) := by
    show (match dLcLoop (rdD (ns.map .int)) 1 eYes (eCall g_is_house (dCons (dVar 1) dNil)) (ns.map PyData.int).length 0 [] [.own (tI ns), .no, .own (tI ns)] with
      | some (acc, E') => some (S.lst acc, stripE ⟨_, [], _, _⟩ E')
      | none => none) = _
    rw [hlen, hloop]; rfl
  have hall : eCB1 fAll (eLc (iTupS (dVar 0)) 1 eYes (eCall g_is_house (dCons (dVar 1) dNil))) [.own (tI ns), .no, .own (tI ns)] = some (.dat (.bool true), [.own (tI ns), .no, .own (tI ns)]) := by
    unfold eCB1
    rw [hcomp]
    simp only [lst_trues, all_trues]
    rfl
  have hl12 : ePure (dOp fEqS (dLen (dVar 0)) (dC (.int 12))) [.own (tI ns), .no, .own (tI ns)] = some (.dat (.bool true), [.own (tI ns), .no, .own (tI ns)]) := by
    show some (S.dat (.bool (decide (((ns.map PyData.int).length : Int) = 12))), _) = _
    rw [hlen]; rfl
  exact fnG_rt (dRet_go (eAndV_t (E1 := [.own (tI ns), .no, .own (tI ns)]) rfl (eAndV_t hl12 hall))) rfl
end K02
namespace K02
open PySem PySem.Spec PyProof.Rows L2 Mv Sh
theorem canLay_ints : ∀ (ns : List Int), PyData.canLayAll0 (ns.map PyData.int) = true
  | [] => rfl
  | a :: r => by simp [PyData.canLayAll0, PyData.canLay0, canLay_ints r]
theorem depth_ints : ∀ (ns : List Int), PyData.depthAll (ns.map PyData.int) = 0
  | [] => rfl
  | a :: r => by simp [PyData.depthAll, PyData.depth, depth_ints r]
theorem shaped_list (ns : List Int) : SeqAt.shaped (.list (ns.map PyData.int)) = true := by
  unfold SeqAt.shaped
  simp [PyData.canLay0, canLay_ints, PyData.depth, depth_ints]
theorem eqD_self (ns : List Int) : fEqD (.list (ns.map PyData.int)) (.list (ns.map PyData.int)) = some (.bool true) := by
  unfold fEqD
  rw [if_pos ⟨shaped_list ns, shaped_list ns⟩, SeqAt.eqv_refl _ (by simp [PyData.canLay0, canLay_ints])]
theorem neD_self (ns : List Int) : fNeD (.list (ns.map PyData.int)) (.list (ns.map PyData.int)) = some (.bool false) := by
  unfold fNeD
  rw [if_pos ⟨shaped_list ns, shaped_list ns⟩, SeqAt.eqv_refl _ (by simp [PyData.canLay0, canLay_ints])]; rfl
theorem lI_toD (ns : List Int) : (lI ns).toD = some (.list (ns.map .int)) := by
  show (S.toDs _).map PyData.list = _
  have : (ns.map fun i => S.dat (.int i)) = (ns.map PyData.int).map S.dat := by simp
  rw [this, toDs_dats]; rfl
theorem lI_seqL (ns : List Int) : (lI ns).seqL = some (ns.map .int) := by
  show datsS _ = _
  have : (ns.map fun i => S.dat (.int i)) = (ns.map PyData.int).map S.dat := by simp
  rw [this, datsS_dats]
def okHouses (hs : List Int) : Prop := hs.Pairwise (· < ·) ∧ 0 < hs.length ∧ hs.length ≤ 6 ∧ ∀ i ∈ hs, 0 ≤ i ∧ i ≤ 19
theorem v_are_houses {hs : List Int} (h : okHouses hs) : g_are_houses [lI hs] = some (.dat (.bool true), [lI hs]) := by
  obtain ⟨up, h0, h6, hh⟩ := h
  have hlen : (hs.map fun i => S.dat (.int i)).length = hs.length := by simp
  have hloop : dLcLoop rdP 1 eYes (eCall g_is_house (dCons (dVar 1) dNil)) hs.length 0 [] [.bor [2], .no, .own (lI hs), .bor [2]] = some (hs.map (fun _ => S.dat (.bool true)), [.bor [2], .no, .own (lI hs), .bor [2]]) := by
    rw [lc_pure (fun _ => S.dat (.bool true)) hs.length (by omega) (fun i hi => ?_) (rdP_end (hs := hs) rfl rfl (Nat.le_refl _)) hs.length 0 hs.length [] (by omega) (Nat.le_refl _) rfl]
    · rw [List.nil_append, map_range' (fun _ => S.dat (.bool true)) hs _ (fun _ _ _ => rfl)]
    · have hv : hs[i]? = some hs[i] := List.getElem?_eq_getElem _
      exact ⟨_, _, _, rdP_I rfl rfl hv, rfl, eCall_go (rs := [.val (.dat (.int hs[i]))]) rfl rfl rfl (v_house_ok (hh _ (List.getElem_mem _))), rfl⟩
  have hcomp : eLc (iLst (dVar 0)) 1 eYes (eCall g_is_house (dCons (dVar 1) dNil)) [.bor [2], .no, .own (lI hs)] = some (.lst (hs.map fun _ => S.dat (.bool true)), [.bor [2], .no, .own (lI hs)]) :=
    eLc_go (c := ⟨[.bor [2], .no, .own (lI hs)], [.bor [2]], rdP, (hs.map fun i => S.dat (.int i)).length⟩) rfl (by rw [hlen]; exact hloop)
  have hall : eCB1 fAll (eLc (iLst (dVar 0)) 1 eYes (eCall g_is_house (dCons (dVar 1) dNil))) [.bor [2], .no, .own (lI hs)] = some (.dat (.bool true), [.bor [2], .no, .own (lI hs)]) :=
    eCB1_go hcomp (lst_trues hs) all_trues
  have hch : ePureT (dNot (dTest (dChain fLe fLe (dC (.int 1)) (dLen (dVar 0)) (dC (.int 6))))) [.bor [2], .no, .own (lI hs)] = some (false, [.bor [2], .no, .own (lI hs)]) := by
    show some (!(decide ((1 : Int) ≤ ((hs.map fun i => S.dat (.int i)).length : Int)) && decide (((hs.map fun i => S.dat (.int i)).length : Int) ≤ 6)), _) = _
    rw [hlen, decide_eq_true (by omega), decide_eq_true (by omega)]; rfl
  have hor : eOr (ePureT (dNot (dTest (dChain fLe fLe (dC (.int 1)) (dLen (dVar 0)) (dC (.int 6)))))) (eNot (eTest (eCB1 fAll (eLc (iLst (dVar 0)) 1 eYes (eCall g_is_house (dCons (dVar 1) dNil)))))) [.bor [2], .no, .own (lI hs)] = some (false, [.bor [2], .no, .own (lI hs)]) :=
    eOr_f hch (eNot_go (eTest_go hall))
  have hs2 : sortSet hs = hs := (sortSet_uniq up fun _ => Iff.rfl).symm
  have hcs : dCS fSortSet (dCons (dVar 0) dNil) [.bor [2], .no, .own (lI hs)] = some (.val (lI hs)) := by
    show (fSortSet [lI hs]).map Rs.val = _
    unfold fSortSet
    simp only [lI_seqL, intsD_map, hs2]
    rw [if_pos (by omega)]; rfl
  have heq : ePure (dOp fEqD (dVar 0) (dCS fSortSet (dCons (dVar 0) dNil))) [.bor [2], .no, .own (lI hs)] = some (.dat (.bool true), [.bor [2], .no, .own (lI hs)]) := by
    unfold ePure dOp
    rw [hcs]
    have e1 : (Rs.pl [2]).full [.bor [2], .no, .own (lI hs)] = some (.list (hs.map .int)) := lI_toD hs
    have e2 : (Rs.val (lI hs)).full [.bor [2], .no, .own (lI hs)] = some (.list (hs.map .int)) := lI_toD hs
    show (match (match (Rs.pl [2]).full [.bor [2], .no, .own (lI hs)], (Rs.val (lI hs)).full [.bor [2], .no, .own (lI hs)] with
      | some a, some b => (fEqD a b).map fun c => Rs.val (.dat c)
      | _, _ => none) with
      | some (.val s) => some (s, _)
      | _ => none) = _
    rw [e1, e2]
    simp only [eqD_self]
    rfl
  exact fnG_rt (E := [.bor [2], .no, .own (lI hs)]) (dSeq_go (dIf_f hor rfl) (dRet_go heq)) rfl
end K02
namespace K02
open PySem PySem.Spec PyProof.Rows L2 Mv Sh
theorem kix_not {k : Key} : ∀ {ks : List Key}, k ∉ ks → kix ks k = none
  | [], _ => rfl
  | a :: r, h => by
    have : a ≠ k := fun e => h (e ▸ List.mem_cons_self)
    unfold kix
    rw [if_neg this, kix_not fun m => h (List.mem_cons_of_mem _ m)]; rfl
theorem nodupK_of : ∀ {ks : List Key}, ks.Nodup → nodupK ks = true
  | [], _ => rfl
  | k :: r, h => by
    obtain ⟨h1, h2⟩ := List.nodup_cons.mp h
    unfold nodupK
    rw [kix_not h1, nodupK_of h2]; rfl
theorem zeros_loop {hs : List Int} {E : En} (nd : hs.Nodup) (hl : hs.length < 1000)
    (st : ∀ i h, hs[i]? = some h → ∃ E1, rdP E i = some (some (.val (.dat (.int h)))) ∧ bName 5 (.val (.dat (.int h))) E = some E1 ∧ ePure (dVar 5) E1 = some (.dat (.int h), E1) ∧ ePure (dC (.int 0)) E1 = some (.dat (.int 0), E1) ∧ slotSet E1 5 .no = E) (he : rdP E hs.length = some none) :
    ∀ (suf pre : List Int) (fuel : Nat), hs = pre ++ suf → suf.length ≤ fuel → dDcLoop rdP 5 eYes (ePure (dVar 5)) (ePure (dC (.int 0))) fuel pre.length (kI (zeros pre)) E = some (kI (zeros hs), E)
  | [], pre, fuel, e, _ => by
    have : hs = pre := by simpa using e
    subst this
    exact dcLoop_end he
  | h :: suf, pre, fuel, e, hf => by
    cases fuel with
    | zero => simp at hf
    | succ fuel =>
      obtain ⟨E1, h1, h2, h3, h4, h5⟩ := st pre.length h (by rw [e]; simp)
      have hl2 : (kI (zeros pre)).length < 100000 := by
        have := congrArg List.length e
        simp at this
        simp [kI, zeros]; omega
      rw [dcLoop_yes h1 h2 rfl h3 rfl h4 hl2, h5]
      have hp : putS (kI (zeros pre)) (.inl h) (.int 0) = kI (zeros (pre ++ [h])) := by
        unfold putS
        have hk : kix ((kI (zeros pre)).map (·.1)) (.inl h) = none := kix_not fun m => by
          rw [e] at nd
          have : h ∈ pre := by
            rw [kI_keys] at m
            simpa [zeros] using m
          exact (List.nodup_append.mp nd).2.2 h this h List.mem_cons_self rfl
        rw [hk]
        simp [kI, zeros]
      have hlen : (pre ++ [h]).length = pre.length + 1 := by simp
      rw [show (Sum.inl h : Key) = .inl h from rfl, hp, ← hlen]
      exact zeros_loop nd hl st he suf (pre ++ [h]) fuel (by rw [e]; simp) (by simpa using hf)
def eSh (ow hs : List Int) (g : List (Int × Int)) (c : List Int) (s4 s5 : Sl) : En := [.own (tI ow), .bor [7], .own (dI g), .own (lI c), s4, s5, .own (tI ow), .own (lI hs)]
def dShBody : En → Option Out := (dSeq (dSet 5 (eCall g_first_owner (dCons (dVar 2) (dCons (dSl fSlT (dVar 0) (dPart (dVar 4)) dNoPart) dNil))))
    (dSeq (dDAug (dVar 2) (dVar 5) fAdd (dC (.int 1)))
    (dDrop (eBM1 oAppend (dVar 3) (dVar 5)))))
theorem daug_I {E : En} {g : List (Int × Int)} {i : Nat} {h v d : Int} {da db : En → Option Rs} {p : List Nat} (nd : (g.map (·.1)).Nodup) (hl : g.length < 1000) (hi : g[i]? = some (h, v)) (ha : da E = some (.pl p)) (hr : eget E p = some (dI g)) (hb : db E = some (.val (.dat (.int h)))) :
    dDAug da db fAdd (dC (.int d)) E = some (.nx (ekill (eput E p (dI (Sh.bump h d g))) p)) := by
  unfold dDAug
  rw [ha, hb]
  have e1 : dDGet da db E = some (.val (.dat (.int v))) := dget_I (l := false) nd hi ha hr hb
  simp only [dC, e1, Rs.key, keyS, Rs.full, S.toD]
  show stepAt (oDPut (.inl h)) E p (.dat (.int (v + d))) = _
  have ek : ((kI g).map fun p => (p.1, S.dat p.2)).map (·.1) = (kI g).map (·.1) := by simp
  have e2 : oDPut (.inl h) (dI g) (.dat (.int (v + d))) = some (dI (Sh.bump h d g), .dat .none) := by
    show (if nodupK (((kI g).map fun p => (p.1, S.dat p.2)).map (·.1)) = true then if ((kI g).map fun p => (p.1, S.dat p.2)).length < 100000 then some (S.dct false (putS ((kI g).map fun p => (p.1, S.dat p.2)) (.inl h) (.dat (.int (v + d)))), S.dat PyData.none) else none else none) = _
    rw [if_pos (by rw [ek]; exact nodupK_of (kI_nd nd)), if_pos (by simp [kI]; omega)]
    have e3 : putS ((kI g).map fun p => (p.1, S.dat p.2)) (.inl h) (S.dat (.int (v + d))) = (putS (kI g) (.inl h) (.int (v + d))).map fun p => (p.1, S.dat p.2) := by
      unfold putS
      rw [ek]
      cases kix ((kI g).map (·.1)) (.inl h) with
      | none => simp
      | some j =>
        have : ∀ (l : KD) (j : Nat) (x : PyData), setSnd (l.map fun p => (p.1, S.dat p.2)) j (S.dat x) = (setSnd l j x).map fun p => (p.1, S.dat p.2) := by
          intro l
          induction l with
          | nil => intro j x; cases j <;> rfl
          | cons q t ih => intro j x; cases j with
            | zero => rfl
            | succ j => show _ :: setSnd (t.map _) j _ = _ :: _; rw [ih]
        exact this _ _ _
    rw [e3, putS_kI nd hi]
    rfl
  unfold stepAt
  simp only [hr, e2]
theorem append_I {E : En} {c : List Int} {h : Int} {da db : En → Option Rs} {p : List Nat} (ha : da E = some (.pl p)) (hr : eget E p = some (lI c)) (hb : db E = some (.val (.dat (.int h)))) (hl : c.length < 1000) :
    eBM1 oAppend da db E = some (.dat .none, ekill (eput E p (lI (c ++ [h]))) p) := by
  unfold eBM1 eMut1
  rw [ha, hb]
  simp only [hr, lI, oAppend]
  rw [if_pos (by simp; omega)]
  simp
theorem zeros_keys (hs : List Int) : (zeros hs).map (·.1) = hs := by
  unfold zeros
  rw [List.map_map]
  show hs.map (fun h => h) = hs
  simp
section
variable {low : Int} {more : Nat} {hs : List Int} {ow : List Int}
theorem sh_body {up : hs.Pairwise (· < ·)} {g : List (Int × Int)} {c : List Int} {s4 s5 : Sl} {i : Nat} {m r : Int} {rs : List Int} (hk : g.map (·.1) = hs) (h0 : 0 < hs.length) (h6 : hs.length ≤ 6) (el : low = 12 / (hs.length : Int)) (em : (more : Int) = 12 % (hs.length : Int))
    (I : evInv low more hs g (rs.length + 1)) (hm : evVal low more (r :: rs) g = some m) (hd : ow.drop i = r :: rs) (hi : i < 12) (hol : ow.length = 12) (hc : c.length = i) :
    ∃ h E1 s4' s5', h ∈ hs ∧ (evSys low more hs up).run g (r :: rs) = h :: (evSys low more hs up).run (Sh.bump h 1 g) rs ∧ (∃ k, evVal low more rs (Sh.bump h 1 g) = some k) ∧
      bName 4 (.val (.dat (.int (i : Nat)))) (eSh ow hs g c s4 s5) = some E1 ∧ dShBody E1 = some (.nx (eSh ow hs (Sh.bump h 1 g) (c ++ [h]) s4' s5')) := by
  obtain ⟨h, hf⟩ := (evSys low more hs up).good_some I hm
  have hmem : h ∈ hs := List.mem_of_find?_eq_some hf
  have hg := List.find?_some hf
  obtain ⟨k, hk1, hk2⟩ := (evSys low more hs up).good_iff hg
  have hgl : g.length = hs.length := by rw [← hk]; simp
  have nd : (g.map (·.1)).Nodup := by rw [hk]; exact up_nodup up
  have hrun : (evSys low more hs up).run g (r :: rs) = h :: (evSys low more hs up).run (Sh.bump h 1 g) rs := by
    show (match (evSys low more hs up).val (r :: rs) g with
      | some m => match (evSys low more hs up).hs.find? ((evSys low more hs up).good g r rs m) with
        | some h => h :: (evSys low more hs up).run ((evSys low more hs up).step h g) rs
        | none => []
      | none => []) = _
    rw [show (evSys low more hs up).val (r :: rs) g = some m from hm]
    simp only [hf]
    rfl
  have hmg : h ∈ g.map (·.1) := by rw [hk]; exact hmem
  obtain ⟨j, hj⟩ := List.getElem?_of_mem hmg
  obtain ⟨v, hv⟩ : ∃ v, g[j]? = some (h, v) := by
    rw [List.getElem?_map] at hj
    obtain ⟨q, hq, e⟩ := Option.map_eq_some_iff.mp hj
    exact ⟨q.2, by rw [hq, ← e]⟩
  have hfo := v_first_owner (g := g) (r := r) (rs := rs) (m := m) (h0 := h) nd (by omega) (by omega) (by rw [hgl, ← el, ← em]; exact hm) (by
    rw [hk, hgl, ← el, ← em]
    exact hf)
  refine ⟨h, _, .own (.dat (.int (i : Nat))), .own (.dat (.int h)), hmem, hrun, ⟨k, hk1⟩, rfl, ?_⟩
  have s1 : dSet 5 (eCall g_first_owner (dCons (dVar 2) (dCons (dSl fSlT (dVar 0) (dPart (dVar 4)) dNoPart) dNil))) [.own (tI ow), .bor [7], .own (dI g), .own (lI c), .own (.dat (.int (i : Nat))), killHead 4 s5, .own (tI ow), .own (lI hs)] =
      some (.nx (eSh ow hs g c (.own (.dat (.int (i : Nat)))) (.own (.dat (.int h))))) :=
    dSet_go (eCall_go (rs := [.pl [2], .val (tI (r :: rs))]) (dcons_go rfl (dcons_go (by rw [slT_from (ns := ow) (k := i) rfl rfl (by omega), hd]) rfl)) rfl rfl hfo)
  have s2 : dDAug (dVar 2) (dVar 5) fAdd (dC (.int 1)) (eSh ow hs g c (.own (.dat (.int (i : Nat)))) (.own (.dat (.int h)))) = some (.nx (eSh ow hs (Sh.bump h 1 g) c (.own (.dat (.int (i : Nat)))) (.own (.dat (.int h))))) :=
    daug_I (p := [2]) nd (by omega) hv rfl rfl rfl
  have s3 : dDrop (eBM1 oAppend (dVar 3) (dVar 5)) (eSh ow hs (Sh.bump h 1 g) c (.own (.dat (.int (i : Nat)))) (.own (.dat (.int h)))) = some (.nx (eSh ow hs (Sh.bump h 1 g) (c ++ [h]) (.own (.dat (.int (i : Nat)))) (.own (.dat (.int h))))) :=
    dDrop_go (append_I (p := [3]) rfl rfl rfl (by omega))
  exact dSeq_go s1 (dSeq_go s2 s3)
theorem v_shared {up : hs.Pairwise (· < ·)} (oh : okHouses hs) (hol : ow.length = 12) (oo : ∀ i ∈ ow, 0 ≤ i ∧ i ≤ 19) (el : low = 12 / (hs.length : Int)) (em : (more : Int) = 12 % (hs.length : Int)) :
    g_shared [tI ow, lI hs] = some (tI ((evSys low more hs up).run (zeros hs) ow), [tI ow, lI hs]) := by
  obtain ⟨_, h0, h6, hh⟩ := id oh
  have c1 : eNot (eTest (eCall g_is_owners (dCons (dVar 0) dNil))) (entry 6 [tI ow, lI hs]) = some (false, entry 6 [tI ow, lI hs]) := eNot_go (eTest_go (eCall_go (rs := [.val (tI ow)]) rfl rfl rfl (v_is_owners hol oo)))
  have c2 : eNot (eTest (eCall g_are_houses (dCons (dVar 1) dNil))) (entry 6 [tI ow, lI hs]) = some (false, entry 6 [tI ow, lI hs]) := eNot_go (eTest_go (eCall_go (rs := [.pl [7]]) rfl rfl rfl (v_are_houses oh)))
  have hlen : (hs.map fun i => S.dat (.int i)).length = hs.length := by simp
  have c3 : dSet 2 (eDc (iLst (dVar 1)) 5 eYes (ePure (dVar 5)) (ePure (dC (.int 0)))) (entry 6 [tI ow, lI hs]) = some (.nx [.own (tI ow), .bor [7], .own (dI (zeros hs)), .no, .no, .no, .own (tI ow), .own (lI hs)]) := by
    have hz := zeros_loop (hs := hs) (E := [.own (tI ow), .bor [7], .no, .no, .no, .no, .own (tI ow), .own (lI hs), .bor [7]]) (up_nodup up) (by omega) (fun i h hi => ⟨_, rdP_I rfl rfl hi, rfl, rfl, rfl, rfl⟩) (rdP_end (hs := hs) rfl rfl (Nat.le_refl _)) hs [] hs.length rfl (Nat.le_refl _)
    refine dSet_go (s := dI (zeros hs)) (E1 := [.own (tI ow), .bor [7], .no, .no, .no, .no, .own (tI ow), .own (lI hs)]) ?_
    show (match dDcLoop rdP 5 eYes (ePure (dVar 5)) (ePure (dC (.int 0))) (hs.map fun i => S.dat (.int i)).length 0 [] [.own (tI ow), .bor [7], .no, .no, .no, .no, .own (tI ow), .own (lI hs), .bor [7]] with
      | some (acc, E') => some (dctD false acc, stripE ⟨_, [.bor [7]], _, _⟩ E')
      | none => none) = _
    rw [hlen, show (0 : Nat) = ([] : List Int).length from rfl, show ([] : KD) = kI (zeros []) from rfl, hz]
    rfl
  have c4 : dAlias 3 (dLst dNil) [.own (tI ow), .bor [7], .own (dI (zeros hs)), .no, .no, .no, .own (tI ow), .own (lI hs)] = some (.nx (eSh ow hs (zeros hs) [] .no .no)) := rfl
  have emod : 12 = (hs.length : Int) * (12 / (hs.length : Int)) + 12 % (hs.length : Int) := by
    have := Int.mul_ediv_add_emod 12 (hs.length : Int)
    omega
  have e : (ow.length : Int) = low * hs.length + more := by
    rw [hol, el, em, Int.mul_comm]
    exact emod
  have lm : (more : Int) ≤ hs.length := by
    rw [em]
    have := Int.emod_lt_of_pos 12 (show (0 : Int) < (hs.length : Int) by omega)
    omega
  have low0 : 0 ≤ low := by rw [el]; exact Int.ediv_nonneg (by omega) (by omega)
  obtain ⟨b, hb, _⟩ := shared_ok up e lm low0
  have hloop := loop_inv (rd := fun _ i => some (if i < (12 : Int).toNat then some (Rs.val (.dat (.int (i : Nat)))) else none)) (bd := bName 4) (db := dShBody)
    (fun i E => ∃ g c s4 s5, E = eSh ow hs g c s4 s5 ∧ g.map (·.1) = hs ∧ evInv low more hs g (12 - i) ∧ (∃ m, evVal low more (ow.drop i) g = some m) ∧ c ++ (evSys low more hs up).run g (ow.drop i) = (evSys low more hs up).run (zeros hs) ow ∧ c.length = i) 12
    (fun i E hi hJ => by
      obtain ⟨g, c, s4, s5, rfl, hk, I, ⟨m, hm⟩, hr, hc⟩ := hJ
      obtain ⟨r, rs, hd⟩ : ∃ r rs, ow.drop i = r :: rs := by
        cases h : ow.drop i with
        | nil => rw [List.drop_eq_nil_iff] at h; omega
        | cons r rs => exact ⟨r, rs, rfl⟩
      have hrl : rs.length + 1 = 12 - i := by
        have := congrArg List.length hd
        simp at this
        omega
      rw [hd] at hm hr
      rw [← hrl] at I
      obtain ⟨h, E1, s4', s5', hmem, hrun, ⟨k, hk1⟩, h1, h2⟩ := sh_body (up := up) (s4 := s4) (s5 := s5) hk h0 h6 el em I hm hd hi hol hc
      have hd2 : ow.drop (i + 1) = rs := by rw [← List.tail_drop, hd]; rfl
      refine ⟨.val (.dat (.int (i : Nat))), E1, _, rng_rd (E := []) hi, h1, h2, Sh.bump h 1 g, c ++ [h], s4', s5', rfl, by rw [bump_keys]; exact hk, ?_, ⟨k, by rw [hd2]; exact hk1⟩, ?_, by simp [hc]⟩
      · have := (evSys low more hs up).inv_step I hmem
        rw [show rs.length = 12 - (i + 1) by omega] at this
        exact this
      · rw [hd2, ← hr, hrun]; simp)
    (fun E _ => rng_end (E := []) (n := 12)) 12 0 12 (eSh ow hs (zeros hs) [] .no .no) rfl (Nat.le_refl _)
    ⟨zeros hs, [], .no, .no, rfl, zeros_keys hs, by have := zeros_inv (hs := hs) (low := low) (larger := more) e lm; rw [hol] at this; exact this, ⟨b, by simpa using hb⟩, by simp, rfl⟩
  obtain ⟨E', hE, g, c, s4, s5, rfl, hk, I, _, hr, hc⟩ := hloop
  have hcr : c = (evSys low more hs up).run (zeros hs) ow := by
    rw [← hr, show ow.drop 12 = [] from List.drop_eq_nil_iff.mpr (by omega)]
    simp [Sys.run]
  have c5 : dFor (iRange (dC (.int 12))) (bName 4) dShBody (eSh ow hs (zeros hs) [] .no .no) = some (.nx (eSh ow hs g c s4 s5)) :=
    dFor_go (c := ⟨eSh ow hs (zeros hs) [] .no .no, [], _, 12⟩) rfl hE
  have c6 : dRet (ePure (dCS fTuple (dCons (dVar 3) dNil))) (eSh ow hs g c s4 s5) = some (.rt (tI c) (eSh ow hs g c s4 s5)) := by
    have : dCS fTuple (dCons (dVar 3) dNil) (eSh ow hs g c s4 s5) = some (.val (tI c)) := by
      show (fTuple [lI c]).map Rs.val = _
      unfold fTuple
      simp only [lI_seqL]
      rfl
    unfold dRet ePure
    rw [this]
  rw [← hcr]
  exact fnG_rt (dSeq_go (dIf_f c1 rfl) (dSeq_go (dIf_f c2 rfl) (dSeq_go c3 (dSeq_go c4 (dSeq_go c5 c6))))) rfl
end
end K02
namespace K02
open PySem PySem.Spec PyProof.Rows L2 Mv Sh
theorem choices_len : ∀ (hs : List Int) (m : Nat), (choices hs m).length ≤ 2 ^ hs.length
  | hs, 0 => by cases hs <;> simp [choices, Nat.one_le_two_pow]
  | [], m + 1 => by simp [choices]
  | h :: t, m + 1 => by
    have h1 := choices_len t m
    have h2 := choices_len t (m + 1)
    simp only [choices, List.length_append, List.length_map, List.length_cons, Nat.pow_succ]
    omega
theorem rdP_L {E2 : En} {p : List Nat} {ss : List S} {i : Nat} {c : List Int} (h1 : E2.getLast? = some (.bor p)) (h2 : eget E2 p = some (.lst ss)) (h3 : ss[i]? = some (lI c)) : rdP E2 i = some (some (.pl (p ++ [i]))) := by
  unfold rdP
  simp only [h1, h2, h3]
  rfl
theorem rdP_Lend {E2 : En} {p : List Nat} {ss : List S} {i : Nat} (h1 : E2.getLast? = some (.bor p)) (h2 : eget E2 p = some (.lst ss)) (h3 : ss.length ≤ i) : rdP E2 i = some none := by
  unfold rdP
  simp only [h1, h2, List.getElem?_eq_none_iff.mpr h3]
theorem datsS_lI (ns : List Int) : datsS (ns.map fun i => S.dat (.int i)) = some (ns.map .int) := lI_seqL ns
theorem cat_I (h : Int) (c : List Int) (hl : c.length < 1000) : fCat (.lst [.dat (.int h)]) (lI c) = some (lI (h :: c)) := by
  show (match datsS [S.dat (.int h)], datsS (c.map fun i => S.dat (.int i)) with
    | some _, some _ => if [S.dat (.int h)].length + (c.map fun i => S.dat (.int i)).length < 100000 then some (S.lst ([S.dat (.int h)] ++ c.map fun i => S.dat (.int i))) else none
    | _, _ => none) = _
  rw [datsS_lI]
  show (if [S.dat (.int h)].length + (c.map fun i => S.dat (.int i)).length < 100000 then some (S.lst ([S.dat (.int h)] ++ c.map fun i => S.dat (.int i))) else none) = _
  rw [if_pos (by simp; omega)]
  rfl
def eCh (hs : List Int) (m : Int) (P : List (List Int)) (s3 s4 : Sl) : En := [.bor [5], .own (.dat (.int m)), .own (.lst (P.map lI)), s3, s4, .own (lI hs), .own (.dat (.int m))]
theorem ixL_I {E : En} {da db : En → Option Rs} {ns : List Int} {k : Nat} {v : Int} {r : Rs} (ha : da E = some r) (hr : r.at E = some (lI ns)) (hb : db E = some (.val (.dat (.int (k : Int))))) (h : ns[k]? = some v) : dIxL da db E = some (.val (.dat (.int v))) := by
  unfold dIxL
  rw [ha, hb]
  have hk := (List.getElem?_eq_some_iff.mp h).1
  have e1 : ixN (ns.map fun i => S.dat (.int i)).length (k : Int) = some k := ixN_in (by simpa using hk)
  simp only [hr, lI, e1, List.getElem?_map, h, Option.map_some]
  cases r <;> rfl
theorem slL_from {E : En} {da dl : En → Option Rs} {ns : List Int} {k : Nat} {r : Rs} (ha : da E = some r) (hr : r.at E = some (lI ns)) (hl : dl E = some (.val (.dat (.int (k : Int))))) (h : k ≤ ns.length) : dSl fSlL da (dPart dl) dNoPart E = some (.val (lI (ns.drop k))) := by
  unfold dSl dPart
  rw [ha, hl]
  show (match r.at E with | some s => (fSlL s (some (k : Int)) none).map Rs.val | none => none) = _
  rw [hr]
  show ((lI ns).seqL.map fun ds => S.lst ((cutD ds (some (k : Int)) none).map S.dat)).map Rs.val = _
  rw [lI_seqL, Option.map_some, cutD_from (by simpa using h), ← List.map_drop]
  simp only [lI, List.map_map, Option.map_some]
  rfl
theorem ch_comp {hs : List Int} {m : Int} {P : List (List Int)} {s4 : Sl} {i : Nat} {h : Int} {t : List (List Int)} {g : List S → Option (S × List S)} (hi : hs[i]? = some h) (hl : t.length < 1000) (hc : ∀ c ∈ t, c.length < 1000)
    (hg : g [lI (hs.drop (i + 1)), .dat (.int (m - 1))] = some (.lst (t.map lI), [lI (hs.drop (i + 1)), .dat (.int (m - 1))])) :
    eLc (iLstE (eCall g (dCons (dSl fSlL (dVar 0) (dPart (dOp fAdd (dVar 3) (dC (.int 1)))) dNoPart) (dCons (dOp fSub (dVar 1) (dC (.int 1))) dNil)))) 4 eYes (ePure (dOpS fCat (dLst (dCons (dIxL (dVar 0) (dVar 3)) dNil)) (dVar 4)))
      (eCh hs m P (.own (.dat (.int (i : Nat)))) s4 ++ [.bor [2]]) = some (.lst (t.map fun c => lI (h :: c)), eCh hs m P (.own (.dat (.int (i : Nat)))) .no ++ [.bor [2]]) := by
  have il := (List.getElem?_eq_some_iff.mp hi).1
  have e1 : eCall g (dCons (dSl fSlL (dVar 0) (dPart (dOp fAdd (dVar 3) (dC (.int 1)))) dNoPart) (dCons (dOp fSub (dVar 1) (dC (.int 1))) dNil)) (eCh hs m P (.own (.dat (.int (i : Nat)))) s4 ++ [.bor [2]]) = some (.lst (t.map lI), eCh hs m P (.own (.dat (.int (i : Nat)))) s4 ++ [.bor [2]]) :=
    eCall_go (rs := [.val (lI (hs.drop (i + 1))), .val (.dat (.int (m - 1)))]) (dcons_go (slL_from (k := i + 1) (r := .pl [5]) rfl rfl rfl (by omega)) (dcons_go rfl rfl)) rfl rfl hg
  have e2 : iLstE (eCall g (dCons (dSl fSlL (dVar 0) (dPart (dOp fAdd (dVar 3) (dC (.int 1)))) dNoPart) (dCons (dOp fSub (dVar 1) (dC (.int 1))) dNil))) (eCh hs m P (.own (.dat (.int (i : Nat)))) s4 ++ [.bor [2]]) = some ⟨eCh hs m P (.own (.dat (.int (i : Nat)))) s4 ++ [.bor [2]], [.own (.lst (t.map lI)), .bor [8]], rdP, (t.map lI).length⟩ := by
    unfold iLstE
    rw [e1]; rfl
  let EE : En := [.bor [5], .own (.dat (.int m)), .own (.lst (P.map lI)), .own (.dat (.int (i : Nat))), .no, .own (lI hs), .own (.dat (.int m)), .bor [2], .own (.lst (t.map lI)), .bor [8]]
  have hloop : dLcLoop rdP 4 eYes (ePure (dOpS fCat (dLst (dCons (dIxL (dVar 0) (dVar 3)) dNil)) (dVar 4))) (t.map lI).length 0 [] EE = some (t.map (fun c => lI (h :: c)), EE) := by
    have hlen : (t.map lI).length = t.length := by simp
    rw [hlen]
    rw [lc_pure (fun j => lI (h :: (t[j]?.getD []))) t.length (by omega) (fun j hj => ?_) (rdP_Lend (ss := t.map lI) rfl rfl (by simp)) t.length 0 t.length [] (by omega) (Nat.le_refl _) rfl]
    · rw [List.nil_append, map_range' (fun c => lI (h :: c)) t _ (fun j a ha => by rw [ha]; rfl)]
    · have hv : t[j]? = some t[j] := List.getElem?_eq_getElem _
      have hv2 : (t.map lI)[j]? = some (lI t[j]) := by rw [List.getElem?_map, hv]; rfl
      refine ⟨.pl [8, j], slotSet EE 4 (.bor [8, j]), slotSet EE 4 (.bor [8, j]), rdP_L (p := [8]) rfl rfl hv2, rfl, ?_, rfl⟩
      have a1 : dLst (dCons (dIxL (dVar 0) (dVar 3)) dNil) (slotSet EE 4 (.bor [8, j])) = some (.val (.lst [.dat (.int h)])) := by
        unfold dLst
        rw [dcons_go (ixL_I (r := .pl [5]) rfl rfl rfl hi) rfl]
        rfl
      have a2 : (Rs.pl [8, j]).at (slotSet EE 4 (.bor [8, j])) = some (lI t[j]) := by
        show (match (t.map lI)[j]? with | some s => s.get [] | none => none) = _
        rw [hv2]; exact S.get_nil _
      have a3 : dOpS fCat (dLst (dCons (dIxL (dVar 0) (dVar 3)) dNil)) (dVar 4) (slotSet EE 4 (.bor [8, j])) = some (.val (lI (h :: (t[j]?.getD [])))) := by
        unfold dOpS
        rw [a1, show dVar 4 (slotSet EE 4 (.bor [8, j])) = some (.pl [8, j]) from rfl]
        show (match (some (S.lst [.dat (.int h)])), (Rs.pl [8, j]).at (slotSet EE 4 (.bor [8, j])) with | some s, some t => (fCat s t).map Rs.val | _, _ => none) = _
        rw [a2, hv]
        show (fCat (.lst [.dat (.int h)]) (lI t[j])).map Rs.val = _
        rw [cat_I h _ (hc _ (List.getElem_mem _))]; rfl
      show ePure (dOpS fCat (dLst (dCons (dIxL (dVar 0) (dVar 3)) dNil)) (dVar 4)) (slotSet EE 4 (.bor [8, j])) = some (lI (h :: (t[j]?.getD [])), slotSet EE 4 (.bor [8, j]))
      unfold ePure
      rw [a3]
  exact eLc_go e2 hloop
theorem extend_I {E E1 : En} {da : En → Option Rs} {db : En → Option (S × En)} {p p' : List Nat} {xs ys zs : List S} (ha : da E = some (.pl p)) (hr : eget E p = some (.lst zs)) (hb : db (E ++ [.bor p]) = some (.lst ys, E1)) (hl : E1.getLast? = some (.bor p')) (hr2 : eget E1 p' = some (.lst xs)) (hz : xs.length + ys.length < 100000) :
    eBM1E oExtend da db E = some (.dat .none, strip1 (ekill (eput E1 p' (.lst (xs ++ ys))) p')) := by
  unfold eBM1E
  simp only [ha, hr, hb, hl, hr2, oExtend, if_pos hz]
theorem v_choices : ∀ (m k : Nat) (hs : List Int), m < k → hs.length ≤ 6 → g__law_choices k [lI hs, .dat (.int (m : Int))] = some (.lst ((choices hs m).map lI), [lI hs, .dat (.int (m : Int))])
  | _, 0, _, h, _ => absurd h (Nat.not_lt_zero _)
  | 0, k + 1, hs, _, _ => by
    have e : choices hs 0 = [[]] := by cases hs <;> rfl
    rw [e]
    exact fnG_rt (E := [.bor [5], .own (.dat (.int 0)), .no, .no, .no, .own (lI hs), .own (.dat (.int 0))]) (dSeq_rt (dIf_t rfl rfl)) rfl
  | m + 1, k + 1, hs, hk, hl => by
    have c1 : ePureT (dTest (dOp fEqS (dVar 1) (dC (.int 0)))) (entry 5 [lI hs, .dat (.int ((m + 1 : Nat) : Int))]) = some (false, entry 5 [lI hs, .dat (.int ((m + 1 : Nat) : Int))]) := by
      show some (decide (((m + 1 : Nat) : Int) = 0), _) = _
      rw [decide_eq_false (by omega)]
    have c2 : dAlias 2 (dLst dNil) (entry 5 [lI hs, .dat (.int ((m + 1 : Nat) : Int))]) = some (.nx (eCh hs ((m + 1 : Nat) : Int) [] .no .no)) := rfl
    have hch := choices_len hs (m + 1)
    have h64 : 2 ^ hs.length ≤ 64 := Nat.le_trans (Nat.pow_le_pow_right (by omega) hl) (by decide)
    have hlen : (hs.map fun i => S.dat (.int i)).length = hs.length := by simp
    have hloop := loop_inv (rd := fun _ i => some (if i < ((hs.map fun i => S.dat (.int i)).length : Int).toNat then some (Rs.val (.dat (.int (i : Nat)))) else none)) (bd := bName 3) (db := dDrop (eBM1E oExtend (dVar 2) (eLc (iLstE (eCall (g__law_choices k) (dCons (dSl fSlL (dVar 0) (dPart (dOp fAdd (dVar 3) (dC (.int 1)))) dNoPart) (dCons (dOp fSub (dVar 1) (dC (.int 1))) dNil)))) 4 eYes (ePure (dOpS fCat (dLst (dCons (dIxL (dVar 0) (dVar 3)) dNil)) (dVar 4))))))
      (fun i E => ∃ P s3 s4, E = eCh hs ((m + 1 : Nat) : Int) P s3 s4 ∧ P ++ choices (hs.drop i) (m + 1) = choices hs (m + 1)) hs.length
      (fun i E hi hJ => by
        obtain ⟨P, s3, s4, rfl, hP⟩ := hJ
        have hv : hs[i]? = some hs[i] := List.getElem?_eq_getElem _
        have hd : hs.drop i = hs[i] :: hs.drop (i + 1) := List.drop_eq_getElem_cons hi
        have hl2 : (hs.drop (i + 1)).length ≤ 6 := by rw [List.length_drop]; omega
        have ih := v_choices m k (hs.drop (i + 1)) (by omega) hl2
        have hcl := choices_len (hs.drop (i + 1)) m
        have h64' : 2 ^ (hs.drop (i + 1)).length ≤ 64 := Nat.le_trans (Nat.pow_le_pow_right (by omega) hl2) (by decide)
        have hcc : ∀ c ∈ choices (hs.drop (i + 1)) m, c.length < 1000 := fun c mc => by
          have h1 := (ch_mem mc).2.length_le
          omega
        have hPl : P.length ≤ 64 := by
          have := congrArg List.length hP
          rw [List.length_append] at this
          omega
        rw [hd] at hP
        simp only [choices] at hP
        have hcomp := ch_comp (m := ((m + 1 : Nat) : Int)) (P := P) (s4 := killHead 3 s4) (g := g__law_choices k) hv (by omega) hcc (by
          rw [show ((m + 1 : Nat) : Int) - 1 = (m : Int) by omega]
          exact ih)
        have hext := extend_I (E := eCh hs ((m + 1 : Nat) : Int) P (.own (.dat (.int (i : Nat)))) (killHead 3 s4)) (da := dVar 2) (p := [2]) (p' := [2]) (zs := P.map lI) (xs := P.map lI) rfl rfl hcomp rfl rfl (by simp; omega)
        refine ⟨.val (.dat (.int (i : Nat))), eCh hs ((m + 1 : Nat) : Int) P (.own (.dat (.int (i : Nat)))) (killHead 3 s4), _, ?_, rfl, dDrop_go hext, P ++ (choices (hs.drop (i + 1)) m).map (hs[i] :: ·), .own (.dat (.int (i : Nat))), .no, ?_, ?_⟩
        · show some (if i < ((hs.map fun i => S.dat (.int i)).length : Int).toNat then _ else _) = _
          rw [if_pos (by rw [hlen]; omega)]
        · show [Sl.bor [5], .own (.dat (.int ((m + 1 : Nat) : Int))), .own (.lst (P.map lI ++ (choices (hs.drop (i + 1)) m).map fun c => lI (hs[i] :: c))), .own (.dat (.int (i : Nat))), .no, .own (lI hs), .own (.dat (.int ((m + 1 : Nat) : Int)))] = _
          unfold eCh
          rw [List.map_append, List.map_map]
          rfl
        · rw [← hP]; simp)
      (fun E _ => by
        show some (if hs.length < ((hs.map fun i => S.dat (.int i)).length : Int).toNat then _ else _) = _
        rw [if_neg (by rw [hlen]; omega)])
      hs.length 0 ((hs.map fun i => S.dat (.int i)).length : Int).toNat (eCh hs ((m + 1 : Nat) : Int) [] .no .no) (by omega) (by rw [hlen]; omega) ⟨[], .no, .no, rfl, by simp⟩
    obtain ⟨E', hE, P, s3, s4, rfl, hP⟩ := hloop
    have hPe : P = choices hs (m + 1) := by
      rw [← hP, List.drop_eq_nil_iff.mpr (Nat.le_refl _)]
      simp [choices]
    have c3 : dFor (iRange (dLen (dVar 0))) (bName 3) (dDrop (eBM1E oExtend (dVar 2) (eLc (iLstE (eCall (g__law_choices k) (dCons (dSl fSlL (dVar 0) (dPart (dOp fAdd (dVar 3) (dC (.int 1)))) dNoPart) (dCons (dOp fSub (dVar 1) (dC (.int 1))) dNil)))) 4 eYes (ePure (dOpS fCat (dLst (dCons (dIxL (dVar 0) (dVar 3)) dNil)) (dVar 4)))))) (eCh hs ((m + 1 : Nat) : Int) [] .no .no) = some (.nx (eCh hs ((m + 1 : Nat) : Int) P s3 s4)) := by
      exact dFor_go (iRange_go (j := ((hs.map fun i => S.dat (.int i)).length : Int)) rfl (by omega) (by rw [hlen]; omega)) hE
    rw [← hPe]
    exact fnG_rt (dSeq_go (dIf_f c1 rfl) (dSeq_go c2 (dSeq_go c3 rfl))) rfl
end K02
namespace K02
open PySem PySem.Spec PyProof.Rows L2 Mv Sh
theorem dCB_go {E : En} {f : List PyData → Option PyData} {dr : En → Option (List Rs)} {rs : List Rs} {ds : List PyData} {c : PyData} (h : dr E = some rs) (h2 : fulls E rs = some ds) (h3 : f ds = some c) : dCB f dr E = some (.val (.dat c)) := by
  unfold dCB; rw [h]; simp only [h2, h3]; rfl
theorem dOp_go {E : En} {f : PyData → PyData → Option PyData} {da db : En → Option Rs} {a b : Rs} {x y c : PyData} (ha : da E = some a) (hb : db E = some b) (hx : a.full E = some x) (hy : b.full E = some y) (h : f x y = some c) : dOp f da db E = some (.val (.dat c)) := by
  unfold dOp; rw [ha, hb]; simp only [hx, hy, h]; rfl
theorem sum_map {α : Type} (f : α → Int) : ∀ (l : List α), (l.map f).sum = sumL f l
  | [] => rfl
  | a :: l => by simp [sumL, sum_map f l]
theorem icomp {E E0 : En} {j : Nat} {p : List Nat} {hs : List Int} {de : En → Option (S × En)} {src : En → Option Src} (f : Int → Int) (h0 : slotSet (E ++ [.bor p]) j .no = E0) (hsrc : src E = some ⟨E, [.bor p], rdP, hs.length⟩) (hp : eget E0 p = some (lI hs)) (hl : E0.getLast? = some (.bor p))
    (hb : ∀ h ∈ hs, ∃ E1, bName j (.val (.dat (.int h))) E0 = some E1 ∧ de E1 = some (.dat (.int (f h)), E1) ∧ slotSet E1 j .no = E0) (hlen : hs.length < 1000) :
    eLc src j eYes de E = some (.lst ((hs.map f).map fun i => .dat (.int i)), stripN 1 E0) := by
  refine eLc_go hsrc ?_
  show dLcLoop rdP j eYes de hs.length 0 [] (slotSet (E ++ [.bor p]) j .no) = _
  rw [h0, lc_pure (fun i => .dat (.int (f (hs[i]?.getD 0)))) hs.length (by omega) (fun i hi => ?_) (rdP_end hl hp (Nat.le_refl _)) hs.length 0 hs.length [] (by omega) (Nat.le_refl _) rfl]
  · rw [List.nil_append, map_range' (fun h => S.dat (.int (f h))) hs _ (fun i a ha => by rw [ha]; rfl)]
    simp
  · have hv : hs[i]? = some hs[i] := List.getElem?_eq_getElem _
    obtain ⟨E1, b1, b2, b3⟩ := hb hs[i] (List.getElem_mem _)
    exact ⟨_, E1, E1, rdP_I hl hp hv, b1, by rw [hv]; exact b2, b3⟩
theorem isum {E E1 : En} {d : En → Option (S × En)} {f : Int → Int} {hs : List Int} (h : d E = some (.lst ((hs.map f).map fun i => .dat (.int i)), E1)) : eCB1 fSum d E = some (.dat (.int (sumL f hs)), E1) := by
  refine eCB1_go h (lI_toD (hs.map f)) ?_
  show (intsD ((hs.map f).map PyData.int)).map (fun ns => PyData.int ns.sum) = _
  rw [intsD_map, Option.map_some, sum_map]
theorem in_I {E : En} {da db : En → Option Rs} {h : Int} {s : List Int} {r : Rs} (ha : da E = some (.val (.dat (.int h)))) (hb : db E = some r) (hr : r.at E = some (lI s)) : dOpS (fIn false) da db E = some (.val (.dat (.bool (decide (h ∈ s) != false)))) := by
  unfold dOpS
  rw [ha, hb]
  show (match some (S.dat (.int h)), r.at E with | some s, some t => (fIn false s t).map Rs.val | _, _ => none) = _
  rw [hr]
  show (match ((lI s).seqL <|> (lI s).seqT) with | some ds => (match intsD ds with | some ns => some (S.dat (.bool (decide (h ∈ ns) != false))) | none => none) | none => none).map Rs.val = _
  rw [lI_seqL]
  show (match intsD (s.map .int) with | some ns => some (S.dat (.bool (decide (h ∈ ns) != false))) | none => none).map Rs.val = _
  rw [intsD_map]; rfl
def eSt (ow hs : List Int) (low fd : Int) (cs : List (List Int)) (s4 s5 : Sl) : En := [.own (tI ow), .bor [7], .own (.dat (.int low)), .own (.dat (.int fd)), s4, s5, .own (tI ow), .own (lI hs), .own (.lst (cs.map lI)), .bor [8]]
theorem st_body {ow hs : List Int} {low fd : Int} {cs : List (List Int)} {s4 s5 : Sl} {i : Nat} {s : List Int} (hl : hs.length < 1000) (hi : cs[i]? = some s) :
    ∃ E1 s4' s5', bName 4 (.pl [8, i]) (eSt ow hs low fd cs s4 s5) = some E1 ∧ dSet 3 (eEff (lConsP (dVar 3) (lConsE (eCB1 fSum (eLc (iLst (dVar 1)) 5 eYes (ePure (dCB fMin2 (dCons (dTCnt (dVar 0) (dVar 5)) (dCons (dOp fAdd (dVar 2) (dCB fInt (dCons (dOpS (fIn false) (dVar 5) (dVar 4)) dNil))) dNil)))))) lNil)) fun k => ePure (dCB fMax2 (dGhs k))) E1 =
      some (.nx (eSt ow hs low (max fd (capV ow (capOf low s hs))) cs s4' s5')) := by
  have hsl : (cs.map lI)[i]? = some (lI s) := by rw [List.getElem?_map, hi]; rfl
  have hlen : (hs.map fun i => S.dat (.int i)).length = hs.length := by simp
  refine ⟨_, .bor [8, i], .no, rfl, ?_⟩
  let E2 : En := [.own (tI ow), .bor [7], .own (.dat (.int low)), .own (.dat (.int fd)), .bor [8, i], killHead 4 s5, .own (tI ow), .own (lI hs), .own (.lst (cs.map lI)), .bor [8], .own (.dat (.int fd))]
  let E0 : En := [.own (tI ow), .bor [7], .own (.dat (.int low)), .own (.dat (.int fd)), .bor [8, i], .no, .own (tI ow), .own (lI hs), .own (.lst (cs.map lI)), .bor [8], .own (.dat (.int fd)), .bor [7]]
  have hcomp : eLc (iLst (dVar 1)) 5 eYes (ePure (dCB fMin2 (dCons (dTCnt (dVar 0) (dVar 5)) (dCons (dOp fAdd (dVar 2) (dCB fInt (dCons (dOpS (fIn false) (dVar 5) (dVar 4)) dNil))) dNil)))) E2 = some (.lst ((hs.map fun h => min (cnt ow h) (low + if h ∈ s then 1 else 0)).map fun i => .dat (.int i)), stripN 1 E0) := by
    refine icomp (E0 := E0) (p := [7]) (fun h => min (cnt ow h) (low + if h ∈ s then 1 else 0)) rfl (by rw [← hlen]; rfl) rfl rfl (fun h _ => ⟨slotSet E0 5 (.own (.dat (.int h))), rfl, ?_, rfl⟩) hl
    have a1 : dTCnt (dVar 0) (dVar 5) (slotSet E0 5 (.own (.dat (.int h)))) = some (.val (.dat (.int (cnt ow h)))) := tcnt_I rfl rfl
    have a2 : (Rs.pl [8, i]).at (slotSet E0 5 (.own (.dat (.int h)))) = some (lI s) := by
      show (match (cs.map lI)[i]? with | some s => s.get [] | none => none) = _
      rw [hsl]; exact S.get_nil _
    have a3 := in_I (E := slotSet E0 5 (.own (.dat (.int h)))) (da := dVar 5) (db := dVar 4) rfl rfl a2
    have a4 : dOp fAdd (dVar 2) (dCB fInt (dCons (dOpS (fIn false) (dVar 5) (dVar 4)) dNil)) (slotSet E0 5 (.own (.dat (.int h)))) = some (.val (.dat (.int (low + if h ∈ s then 1 else 0)))) := by
      unfold dOp dCB
      rw [dcons_go a3 rfl]
      show some (Rs.val (.dat (.int (low + if (decide (h ∈ s) != false) = true then 1 else 0)))) = _
      by_cases hm : h ∈ s <;> simp [hm]
    have a5 : dCB fMin2 (dCons (dTCnt (dVar 0) (dVar 5)) (dCons (dOp fAdd (dVar 2) (dCB fInt (dCons (dOpS (fIn false) (dVar 5) (dVar 4)) dNil))) dNil)) (slotSet E0 5 (.own (.dat (.int h)))) = some (.val (.dat (.int (min (cnt ow h) (low + if h ∈ s then 1 else 0))))) := by
      refine dCB_go (dcons_go a1 (dcons_go a4 rfl)) rfl ?_
      show some (PyData.int (if (low + if h ∈ s then 1 else 0) < cnt ow h then (low + if h ∈ s then 1 else 0) else cnt ow h)) = _
      have : (if (low + if h ∈ s then 1 else 0) < cnt ow h then (low + if h ∈ s then 1 else 0) else cnt ow h) = min (cnt ow h) (low + if h ∈ s then 1 else 0) := by
        by_cases hm : h ∈ s
        · rw [if_pos hm]; split <;> omega
        · rw [if_neg hm]; split <;> omega
      rw [this]
    show ePure (dCB fMin2 (dCons (dTCnt (dVar 0) (dVar 5)) (dCons (dOp fAdd (dVar 2) (dCB fInt (dCons (dOpS (fIn false) (dVar 5) (dVar 4)) dNil))) dNil))) (slotSet E0 5 (.own (.dat (.int h)))) = some (.dat (.int (min (cnt ow h) (low + if h ∈ s then 1 else 0))), slotSet E0 5 (.own (.dat (.int h))))
    unfold ePure
    rw [a5]
  have hs2 := isum hcomp
  have hcv : sumL (fun h => min (cnt ow h) (low + if h ∈ s then 1 else 0)) hs = capV ow (capOf low s hs) := by
    unfold capV capOf
    rw [sumL_map]
  rw [hcv] at hs2
  generalize hcx : capV ow (capOf low s hs) = cx at hs2 ⊢
  have hl1 : lConsE (eCB1 fSum (eLc (iLst (dVar 1)) 5 eYes (ePure (dCB fMin2 (dCons (dTCnt (dVar 0) (dVar 5)) (dCons (dOp fAdd (dVar 2) (dCB fInt (dCons (dOpS (fIn false) (dVar 5) (dVar 4)) dNil))) dNil)))))) lNil E2 = some (1, stripN 1 E0 ++ [.own (.dat (.int cx))]) := by
    unfold lConsE
    rw [hs2]; rfl
  have hef : eEff (lConsP (dVar 3) (lConsE (eCB1 fSum (eLc (iLst (dVar 1)) 5 eYes (ePure (dCB fMin2 (dCons (dTCnt (dVar 0) (dVar 5)) (dCons (dOp fAdd (dVar 2) (dCB fInt (dCons (dOpS (fIn false) (dVar 5) (dVar 4)) dNil))) dNil)))))) lNil)) (fun k => ePure (dCB fMax2 (dGhs k))) [.own (tI ow), .bor [7], .own (.dat (.int low)), .own (.dat (.int fd)), .bor [8, i], killHead 4 s5, .own (tI ow), .own (lI hs), .own (.lst (cs.map lI)), .bor [8]] =
      some (.dat (.int (if cx > fd then cx else fd)), [.own (tI ow), .bor [7], .own (.dat (.int low)), .own (.dat (.int fd)), .bor [8, i], .no, .own (tI ow), .own (lI hs), .own (.lst (cs.map lI)), .bor [8]]) := by
    have hl0 : lConsP (dVar 3) (lConsE (eCB1 fSum (eLc (iLst (dVar 1)) 5 eYes (ePure (dCB fMin2 (dCons (dTCnt (dVar 0) (dVar 5)) (dCons (dOp fAdd (dVar 2) (dCB fInt (dCons (dOpS (fIn false) (dVar 5) (dVar 4)) dNil))) dNil)))))) lNil) [.own (tI ow), .bor [7], .own (.dat (.int low)), .own (.dat (.int fd)), .bor [8, i], killHead 4 s5, .own (tI ow), .own (lI hs), .own (.lst (cs.map lI)), .bor [8]] = some (2, stripN 1 E0 ++ [.own (.dat (.int cx))]) := by
      show up1 (lConsE _ lNil E2) = _
      rw [hl1]; rfl
    unfold eEff
    rw [hl0]
    rfl
  have hmx : (if cx > fd then cx else fd) = max fd cx := by split <;> omega
  rw [hmx] at hef
  exact dSet_go hef
theorem v_stay {ow hs : List Int} {low : Int} {more : Nat} (h0 : 0 < hs.length) (h6 : hs.length ≤ 6) (el : low = 12 / (hs.length : Int)) (em : (more : Int) = 12 % (hs.length : Int)) :
    g__law_stay [tI ow, lI hs] = some (.dat (.int (stayOf low more ow hs)), [tI ow, lI hs]) := by
  have hlen : (hs.map fun i => S.dat (.int i)).length = hs.length := by simp
  have hm : more < 9 := by
    have := Int.emod_lt_of_pos 12 (show (0 : Int) < (hs.length : Int) by omega)
    omega
  have hdiv : dOp fDiv (dC (.int 12)) (dLen (dVar 1)) (entry 6 [tI ow, lI hs]) = some (.val (.dat (.int low))) := by
    show (fDiv (.int 12) (.int ((hs.map fun i => S.dat (.int i)).length : Int))).map (fun c => Rs.val (.dat c)) = _
    rw [hlen]
    show (if 0 < (hs.length : Int) ∧ (hs.length : Int) < 1073741824 then some (PyData.int (12 / (hs.length : Int))) else none).map (fun c => Rs.val (.dat c)) = _
    rw [if_pos (by omega), el]; rfl
  have c1 : dAlias 2 (dOp fDiv (dC (.int 12)) (dLen (dVar 1))) (entry 6 [tI ow, lI hs]) = some (.nx [.own (tI ow), .bor [7], .own (.dat (.int low)), .no, .no, .no, .own (tI ow), .own (lI hs)]) := by
    unfold dAlias
    rw [hdiv]; rfl
  let E1 : En := [.own (tI ow), .bor [7], .own (.dat (.int low)), .own (.dat (.int 0)), .no, .no, .own (tI ow), .own (lI hs)]
  have hmod : dOp fMod (dC (.int 12)) (dLen (dVar 1)) E1 = some (.val (.dat (.int (more : Int)))) := by
    show (fMod (.int 12) (.int ((hs.map fun i => S.dat (.int i)).length : Int))).map (fun c => Rs.val (.dat c)) = _
    rw [hlen]
    show (if 0 < (hs.length : Int) then some (PyData.int (12 % (hs.length : Int))) else none).map (fun c => Rs.val (.dat c)) = _
    rw [if_pos (by omega), em]; rfl
  have hcall : eCall (g__law_choices 9) (dCons (dVar 1) (dCons (dOp fMod (dC (.int 12)) (dLen (dVar 1))) dNil)) E1 = some (.lst ((choices hs more).map lI), E1) :=
    eCall_go (rs := [.pl [7], .val (.dat (.int (more : Int)))]) (dcons_go rfl (dcons_go hmod rfl)) rfl rfl (v_choices more 9 hs hm h6)
  have hsrc : iLstE (eCall (g__law_choices 9) (dCons (dVar 1) (dCons (dOp fMod (dC (.int 12)) (dLen (dVar 1))) dNil))) E1 = some ⟨E1, [.own (.lst ((choices hs more).map lI)), .bor [8]], rdP, ((choices hs more).map lI).length⟩ := by
    unfold iLstE
    rw [hcall]; rfl
  have hcl : ((choices hs more).map lI).length = (choices hs more).length := by simp
  have hloop := loop_inv (rd := rdP) (bd := bName 4) (db := dSet 3 (eEff (lConsP (dVar 3) (lConsE (eCB1 fSum (eLc (iLst (dVar 1)) 5 eYes (ePure (dCB fMin2 (dCons (dTCnt (dVar 0) (dVar 5)) (dCons (dOp fAdd (dVar 2) (dCB fInt (dCons (dOpS (fIn false) (dVar 5) (dVar 4)) dNil))) dNil)))))) lNil)) fun k => ePure (dCB fMax2 (dGhs k))))
    (fun i E => ∃ fd s4 s5, E = eSt ow hs low fd (choices hs more) s4 s5 ∧ ((choices hs more).drop i).foldl (fun b s => max b (capV ow (capOf low s hs))) fd = stayOf low more ow hs) (choices hs more).length
    (fun i E hi hJ => by
      obtain ⟨fd, s4, s5, rfl, hf⟩ := hJ
      have hv : (choices hs more)[i]? = some (choices hs more)[i] := List.getElem?_eq_getElem _
      obtain ⟨E1, s4', s5', b1, b2⟩ := st_body (ow := ow) (low := low) (fd := fd) (s4 := s4) (s5 := s5) (hs := hs) (by omega) hv
      refine ⟨.pl [8, i], E1, _, rdP_L (p := [8]) (ss := (choices hs more).map lI) rfl rfl (by rw [List.getElem?_map, hv]; rfl), b1, b2, _, s4', s5', rfl, ?_⟩
      rw [List.drop_eq_getElem_cons hi] at hf
      exact hf)
    (fun E hJ => by
      obtain ⟨fd, s4, s5, rfl, _⟩ := hJ
      exact rdP_Lend (p := [8]) (ss := (choices hs more).map lI) rfl rfl (by rw [hcl]; exact Nat.le_refl _))
    (choices hs more).length 0 ((choices hs more).map lI).length (eSt ow hs low 0 (choices hs more) .no .no) (by omega) (by rw [hcl]; exact Nat.le_refl _) ⟨0, .no, .no, rfl, rfl⟩
  obtain ⟨E', hE, fd, s4, s5, rfl, hf⟩ := hloop
  rw [List.drop_eq_nil_iff.mpr (Nat.le_refl _)] at hf
  have hfd : fd = stayOf low more ow hs := hf
  subst hfd
  have c3 := dFor_go (src := iLstE (eCall (g__law_choices 9) (dCons (dVar 1) (dCons (dOp fMod (dC (.int 12)) (dLen (dVar 1))) dNil)))) (E := E1) hsrc hE
  exact fnG_rt (dSeq_go c1 (dSeq_go (E1 := E1) rfl (dSeq_go c3 rfl))) rfl
end K02
namespace K02
open PySem PySem.Spec PyProof.Rows L2 Mv Sh
def lk (c : List (Int × Int)) (h : Int) : Int := ((c.find? fun p => decide (p.1 = h)).map (·.2)).getD 0
theorem lk_at : ∀ {c : List (Int × Int)} {j : Nat} {h v : Int}, (c.map (·.1)).Nodup → c[j]? = some (h, v) → lk c h = v
  | [], _, _, _, _, e => by simp at e
  | p :: t, 0, h, v, _, e => by
    simp at e
    subst e
    simp [lk]
  | p :: t, j + 1, h, v, nd, e => by
    simp at e
    obtain ⟨n1, n2⟩ := List.nodup_cons.mp nd
    have ph : p.1 ≠ h := fun z => n1 (by show p.1 ∈ _; rw [z]; exact List.mem_map.mpr ⟨(h, v), List.mem_of_getElem? e, rfl⟩)
    have := lk_at n2 e
    unfold lk at this ⊢
    rw [List.find?_cons, decide_eq_false ph]
    exact this
theorem key_at {c : List (Int × Int)} {h : Int} (m : h ∈ c.map (·.1)) (nd : (c.map (·.1)).Nodup) : ∃ j : Nat, c[j]? = some (h, lk c h) := by
  obtain ⟨j, hj⟩ := List.getElem?_of_mem m
  rw [List.getElem?_map] at hj
  obtain ⟨q, hq, e⟩ := Option.map_eq_some_iff.mp hj
  have : c[j]? = some (h, q.2) := by rw [hq, ← e]
  exact ⟨j, by rw [lk_at nd this]; exact this⟩
theorem sum_lk {c : List (Int × Int)} {hs rest : List Int} (hk : c.map (·.1) = hs) (nd : hs.Nodup) : sumL (fun h => min (cnt rest h) (lk c h)) hs = capV rest c := by
  subst hk
  unfold capV
  rw [sumL_map]
  refine sumL_congr fun p m => ?_
  obtain ⟨j, hj⟩ := List.getElem?_of_mem m
  rw [lk_at (v := p.2) nd (by rw [hj])]
theorem step_I {E : En} {g : List (Int × Int)} {i : Nat} {h v d : Int} {p : List Nat} (nd : (g.map (·.1)).Nodup) (hl : g.length < 1000) (hi : g[i]? = some (h, v)) (hr : eget E p = some (dI g)) :
    stepAt (oDPut (.inl h)) E p (.dat (.int (v + d))) = some (.nx (ekill (eput E p (dI (Sh.bump h d g))) p)) := by
  have := daug_I (E := E) (d := d) (da := fun _ => some (.pl p)) (db := fun _ => some (.val (.dat (.int h)))) nd hl hi rfl hr rfl
  unfold dDAug at this
  have e1 : dDGet (fun _ => some (.pl p)) (fun _ => some (.val (.dat (.int h)))) E = some (.val (.dat (.int v))) := dget_I (l := false) (r := .pl p) nd hi rfl hr rfl
  simp only [e1, dC, Rs.key, keyS, Rs.full, S.toD] at this
  exact this
theorem dput_I {E : En} {g : List (Int × Int)} {i : Nat} {h v d : Int} {da db dv : En → Option Rs} {p : List Nat} (nd : (g.map (·.1)).Nodup) (hl : g.length < 1000) (hi : g[i]? = some (h, v)) (ha : da E = some (.pl p)) (hr : eget E p = some (dI g)) (hb : db E = some (.val (.dat (.int h)))) (hv : dv E = some (.val (.dat (.int (v + d))))) :
    dDPut da db (ePure dv) E = some (.nx (ekill (eput E p (dI (Sh.bump h d g))) p)) := by
  have e1 : ePure dv E = some (.dat (.int (v + d)), E) := by unfold ePure; rw [hv]
  unfold dDPut
  simp only [e1, ha, hb, Rs.key, keyS]
  exact step_I nd hl hi hr
theorem catT_I {E : En} {da db : En → Option Rs} {a b : List Int} (ha : da E = some (.val (tI a))) (hb : db E = some (.val (tI b))) (hl : a.length + b.length < 1000) : dOpS fCatT da db E = some (.val (tI (a ++ b))) := by
  unfold dOpS
  rw [ha, hb]
  show (if (a.map PyData.int).length + (b.map PyData.int).length < 100000 then some (S.dat (.tuple (a.map PyData.int ++ b.map PyData.int))) else none).map Rs.val = _
  rw [if_pos (by simp; omega), ← List.map_append]; rfl
def eFi (ow hs : List Int) (left : S) (c : List (Int × Int)) (fd : List Int) (i : Nat) (rest : List Int) (here : Int) (s7 s8 s9 : Sl) : En := [.own (tI ow), .bor [11], .own (dI c), .own (tI fd), .own (.dat (.int (i : Nat))), .own (tI rest), .own (.dat (.int here)), s7, s8, s9, .own (tI ow), .own (lI hs), .own left, .bor [11]]
def dFiBody : En → Option Out := (dIf (ePureT (dAnd (dTest (dOp fEqS (dLen (dVar 3)) (dVar 4))) (dTest (dOp fGt (dDGet (dVar 2) (dVar 7)) (dC (.int 0)))))) (dSeq (dDPut (dVar 2) (dVar 7) (ePure (dOp fSub (dDGet (dVar 2) (dVar 7)) (dC (.int 1)))))
    (dSeq (dSet 8 (eCB1 fSum (eLc (iLst (dVar 1)) 9 eYes (ePure (dCB fMin2 (dCons (dTCnt (dVar 5) (dVar 9)) (dCons (dDGet (dVar 2) (dVar 9)) dNil)))))))
    (dIf (ePureT (dTest (dOp fEqS (dOp fAdd (dVar 8) (dCB fInt (dCons (dOp fEqS (dIxT (dVar 0) (dVar 4)) (dVar 7)) dNil))) (dVar 6)))) (dAlias 3 (dOpS fCatT (dVar 3) (dTupL (dCons (dVar 7) dNil)))) (dDPut (dVar 2) (dVar 7) (ePure (dOp fAdd (dDGet (dVar 2) (dVar 7)) (dC (.int 1)))))))) dNext)
/-- sum([min(rest.count(one), left[one]) for one in houses]) -/
theorem sum_here {E E0 : En} {j : Nat} {hs rest : List Int} {c : List (Int × Int)} {src : En → Option Src} {dr : En → Option Rs} (hk : c.map (·.1) = hs) (nd : hs.Nodup) (hlen : hs.length < 1000) (h0 : slotSet (E ++ [.bor [11]]) j .no = E0) (hsrc : src E = some ⟨E, [.bor [11]], rdP, hs.length⟩) (hp : eget E0 [11] = some (lI hs)) (hl : E0.getLast? = some (.bor [11]))
    (hb : ∀ h ∈ hs, ∃ E1, bName j (.val (.dat (.int h))) E0 = some E1 ∧ dr E1 = some (.val (tI rest)) ∧ dVar j E1 = some (.val (.dat (.int h))) ∧ dVar 2 E1 = some (.pl [2]) ∧ eget E1 [2] = some (dI c) ∧ slotSet E1 j .no = E0) :
    eCB1 fSum (eLc src j eYes (ePure (dCB fMin2 (dCons (dTCnt dr (dVar j)) (dCons (dDGet (dVar 2) (dVar j)) dNil))))) E = some (.dat (.int (capV rest c)), stripN 1 E0) := by
  rw [← sum_lk (rest := rest) hk nd]
  refine isum (icomp (E0 := E0) (p := [11]) (fun h => min (cnt rest h) (lk c h)) h0 hsrc hp hl (fun h hm => ?_) hlen)
  obtain ⟨E1, b1, b2, b3, b4, b5, b6⟩ := hb h hm
  have ndc : (c.map (·.1)).Nodup := by rw [hk]; exact nd
  obtain ⟨q, hq⟩ := key_at (c := c) (h := h) (by rw [hk]; exact hm) ndc
  refine ⟨E1, b1, ?_, b6⟩
  have a1 : dTCnt dr (dVar j) E1 = some (.val (.dat (.int (cnt rest h)))) := tcnt_I b2 b3
  have a2 : dDGet (dVar 2) (dVar j) E1 = some (.val (.dat (.int (lk c h)))) := dget_I (l := false) (r := .pl [2]) ndc hq b4 b5 b3
  have a3 : dCB fMin2 (dCons (dTCnt dr (dVar j)) (dCons (dDGet (dVar 2) (dVar j)) dNil)) E1 = some (.val (.dat (.int (min (cnt rest h) (lk c h))))) := by
    refine dCB_go (dcons_go a1 (dcons_go a2 rfl)) rfl ?_
    show some (PyData.int (if lk c h < cnt rest h then lk c h else cnt rest h)) = _
    have : (if lk c h < cnt rest h then lk c h else cnt rest h) = min (cnt rest h) (lk c h) := by split <;> omega
    rw [this]
  unfold ePure
  rw [a3]
def goodE (c : List (Int × Int)) (r : Int) (rest : List Int) (here h : Int) : Bool := decide (0 < lk c h) && decide (capV rest (Sh.bump h (-1) c) + (if r = h then 1 else 0) = here)
theorem bump_back {c : List (Int × Int)} {h : Int} : Sh.bump h 1 (Sh.bump h (-1) c) = c := by
  unfold Sh.bump
  rw [List.map_map]
  have : ∀ p ∈ c, ((fun p : Int × Int => if p.1 = h then (p.1, p.2 + 1) else p) ∘ fun p => if p.1 = h then (p.1, p.2 + -1) else p) p = p := fun p _ => by
    by_cases e : p.1 = h
    · simp [e]
      rw [← e]
      have : p.2 + -1 + 1 = p.2 := by omega
      rw [this]
    · simp [e]
  rw [List.map_congr_left this]; simp
theorem killHead_idem (i : Nat) (x : Sl) : killHead i (killHead i x) = killHead i x := by
  cases x with
  | no => rfl
  | own s => rfl
  | bor p =>
    by_cases h : p.head? = some i
    · simp [killHead, h]
    · simp [killHead, h]
theorem fi_turn {ow hs : List Int} {left : S} {c : List (Int × Int)} {fd : List Int} {i : Nat} {rest : List Int} {here r h : Int} {s7 s8 s9 : Sl} (hk : c.map (·.1) = hs) (nd : hs.Nodup) (hlen : hs.length < 100) (hm : h ∈ hs) (hr : ow[i]? = some r) (hf : fd.length < 100) :
    ∃ E1 s7' s8' s9', bName 7 (.val (.dat (.int h))) (eFi ow hs left c fd i rest here s7 s8 s9) = some E1 ∧ dFiBody E1 =
      (if fd.length = i then if goodE c r rest here h = true then some (.nx (eFi ow hs left (Sh.bump h (-1) c) (fd ++ [h]) i rest here s7' s8' s9')) else some (.nx (eFi ow hs left c fd i rest here s7' s8' s9'))
      else some (.nx (eFi ow hs left c fd i rest here s7' s8' s9'))) := by
  have ndc : (c.map (·.1)).Nodup := by rw [hk]; exact nd
  have hcl : c.length = hs.length := by rw [← hk]; simp
  obtain ⟨q, hq⟩ := key_at (c := c) (h := h) (by rw [hk]; exact hm) ndc
  have hlf : (fd.map PyData.int).length = fd.length := by simp
  let E1 : En := [.own (tI ow), .bor [11], .own (dI c), .own (tI fd), .own (.dat (.int (i : Nat))), .own (tI rest), .own (.dat (.int here)), .own (.dat (.int h)), killHead 7 s8, killHead 7 s9, .own (tI ow), .own (lI hs), .own left, .bor [11]]
  have t1 : dTest (dOp fEqS (dLen (dVar 3)) (dVar 4)) E1 = some (decide (fd.length = i)) := by
    show some (decide (((fd.map PyData.int).length : Int) = (i : Int))) = _
    rw [hlf]
    congr 1
    exact decide_eq_decide.mpr ⟨fun z => by omega, fun z => by omega⟩
  have g1 : dDGet (dVar 2) (dVar 7) E1 = some (.val (.dat (.int (lk c h)))) := dget_I (l := false) (r := .pl [2]) ndc hq rfl rfl rfl
  have t2 : dTest (dOp fGt (dDGet (dVar 2) (dVar 7)) (dC (.int 0))) E1 = some (decide (0 < lk c h)) := by
    unfold dTest
    rw [dOp_go g1 rfl rfl rfl rfl]
  unfold dFiBody goodE
  by_cases hfl : fd.length = i
  · by_cases hp : 0 < lk c h
    · have hc : ePureT (dAnd (dTest (dOp fEqS (dLen (dVar 3)) (dVar 4))) (dTest (dOp fGt (dDGet (dVar 2) (dVar 7)) (dC (.int 0))))) E1 = some (true, E1) := by
        unfold ePureT dAnd
        rw [t1, t2, decide_eq_true hfl, decide_eq_true hp]; rfl
      rw [decide_eq_true hp, Bool.true_and]
      -- left[house] -= 1
      let E2 : En := [.own (tI ow), .bor [11], .own (dI (Sh.bump h (-1) c)), .own (tI fd), .own (.dat (.int (i : Nat))), .own (tI rest), .own (.dat (.int here)), .own (.dat (.int h)), kill1 [2] (killHead 7 s8), kill1 [2] (killHead 7 s9), .own (tI ow), .own (lI hs), .own left, .bor [11]]
      have p1 : dDPut (dVar 2) (dVar 7) (ePure (dOp fSub (dDGet (dVar 2) (dVar 7)) (dC (.int 1)))) E1 = some (.nx E2) :=
        dput_I (p := [2]) (d := -1) ndc (by omega) hq rfl rfl rfl (dOp_go g1 rfl rfl rfl rfl)
      have hk2 : (Sh.bump h (-1) c).map (·.1) = hs := by rw [bump_keys]; exact hk
      let E3 : En := [.own (tI ow), .bor [11], .own (dI (Sh.bump h (-1) c)), .own (tI fd), .own (.dat (.int (i : Nat))), .own (tI rest), .own (.dat (.int here)), .own (.dat (.int h)), .own (.dat (.int (capV rest (Sh.bump h (-1) c)))), .no, .own (tI ow), .own (lI hs), .own left, .bor [11]]
      have hlh : (hs.map fun i => S.dat (.int i)).length = hs.length := by simp
      have p2 : dSet 8 (eCB1 fSum (eLc (iLst (dVar 1)) 9 eYes (ePure (dCB fMin2 (dCons (dTCnt (dVar 5) (dVar 9)) (dCons (dDGet (dVar 2) (dVar 9)) dNil)))))) E2 = some (.nx E3) :=
        dSet_go (sum_here (E0 := [.own (tI ow), .bor [11], .own (dI (Sh.bump h (-1) c)), .own (tI fd), .own (.dat (.int (i : Nat))), .own (tI rest), .own (.dat (.int here)), .own (.dat (.int h)), killHead 9 (kill1 [2] (killHead 7 s8)), .no, .own (tI ow), .own (lI hs), .own left, .bor [11], .bor [11]]) hk2 nd (by omega) rfl (by rw [← hlh]; rfl) rfl rfl fun h' _ =>
          ⟨[.own (tI ow), .bor [11], .own (dI (Sh.bump h (-1) c)), .own (tI fd), .own (.dat (.int (i : Nat))), .own (tI rest), .own (.dat (.int here)), .own (.dat (.int h)), killHead 9 (killHead 9 (kill1 [2] (killHead 7 s8))), .own (.dat (.int h')), .own (tI ow), .own (lI hs), .own left, .bor [11], .bor [11]], rfl, rfl, rfl, rfl, rfl, by
            unfold slotSet
            simp only [List.map_cons, List.map_nil, killHead_idem]
            rfl⟩)
      have hix : dIxT (dVar 0) (dVar 4) E3 = some (.val (.dat (.int r))) := ixT_I (k := i) rfl rfl hr
      have t3 : ePureT (dTest (dOp fEqS (dOp fAdd (dVar 8) (dCB fInt (dCons (dOp fEqS (dIxT (dVar 0) (dVar 4)) (dVar 7)) dNil))) (dVar 6))) E3 = some (decide (capV rest (Sh.bump h (-1) c) + (if r = h then 1 else 0) = here), E3) := by
        have b1 : dCB fInt (dCons (dOp fEqS (dIxT (dVar 0) (dVar 4)) (dVar 7)) dNil) E3 = some (.val (.dat (.int (if r = h then 1 else 0)))) := by
          refine dCB_go (dcons_go (dOp_go hix rfl rfl rfl rfl) rfl) rfl ?_
          show some (PyData.int (if decide (r = h) = true then 1 else 0)) = _
          by_cases e : r = h <;> simp [e]
        unfold ePureT dTest
        rw [dOp_go (dOp_go rfl b1 rfl rfl rfl) rfl rfl rfl rfl]
        rfl
      by_cases hg : capV rest (Sh.bump h (-1) c) + (if r = h then 1 else 0) = here
      · rw [decide_eq_true hg] at t3 ⊢
        refine ⟨E1, .own (.dat (.int h)), .own (.dat (.int (capV rest (Sh.bump h (-1) c)))), .no, rfl, ?_⟩
        rw [if_pos hfl, if_pos rfl]
        refine dIf_t hc (dSeq_go p1 (dSeq_go p2 (dIf_t t3 ?_)))
        have e1 : dOpS fCatT (dVar 3) (dTupL (dCons (dVar 7) dNil)) E3 = some (.val (tI (fd ++ [h]))) := catT_I (b := [h]) rfl rfl (by simp; omega)
        unfold dAlias
        rw [e1]; rfl
      · rw [decide_eq_false hg] at t3 ⊢
        obtain ⟨q2, hq2⟩ := key_at (c := Sh.bump h (-1) c) (h := h) (by rw [hk2]; exact hm) (by rw [hk2]; exact nd)
        have ndc2 : ((Sh.bump h (-1) c).map (·.1)).Nodup := by rw [hk2]; exact nd
        have g3 : dDGet (dVar 2) (dVar 7) E3 = some (.val (.dat (.int (lk (Sh.bump h (-1) c) h)))) := dget_I (l := false) (r := .pl [2]) ndc2 hq2 rfl rfl rfl
        have p3 := dput_I (E := E3) (da := dVar 2) (db := dVar 7) (dv := dOp fAdd (dDGet (dVar 2) (dVar 7)) (dC (.int 1))) (p := [2]) (d := 1) ndc2 (by rw [bump_length]; omega) hq2 rfl rfl rfl (dOp_go g3 rfl rfl rfl rfl)
        rw [bump_back] at p3
        refine ⟨E1, .own (.dat (.int h)), .own (.dat (.int (capV rest (Sh.bump h (-1) c)))), .no, rfl, ?_⟩
        rw [if_pos hfl, if_neg (by simp)]
        exact dIf_t hc (dSeq_go p1 (dSeq_go p2 (dIf_f t3 p3)))
    · have hc : ePureT (dAnd (dTest (dOp fEqS (dLen (dVar 3)) (dVar 4))) (dTest (dOp fGt (dDGet (dVar 2) (dVar 7)) (dC (.int 0))))) E1 = some (false, E1) := by
        unfold ePureT dAnd
        rw [t1, t2, decide_eq_true hfl, decide_eq_false hp]; rfl
      rw [decide_eq_false hp, Bool.false_and]
      refine ⟨E1, .own (.dat (.int h)), killHead 7 s8, killHead 7 s9, rfl, ?_⟩
      rw [if_pos hfl, if_neg (by simp)]
      exact dIf_f hc rfl
  · have hc : ePureT (dAnd (dTest (dOp fEqS (dLen (dVar 3)) (dVar 4))) (dTest (dOp fGt (dDGet (dVar 2) (dVar 7)) (dC (.int 0))))) E1 = some (false, E1) := by
      unfold ePureT dAnd
      rw [t1, decide_eq_false hfl]; rfl
    refine ⟨E1, .own (.dat (.int h)), killHead 7 s8, killHead 7 s9, rfl, ?_⟩
    rw [if_neg hfl]
    exact dIf_f hc rfl
theorem fi_loop {ow hs : List Int} {left : S} {i : Nat} {rest : List Int} {here r : Int} (nd : hs.Nodup) (hlen : hs.length < 100) (hr : ow[i]? = some r) : ∀ (suf pre : List Int) (c : List (Int × Int)) (fd : List Int) (s7 s8 s9 : Sl) (fuel : Nat), c.map (·.1) = hs → hs = pre ++ suf → suf.length ≤ fuel → fd.length + suf.length < 100 →
    ∃ s7' s8' s9', dLoop rdP (bName 7) dFiBody fuel pre.length (eFi ow hs left c fd i rest here s7 s8 s9) = some (.nx (if fd.length = i then match suf.find? (goodE c r rest here) with
      | some h => eFi ow hs left (Sh.bump h (-1) c) (fd ++ [h]) i rest here s7' s8' s9'
      | none => eFi ow hs left c fd i rest here s7' s8' s9' else eFi ow hs left c fd i rest here s7' s8' s9'))
  | [], pre, c, fd, s7, s8, s9, fuel, hk, e, hf, hfd => by
    have : hs = pre := by simpa using e
    subst this
    refine ⟨s7, s8, s9, ?_⟩
    rw [dLoop_end (rdP_end (p := [11]) (hs := hs) rfl rfl (Nat.le_refl _))]
    simp
  | h :: suf, pre, c, fd, s7, s8, s9, fuel, hk, e, hf, hfd => by
    cases fuel with
    | zero => simp at hf
    | succ fuel =>
      have hv : hs[pre.length]? = some h := by rw [e]; simp
      have hm : h ∈ hs := List.mem_of_getElem? hv
      obtain ⟨E1, s7', s8', s9', b1, b2⟩ := fi_turn (left := left) (rest := rest) (here := here) (s7 := s7) (s8 := s8) (s9 := s9) hk nd hlen hm hr (fd := fd) (by simp at hfd; omega)
      have hrd : rdP (eFi ow hs left c fd i rest here s7 s8 s9) pre.length = some (some (.val (.dat (.int h)))) := rdP_I (p := [11]) rfl rfl hv
      have e' : hs = (pre ++ [h]) ++ suf := by rw [e]; simp
      have hl : (pre ++ [h]).length = pre.length + 1 := by simp
      rw [List.find?_cons]
      by_cases hfl : fd.length = i
      · rw [if_pos hfl] at b2
        cases hg : goodE c r rest here h with
        | true =>
          rw [if_pos hg] at b2
          rw [dLoop_nx hrd b1 b2, ← hl]
          obtain ⟨t7, t8, t9, hh⟩ := fi_loop nd hlen hr suf (pre ++ [h]) (Sh.bump h (-1) c) (fd ++ [h]) s7' s8' s9' fuel (by rw [bump_keys]; exact hk) e' (by simpa using hf) (by simp at hfd ⊢; omega)
          refine ⟨t7, t8, t9, ?_⟩
          rw [hh, if_neg (by simp; omega), if_pos hfl]
        | false =>
          rw [if_neg (by rw [hg]; simp)] at b2
          rw [dLoop_nx hrd b1 b2, ← hl]
          exact fi_loop nd hlen hr suf (pre ++ [h]) c fd s7' s8' s9' fuel hk e' (by simpa using hf) (by simp at hfd; omega)
      · rw [if_neg hfl] at b2
        rw [dLoop_nx hrd b1 b2, ← hl]
        obtain ⟨t7, t8, t9, hh⟩ := fi_loop nd hlen hr suf (pre ++ [h]) c fd s7' s8' s9' fuel hk e' (by simpa using hf) (by simp at hfd; omega)
        refine ⟨t7, t8, t9, ?_⟩
        rw [hh, if_neg hfl, if_neg hfl]
def eFs (ow hs : List Int) (left : S) (c : List (Int × Int)) (fd : List Int) (s4 s5 s6 s7 s8 s9 : Sl) : En := [.own (tI ow), .bor [11], .own (dI c), .own (tI fd), s4, s5, s6, s7, s8, s9, .own (tI ow), .own (lI hs), .own left]
def dFsBody : En → Option Out := (dSeq (dAlias 5 (dSl fSlT (dVar 0) (dPart (dOp fAdd (dVar 4) (dC (.int 1)))) dNoPart))
    (dSeq (dSet 6 (eCB1 fSum (eLc (iLst (dVar 1)) 7 eYes (ePure (dCB fMin2 (dCons (dTCnt (dSl fSlT (dVar 0) (dPart (dVar 4)) dNoPart) (dVar 7)) (dCons (dDGet (dVar 2) (dVar 7)) dNil)))))))
    (dFor (iLst (dVar 1)) (bName 7) dFiBody)))
theorem fs_turn {ow hs : List Int} {left : S} {c : List (Int × Int)} {fd : List Int} {i : Nat} {r h : Int} {rs : List Int} {s4 s5 s6 s7 s8 s9 : Sl} (hk : c.map (·.1) = hs) (nd : hs.Nodup) (hlen : hs.length < 20) (hd : ow.drop i = r :: rs) (hfd : fd.length = i) (hi : i < 80) (hf : hs.find? (goodE c r rs (capV (r :: rs) c)) = some h) :
    ∃ E1 s4' s5' s6' s7' s8' s9', bName 4 (.val (.dat (.int (i : Nat)))) (eFs ow hs left c fd s4 s5 s6 s7 s8 s9) = some E1 ∧ dFsBody E1 = some (.nx (eFs ow hs left (Sh.bump h (-1) c) (fd ++ [h]) s4' s5' s6' s7' s8' s9')) := by
  have hol : i < ow.length := by
    rcases Nat.lt_or_ge i ow.length with z | z
    · exact z
    · rw [List.drop_eq_nil_iff.mpr z] at hd; cases hd
  have hr : ow[i]? = some r := by
    have := List.drop_eq_getElem_cons hol
    rw [hd] at this
    rw [List.getElem?_eq_getElem hol]
    cases this; rfl
  have hd2 : ow.drop (i + 1) = rs := by rw [← List.tail_drop, hd]; rfl
  have hlh : (hs.map fun i => S.dat (.int i)).length = hs.length := by simp
  let E1 : En := [.own (tI ow), .bor [11], .own (dI c), .own (tI fd), .own (.dat (.int (i : Nat))), killHead 4 s5, killHead 4 s6, killHead 4 s7, killHead 4 s8, killHead 4 s9, .own (tI ow), .own (lI hs), .own left]
  have p1 : ∃ x6 x7 x8 x9, dAlias 5 (dSl fSlT (dVar 0) (dPart (dOp fAdd (dVar 4) (dC (.int 1)))) dNoPart) E1 = some (.nx [.own (tI ow), .bor [11], .own (dI c), .own (tI fd), .own (.dat (.int (i : Nat))), .own (tI rs), x6, x7, x8, x9, .own (tI ow), .own (lI hs), .own left]) := by
    refine ⟨killHead 5 (killHead 4 s6), killHead 5 (killHead 4 s7), killHead 5 (killHead 4 s8), killHead 5 (killHead 4 s9), ?_⟩
    unfold dAlias
    rw [slT_from (E := E1) (ns := ow) (k := i + 1) rfl rfl (by omega), hd2]
    rfl
  obtain ⟨x6, x7, x8, x9, p1⟩ := p1
  let E2 : En := [.own (tI ow), .bor [11], .own (dI c), .own (tI fd), .own (.dat (.int (i : Nat))), .own (tI rs), x6, x7, x8, x9, .own (tI ow), .own (lI hs), .own left]
  let E0 : En := [.own (tI ow), .bor [11], .own (dI c), .own (tI fd), .own (.dat (.int (i : Nat))), .own (tI rs), killHead 7 x6, .no, killHead 7 x8, killHead 7 x9, .own (tI ow), .own (lI hs), .own left, .bor [11]]
  have ps : eCB1 fSum (eLc (iLst (dVar 1)) 7 eYes (ePure (dCB fMin2 (dCons (dTCnt (dSl fSlT (dVar 0) (dPart (dVar 4)) dNoPart) (dVar 7)) (dCons (dDGet (dVar 2) (dVar 7)) dNil))))) E2 = some (.dat (.int (capV (r :: rs) c)), stripN 1 E0) :=
    sum_here (E0 := E0) (dr := dSl fSlT (dVar 0) (dPart (dVar 4)) dNoPart) hk nd (by omega) rfl (by rw [← hlh]; rfl) rfl rfl fun h' _ =>
      ⟨[.own (tI ow), .bor [11], .own (dI c), .own (tI fd), .own (.dat (.int (i : Nat))), .own (tI rs), killHead 7 (killHead 7 x6), .own (.dat (.int h')), killHead 7 (killHead 7 x8), killHead 7 (killHead 7 x9), .own (tI ow), .own (lI hs), .own left, .bor [11]], rfl, by rw [slT_from (ns := ow) (k := i) rfl rfl (by omega), hd], rfl, rfl, rfl, by
        unfold slotSet
        simp only [List.map_cons, List.map_nil, killHead_idem]
        rfl⟩
  have p2 : ∃ y7 y8 y9, dSet 6 (eCB1 fSum (eLc (iLst (dVar 1)) 7 eYes (ePure (dCB fMin2 (dCons (dTCnt (dSl fSlT (dVar 0) (dPart (dVar 4)) dNoPart) (dVar 7)) (dCons (dDGet (dVar 2) (dVar 7)) dNil)))))) E2 = some (.nx [.own (tI ow), .bor [11], .own (dI c), .own (tI fd), .own (.dat (.int (i : Nat))), .own (tI rs), .own (.dat (.int (capV (r :: rs) c))), y7, y8, y9, .own (tI ow), .own (lI hs), .own left]) :=
    ⟨.no, killHead 6 (killHead 13 (killHead 7 x8)), killHead 6 (killHead 13 (killHead 7 x9)), dSet_go ps⟩
  obtain ⟨y7, y8, y9, p2⟩ := p2
  let E3 : En := [.own (tI ow), .bor [11], .own (dI c), .own (tI fd), .own (.dat (.int (i : Nat))), .own (tI rs), .own (.dat (.int (capV (r :: rs) c))), y7, y8, y9, .own (tI ow), .own (lI hs), .own left]
  obtain ⟨t7, t8, t9, hloop⟩ := fi_loop (left := left) (rest := rs) (here := capV (r :: rs) c) nd (by omega) hr hs [] c fd y7 y8 y9 hs.length hk rfl (Nat.le_refl _) (by omega)
  rw [if_pos hfd, hf] at hloop
  have p3 := dFor_go (src := iLst (dVar 1)) (E := E3) (c := ⟨E3, [.bor [11]], rdP, hs.length⟩) (by rw [← hlh]; rfl) hloop
  exact ⟨E1, _, _, _, _, _, _, rfl, dSeq_go p1 (dSeq_go p2 p3)⟩
theorem exVal_some {c : List (Int × Int)} {rest : List Int} (nn : ∀ p ∈ c, 0 ≤ p.2) : exVal rest c = some (capV rest c) := by
  unfold exVal
  rw [if_pos (List.all_eq_true.mpr fun p m => decide_eq_true (nn p m))]
theorem nn_bump {c : List (Int × Int)} {h : Int} (nd : (c.map (·.1)).Nodup) (m : h ∈ c.map (·.1)) (nn : ∀ p ∈ c, 0 ≤ p.2) : ((Sh.bump h (-1) c).all fun p => decide (0 ≤ p.2)) = decide (0 < lk c h) := by
  obtain ⟨q, hq⟩ := key_at m nd
  by_cases hp : 0 < lk c h
  · rw [decide_eq_true hp]
    refine List.all_eq_true.mpr fun p mp => decide_eq_true ?_
    obtain ⟨q', mq, e⟩ := mem_bump.mp mp
    rw [e]
    by_cases e2 : q'.1 = h
    · obtain ⟨j, hj⟩ := List.getElem?_of_mem mq
      have := lk_at (c := c) (j := j) (h := q'.1) (v := q'.2) nd hj
      rw [e2] at this
      simp only [if_pos e2]
      omega
    · have := nn q' mq
      simp only [if_neg e2]
      omega
  · rw [decide_eq_false hp]
    have hz : lk c h = 0 := by
      have := nn _ (List.mem_of_getElem? hq)
      simp only at this
      omega
    rw [Bool.eq_false_iff]
    intro z
    have := List.all_eq_true.mp z (h, lk c h + -1) (mem_bump.mpr ⟨(h, lk c h), List.mem_of_getElem? hq, by simp⟩)
    have := of_decide_eq_true this
    simp only at this
    omega
theorem goodE_is {hs : List Int} {up : hs.Pairwise (· < ·)} {c : List (Int × Int)} {r : Int} {rs : List Int} {m h : Int} (hk : c.map (·.1) = hs) (hm : h ∈ hs) (nn : ∀ p ∈ c, 0 ≤ p.2) : (exSys hs up).good c r rs m h = goodE c r rs m h := by
  show (match exVal rs (Sh.bump h (-1) c) with | some k => decide (k + (if h = r then 1 else 0) = m) | none => false) = _
  have hb := nn_bump (c := c) (h := h) (by rw [hk]; exact up_nodup up) (by rw [hk]; exact hm) nn
  unfold goodE exVal
  by_cases hp : 0 < lk c h
  · rw [decide_eq_true hp] at hb
    rw [if_pos hb, decide_eq_true hp, Bool.true_and]
    by_cases e : h = r
    · rw [if_pos e, if_pos e.symm]
    · rw [if_neg e, if_neg fun z => e z.symm]
  · rw [decide_eq_false hp] at hb
    rw [if_neg (by rw [hb]; simp), decide_eq_false hp]; rfl
theorem find_congr {p q : Int → Bool} : ∀ {l : List Int}, (∀ x ∈ l, p x = q x) → l.find? p = l.find? q
  | [], _ => rfl
  | a :: l, h => by
    rw [List.find?_cons, List.find?_cons, h a List.mem_cons_self, find_congr fun x m => h x (List.mem_cons_of_mem _ m)]
theorem v_first {hs ow : List Int} {up : hs.Pairwise (· < ·)} {c : List (Int × Int)} (hol : ow.length = 12) (hlen : hs.length < 20) (I : exInv hs c 12) (nn : ∀ p ∈ c, 0 ≤ p.2) :
    g__law_first [tI ow, lI hs, dI c] = some (tI ((exSys hs up).run c ow), [tI ow, lI hs, dI c]) := by
  have nd := up_nodup up
  have hcl : c.length = hs.length := by rw [← I.1]; simp
  have c1 : dAlias 2 (dCS fDictD (dCons (dVar 2) dNil)) (entry 10 [tI ow, lI hs, dI c]) = some (.nx [.own (tI ow), .bor [11], .own (dI c), .no, .no, .no, .no, .no, .no, .no, .own (tI ow), .own (lI hs), .own (dI c)]) := by
    have : dCS fDictD (dCons (dVar 2) dNil) (entry 10 [tI ow, lI hs, dI c]) = some (.val (dI c)) := by
      show ((kssD ((kI c).map fun p => (p.1, S.dat p.2))).map (dctD false)).map Rs.val = _
      rw [kssD_map]; rfl
    unfold dAlias
    rw [this]; rfl
  have hloop := loop_inv (rd := fun _ i => some (if i < (12 : Int).toNat then some (Rs.val (.dat (.int (i : Nat)))) else none)) (bd := bName 4) (db := dFsBody)
    (fun i E => ∃ b fd s4 s5 s6 s7 s8 s9, E = eFs ow hs (dI c) b fd s4 s5 s6 s7 s8 s9 ∧ exInv hs b (12 - i) ∧ (∀ p ∈ b, 0 ≤ p.2) ∧ fd ++ (exSys hs up).run b (ow.drop i) = (exSys hs up).run c ow ∧ fd.length = i) 12
    (fun i E hi hJ => by
      obtain ⟨b, fd, s4, s5, s6, s7, s8, s9, rfl, Ib, nb, hr, hfd⟩ := hJ
      obtain ⟨r, rs, hd⟩ : ∃ r rs, ow.drop i = r :: rs := by
        cases h : ow.drop i with
        | nil => rw [List.drop_eq_nil_iff] at h; omega
        | cons r rs => exact ⟨r, rs, rfl⟩
      have hrl : rs.length + 1 = 12 - i := by
        have := congrArg List.length hd
        simp at this
        omega
      rw [← hrl] at Ib
      have hval : (exSys hs up).val (r :: rs) b = some (capV (r :: rs) b) := exVal_some nb
      obtain ⟨h, hf⟩ := (exSys hs up).good_some (rs := rs) Ib hval
      have hmem : h ∈ hs := List.mem_of_find?_eq_some hf
      have hg := List.find?_some hf
      obtain ⟨k, hk1, hk2⟩ := (exSys hs up).good_iff hg
      have hf2 : hs.find? (goodE b r rs (capV (r :: rs) b)) = some h := by
        rw [← find_congr (p := (exSys hs up).good b r rs (capV (r :: rs) b)) fun x m => goodE_is Ib.1 m nb]
        exact hf
      have hrun : (exSys hs up).run b (r :: rs) = h :: (exSys hs up).run (Sh.bump h (-1) b) rs := by
        show (match (exSys hs up).val (r :: rs) b with
          | some m => match (exSys hs up).hs.find? ((exSys hs up).good b r rs m) with
            | some h => h :: (exSys hs up).run ((exSys hs up).step h b) rs
            | none => []
          | none => []) = _
        rw [hval]
        simp only [hf]
        rfl
      have nb2 : ∀ p ∈ Sh.bump h (-1) b, 0 ≤ p.2 := by
        have hk1' : exVal rs (Sh.bump h (-1) b) = some k := hk1
        unfold exVal at hk1'
        split at hk1'
        · next z => exact fun p m => of_decide_eq_true (List.all_eq_true.mp z p m)
        · cases hk1'
      have hd2 : ow.drop (i + 1) = rs := by rw [← List.tail_drop, hd]; rfl
      obtain ⟨E1, t4, t5, t6, t7, t8, t9, b1, b2⟩ := fs_turn (left := dI c) (s4 := s4) (s5 := s5) (s6 := s6) (s7 := s7) (s8 := s8) (s9 := s9) Ib.1 nd hlen hd hfd (by omega) hf2
      have I2 := (exSys hs up).inv_step Ib hmem
      refine ⟨.val (.dat (.int (i : Nat))), E1, _, rng_rd (E := []) hi, b1, b2, Sh.bump h (-1) b, fd ++ [h], t4, t5, t6, t7, t8, t9, rfl, ?_, nb2, ?_, by simp [hfd]⟩
      · rw [show 12 - (i + 1) = rs.length by omega]; exact I2
      · rw [hd2, ← hr, hd, hrun]; simp)
    (fun E _ => rng_end (E := []) (n := 12)) 12 0 12 (eFs ow hs (dI c) c [] .no .no .no .no .no .no) rfl (Nat.le_refl _)
    ⟨c, [], .no, .no, .no, .no, .no, .no, rfl, I, nn, by simp, rfl⟩
  obtain ⟨E', hE, b, fd, s4, s5, s6, s7, s8, s9, rfl, _, _, hr, hfd⟩ := hloop
  have hfe : fd = (exSys hs up).run c ow := by
    rw [← hr, show ow.drop 12 = [] from List.drop_eq_nil_iff.mpr (by omega)]
    simp [Sys.run]
  have c3 : dFor (iRange (dC (.int 12))) (bName 4) dFsBody (eFs ow hs (dI c) c [] .no .no .no .no .no .no) = some (.nx (eFs ow hs (dI c) b fd s4 s5 s6 s7 s8 s9)) :=
    dFor_go (c := ⟨eFs ow hs (dI c) c [] .no .no .no .no .no .no, [], _, 12⟩) rfl hE
  rw [← hfe]
  exact fnG_rt (dSeq_go c1 (dSeq_go (E1 := eFs ow hs (dI c) c [] .no .no .no .no .no .no) rfl (dSeq_go c3 rfl))) rfl
end K02
namespace K02
open PySem PySem.Spec PyProof.Rows L2 Mv Sh
theorem tl_lt : ∀ (xs ys : List Int), xs.length = ys.length → (PySem.W.dataLt (.tuple (xs.map .int)) (.tuple (ys.map .int)) = true ↔ ¬ lexLe ys xs)
  | xs, ys, h => by
    have e1 : PySem.W.dataLt (.tuple (xs.map .int)) (.tuple (ys.map .int)) = decide (xs < ys) := by
      rw [PySem.W.dataLt_tuple]
      exact PySem.W.dataLt_ints xs ys
    rw [e1, decide_eq_true_eq]
    clear e1
    induction xs generalizing ys with
    | nil => cases ys with
      | nil => simp [lexLe]
      | cons b u => simp at h
    | cons a t ih => cases ys with
      | nil => simp at h
      | cons b u =>
        have ihu : t < u ↔ ¬ lexLe u t := ih u (by simpa using h)
        rw [List.cons_lt_cons_iff, ihu]
        simp only [lexLe]
        constructor
        · rintro (z | ⟨rfl, z⟩) (y | ⟨y, w⟩)
          · omega
          · omega
          · omega
          · exact z w
        · intro z
          by_cases e : a = b
          · exact .inr ⟨e, fun w => z (.inr ⟨e.symm, w⟩)⟩
          · exact .inl (by
              rcases Int.lt_or_gt_of_ne e with q | q
              · exact q
              · exact absurd (.inl q) z)
theorem minD_least : ∀ (xs : List (List Int)) (x : List Int) (n : Nat), x.length = n → (∀ y ∈ xs, y.length = n) → ∃ m, PySem.W.minD (.tuple (x.map .int)) (xs.map fun y => .tuple (y.map .int)) = .tuple (m.map .int) ∧ m ∈ x :: xs ∧ ∀ y ∈ x :: xs, lexLe m y
  | [], x, n, _, _ => ⟨x, rfl, List.mem_cons_self, fun y m => by simp at m; subst m; exact lexLe_refl _⟩
  | y :: ys, x, n, hx, hy => by
    have hyl := hy y List.mem_cons_self
    have hstep : PySem.W.minD (.tuple (x.map .int)) ((y :: ys).map fun y => .tuple (y.map .int)) = PySem.W.minD (if PySem.W.dataLt (.tuple (y.map .int)) (.tuple (x.map .int)) = true then .tuple (y.map .int) else .tuple (x.map .int)) (ys.map fun y => .tuple (y.map .int)) := rfl
    rw [hstep]
    by_cases h : PySem.W.dataLt (.tuple (y.map .int)) (.tuple (x.map .int)) = true
    · rw [if_pos h]
      have h' := (tl_lt y x (by omega)).mp h
      obtain ⟨m, e, mm, le⟩ := minD_least ys y n hyl fun z mz => hy z (List.mem_cons_of_mem _ mz)
      have ml : m.length = n := by
        rcases List.mem_cons.mp mm with z | z
        · rw [z]; exact hyl
        · exact hy m (List.mem_cons_of_mem _ z)
      refine ⟨m, e, List.mem_cons_of_mem _ mm, fun z mz => ?_⟩
      rcases List.mem_cons.mp mz with rfl | mz
      · have yx : lexLe y z := (lexLe_total y z).resolve_right h'
        exact lexLe_trans (by omega) (by omega) (le y List.mem_cons_self) yx
      · exact le z mz
    · rw [if_neg h]
      have h' : lexLe x y := Classical.byContradiction fun q => h ((tl_lt y x (by omega)).mpr q)
      obtain ⟨m, e, mm, le⟩ := minD_least ys x n hx fun z mz => hy z (List.mem_cons_of_mem _ mz)
      have ml : m.length = n := by
        rcases List.mem_cons.mp mm with z | z
        · rw [z]; exact hx
        · exact hy m (List.mem_cons_of_mem _ z)
      refine ⟨m, e, ?_, fun z mz => ?_⟩
      · rcases List.mem_cons.mp mm with z | z
        · exact List.mem_cons.mpr (.inl z)
        · exact List.mem_cons_of_mem _ (List.mem_cons_of_mem _ z)
      · rcases List.mem_cons.mp mz with rfl | mz
        · exact le z List.mem_cons_self
        · rcases List.mem_cons.mp mz with rfl | mz
          · exact lexLe_trans (by omega) (by omega) (le x List.mem_cons_self) h'
          · exact le z (List.mem_cons_of_mem _ mz)
def eLs (ow hs : List Int) (best low : Int) (fs : List (List Int)) (cs : List (List Int)) (s5 s6 s7 : Sl) : En := [.own (tI ow), .bor [9], .own (.dat (.int best)), .own (.dat (.int low)), .own (.lst (fs.map tI)), s5, s6, s7, .own (tI ow), .own (lI hs), .own (.lst (cs.map lI)), .bor [10]]
def dLsBody : En → Option Out := (dSeq (dSet 6 (eCS fDictP (eLc (iLst (dVar 1)) 7 eYes (ePure (dTupL (dCons (dVar 7) (dCons (dOp fAdd (dVar 3) (dCB fInt (dCons (dOpS (fIn false) (dVar 7) (dVar 5)) dNil))) dNil)))))))
    (dIf (eTest (eOp fEqS (eCB1 fSum (eLc (iLst (dVar 1)) 7 eYes (ePure (dCB fMin2 (dCons (dTCnt (dVar 0) (dVar 7)) (dCons (dDGet (dVar 6) (dVar 7)) dNil)))))) (ePure (dVar 2)))) (dDrop (eBM1E oAppend (dVar 4) (eCall g__law_first (dCons (dVar 0) (dCons (dVar 1) (dCons (dVar 6) dNil)))))) dNext))
theorem pairsD_I : ∀ (g : List (Int × Int)), pairsD (g.map fun p => PyData.tuple [.int p.1, .int p.2]) = some (kI g)
  | [] => rfl
  | p :: r => by
    rw [List.map_cons]
    simp only [pairsD, keyP, pairsD_I r]
    rfl
theorem appE_I {E E1 : En} {da : En → Option Rs} {db : En → Option (S × En)} {p p' : List Nat} {xs zs : List S} {s : S} (ha : da E = some (.pl p)) (hr : eget E p = some (.lst zs)) (hb : db (E ++ [.bor p]) = some (s, E1)) (hl : E1.getLast? = some (.bor p')) (hr2 : eget E1 p' = some (.lst xs)) (hz : xs.length < 100000) :
    eBM1E oAppend da db E = some (.dat .none, strip1 (ekill (eput E1 p' (.lst (xs ++ [s]))) p')) := by
  unfold eBM1E
  simp only [ha, hr, hb, hl, hr2, oAppend, if_pos hz]
theorem sum_gen {E E0 : En} {j q : Nat} {pp : List Nat} {hs rest : List Int} {c : List (Int × Int)} {src : En → Option Src} {dr : En → Option Rs} (hk : c.map (·.1) = hs) (nd : hs.Nodup) (hlen : hs.length < 1000) (h0 : slotSet (E ++ [.bor pp]) j .no = E0) (hsrc : src E = some ⟨E, [.bor pp], rdP, hs.length⟩) (hp : eget E0 pp = some (lI hs)) (hl : E0.getLast? = some (.bor pp))
    (hb : ∀ h ∈ hs, ∃ E1, bName j (.val (.dat (.int h))) E0 = some E1 ∧ dr E1 = some (.val (tI rest)) ∧ dVar j E1 = some (.val (.dat (.int h))) ∧ dVar q E1 = some (.pl [q]) ∧ eget E1 [q] = some (dI c) ∧ slotSet E1 j .no = E0) :
    eCB1 fSum (eLc src j eYes (ePure (dCB fMin2 (dCons (dTCnt dr (dVar j)) (dCons (dDGet (dVar q) (dVar j)) dNil))))) E = some (.dat (.int (capV rest c)), stripN 1 E0) := by
  rw [← sum_lk (rest := rest) hk nd]
  refine isum (icomp (E0 := E0) (p := pp) (fun h => min (cnt rest h) (lk c h)) h0 hsrc hp hl (fun h hm => ?_) hlen)
  obtain ⟨E1, b1, b2, b3, b4, b5, b6⟩ := hb h hm
  have ndc : (c.map (·.1)).Nodup := by rw [hk]; exact nd
  obtain ⟨z, hz⟩ := key_at (c := c) (h := h) (by rw [hk]; exact hm) ndc
  refine ⟨E1, b1, ?_, b6⟩
  have a1 : dTCnt dr (dVar j) E1 = some (.val (.dat (.int (cnt rest h)))) := tcnt_I b2 b3
  have a2 : dDGet (dVar q) (dVar j) E1 = some (.val (.dat (.int (lk c h)))) := dget_I (l := false) (r := .pl [q]) ndc hz b4 b5 b3
  have a3 : dCB fMin2 (dCons (dTCnt dr (dVar j)) (dCons (dDGet (dVar q) (dVar j)) dNil)) E1 = some (.val (.dat (.int (min (cnt rest h) (lk c h))))) := by
    refine dCB_go (dcons_go a1 (dcons_go a2 rfl)) rfl ?_
    show some (PyData.int (if lk c h < cnt rest h then lk c h else cnt rest h)) = _
    have : (if lk c h < cnt rest h then lk c h else cnt rest h) = min (cnt rest h) (lk c h) := by split <;> omega
    rw [this]
  unfold ePure
  rw [a3]
theorem ls_turn {ow hs : List Int} {up : hs.Pairwise (· < ·)} {best low : Int} {more : Nat} {fs cs : List (List Int)} {s5 s6 s7 : Sl} {i : Nat} {s : List Int} (hol : ow.length = 12) (hlen : hs.length ≤ 6) (hlow : 0 ≤ low) (e12 : (12 : Int) = low * hs.length + more) (hi : cs[i]? = some s) (hs2 : s ∈ choices hs more) (hfl : fs.length < 1000) :
    ∃ E1 s5' s6' s7', bName 5 (.pl [10, i]) (eLs ow hs best low fs cs s5 s6 s7) = some E1 ∧ dLsBody E1 = some (.nx (eLs ow hs best low (if capV ow (capOf low s hs) = best then fs ++ [firstOf hs up (capOf low s hs) ow] else fs) cs s5' s6' s7')) := by
  have nd := up_nodup up
  have hsl : (cs.map lI)[i]? = some (lI s) := by rw [List.getElem?_map, hi]; rfl
  have hlh : (hs.map fun i => S.dat (.int i)).length = hs.length := by simp
  have hk : (capOf low s hs).map (·.1) = hs := capOf_keys low s hs
  let E1 : En := [.own (tI ow), .bor [9], .own (.dat (.int best)), .own (.dat (.int low)), .own (.lst (fs.map tI)), .bor [10, i], killHead 5 s6, killHead 5 s7, .own (tI ow), .own (lI hs), .own (.lst (cs.map lI)), .bor [10]]
  let E0 : En := [.own (tI ow), .bor [9], .own (.dat (.int best)), .own (.dat (.int low)), .own (.lst (fs.map tI)), .bor [10, i], killHead 7 (killHead 5 s6), .no, .own (tI ow), .own (lI hs), .own (.lst (cs.map lI)), .bor [10], .bor [9]]
  -- left = dict([..])
  have hcomp : eLc (iLst (dVar 1)) 7 eYes (ePure (dTupL (dCons (dVar 7) (dCons (dOp fAdd (dVar 3) (dCB fInt (dCons (dOpS (fIn false) (dVar 7) (dVar 5)) dNil))) dNil)))) E1 = some (.lst ((capOf low s hs).map fun p => S.dat (.tuple [.int p.1, .int p.2])), stripN 1 E0) := by
    refine eLc_go (c := ⟨E1, [.bor [9]], rdP, hs.length⟩) (by rw [← hlh]; rfl) ?_
    show dLcLoop rdP 7 eYes _ hs.length 0 [] E0 = _
    rw [lc_pure (fun i => S.dat (.tuple [.int (hs[i]?.getD 0), .int (low + if (hs[i]?.getD 0) ∈ s then 1 else 0)])) hs.length (by omega) (fun j hj => ?_) (rdP_end (hs := hs) rfl rfl (Nat.le_refl _)) hs.length 0 hs.length [] (by omega) (Nat.le_refl _) rfl]
    · rw [List.nil_append, map_range' (fun h => S.dat (.tuple [.int h, .int (low + if h ∈ s then 1 else 0)])) hs _ (fun i a ha => by rw [ha]; rfl)]
      unfold capOf
      rw [List.map_map]; rfl
    · have hv : hs[j]? = some hs[j] := List.getElem?_eq_getElem _
      rw [hv]
      show ∃ r E1 E3, _ ∧ _ ∧ _ = some (S.dat (.tuple [.int hs[j], .int (low + if hs[j] ∈ s then 1 else 0)]), E3) ∧ _
      generalize hs[j] = h at hv
      let E4 : En := [.own (tI ow), .bor [9], .own (.dat (.int best)), .own (.dat (.int low)), .own (.lst (fs.map tI)), .bor [10, i], killHead 7 (killHead 7 (killHead 5 s6)), .own (.dat (.int h)), .own (tI ow), .own (lI hs), .own (.lst (cs.map lI)), .bor [10], .bor [9]]
      have a2 : (Rs.pl [10, i]).at E4 = some (lI s) := by
        show (match (cs.map lI)[i]? with | some s => s.get [] | none => none) = _
        rw [hsl]; exact S.get_nil _
      have a3 := in_I (E := E4) (da := dVar 7) (db := dVar 5) (h := h) rfl rfl a2
      have a4 : dOp fAdd (dVar 3) (dCB fInt (dCons (dOpS (fIn false) (dVar 7) (dVar 5)) dNil)) E4 = some (.val (.dat (.int (low + if h ∈ s then 1 else 0)))) := by
        have b1 : dCB fInt (dCons (dOpS (fIn false) (dVar 7) (dVar 5)) dNil) E4 = some (.val (.dat (.int (if h ∈ s then 1 else 0)))) := by
          refine dCB_go (dcons_go a3 rfl) rfl ?_
          show some (PyData.int (if (decide (h ∈ s) != false) = true then 1 else 0)) = _
          by_cases hm : h ∈ s <;> simp [hm]
        exact dOp_go rfl b1 rfl rfl rfl
      have a5 : ePure (dTupL (dCons (dVar 7) (dCons (dOp fAdd (dVar 3) (dCB fInt (dCons (dOpS (fIn false) (dVar 7) (dVar 5)) dNil))) dNil))) E4 = some (S.dat (.tuple [.int h, .int (low + if h ∈ s then 1 else 0)]), E4) := by
        have b2 : dCons (dVar 7) (dCons (dOp fAdd (dVar 3) (dCB fInt (dCons (dOpS (fIn false) (dVar 7) (dVar 5)) dNil))) dNil) E4 = some [.val (.dat (.int h)), .val (.dat (.int (low + if h ∈ s then 1 else 0)))] := dcons_go rfl (dcons_go a4 rfl)
        unfold ePure dTupL dTup
        rw [b2]; rfl
      refine ⟨_, E4, E4, rdP_I (p := [9]) rfl rfl hv, rfl, a5, ?_⟩
      show slotSet E4 7 .no = E0
      unfold slotSet
      simp only [E4, List.map_cons, List.map_nil, killHead_idem]
      rfl
  have hdict : eCS fDictP (eLc (iLst (dVar 1)) 7 eYes (ePure (dTupL (dCons (dVar 7) (dCons (dOp fAdd (dVar 3) (dCB fInt (dCons (dOpS (fIn false) (dVar 7) (dVar 5)) dNil))) dNil))))) E1 = some (dI (capOf low s hs), stripN 1 E0) := by
    refine eCS_go hcomp ?_
    have q1 : (S.lst ((capOf low s hs).map fun p => S.dat (.tuple [.int p.1, .int p.2]))).seqL = some ((capOf low s hs).map fun p => PyData.tuple [.int p.1, .int p.2]) := by
      show datsS _ = _
      have : ((capOf low s hs).map fun p => S.dat (.tuple [.int p.1, .int p.2])) = ((capOf low s hs).map fun p => PyData.tuple [.int p.1, .int p.2]).map S.dat := by simp
      rw [this, datsS_dats]
    show (match (S.lst ((capOf low s hs).map fun p => S.dat (.tuple [.int p.1, .int p.2]))).seqL with | some ds => (pairsD ds).map fun kds => dctD false (mergeD [] kds) | none => none) = _
    rw [q1]
    show ((pairsD _).map fun kds => dctD false (mergeD [] kds)) = _
    rw [pairsD_I, Option.map_some, mergeD_same _ _ (by simpa using kI_nd (g := capOf low s hs) (by rw [hk]; exact nd)), List.nil_append]
    rfl
  have hdict2 : dSet 6 (eCS fDictP (eLc (iLst (dVar 1)) 7 eYes (ePure (dTupL (dCons (dVar 7) (dCons (dOp fAdd (dVar 3) (dCB fInt (dCons (dOpS (fIn false) (dVar 7) (dVar 5)) dNil))) dNil)))))) E1 = some (.nx [.own (tI ow), .bor [9], .own (.dat (.int best)), .own (.dat (.int low)), .own (.lst (fs.map tI)), .bor [10, i], .own (dI (capOf low s hs)), .no, .own (tI ow), .own (lI hs), .own (.lst (cs.map lI)), .bor [10]]) := dSet_go hdict
  let E2 : En := [.own (tI ow), .bor [9], .own (.dat (.int best)), .own (.dat (.int low)), .own (.lst (fs.map tI)), .bor [10, i], .own (dI (capOf low s hs)), .no, .own (tI ow), .own (lI hs), .own (.lst (cs.map lI)), .bor [10]]
  have hsum : eCB1 fSum (eLc (iLst (dVar 1)) 7 eYes (ePure (dCB fMin2 (dCons (dTCnt (dVar 0) (dVar 7)) (dCons (dDGet (dVar 6) (dVar 7)) dNil))))) E2 = some (.dat (.int (capV ow (capOf low s hs))), E2) :=
    sum_gen (E0 := E2 ++ [.bor [9]]) (pp := [9]) hk nd (by omega) rfl (by rw [← hlh]; rfl) rfl rfl fun h' _ =>
      ⟨[.own (tI ow), .bor [9], .own (.dat (.int best)), .own (.dat (.int low)), .own (.lst (fs.map tI)), .bor [10, i], .own (dI (capOf low s hs)), .own (.dat (.int h')), .own (tI ow), .own (lI hs), .own (.lst (cs.map lI)), .bor [10], .bor [9]], rfl, rfl, rfl, rfl, rfl, rfl⟩
  have hcond : eTest (eOp fEqS (eCB1 fSum (eLc (iLst (dVar 1)) 7 eYes (ePure (dCB fMin2 (dCons (dTCnt (dVar 0) (dVar 7)) (dCons (dDGet (dVar 6) (dVar 7)) dNil)))))) (ePure (dVar 2))) E2 = some (decide (capV ow (capOf low s hs) = best), E2) := by
    refine eTest_go ?_
    unfold eOp
    rw [hsum]
    rfl
  by_cases hb : capV ow (capOf low s hs) = best
  · rw [decide_eq_true hb] at hcond
    rw [if_pos hb]
    have hcm := ch_mem hs2
    have I : exInv hs (capOf low s hs) 12 := ⟨hk, by
      rw [capOf_sum nd hcm.2, hcm.1]
      show _ = ((12 : Nat) : Int)
      omega⟩
    have hfirst := v_first (up := up) (ow := ow) (c := capOf low s hs) hol (by omega) I (capOf_nn hlow)
    have hcall : eCall g__law_first (dCons (dVar 0) (dCons (dVar 1) (dCons (dVar 6) dNil))) (E2 ++ [.bor [4]]) = some (tI (firstOf hs up (capOf low s hs) ow), E2 ++ [.bor [4]]) :=
      eCall_go (rs := [.val (tI ow), .pl [9], .pl [6]]) rfl rfl rfl hfirst
    have happ := appE_I (E := E2) (da := dVar 4) (p := [4]) (p' := [4]) (zs := fs.map tI) (xs := fs.map tI) rfl rfl hcall rfl rfl (by simp; omega)
    refine ⟨E1, .bor [10, i], .own (dI (capOf low s hs)), .no, rfl, dSeq_go hdict2 (dIf_t hcond (dDrop_go (s := .dat .none) ?_))⟩
    rw [happ]
    show some (S.dat .none, ([.own (tI ow), .bor [9], .own (.dat (.int best)), .own (.dat (.int low)), .own (.lst (fs.map tI ++ [tI (firstOf hs up (capOf low s hs) ow)])), .bor [10, i], .own (dI (capOf low s hs)), .no, .own (tI ow), .own (lI hs), .own (.lst (cs.map lI)), .bor [10]] : En)) = _
    unfold eLs
    rw [List.map_append]
    rfl
  · rw [decide_eq_false hb] at hcond
    rw [if_neg hb]
    exact ⟨E1, .bor [10, i], .own (dI (capOf low s hs)), .no, rfl, dSeq_go hdict2 (dIf_f hcond rfl)⟩
end K02
namespace K02
open PySem PySem.Spec PyProof.Rows L2 Mv Sh
theorem min_I {fs : List (List Int)} {n : Nat} (hne : fs ≠ []) (hl : ∀ y ∈ fs, y.length = n) : ∃ m, fMinD [.lst (fs.map tI)] = some (tI m) ∧ m ∈ fs ∧ ∀ y ∈ fs, lexLe m y := by
  cases fs with
  | nil => exact absurd rfl hne
  | cons x xs =>
    obtain ⟨m, e, mm, le⟩ := minD_least xs x n (hl x List.mem_cons_self) fun y my => hl y (List.mem_cons_of_mem _ my)
    refine ⟨m, ?_, mm, le⟩
    have q1 : (S.lst ((x :: xs).map tI)).seqL = some ((x :: xs).map fun y => PyData.tuple (y.map .int)) := by
      show datsS _ = _
      have : (x :: xs).map tI = ((x :: xs).map fun y => PyData.tuple (y.map .int)).map S.dat := by simp [tI]
      rw [this, datsS_dats]
    have q2 : ((x :: xs).map fun y => PyData.tuple (y.map .int)).all tupI = true := List.all_eq_true.mpr fun z mz => by
      obtain ⟨y, _, rfl⟩ := List.mem_map.mp mz
      show (intsD (y.map .int)).isSome = true
      rw [intsD_map]; rfl
    show (match (S.lst ((x :: xs).map tI)).seqL with
      | some (d :: ds) => if (d :: ds).all tupI = true then some (S.dat (PySem.W.minD d ds)) else none
      | _ => none) = _
    rw [q1]
    show (if ((x :: xs).map fun y => PyData.tuple (y.map .int)).all tupI = true then some (S.dat (PySem.W.minD (.tuple (x.map .int)) (xs.map fun y => .tuple (y.map .int)))) else none) = _
    rw [if_pos q2, e]; rfl
theorem v_lshared {ow hs : List Int} {up : hs.Pairwise (· < ·)} {low : Int} {more : Nat} (h0 : 0 < hs.length) (h6 : hs.length ≤ 6) (hol : ow.length = 12) (el : low = 12 / (hs.length : Int)) (em : (more : Int) = 12 % (hs.length : Int)) :
    g__law_shared [tI ow, lI hs] = some (tI ((evSys low more hs up).run (zeros hs) ow), [tI ow, lI hs]) := by
  have hlen : (hs.map fun i => S.dat (.int i)).length = hs.length := by simp
  have hm : more < 9 := by
    have := Int.emod_lt_of_pos 12 (show (0 : Int) < (hs.length : Int) by omega)
    omega
  have emod : 12 = (hs.length : Int) * (12 / (hs.length : Int)) + 12 % (hs.length : Int) := by
    have := Int.mul_ediv_add_emod 12 (hs.length : Int)
    omega
  have e12 : (12 : Int) = low * hs.length + more := by
    rw [el, em, Int.mul_comm]
    exact emod
  have e : (ow.length : Int) = low * hs.length + more := by rw [hol]; exact e12
  have lm : (more : Int) ≤ hs.length := by
    rw [em]
    have := Int.emod_lt_of_pos 12 (show (0 : Int) < (hs.length : Int) by omega)
    omega
  have low0 : 0 ≤ low := by rw [el]; exact Int.ediv_nonneg (by omega) (by omega)
  have hstay := v_stay (ow := ow) h0 h6 el em
  generalize hbest : stayOf low more ow hs = best at hstay
  have c1 : dSet 2 (eCall g__law_stay (dCons (dVar 0) (dCons (dVar 1) dNil))) (entry 8 [tI ow, lI hs]) = some (.nx [.own (tI ow), .bor [9], .own (.dat (.int best)), .no, .no, .no, .no, .no, .own (tI ow), .own (lI hs)]) :=
    dSet_go (eCall_go (rs := [.val (tI ow), .pl [9]]) rfl rfl rfl hstay)
  have hdiv : dOp fDiv (dC (.int 12)) (dLen (dVar 1)) [.own (tI ow), .bor [9], .own (.dat (.int best)), .no, .no, .no, .no, .no, .own (tI ow), .own (lI hs)] = some (.val (.dat (.int low))) := by
    show (fDiv (.int 12) (.int ((hs.map fun i => S.dat (.int i)).length : Int))).map (fun c => Rs.val (.dat c)) = _
    rw [hlen]
    show (if 0 < (hs.length : Int) ∧ (hs.length : Int) < 1073741824 then some (PyData.int (12 / (hs.length : Int))) else none).map (fun c => Rs.val (.dat c)) = _
    rw [if_pos (by omega), el]; rfl
  have c2 : dAlias 3 (dOp fDiv (dC (.int 12)) (dLen (dVar 1))) [.own (tI ow), .bor [9], .own (.dat (.int best)), .no, .no, .no, .no, .no, .own (tI ow), .own (lI hs)] = some (.nx [.own (tI ow), .bor [9], .own (.dat (.int best)), .own (.dat (.int low)), .no, .no, .no, .no, .own (tI ow), .own (lI hs)]) := by
    unfold dAlias
    rw [hdiv]; rfl
  let E1 : En := [.own (tI ow), .bor [9], .own (.dat (.int best)), .own (.dat (.int low)), .own (.lst []), .no, .no, .no, .own (tI ow), .own (lI hs)]
  have hmod : dOp fMod (dC (.int 12)) (dLen (dVar 1)) E1 = some (.val (.dat (.int (more : Int)))) := by
    show (fMod (.int 12) (.int ((hs.map fun i => S.dat (.int i)).length : Int))).map (fun c => Rs.val (.dat c)) = _
    rw [hlen]
    show (if 0 < (hs.length : Int) then some (PyData.int (12 % (hs.length : Int))) else none).map (fun c => Rs.val (.dat c)) = _
    rw [if_pos (by omega), em]; rfl
  have hcall : eCall (g__law_choices 9) (dCons (dVar 1) (dCons (dOp fMod (dC (.int 12)) (dLen (dVar 1))) dNil)) E1 = some (.lst ((choices hs more).map lI), E1) :=
    eCall_go (rs := [.pl [9], .val (.dat (.int (more : Int)))]) (dcons_go rfl (dcons_go hmod rfl)) rfl rfl (v_choices more 9 hs hm h6)
  have hsrc : iLstE (eCall (g__law_choices 9) (dCons (dVar 1) (dCons (dOp fMod (dC (.int 12)) (dLen (dVar 1))) dNil))) E1 = some ⟨E1, [.own (.lst ((choices hs more).map lI)), .bor [10]], rdP, ((choices hs more).map lI).length⟩ := by
    unfold iLstE
    rw [hcall]; rfl
  have hcl : ((choices hs more).map lI).length = (choices hs more).length := by simp
  have hch := choices_len hs more
  have h64 : 2 ^ hs.length ≤ 64 := Nat.le_trans (Nat.pow_le_pow_right (by omega) h6) (by decide)
  let FF : List (List Int) → List (List Int) := fun l => (l.filter fun s => decide (capV ow (capOf low s hs) = best)).map fun s => firstOf hs up (capOf low s hs) ow
  have FFc : ∀ s l, FF (s :: l) = (if capV ow (capOf low s hs) = best then [firstOf hs up (capOf low s hs) ow] else []) ++ FF l := fun s l => by
    show ((s :: l).filter _).map _ = _
    rw [List.filter_cons]
    by_cases h : capV ow (capOf low s hs) = best
    · rw [if_pos (decide_eq_true h), if_pos h]; rfl
    · rw [if_neg (by simpa using h), if_neg h]; rfl
  have FFl : ∀ l, (FF l).length ≤ l.length := fun l => by
    show ((l.filter _).map _).length ≤ _
    rw [List.length_map]; exact List.length_filter_le _ _
  have hloop := loop_inv (rd := rdP) (bd := bName 5) (db := dLsBody)
    (fun i E => ∃ fs s5 s6 s7, E = eLs ow hs best low fs (choices hs more) s5 s6 s7 ∧ fs ++ FF ((choices hs more).drop i) = FF (choices hs more)) (choices hs more).length
    (fun i E hi hJ => by
      obtain ⟨fs, s5, s6, s7, rfl, hf⟩ := hJ
      have hv : (choices hs more)[i]? = some (choices hs more)[i] := List.getElem?_eq_getElem _
      have hfl : fs.length < 1000 := by
        have h1 := congrArg List.length hf
        have h2 := FFl (choices hs more)
        rw [List.length_append] at h1
        omega
      obtain ⟨E1, t5, t6, t7, b1, b2⟩ := ls_turn (up := up) (best := best) (s5 := s5) (s6 := s6) (s7 := s7) hol h6 low0 e12 hv (List.getElem_mem _) hfl
      refine ⟨.pl [10, i], E1, _, rdP_L (p := [10]) (ss := (choices hs more).map lI) rfl rfl (by rw [List.getElem?_map, hv]; rfl), b1, b2, _, t5, t6, t7, rfl, ?_⟩
      rw [List.drop_eq_getElem_cons hi, FFc] at hf
      rw [← hf]
      by_cases h : capV ow (capOf low (choices hs more)[i] hs) = best
      · rw [if_pos h, if_pos h]; simp
      · rw [if_neg h, if_neg h]; simp)
    (fun E hJ => by
      obtain ⟨fs, s5, s6, s7, rfl, _⟩ := hJ
      exact rdP_Lend (p := [10]) (ss := (choices hs more).map lI) rfl rfl (by rw [hcl]; exact Nat.le_refl _))
    (choices hs more).length 0 ((choices hs more).map lI).length (eLs ow hs best low [] (choices hs more) .no .no .no) (by omega) (by rw [hcl]; exact Nat.le_refl _) ⟨[], .no, .no, .no, rfl, rfl⟩
  obtain ⟨E', hE, fs, s5, s6, s7, rfl, hf⟩ := hloop
  rw [List.drop_eq_nil_iff.mpr (Nat.le_refl _)] at hf
  have hfs : fs = FF (choices hs more) := by
    rw [← hf]
    show fs = fs ++ []
    simp
  have c3 := dFor_go (src := iLstE (eCall (g__law_choices 9) (dCons (dVar 1) (dCons (dOp fMod (dC (.int 12)) (dLen (dVar 1))) dNil)))) (E := E1) hsrc hE
  have hne : fs ≠ [] := by
    rw [hfs]
    intro z
    have := law_some up e lm low0
    rw [hbest] at this
    exact this (List.map_eq_nil_iff.mp z)
  have hln : ∀ y ∈ fs, y.length = 12 := fun y my => by
    rw [hfs] at my
    obtain ⟨s, ms, rfl⟩ := List.mem_map.mp my
    have := (first_ok up e lm low0 (List.mem_filter.mp ms).1).1
    rw [← hol]
    exact this
  obtain ⟨m, hmin, hmem, hle⟩ := min_I hne hln
  have hmr : m = (evSys low more hs up).run (zeros hs) ow := by
    refine law_is up e lm low0 ?_ ?_
    · rw [hbest]; rw [hfs] at hmem; exact hmem
    · rw [hbest]
      intro x mx
      exact hle x (by rw [hfs]; exact mx)
  have c4 : dRet (ePure (dCS fMinD (dCons (dVar 4) dNil))) ([.own (tI ow), .bor [9], .own (.dat (.int best)), .own (.dat (.int low)), .own (.lst (fs.map tI)), killHead 10 (killHead 11 s5), killHead 10 (killHead 11 s6), killHead 10 (killHead 11 s7), .own (tI ow), .own (lI hs)] : En) = some (.rt (tI m) [.own (tI ow), .bor [9], .own (.dat (.int best)), .own (.dat (.int low)), .own (.lst (fs.map tI)), killHead 10 (killHead 11 s5), killHead 10 (killHead 11 s6), killHead 10 (killHead 11 s7), .own (tI ow), .own (lI hs)]) := by
    have : dCS fMinD (dCons (dVar 4) dNil) ([.own (tI ow), .bor [9], .own (.dat (.int best)), .own (.dat (.int low)), .own (.lst (fs.map tI)), killHead 10 (killHead 11 s5), killHead 10 (killHead 11 s6), killHead 10 (killHead 11 s7), .own (tI ow), .own (lI hs)] : En) = some (.val (tI m)) := by
      show (fMinD [.lst (fs.map tI)]).map Rs.val = _
      rw [hmin]; rfl
    unfold dRet ePure
    rw [this]
  rw [← hmr]
  exact fnG_rt (dSeq_go c1 (dSeq_go c2 (dSeq_go (E1 := E1) rfl (dSeq_go c3 c4)))) rfl
end K02
namespace K02
open PySem PySem.Spec PyProof.Rows L2 Mv Sh
def bx (ns : List Int) (st : Int) : S := .lst [lI ns, .dat (.int st)]
theorem mulR {i j : Int} (h : -1000000 < j ∧ j < 1000000) : fMul (.int i) (.int j) = some (.int (i * j)) := by
  show (if (-(2 ^ 64) < i ∧ i < 2 ^ 64) ∨ (-(2 ^ 64) < j ∧ j < 2 ^ 64) then some (PyData.int (i * j)) else none) = _
  exact if_pos (.inr ⟨by omega, by omega⟩)
theorem modP {i j : Int} (h : 0 < j) : fMod (.int i) (.int j) = some (.int (i % j)) := if_pos h
theorem divP {i j : Int} (h : 0 < j) (h2 : j < 1000000) : fDiv (.int i) (.int j) = some (.int (i / j)) := if_pos ⟨h, by omega⟩
def eBg (ns : List Int) (st : Int) (s2 : Sl) : En := [.own (.dat (.list (ns.map .int))), .own (.dat (.int st)), s2, .own (.dat (.list (ns.map .int)))]
theorem v_begun {ns : List Int} (hl : ns.length < 1000) : ∃ st, g__law_begun [.dat (.list (ns.map .int))] = some (bx ns st, [.dat (.list (ns.map .int))]) := by
  have hloop := loop_inv (rd := rdD (ns.map .int)) (bd := bName 2) (db := dAlias 1 (dOp fMod (dOp fAdd (dOp fAdd (dOp fMul (dVar 1) (dC (.int 48271))) (dOp fMul (dVar 2) (dC (.int 69621)))) (dC (.int 11))) (dC (.int 2147483647))))
    (fun i E => ∃ st s2, E = eBg ns st s2) ns.length
    (fun i E hi hJ => by
      obtain ⟨st, s2, rfl⟩ := hJ
      have hv : ns[i]? = some ns[i] := List.getElem?_eq_getElem _
      generalize ns[i] = x at hv
      let E1 : En := [.own (.dat (.list (ns.map .int))), .own (.dat (.int st)), .own (.dat (.int x)), .own (.dat (.list (ns.map .int)))]
      have a1 : dOp fMul (dVar 1) (dC (.int 48271)) E1 = some (.val (.dat (.int (st * 48271)))) := dOp_go rfl rfl rfl rfl (mulR (by omega))
      have a2 : dOp fMul (dVar 2) (dC (.int 69621)) E1 = some (.val (.dat (.int (x * 69621)))) := dOp_go rfl rfl rfl rfl (mulR (by omega))
      have a3 : dOp fMod (dOp fAdd (dOp fAdd (dOp fMul (dVar 1) (dC (.int 48271))) (dOp fMul (dVar 2) (dC (.int 69621)))) (dC (.int 11))) (dC (.int 2147483647)) E1 = some (.val (.dat (.int ((st * 48271 + x * 69621 + 11) % 2147483647)))) :=
        dOp_go (dOp_go (dOp_go a1 a2 rfl rfl rfl) rfl rfl rfl rfl) rfl rfl rfl (modP (by omega))
      refine ⟨_, E1, eBg ns ((st * 48271 + x * 69621 + 11) % 2147483647) (.own (.dat (.int x))), rdD_I hv, rfl, ?_, _, _, rfl⟩
      unfold dAlias
      rw [a3]; rfl)
    (fun E _ => rdD_end (Nat.le_refl _)) ns.length 0 (ns.map PyData.int).length (eBg ns 0 .no) (by omega) (by simp) ⟨0, .no, rfl⟩
  obtain ⟨E', hE, st, s2, rfl⟩ := hloop
  have c2 := dFor_go (src := iLst (dVar 0)) (E := eBg ns 0 .no) (c := ⟨eBg ns 0 .no, [], rdD (ns.map .int), (ns.map PyData.int).length⟩) rfl hE
  have hll : (ns.map PyData.int).length = ns.length := by simp
  refine ⟨st * (if decide ((2 : Int) < (ns.length : Int)) = true then 1 else 0), ?_⟩
  have b1 : dCS fList (dCons (dVar 0) dNil) (eBg ns st s2) = some (.val (lI ns)) := by
    show (some (S.lst ((ns.map PyData.int).map S.dat))).map Rs.val = _
    simp [lI]
  have b2 : dCB fInt (dCons (dOp fGt (dLen (dVar 0)) (dC (.int 2))) dNil) (eBg ns st s2) = some (.val (.dat (.int (if decide ((2 : Int) < (ns.length : Int)) = true then 1 else 0)))) := by
    refine dCB_go (dcons_go (dOp_go (x := .int (ns.length : Int)) (show dLen (dVar 0) (eBg ns st s2) = some (.val (.dat (.int (ns.length : Int)))) from ?_) rfl rfl rfl rfl) rfl) rfl rfl
    show some (Rs.val (.dat (.int ((ns.map PyData.int).length : Nat)))) = _
    rw [hll]
  have b3 : dOp fMul (dVar 1) (dCB fInt (dCons (dOp fGt (dLen (dVar 0)) (dC (.int 2))) dNil)) (eBg ns st s2) = some (.val (.dat (.int (st * (if decide ((2 : Int) < (ns.length : Int)) = true then 1 else 0))))) :=
    dOp_go rfl b2 rfl rfl (mulR (by split <;> omega))
  have c3 : dRet (ePure (dLst (dCons (dCS fList (dCons (dVar 0) dNil)) (dCons (dOp fMul (dVar 1) (dCB fInt (dCons (dOp fGt (dLen (dVar 0)) (dC (.int 2))) dNil))) dNil)))) (eBg ns st s2) = some (.rt (bx ns (st * (if decide ((2 : Int) < (ns.length : Int)) = true then 1 else 0))) (eBg ns st s2)) := by
    unfold dRet ePure dLst
    rw [dcons_go b1 (dcons_go b3 rfl)]; rfl
  exact fnG_rt (dSeq_go (E1 := eBg ns 0 .no) rfl (dSeq_go c2 c3)) rfl
theorem v_take {ns : List Int} {st many : Int} (h0 : 0 < many) (h1 : many < 1000) (hl : ns.length < 1000) : ∃ r ns' st', 0 ≤ r ∧ r < many ∧ ns'.length ≤ ns.length ∧ g__law_take [bx ns st, .dat (.int many)] = some (.dat (.int r), [bx ns' st', .dat (.int many)]) := by
  cases ns with
  | nil =>
    let E0 : En := [.bor [3], .own (.dat (.int many)), .no, .own (bx [] st), .own (.dat (.int many))]
    have hc : ePureT (dTest (dOp fEqD (dIxL (dVar 0) (dC (.int 0))) (dLst dNil))) E0 = some (true, E0) := by
      have a1 : dOp fEqD (dIxL (dVar 0) (dC (.int 0))) (dLst dNil) E0 = some (.val (.dat (.bool true))) := dOp_go (a := .pl [3, 0]) (b := .val (.lst [])) (x := .list []) (y := .list []) rfl rfl rfl rfl (eqD_self [])
      unfold ePureT dTest
      rw [a1]; rfl
    have a0 : dIxL (dVar 0) (dC (.int 1)) E0 = some (.val (.dat (.int st))) := rfl
    have a1 : dOp fMod (dOp fMul (dIxL (dVar 0) (dC (.int 1))) (dC (.int 48271))) (dC (.int 2147483647)) E0 = some (.val (.dat (.int (st * 48271 % 2147483647)))) :=
      dOp_go (dOp_go a0 rfl rfl rfl (mulR (by omega))) rfl rfl rfl (modP (by omega))
    generalize hst : st * 48271 % 2147483647 = st' at a1
    have a2 : dLSet (dVar 0) (dC (.int 1)) (ePure (dOp fMod (dOp fMul (dIxL (dVar 0) (dC (.int 1))) (dC (.int 48271))) (dC (.int 2147483647)))) E0 = some (.nx [.bor [3], .own (.dat (.int many)), .no, .own (bx [] st'), .own (.dat (.int many))]) := by
      have e1 : ePure (dOp fMod (dOp fMul (dIxL (dVar 0) (dC (.int 1))) (dC (.int 48271))) (dC (.int 2147483647))) E0 = some (.dat (.int st'), E0) := by unfold ePure; rw [a1]
      unfold dLSet
      rw [e1]; rfl
    let E1 : En := [.bor [3], .own (.dat (.int many)), .no, .own (bx [] st'), .own (.dat (.int many))]
    have a3 : dOp fMod (dOp fDiv (dIxL (dVar 0) (dC (.int 1))) (dC (.int 7))) (dVar 1) E1 = some (.val (.dat (.int (st' / 7 % many)))) :=
      dOp_go (dOp_go (x := .int st') rfl rfl rfl rfl (divP (by omega) (by omega))) rfl rfl rfl (modP h0)
    have a4 : dRet (ePure (dOp fMod (dOp fDiv (dIxL (dVar 0) (dC (.int 1))) (dC (.int 7))) (dVar 1))) E1 = some (.rt (.dat (.int (st' / 7 % many))) E1) := by
      unfold dRet ePure
      rw [a3]
    exact ⟨st' / 7 % many, [], st', Int.emod_nonneg _ (by omega), Int.emod_lt_of_pos _ h0, Nat.le_refl _, fnG_rt (dSeq_rt (dIf_t hc (dSeq_go a2 a4))) rfl⟩
  | cons a t =>
    let E0 : En := [.bor [3], .own (.dat (.int many)), .no, .own (bx (a :: t) st), .own (.dat (.int many))]
    have hc : ePureT (dTest (dOp fEqD (dIxL (dVar 0) (dC (.int 0))) (dLst dNil))) E0 = some (false, E0) := by
      have a1 : dOp fEqD (dIxL (dVar 0) (dC (.int 0))) (dLst dNil) E0 = some (.val (.dat (.bool false))) := by
        refine dOp_go (a := .pl [3, 0]) (b := .val (.lst [])) (x := .list ((a :: t).map .int)) (y := .list []) rfl rfl (lI_toD (a :: t)) rfl ?_
        unfold fEqD
        rw [if_pos ⟨shaped_list (a :: t), shaped_list []⟩]; rfl
      unfold ePureT dTest
      rw [a1]; rfl
    let E1 : En := [.bor [3], .own (.dat (.int many)), .own (.dat (.int a)), .own (bx (a :: t) st), .own (.dat (.int many))]
    have hix : ∀ (b : Int) (E : En), dVar 0 E = some (.pl [3]) → eget E [3] = some (bx (b :: t) st) → eget E [3, 0] = some (lI (b :: t)) → dIxL (dIxL (dVar 0) (dC (.int 0))) (dC (.int 0)) E = some (.val (.dat (.int b))) := fun b E e1 e2 e3 => by
      have i1 : dIxL (dVar 0) (dC (.int 0)) E = some (.pl [3, 0]) := by
        unfold dIxL
        rw [e1]
        show (match eget E [3] with | some (.lst ss) => _ | some (.dat (.list ds)) => _ | _ => none) = _
        rw [e2]; rfl
      exact ixL_I (k := 0) (ns := b :: t) i1 e3 rfl rfl
    have c1 : dAlias 2 (dIxL (dIxL (dVar 0) (dC (.int 0))) (dC (.int 0))) E0 = some (.nx E1) := by
      unfold dAlias
      rw [hix a E0 rfl rfl rfl]; rfl
    have a2 : dOp fDiv (dVar 2) (dVar 1) E1 = some (.val (.dat (.int (a / many)))) := dOp_go rfl rfl rfl rfl (divP h0 (by omega))
    generalize hq : a / many = q at a2
    let E2 : En := [.bor [3], .own (.dat (.int many)), .own (.dat (.int a)), .own (bx (q :: t) st), .own (.dat (.int many))]
    have c2 : dLSet (dIxL (dVar 0) (dC (.int 0))) (dC (.int 0)) (ePure (dOp fDiv (dVar 2) (dVar 1))) E1 = some (.nx E2) := by
      have e1 : ePure (dOp fDiv (dVar 2) (dVar 1)) E1 = some (.dat (.int q), E1) := by unfold ePure; rw [a2]
      have e2 : oLSet 0 (lI (a :: t)) (.dat (.int q)) = some (lI (q :: t), .dat .none) := by
        have : ixN ((a :: t).map fun i => S.dat (.int i)).length ((0 : Nat) : Int) = some 0 := ixN_in (by simp)
        show (match ixN ((a :: t).map fun i => S.dat (.int i)).length ((0 : Nat) : Int) with | some j => some (S.lst (((a :: t).map fun i => S.dat (.int i)).set j (.dat (.int q))), S.dat PyData.none) | none => none) = _
        rw [this]; rfl
      unfold dLSet
      rw [e1]
      show stepAt (oLSet 0) E1 [3, 0] (.dat (.int q)) = _
      show (match oLSet 0 (lI (a :: t)) (.dat (.int q)) with | some (t', _) => some (Out.nx (ekill (eput E1 [3, 0] t') [3, 0])) | none => none) = _
      rw [e2]; rfl
    have hor : ePureT (dOr (dTest (dOp fEqS (dIxL (dIxL (dVar 0) (dC (.int 0))) (dC (.int 0))) (dC (.int 0)))) (dTest (dOp fEqS (dIxL (dIxL (dVar 0) (dC (.int 0))) (dC (.int 0))) (dNeg (dC (.int 1)))))) E2 = some (decide (q = 0) || decide (q = -1), E2) := by
      unfold ePureT dOr dTest
      rw [dOp_go (hix q E2 rfl rfl rfl) rfl rfl rfl rfl, dOp_go (hix q E2 rfl rfl rfl) rfl rfl rfl rfl]
      by_cases z : q = 0
      · simp [z]
      · simp [z]
    have c4 : ∀ E : En, dVar 2 E = some (.val (.dat (.int a))) → dVar 1 E = some (.val (.dat (.int many))) → dRet (ePure (dOp fMod (dVar 2) (dVar 1))) E = some (.rt (.dat (.int (a % many))) E) := fun E e1 e2 => by
      unfold dRet ePure
      rw [dOp_go e1 e2 rfl rfl (modP h0)]
    cases hb : (decide (q = 0) || decide (q = -1)) with
    | true =>
      rw [hb] at hor
      let E3 : En := [.bor [3], .own (.dat (.int many)), .own (.dat (.int a)), .own (bx t st), .own (.dat (.int many))]
      have c3 : dDrop (eBM1 oPopAt (dIxL (dVar 0) (dC (.int 0))) (dC (.int 0))) E2 = some (.nx E3) := by
        have e2 : oPopAt (lI (q :: t)) (.dat (.int 0)) = some (lI t, .dat (.int q)) := by
          have : ixN ((q :: t).map fun i => S.dat (.int i)).length ((0 : Nat) : Int) = some 0 := ixN_in (by simp)
          show (match ixN ((q :: t).map fun i => S.dat (.int i)).length ((0 : Nat) : Int) with | some j => (match ((q :: t).map fun i => S.dat (.int i))[j]? with | some s => if ((q :: t).map fun i => S.dat (.int i)).length < 100000 then some (S.lst (((q :: t).map fun i => S.dat (.int i)).eraseIdx j), s) else none | none => none) | none => none) = _
          rw [this]
          show (if ((q :: t).map fun i => S.dat (.int i)).length < 100000 then some (lI t, S.dat (.int q)) else none) = _
          exact if_pos (by simp at hl ⊢; omega)
        refine dDrop_go (s := .dat (.int q)) ?_
        show (match oPopAt (lI (q :: t)) (.dat (.int 0)) with | some (t', c) => some (c, ekill (eput E2 [3, 0] t') [3, 0]) | none => none) = _
        rw [e2]; rfl
      exact ⟨a % many, t, st, Int.emod_nonneg _ (by omega), Int.emod_lt_of_pos _ h0, by simp, fnG_rt (dSeq_go (dIf_f hc rfl) (dSeq_go c1 (dSeq_go c2 (dSeq_go (dIf_t hor c3) (c4 E3 rfl rfl))))) rfl⟩
    | false =>
      rw [hb] at hor
      exact ⟨a % many, q :: t, st, Int.emod_nonneg _ (by omega), Int.emod_lt_of_pos _ h0, by simp, fnG_rt (dSeq_go (dIf_f hc rfl) (dSeq_go c1 (dSeq_go c2 (dSeq_go (dIf_f hor rfl) (c4 E2 rfl rfl))))) rfl⟩
theorem v_alike_int (k : Nat) (v : Int) : g__law_alike (k + 1) [.dat (.int v), .dat (.int v)] = some (.dat (.bool true), [.dat (.int v), .dat (.int v)]) := by
  have c3 : dRet (ePure (dAndV (dIsi .int (dVar 0)) (dAndV (dNotV (dIsi .bool (dVar 0))) (dOp fEqS (dVar 0) (dVar 1))))) (entry 3 [.dat (.int v), .dat (.int v)]) = some (.rt (.dat (.bool true)) (entry 3 [.dat (.int v), .dat (.int v)])) := by
    show some (Out.rt (S.dat (.bool (decide (v = v)))) _) = _
    rw [decide_eq_true rfl]
  exact fnG_rt (dSeq_go rfl (dSeq_go rfl (dSeq_rt (dIf_t rfl c3)))) rfl
theorem v_alike (ns : List Int) (hl : ns.length < 1000) : g__law_alike 4 [tI ns, tI ns] = some (.dat (.bool true), [tI ns, tI ns]) := by
  have hll : (ns.map PyData.int).length = ns.length := by simp
  let E0 : En := [.own (tI ns), .own (tI ns), .no, .own (tI ns), .own (tI ns)]
  have hlen : ∀ (E : En), dVar 1 E = some (.val (tI ns)) → dLen (dVar 1) E = some (.val (.dat (.int (ns.length : Int)))) := fun E e => by
    unfold dLen
    rw [e]
    show some (Rs.val (.dat (.int ((ns.map PyData.int).length : Nat)))) = _
    rw [hll]
  have hlen0 : ∀ (E : En), dVar 0 E = some (.val (tI ns)) → dLen (dVar 0) E = some (.val (.dat (.int (ns.length : Int)))) := fun E e => by
    unfold dLen
    rw [e]
    show some (Rs.val (.dat (.int ((ns.map PyData.int).length : Nat)))) = _
    rw [hll]
  have c6 : ePureT (dTest (dOp fNeS (dLen (dVar 0)) (dLen (dVar 1)))) E0 = some (false, E0) := by
    unfold ePureT dTest
    rw [dOp_go (hlen0 E0 rfl) (hlen E0 rfl) rfl rfl (show fNeS (.int (ns.length : Int)) (.int (ns.length : Int)) = some (.bool (!decide ((ns.length : Int) = (ns.length : Int)))) from rfl), decide_eq_true rfl]
    rfl
  have hloop := loop_inv (rd := fun _ i => some (if i < (ns.length : Int).toNat then some (Rs.val (.dat (.int (i : Nat)))) else none)) (bd := bName 2) (db := dIf (eNot (eTest (eCall (g__law_alike 3) (dCons (dIxT (dVar 0) (dVar 2)) (dCons (dIxT (dVar 1) (dVar 2)) dNil))))) (dRet (ePure (dC (.bool false)))) dNext)
    (fun i E => ∃ s2, E = [.own (tI ns), .own (tI ns), s2, .own (tI ns), .own (tI ns)]) ns.length
    (fun i E hi hJ => by
      obtain ⟨s2, rfl⟩ := hJ
      have hv : ns[i]? = some ns[i] := List.getElem?_eq_getElem _
      generalize ns[i] = v at hv
      let E1 : En := [.own (tI ns), .own (tI ns), .own (.dat (.int (i : Nat))), .own (tI ns), .own (tI ns)]
      have hcall : eCall (g__law_alike 3) (dCons (dIxT (dVar 0) (dVar 2)) (dCons (dIxT (dVar 1) (dVar 2)) dNil)) E1 = some (.dat (.bool true), E1) :=
        eCall_go (rs := [.val (.dat (.int v)), .val (.dat (.int v))]) (dcons_go (ixT_I (k := i) rfl rfl hv) (dcons_go (ixT_I (k := i) rfl rfl hv) rfl)) rfl rfl (v_alike_int 2 v)
      refine ⟨.val (.dat (.int (i : Nat))), E1, E1, ?_, rfl, dIf_f (eNot_go (eTest_go hcall)) rfl, _, rfl⟩
      show some (if i < (ns.length : Int).toNat then _ else _) = _
      rw [if_pos (by omega)])
    (fun E _ => by
      show some (if ns.length < (ns.length : Int).toNat then _ else _) = _
      rw [if_neg (by omega)])
    ns.length 0 (ns.length : Int).toNat E0 (by omega) (by omega) ⟨.no, rfl⟩
  obtain ⟨E', hE, s2, rfl⟩ := hloop
  have c7 := dFor_go (src := iRange (dLen (dVar 1))) (E := E0) (iRange_go (hlen E0 rfl) (by omega) (by omega)) hE
  exact fnG_rt (dSeq_go rfl (dSeq_go rfl (dSeq_go rfl (dSeq_go rfl (dSeq_go rfl (dSeq_go (dIf_f c6 rfl) (dSeq_go c7 rfl))))))) rfl
end K02
namespace K02
open PySem PySem.Spec PyProof.Rows L2 Mv Sh
def inR (l : List Int) : Prop := ∀ i ∈ l, 0 ≤ i ∧ i ≤ 19
theorem map_erase {α β : Type} (f : α → β) : ∀ (l : List α) (j : Nat), (l.map f).eraseIdx j = (l.eraseIdx j).map f
  | [], _ => rfl
  | _ :: _, 0 => rfl
  | a :: l, j + 1 => by show f a :: (l.map f).eraseIdx j = f a :: (l.eraseIdx j).map f; rw [map_erase f l j]
theorem perm_erase {α : Type} : ∀ (l : List α) (j : Nat) (h : j < l.length), (l[j] :: l.eraseIdx j).Perm l
  | [], _, h => absurd h (by simp)
  | a :: l, 0, _ => List.Perm.refl _
  | a :: l, j + 1, h => by
    show (l[j]'(by simpa using h) :: a :: l.eraseIdx j).Perm (a :: l)
    exact (List.Perm.swap _ _ _).trans (List.Perm.cons a (perm_erase l j (by simpa using h)))
def r20 : List Int := (List.range 20).map Int.ofNat
theorem pop_I {E E1 : En} {da : En → Option Rs} {db : En → Option (S × En)} {p p' : List Nat} {l l0 : List Int} {r : Int} {j : Nat} (ha : da E = some (.pl p)) (hr : eget E p = some (lI l0)) (hb : db (E ++ [.bor p]) = some (.dat (.int r), E1)) (hl : E1.getLast? = some (.bor p')) (hr2 : eget E1 p' = some (lI l)) (hj : r = (j : Int)) (hjl : j < l.length) (hll : l.length < 1000) :
    eBM1E oPopAt da db E = some (.dat (.int (l[j]'hjl)), strip1 (ekill (eput E1 p' (lI (l.eraseIdx j))) p')) := by
  have e1 : oPopAt (lI l) (.dat (.int r)) = some (lI (l.eraseIdx j), .dat (.int (l[j]'hjl))) := by
    have e2 : ixN (l.map fun i => S.dat (.int i)).length r = some j := by rw [hj]; exact ixN_in (by simpa using hjl)
    show (match ixN (l.map fun i => S.dat (.int i)).length r with | some j => (match (l.map fun i => S.dat (.int i))[j]? with | some s => if (l.map fun i => S.dat (.int i)).length < 100000 then some (S.lst ((l.map fun i => S.dat (.int i)).eraseIdx j), s) else none | none => none) | none => none) = _
    rw [e2]
    have e3 : (l.map fun i => S.dat (.int i))[j]? = some (.dat (.int (l[j]'hjl))) := by rw [List.getElem?_map, List.getElem?_eq_getElem hjl]; rfl
    simp only [e3]
    rw [if_pos (by simp; omega)]
    show some (S.lst ((l.map fun i => S.dat (.int i)).eraseIdx j), S.dat (.int (l[j]'hjl))) = _
    rw [map_erase]; rfl
  have hrl : eget E p = some (.lst (l0.map fun i => S.dat (.int i))) := hr
  unfold eBM1E
  simp only [ha, hrl, hb, hl, hr2, e1]
def eLw (sc : S) (ns : List Int) (st : Int) (s2 : Sl) (l : S) (s4 s5 s6 s7 s8 s9 s10 s11 s12 : Sl) : En := [.own sc, .own (bx ns st), s2, .own l, s4, s5, s6, s7, s8, s9, s10, s11, s12, .own sc]
theorem some_loop {sc : List PyData} {ns : List Int} {st : Int} {s2 s4 s5 s6 s7 s8 s9 s10 s11 s12 : Sl} (hns : ns.length < 1000) :
    ∃ so ns' st' l' t2 t5 t6 t7 t8 t9 t10 t11 t12, so.length = 8 ∧ so.Nodup ∧ inR so ∧ ns'.length < 1000 ∧
      dSet 4 (eLc (iRange (dC (.int 8))) 12 eYes (eBM1E oPopAt (dVar 3) (eCall g__law_take (dCons (dVar 1) (dCons (dLen (dVar 3)) dNil))))) (eLw (.dat (.list sc)) ns st s2 (.lst (rgS 0 20)) s4 s5 s6 s7 s8 s9 s10 s11 s12) =
        some (.nx (eLw (.dat (.list sc)) ns' st' t2 l' (.own (lI so)) t5 t6 t7 t8 t9 t10 t11 t12)) := by
  have hrg : S.lst (rgS 0 20) = lI (r20) := by
    rfl
  rw [hrg]
  have hloop := lc_inv (rd := fun _ i => some (if i < (8 : Int).toNat then some (Rs.val (.dat (.int (i : Nat)))) else none)) (j := 12) (de := eBM1E oPopAt (dVar 3) (eCall g__law_take (dCons (dVar 1) (dCons (dLen (dVar 3)) dNil))))
    (fun i acc E => ∃ so l ns st t2 t4 t5 t6 t7 t8 t9 t10 t11, acc = so.map (fun i => S.dat (.int i)) ∧ so.length = i ∧ l.length = 20 - i ∧ (so ++ l).Nodup ∧ inR (so ++ l) ∧ ns.length < 1000 ∧ E = eLw (.dat (.list sc)) ns st t2 (lI l) t4 t5 t6 t7 t8 t9 t10 t11 .no) 8 (by decide)
    (fun i acc E hi hJ => by
      obtain ⟨so, l, ns, st, t2, t4, t5, t6, t7, t8, t9, t10, t11, rfl, hso, hl, hnd, hin, hns, rfl⟩ := hJ
      have hll : (l.map fun i => S.dat (.int i)).length = l.length := by simp
      obtain ⟨r, ns', st', r0, r1, hns', htake⟩ := v_take (ns := ns) (st := st) (many := (l.length : Int)) (by omega) (by omega) hns
      obtain ⟨j, rfl⟩ : ∃ j : Nat, r = (j : Int) := ⟨r.toNat, by omega⟩
      have hjl : j < l.length := by omega
      let E1 : En := slotSet (eLw (.dat (.list sc)) ns st t2 (lI l) t4 t5 t6 t7 t8 t9 t10 t11 .no) 12 (.own (.dat (.int (i : Nat))))
      have hcall : eCall g__law_take (dCons (dVar 1) (dCons (dLen (dVar 3)) dNil)) (E1 ++ [.bor [3]]) = some (.dat (.int (j : Int)), killAll (putAll (E1 ++ [.bor [3]]) [.pl [1], .val (.dat (.int (l.length : Int)))] [bx ns' st', .dat (.int (l.length : Int))]) [.pl [1], .val (.dat (.int (l.length : Int)))]) := by
        refine eCall_go (dcons_go rfl (dcons_go ?_ rfl)) rfl rfl htake
        show some (Rs.val (.dat (.int ((l.map fun i => S.dat (.int i)).length : Nat)))) = _
        rw [hll]
      have hpop := pop_I (E := E1) (da := dVar 3) (p := [3]) (p' := [3]) (l0 := l) (l := l) rfl rfl hcall rfl rfl rfl hjl (by omega)
      have hmem : l[j] ∈ l := List.getElem_mem _
      have hperm : (so ++ [l[j]] ++ l.eraseIdx j).Perm (so ++ l) := by
        rw [List.append_assoc]
        refine List.Perm.append_left so ?_
        exact perm_erase l j hjl
      refine ⟨_, E1, _, _, rng_rd (E := []) hi, rfl, hpop, so ++ [l[j]], l.eraseIdx j, ns', st', _, _, _, _, _, _, _, _, _, by simp, by simp [hso], by rw [List.length_eraseIdx, if_pos hjl]; omega, hperm.nodup_iff.mpr hnd, fun x mx => hin x (hperm.mem_iff.mp mx), by omega, rfl⟩)
    (fun acc E _ => rng_end (E := []) (n := 8)) 8 0 8 [] (eLw (.dat (.list sc)) ns st (killHead 12 s2) (lI r20) (killHead 12 s4) (killHead 12 s5) (killHead 12 s6) (killHead 12 s7) (killHead 12 s8) (killHead 12 s9) (killHead 12 s10) (killHead 12 s11) .no) rfl (Nat.le_refl _) rfl
    ⟨[], r20, ns, st, _, _, _, _, _, _, _, _, _, rfl, rfl, rfl, by decide, by unfold inR; decide, hns, rfl⟩
  obtain ⟨acc', E', hE, so, l, ns', st', t2, t4, t5, t6, t7, t8, t9, t10, t11, rfl, hso, hl, hnd, hin, hns', rfl⟩ := hloop
  have hlc : eLc (iRange (dC (.int 8))) 12 eYes (eBM1E oPopAt (dVar 3) (eCall g__law_take (dCons (dVar 1) (dCons (dLen (dVar 3)) dNil)))) (eLw (.dat (.list sc)) ns st s2 (lI r20) s4 s5 s6 s7 s8 s9 s10 s11 s12) = some (.lst (so.map fun i => S.dat (.int i)), eLw (.dat (.list sc)) ns' st' t2 (lI l) t4 t5 t6 t7 t8 t9 t10 t11 .no) :=
    eLc_go (c := ⟨eLw (.dat (.list sc)) ns st s2 (lI r20) s4 s5 s6 s7 s8 s9 s10 s11 s12, [], _, 8⟩) rfl hE
  exact ⟨so, ns', st', lI l, _, _, _, _, _, _, _, _, _, hso, (List.nodup_append.mp hnd).1, fun x mx => hin x (List.mem_append_left _ mx), hns', dSet_go hlc⟩
end K02
namespace K02
open PySem PySem.Spec PyProof.Rows L2 Mv Sh
theorem most_step {sc : List PyData} {ns : List Int} {st : Int} {s2 l s4 s5 s6 s7 s8 s9 s10 s11 s12} (hns : ns.length < 1000) :
    ∃ m ns' st' t2 t4 t6 t7 t8 t9 t10 t11 t12, 1 ≤ m ∧ m ≤ 6 ∧ ns'.length < 1000 ∧ (∀ so, s4 = .own (lI so) → t4 = .own (lI so)) ∧
      dSet 5 (eEff (lConsP (dLst (dCons (dC (.int 1)) (dCons (dC (.int 2)) (dCons (dC (.int 6)) dNil)))) (lConsE (eCall g__law_take (dCons (dVar 1) (dCons (dC (.int 3)) dNil))) lNil)) fun k => dWhen k 2 (ePure (dIxL (dGh k 0) (dGh k 1)))) (eLw (.dat (.list sc)) ns st s2 l s4 s5 s6 s7 s8 s9 s10 s11 s12) =
        some (.nx (eLw (.dat (.list sc)) ns' st' t2 l t4 (.own (.dat (.int m))) t6 t7 t8 t9 t10 t11 t12)) := by
  obtain ⟨r, ns', st', r0, r1, hns', htake⟩ := v_take (ns := ns) (st := st) (many := 3) (by omega) (by omega) hns
  obtain ⟨j, rfl⟩ : ∃ j : Nat, r = (j : Int) := ⟨r.toNat, by omega⟩
  let E0 : En := eLw (.dat (.list sc)) ns st s2 l s4 s5 s6 s7 s8 s9 s10 s11 s12
  let E1 : En := E0 ++ [.own (lI [1, 2, 6])]
  let E2 : En := killAll (putAll E1 [.pl [1], .val (.dat (.int 3))] [bx ns' st', .dat (.int 3)]) [.pl [1], .val (.dat (.int 3))]
  have hcall : eCall g__law_take (dCons (dVar 1) (dCons (dC (.int 3)) dNil)) E1 = some (.dat (.int (j : Int)), E2) := eCall_go rfl rfl rfl htake
  have hl : lConsP (dLst (dCons (dC (.int 1)) (dCons (dC (.int 2)) (dCons (dC (.int 6)) dNil)))) (lConsE (eCall g__law_take (dCons (dVar 1) (dCons (dC (.int 3)) dNil))) lNil) E0 = some (2, E2 ++ [.own (.dat (.int (j : Int)))]) := by
    show up1 (lConsE (eCall g__law_take (dCons (dVar 1) (dCons (dC (.int 3)) dNil))) lNil E1) = _
    unfold lConsE
    rw [hcall]; rfl
  obtain ⟨m, hm, m1, m6⟩ : ∃ m, ([1, 2, 6] : List Int)[j]? = some m ∧ 1 ≤ m ∧ m ≤ 6 := by
    have : j = 0 ∨ j = 1 ∨ j = 2 := by omega
    rcases this with rfl | rfl | rfl
    · exact ⟨1, rfl, by omega, by omega⟩
    · exact ⟨2, rfl, by omega, by omega⟩
    · exact ⟨6, rfl, by omega, by omega⟩
  have hix : dIxL (dGh 2 0) (dGh 2 1) (E2 ++ [.own (.dat (.int (j : Int)))]) = some (.val (.dat (.int m))) := ixL_I (r := .pl [14]) (ns := [1, 2, 6]) (k := j) rfl rfl rfl hm
  have hef : eEff (lConsP (dLst (dCons (dC (.int 1)) (dCons (dC (.int 2)) (dCons (dC (.int 6)) dNil)))) (lConsE (eCall g__law_take (dCons (dVar 1) (dCons (dC (.int 3)) dNil))) lNil)) (fun k => dWhen k 2 (ePure (dIxL (dGh k 0) (dGh k 1)))) E0 = some (.dat (.int m), stripN 2 (E2 ++ [.own (.dat (.int (j : Int)))])) := by
    unfold eEff
    rw [hl]
    have : dWhen 2 2 (ePure (dIxL (dGh 2 0) (dGh 2 1))) (E2 ++ [.own (.dat (.int (j : Int)))]) = some (.dat (.int m), E2 ++ [.own (.dat (.int (j : Int)))]) := by
      unfold dWhen ePure
      rw [if_pos rfl, hix]
    simp only [this]
  let kk : Sl → Sl := fun x => killHead 5 (killHead 14 (killHead 15 (kill1 [1] x)))
  exact ⟨m, ns', st', kk s2, kk s4, kk s6, kk s7, kk s8, kk s9, kk s10, kk s11, kk s12, m1, m6, by omega, fun so e => by rw [e]; rfl, dSet_go hef⟩
theorem owners_loop {sc : List PyData} {ns : List Int} {st : Int} {so : List Int} {m : Int} {s2 l s6 s7 s8 s9 s10 s11 s12} (hns : ns.length < 1000) (hso : so.length = 8) (hin : inR so) (m1 : 1 ≤ m) (m6 : m ≤ 6) :
    ∃ ow ns' st' t2 t7 t8 t9 t10 t11 t12, ow.length = 12 ∧ inR ow ∧ ns'.length < 1000 ∧
      dSet 6 (eCS fTuple (eLc (iRange (dC (.int 12))) 12 eYes (eEff (lConsP (dVar 4) (lConsE (eCall g__law_take (dCons (dVar 1) (dCons (dVar 5) dNil))) lNil)) fun k => dWhen k 2 (ePure (dIxL (dGh k 0) (dGh k 1)))))) (eLw (.dat (.list sc)) ns st s2 l (.own (lI so)) (.own (.dat (.int m))) s6 s7 s8 s9 s10 s11 s12) =
        some (.nx (eLw (.dat (.list sc)) ns' st' t2 l (.own (lI so)) (.own (.dat (.int m))) (.own (tI ow)) t7 t8 t9 t10 t11 t12)) := by
  have hloop := lc_inv (rd := fun _ i => some (if i < (12 : Int).toNat then some (Rs.val (.dat (.int (i : Nat)))) else none)) (j := 12) (de := eEff (lConsP (dVar 4) (lConsE (eCall g__law_take (dCons (dVar 1) (dCons (dVar 5) dNil))) lNil)) fun k => dWhen k 2 (ePure (dIxL (dGh k 0) (dGh k 1))))
    (fun i acc E => ∃ ow ns st t2 t6 t7 t8 t9 t10 t11, acc = ow.map (fun i => S.dat (.int i)) ∧ ow.length = i ∧ inR ow ∧ ns.length < 1000 ∧ E = eLw (.dat (.list sc)) ns st t2 l (.own (lI so)) (.own (.dat (.int m))) t6 t7 t8 t9 t10 t11 .no) 12 (by decide)
    (fun i acc E hi hJ => by
      obtain ⟨ow, ns, st, t2, t6, t7, t8, t9, t10, t11, rfl, how, hiw, hns, rfl⟩ := hJ
      obtain ⟨r, ns', st', r0, r1, hns', htake⟩ := v_take (ns := ns) (st := st) (many := m) (by omega) (by omega) hns
      obtain ⟨j, rfl⟩ : ∃ j : Nat, r = (j : Int) := ⟨r.toNat, by omega⟩
      have hjl : j < so.length := by omega
      let E0 : En := slotSet (eLw (.dat (.list sc)) ns st t2 l (.own (lI so)) (.own (.dat (.int m))) t6 t7 t8 t9 t10 t11 .no) 12 (.own (.dat (.int (i : Nat))))
      let E1 : En := E0 ++ [.bor [4]]
      let E2 : En := killAll (putAll E1 [.pl [1], .val (.dat (.int m))] [bx ns' st', .dat (.int m)]) [.pl [1], .val (.dat (.int m))]
      have hcall : eCall g__law_take (dCons (dVar 1) (dCons (dVar 5) dNil)) E1 = some (.dat (.int (j : Int)), E2) := eCall_go rfl rfl rfl htake
      have hl : lConsP (dVar 4) (lConsE (eCall g__law_take (dCons (dVar 1) (dCons (dVar 5) dNil))) lNil) E0 = some (2, E2 ++ [.own (.dat (.int (j : Int)))]) := by
        show up1 (lConsE (eCall g__law_take (dCons (dVar 1) (dCons (dVar 5) dNil))) lNil E1) = _
        unfold lConsE
        rw [hcall]; rfl
      have hm : so[j]? = some so[j] := List.getElem?_eq_getElem hjl
      have hix : dIxL (dGh 2 0) (dGh 2 1) (E2 ++ [.own (.dat (.int (j : Int)))]) = some (.val (.dat (.int so[j]))) := ixL_I (r := .pl [4]) (ns := so) (k := j) rfl rfl rfl hm
      have hef : eEff (lConsP (dVar 4) (lConsE (eCall g__law_take (dCons (dVar 1) (dCons (dVar 5) dNil))) lNil)) (fun k => dWhen k 2 (ePure (dIxL (dGh k 0) (dGh k 1)))) E0 = some (.dat (.int so[j]), stripN 2 (E2 ++ [.own (.dat (.int (j : Int)))])) := by
        unfold eEff
        rw [hl]
        have : dWhen 2 2 (ePure (dIxL (dGh 2 0) (dGh 2 1))) (E2 ++ [.own (.dat (.int (j : Int)))]) = some (.dat (.int so[j]), E2 ++ [.own (.dat (.int (j : Int)))]) := by
          unfold dWhen ePure
          rw [if_pos rfl, hix]
        simp only [this]
      refine ⟨_, E0, _, _, rng_rd (E := []) hi, rfl, hef, ow ++ [so[j]], ns', st', _, _, _, _, _, _, _, by simp, by simp [how], fun x mx => ?_, by omega, rfl⟩
      rcases List.mem_append.mp mx with z | z
      · exact hiw x z
      · rw [List.mem_singleton.mp z]; exact hin _ (List.getElem_mem _))
    (fun acc E _ => rng_end (E := []) (n := 12)) 12 0 12 [] (eLw (.dat (.list sc)) ns st (killHead 12 s2) l (.own (lI so)) (.own (.dat (.int m))) (killHead 12 s6) (killHead 12 s7) (killHead 12 s8) (killHead 12 s9) (killHead 12 s10) (killHead 12 s11) .no) rfl (Nat.le_refl _) rfl
    ⟨[], ns, st, _, _, _, _, _, _, _, rfl, rfl, by unfold inR; decide, hns, rfl⟩
  obtain ⟨acc', E', hE, ow, ns', st', t2, t6, t7, t8, t9, t10, t11, rfl, how, hiw, hns', rfl⟩ := hloop
  have hlc : eLc (iRange (dC (.int 12))) 12 eYes (eEff (lConsP (dVar 4) (lConsE (eCall g__law_take (dCons (dVar 1) (dCons (dVar 5) dNil))) lNil)) fun k => dWhen k 2 (ePure (dIxL (dGh k 0) (dGh k 1)))) (eLw (.dat (.list sc)) ns st s2 l (.own (lI so)) (.own (.dat (.int m))) s6 s7 s8 s9 s10 s11 s12) = some (.lst (ow.map fun i => S.dat (.int i)), eLw (.dat (.list sc)) ns' st' t2 l (.own (lI so)) (.own (.dat (.int m))) t6 t7 t8 t9 t10 t11 .no) :=
    eLc_go (c := ⟨eLw (.dat (.list sc)) ns st s2 l (.own (lI so)) (.own (.dat (.int m))) s6 s7 s8 s9 s10 s11 s12, [], _, 12⟩) rfl hE
  have htu : fTuple [.lst (ow.map fun i => S.dat (.int i))] = some (tI ow) := by
    show (match ((lI ow).seqL <|> (lI ow).seqT) with | some ds => some (S.dat (.tuple ds)) | none => none) = _
    rw [lI_seqL]; rfl
  exact ⟨ow, ns', st', _, _, _, _, _, _, _, how, hiw, hns', dSet_go (eCS_go hlc htu)⟩
end K02
namespace K02
open PySem PySem.Spec PyProof.Rows L2 Mv Sh
section
variable {sc : List PyData} {ns : List Int} {st : Int} {so ow hs fo : List Int} {m a : Int} {l : S} {s2 s7 s8 s9 s10 s11 s12 : Sl}
def eLv (sc : List PyData) (ns : List Int) (st : Int) (s2 : Sl) (l : S) (so : List Int) (m : Int) (ow : List Int) (s7 s8 s9 s10 s11 s12 : Sl) : En := eLw (.dat (.list sc)) ns st s2 l (.own (lI so)) (.own (.dat (.int m))) (.own (tI ow)) s7 s8 s9 s10 s11 s12
theorem step8 (hns : ns.length < 1000) : ∃ j ns' st' t2 t7 t9 t10 t11 t12, j < 4 ∧ ns'.length < 1000 ∧
    dSet 8 (eCall g__law_take (dCons (dVar 1) (dCons (dC (.int 4)) dNil))) (eLv sc ns st s2 l so m ow s7 s8 s9 s10 s11 s12) = some (.nx (eLv sc ns' st' t2 l so m ow t7 (.own (.dat (.int ((j : Nat) : Int)))) t9 t10 t11 t12)) := by
  obtain ⟨r, ns', st', r0, r1, hns', htake⟩ := v_take (ns := ns) (st := st) (many := 4) (by omega) (by omega) hns
  obtain ⟨j, rfl⟩ : ∃ j : Nat, r = (j : Int) := ⟨r.toNat, by omega⟩
  have hcall : eCall g__law_take (dCons (dVar 1) (dCons (dC (.int 4)) dNil)) (eLv sc ns st s2 l so m ow s7 s8 s9 s10 s11 s12) = some (.dat (.int (j : Int)), killAll (putAll (eLv sc ns st s2 l so m ow s7 s8 s9 s10 s11 s12) [.pl [1], .val (.dat (.int 4))] [bx ns' st', .dat (.int 4)]) [.pl [1], .val (.dat (.int 4))]) := eCall_go rfl rfl rfl htake
  let kk : Sl → Sl := fun x => killHead 8 (kill1 [1] x)
  exact ⟨j, ns', st', kk s2, kk s7, kk s9, kk s10, kk s11, kk s12, by omega, by omega, dSet_go hcall⟩
theorem sorted_ok {l : List Int} (nd : l.Nodup) (h0 : 0 < l.length) (h6 : l.length ≤ 6) (hin : inR l) : okHouses (sortU l) := by
  have hp : (sortU l).Perm l := List.mergeSort_perm l _
  have hs : (sortU l).Pairwise (· ≤ ·) := by
    have := List.pairwise_mergeSort (le := fun a b : Int => decide (a ≤ b)) (fun a b c h1 h2 => by simp only [decide_eq_true_eq] at *; omega) (fun a b => by simp only [Bool.or_eq_true, decide_eq_true_eq]; omega) l
    exact this.imp fun h => of_decide_eq_true h
  have hn : (sortU l).Nodup := hp.nodup_iff.mpr nd
  refine ⟨?_, by rw [hp.length_eq]; exact h0, by rw [hp.length_eq]; exact h6, fun i m => hin i (hp.mem_iff.mp m)⟩
  exact (List.pairwise_and_iff.mpr ⟨hs, hn⟩).imp fun ⟨h1, h2⟩ => by omega
theorem step9 {j : Nat} (hj : j < 4) (hso : so.length = 8) (hnd : so.Nodup) (hin : inR so) (hns : ns.length < 1000) : ∃ hs ns' st' t2 t7 t10 t11 t12, okHouses hs ∧ ns'.length < 1000 ∧
    dSet 9 (eCS fSorted (eSl fSlL (lConsP (dVar 4) lNil) (ePureO (dPart (dVar 8))) (ePartE (eOp fAdd (ePure (dOp fAdd (dVar 8) (dC (.int 1)))) (eCall g__law_take (dCons (dVar 1) (dCons (dCB fMin2 (dCons (dC (.int 6)) (dCons (dOp fSub (dC (.int 8)) (dVar 8)) dNil))) dNil))))))) (eLv sc ns st s2 l so m ow s7 (.own (.dat (.int ((j : Nat) : Int)))) s9 s10 s11 s12) =
      some (.nx (eLv sc ns' st' t2 l so m ow t7 (.own (.dat (.int ((j : Nat) : Int)))) (.own (lI hs)) t10 t11 t12)) := by
  have hmin : (if (8 - (j : Int)) < 6 then (8 - (j : Int)) else 6) = ((min 6 (8 - j) : Nat) : Int) := by split <;> omega
  generalize hM : min 6 (8 - j) = M at hmin
  obtain ⟨r, ns', st', r0, r1, hns', htake⟩ := v_take (ns := ns) (st := st) (many := (M : Int)) (by omega) (by omega) hns
  obtain ⟨q, rfl⟩ : ∃ q : Nat, r = (q : Int) := ⟨r.toNat, by omega⟩
  let E0 : En := eLv sc ns st s2 l so m ow s7 (.own (.dat (.int ((j : Nat) : Int)))) s9 s10 s11 s12
  let E1 : En := E0 ++ [.bor [4]]
  let E2 : En := killAll (putAll E1 [.pl [1], .val (.dat (.int (M : Int)))] [bx ns' st', .dat (.int (M : Int))]) [.pl [1], .val (.dat (.int (M : Int)))]
  have ha : dCB fMin2 (dCons (dC (.int 6)) (dCons (dOp fSub (dC (.int 8)) (dVar 8)) dNil)) E1 = some (.val (.dat (.int (M : Int)))) := by
    refine dCB_go (rs := [.val (.dat (.int 6)), .val (.dat (.int (8 - (j : Int))))]) rfl rfl ?_
    show some (PyData.int (if (8 - (j : Int)) < 6 then (8 - (j : Int)) else 6)) = _
    rw [hmin]
  have hcall : eCall g__law_take (dCons (dVar 1) (dCons (dCB fMin2 (dCons (dC (.int 6)) (dCons (dOp fSub (dC (.int 8)) (dVar 8)) dNil))) dNil)) E1 = some (.dat (.int (q : Int)), E2) := eCall_go (dcons_go rfl (dcons_go ha rfl)) rfl rfl htake
  have hop : eOp fAdd (ePure (dOp fAdd (dVar 8) (dC (.int 1)))) (eCall g__law_take (dCons (dVar 1) (dCons (dCB fMin2 (dCons (dC (.int 6)) (dCons (dOp fSub (dC (.int 8)) (dVar 8)) dNil))) dNil))) E1 = some (.dat (.int ((j : Int) + 1 + (q : Int))), E2) := by
    unfold eOp
    rw [show ePure (dOp fAdd (dVar 8) (dC (.int 1))) E1 = some (.dat (.int ((j : Int) + 1)), E1) from rfl]
    simp only [hcall]
    rfl
  have hpart : ePartE (eOp fAdd (ePure (dOp fAdd (dVar 8) (dC (.int 1)))) (eCall g__law_take (dCons (dVar 1) (dCons (dCB fMin2 (dCons (dC (.int 6)) (dCons (dOp fSub (dC (.int 8)) (dVar 8)) dNil))) dNil)))) E1 = some (some (((j + 1 + q : Nat)) : Int), E2) := by
    unfold ePartE
    rw [hop]
    have : (j : Int) + 1 + (q : Int) = ((j + 1 + q : Nat) : Int) := by omega
    rw [this]
  have hcut : Mv.cutD (so.map PyData.int) (some ((j : Nat) : Int)) (some ((j + 1 + q : Nat) : Int)) = ((so.drop j).take (1 + q)).map .int := by
    unfold Mv.cutD
    rw [HT.sIx_nat, HT.sIx_nat, List.length_map, Nat.min_eq_left (by omega), Nat.min_eq_left (by omega), ← List.map_drop, ← List.map_take]
    congr 2
    omega
  generalize hl : (so.drop j).take (1 + q) = cl at hcut
  have hsl : fSlL (lI so) (some ((j : Nat) : Int)) (some ((j + 1 + q : Nat) : Int)) = some (lI cl) := by
    unfold fSlL
    rw [lI_seqL, Option.map_some, hcut]
    simp [lI]
  have hes : eSl fSlL (lConsP (dVar 4) lNil) (ePureO (dPart (dVar 8))) (ePartE (eOp fAdd (ePure (dOp fAdd (dVar 8) (dC (.int 1)))) (eCall g__law_take (dCons (dVar 1) (dCons (dCB fMin2 (dCons (dC (.int 6)) (dCons (dOp fSub (dC (.int 8)) (dVar 8)) dNil))) dNil))))) E0 = some (lI cl, strip1 E2) := by
    unfold eSl
    rw [show lConsP (dVar 4) lNil E0 = some (1, E1) from rfl]
    simp only
    rw [show ePureO (dPart (dVar 8)) E1 = some (some ((j : Nat) : Int), E1) from rfl]
    simp only [hpart]
    rw [show dVar (E2.length - 1) E2 = some (.pl [4]) from rfl]
    simp only
    rw [show (Rs.pl [4]).at E2 = some (lI so) from rfl]
    simp only [hsl]
  have hcl : cl.length = 1 + q := by rw [← hl, List.length_take, List.length_drop]; omega
  have hsub : cl.Sublist so := by rw [← hl]; exact (List.take_sublist _ _).trans (List.drop_sublist _ _)
  have hok := sorted_ok (l := cl) (hnd.sublist hsub) (by omega) (by omega) fun i m => hin i (hsub.subset m)
  have hso2 : fSorted [lI cl] = some (lI (sortU cl)) := by
    unfold fSorted
    simp only [lI_seqL, intsD_map]
    rfl
  let kk : Sl → Sl := fun x => killHead 9 (killHead 14 (kill1 [1] x))
  exact ⟨sortU cl, ns', st', kk s2, kk s7, kk s10, kk s11, kk s12, hok, by omega, dSet_go (eCS_go hes hso2)⟩
theorem step10 : ∃ t2 t7 t11 t12, dAlias 10 (dCS fList (dCons (dVar 9) dNil)) (eLv sc ns st s2 l so m ow s7 s8 (.own (lI hs)) s10 s11 s12) = some (.nx (eLv sc ns st t2 l so m ow t7 (killHead 10 s8) (.own (lI hs)) (.own (lI hs)) t11 t12)) := by
  have : dCS fList (dCons (dVar 9) dNil) (eLv sc ns st s2 l so m ow s7 s8 (.own (lI hs)) s10 s11 s12) = some (.val (lI hs)) := by
    show ((match ((lI hs).seqL <|> (lI hs).seqT) with | some ds => some (S.lst (ds.map S.dat)) | none => none)).map Rs.val = _
    rw [lI_seqL]
    show some (Rs.val (S.lst ((hs.map PyData.int).map S.dat))) = _
    simp [lI]
  refine ⟨killHead 10 s2, killHead 10 s7, killHead 10 s11, killHead 10 s12, ?_⟩
  unfold dAlias
  rw [this]; rfl
theorem step11 (hok : okHouses hs) (hol : ow.length = 12) (how : inR ow) : ∃ fo t2 t7 t12, fo.length = 12 ∧ inR fo ∧ g_shared [tI ow, lI hs] = some (tI fo, [tI ow, lI hs]) ∧ g__law_shared [tI ow, lI hs] = some (tI fo, [tI ow, lI hs]) ∧
    dSet 11 (eCall g_shared (dCons (dVar 6) (dCons (dVar 10) dNil))) (eLv sc ns st s2 l so m ow s7 (.own (.dat (.int a))) (.own (lI hs)) (.own (lI hs)) s11 s12) = some (.nx (eLv sc ns st t2 l so m ow t7 (.own (.dat (.int a))) (.own (lI hs)) (.own (lI hs)) (.own (tI fo)) t12)) := by
  obtain ⟨up, h0, h6, hh⟩ := id hok
  let low : Int := 12 / (hs.length : Int)
  obtain ⟨more, em⟩ : ∃ more : Nat, (more : Int) = 12 % (hs.length : Int) := ⟨(12 % (hs.length : Int)).toNat, by
    have := Int.emod_nonneg 12 (show (hs.length : Int) ≠ 0 by omega)
    omega⟩
  have h1 := v_shared (low := low) (more := more) (up := up) hok hol how rfl em
  have h2 := v_lshared (low := low) (more := more) (up := up) (ow := ow) h0 h6 hol rfl em
  have emod : 12 = (hs.length : Int) * (12 / (hs.length : Int)) + 12 % (hs.length : Int) := by
    have := Int.mul_ediv_add_emod 12 (hs.length : Int)
    omega
  have e : (ow.length : Int) = low * hs.length + more := by
    rw [hol, em, Int.mul_comm]
    exact emod
  have lm : (more : Int) ≤ hs.length := by
    rw [em]
    have := Int.emod_lt_of_pos 12 (show (0 : Int) < (hs.length : Int) by omega)
    omega
  have low0 : 0 ≤ low := Int.ediv_nonneg (by omega) (by omega)
  obtain ⟨b, _, p1, p2, _⟩ := shared_ok up e lm low0
  let kk : Sl → Sl := fun x => killHead 11 (kill1 [10] x)
  refine ⟨_, kk s2, kk s7, kk s12, by rw [← hol]; exact p1, fun i mi => hh i (p2.1 i mi), h1, h2, ?_⟩
  exact dSet_go (eCall_go (rs := [.val (tI ow), .pl [10]]) rfl rfl rfl h1)
theorem cond1 (hfo : fo.length = 12) (h2 : g__law_shared [tI ow, lI hs] = some (tI fo, [tI ow, lI hs])) : ∃ t2 t7 t12,
    eOr (eNot (eTest (eEff (lConsP (dVar 11) (lConsE (eCall g__law_shared (dCons (dVar 6) (dCons (dVar 9) dNil))) lNil)) fun k => dWhen k 2 (eCall (g__law_alike 4) (dGhs k))))) (ePureT (dTest (dOp fNeD (dVar 10) (dVar 9)))) (eLv sc ns st s2 l so m ow s7 (.own (.dat (.int a))) (.own (lI hs)) (.own (lI hs)) (.own (tI fo)) s12) =
      some (false, eLv sc ns st t2 l so m ow t7 (.own (.dat (.int a))) (.own (lI hs)) (.own (lI hs)) (.own (tI fo)) t12) := by
  let E0 : En := eLv sc ns st s2 l so m ow s7 (.own (.dat (.int a))) (.own (lI hs)) (.own (lI hs)) (.own (tI fo)) s12
  let E1 : En := E0 ++ [.own (tI fo)]
  let E2 : En := killAll (putAll E1 [.val (tI ow), .pl [9]] [tI ow, lI hs]) [.val (tI ow), .pl [9]]
  have hc : eCall g__law_shared (dCons (dVar 6) (dCons (dVar 9) dNil)) E1 = some (tI fo, E2) := eCall_go rfl rfl rfl h2
  have hl : lConsP (dVar 11) (lConsE (eCall g__law_shared (dCons (dVar 6) (dCons (dVar 9) dNil))) lNil) E0 = some (2, E2 ++ [.own (tI fo)]) := by
    show up1 (lConsE (eCall g__law_shared (dCons (dVar 6) (dCons (dVar 9) dNil))) lNil E1) = _
    unfold lConsE
    rw [hc]; rfl
  have hal : eCall (g__law_alike 4) (dGhs 2) (E2 ++ [.own (tI fo)]) = some (.dat (.bool true), E2 ++ [.own (tI fo)]) := eCall_go (rs := [.val (tI fo), .val (tI fo)]) rfl rfl rfl (v_alike fo (by omega))
  let kk : Sl → Sl := fun x => killHead 14 (killHead 15 (kill1 [9] x))
  let E3 : En := eLv sc ns st (kk s2) l so m ow (kk s7) (.own (.dat (.int a))) (.own (lI hs)) (.own (lI hs)) (.own (tI fo)) (kk s12)
  have hef : eEff (lConsP (dVar 11) (lConsE (eCall g__law_shared (dCons (dVar 6) (dCons (dVar 9) dNil))) lNil)) (fun k => dWhen k 2 (eCall (g__law_alike 4) (dGhs k))) E0 = some (.dat (.bool true), E3) := by
    unfold eEff
    rw [hl]
    have : dWhen 2 2 (eCall (g__law_alike 4) (dGhs 2)) (E2 ++ [.own (tI fo)]) = some (.dat (.bool true), E2 ++ [.own (tI fo)]) := by
      unfold dWhen
      rw [if_pos rfl, hal]
    simp only [this]
    rfl
  have hne : ePureT (dTest (dOp fNeD (dVar 10) (dVar 9))) E3 = some (false, E3) := by
    unfold ePureT dTest
    rw [dOp_go (E := E3) (da := dVar 10) (db := dVar 9) (a := .pl [10]) (b := .pl [9]) (x := .list (hs.map .int)) (y := .list (hs.map .int)) rfl rfl (lI_toD hs) (lI_toD hs) (neD_self hs)]
    rfl
  exact ⟨kk s2, kk s7, kk s12, eOr_f (eNot_go (eTest_go hef)) hne⟩
theorem stepC : ∃ t2 t7 t12, dDrop (eBM0 oClear (dVar 10)) (eLv sc ns st s2 l so m ow s7 (.own (.dat (.int a))) (.own (lI hs)) (.own (lI hs)) (.own (tI fo)) s12) =
      some (.nx (eLv sc ns st t2 l so m ow t7 (.own (.dat (.int a))) (.own (lI hs)) (.own (.lst [])) (.own (tI fo)) t12)) :=
  ⟨kill1 [10] s2, kill1 [10] s7, kill1 [10] s12, rfl⟩
theorem cond2 (hfo : fo.length = 12) (h1 : g_shared [tI ow, lI hs] = some (tI fo, [tI ow, lI hs])) : ∃ t2 t7 t12,
    eNot (eTest (eEff (lConsE (eCall g_shared (dCons (dVar 6) (dCons (dVar 9) dNil))) (lConsP (dVar 11) lNil)) fun k => dWhen k 2 (eCall (g__law_alike 4) (dGhs k)))) (eLv sc ns st s2 l so m ow s7 (.own (.dat (.int a))) (.own (lI hs)) (.own (.lst [])) (.own (tI fo)) s12) =
      some (false, eLv sc ns st t2 l so m ow t7 (.own (.dat (.int a))) (.own (lI hs)) (.own (.lst [])) (.own (tI fo)) t12) := by
  let E0 : En := eLv sc ns st s2 l so m ow s7 (.own (.dat (.int a))) (.own (lI hs)) (.own (.lst [])) (.own (tI fo)) s12
  let E2 : En := killAll (putAll E0 [.val (tI ow), .pl [9]] [tI ow, lI hs]) [.val (tI ow), .pl [9]]
  have hc : eCall g_shared (dCons (dVar 6) (dCons (dVar 9) dNil)) E0 = some (tI fo, E2) := eCall_go rfl rfl rfl h1
  have hl : lConsE (eCall g_shared (dCons (dVar 6) (dCons (dVar 9) dNil))) (lConsP (dVar 11) lNil) E0 = some (2, E2 ++ [.own (tI fo)] ++ [.own (tI fo)]) := by
    unfold lConsE
    rw [hc]; rfl
  have hal : eCall (g__law_alike 4) (dGhs 2) (E2 ++ [.own (tI fo)] ++ [.own (tI fo)]) = some (.dat (.bool true), E2 ++ [.own (tI fo)] ++ [.own (tI fo)]) := eCall_go (rs := [.val (tI fo), .val (tI fo)]) rfl rfl rfl (v_alike fo (by omega))
  let kk : Sl → Sl := fun x => killHead 14 (killHead 15 (kill1 [9] x))
  let E3 : En := eLv sc ns st (kk s2) l so m ow (kk s7) (.own (.dat (.int a))) (.own (lI hs)) (.own (.lst [])) (.own (tI fo)) (kk s12)
  have hef : eEff (lConsE (eCall g_shared (dCons (dVar 6) (dCons (dVar 9) dNil))) (lConsP (dVar 11) lNil)) (fun k => dWhen k 2 (eCall (g__law_alike 4) (dGhs k))) E0 = some (.dat (.bool true), E3) := by
    unfold eEff
    rw [hl]
    have : dWhen 2 2 (eCall (g__law_alike 4) (dGhs 2)) (E2 ++ [.own (tI fo)] ++ [.own (tI fo)]) = some (.dat (.bool true), E2 ++ [.own (tI fo)] ++ [.own (tI fo)]) := by
      unfold dWhen
      rw [if_pos rfl, hal]
    simp only [this]
    rfl
  exact ⟨kk s2, kk s7, kk s12, eNot_go (eTest_go hef)⟩
theorem stepE : ∃ t2 t7 t12, dAlias 6 (dVar 11) (eLv sc ns st s2 l so m ow s7 (.own (.dat (.int a))) (.own (lI hs)) (.own (.lst [])) (.own (tI fo)) s12) =
      some (.nx (eLv sc ns st t2 l so m fo t7 (.own (.dat (.int a))) (.own (lI hs)) (.own (.lst [])) (.own (tI fo)) t12)) :=
  ⟨killHead 6 s2, killHead 6 s7, killHead 6 s12, rfl⟩
end
end K02
namespace K02
open PySem PySem.Spec PyProof.Rows L2 Mv Sh
def dAgBody : En → Option Out := (dSeq (dSet 8 (eCall g__law_take (dCons (dVar 1) (dCons (dC (.int 4)) dNil))))
    (dSeq (dSet 9 (eCS fSorted (eSl fSlL (lConsP (dVar 4) lNil) (ePureO (dPart (dVar 8))) (ePartE (eOp fAdd (ePure (dOp fAdd (dVar 8) (dC (.int 1)))) (eCall g__law_take (dCons (dVar 1) (dCons (dCB fMin2 (dCons (dC (.int 6)) (dCons (dOp fSub (dC (.int 8)) (dVar 8)) dNil))) dNil))))))))
    (dSeq (dAlias 10 (dCS fList (dCons (dVar 9) dNil)))
    (dSeq (dSet 11 (eCall g_shared (dCons (dVar 6) (dCons (dVar 10) dNil))))
    (dSeq (dIf (eOr (eNot (eTest (eEff (lConsP (dVar 11) (lConsE (eCall g__law_shared (dCons (dVar 6) (dCons (dVar 9) dNil))) lNil)) fun k => dWhen k 2 (eCall (g__law_alike 4) (dGhs k))))) (ePureT (dTest (dOp fNeD (dVar 10) (dVar 9))))) (dRet (ePure (dC (.bool false)))) dNext)
    (dSeq (dDrop (eBM0 oClear (dVar 10)))
    (dSeq (dIf (eNot (eTest (eEff (lConsE (eCall g_shared (dCons (dVar 6) (dCons (dVar 9) dNil))) (lConsP (dVar 11) lNil)) fun k => dWhen k 2 (eCall (g__law_alike 4) (dGhs k))))) (dRet (ePure (dC (.bool false)))) dNext)
    (dAlias 6 (dVar 11)))))))))
theorem ag_turn {sc : List PyData} {ns : List Int} {st : Int} {so ow : List Int} {m : Int} {l : S} {s2 s7 s8 s9 s10 s11 s12 : Sl} (hso : so.length = 8) (hnd : so.Nodup) (hin : inR so) (hol : ow.length = 12) (how : inR ow) (hns : ns.length < 1000) :
    ∃ fo ns' st' t2 t7 t8 t9 t10 t11 t12, fo.length = 12 ∧ inR fo ∧ ns'.length < 1000 ∧ dAgBody (eLv sc ns st s2 l so m ow s7 s8 s9 s10 s11 s12) = some (.nx (eLv sc ns' st' t2 l so m fo t7 t8 t9 t10 t11 t12)) := by
  obtain ⟨j, ns1, st1, a2, a7, a9, a10, a11, a12, hj, hn1, e8⟩ := step8 (sc := sc) (st := st) (so := so) (ow := ow) (m := m) (l := l) (s2 := s2) (s7 := s7) (s8 := s8) (s9 := s9) (s10 := s10) (s11 := s11) (s12 := s12) hns
  obtain ⟨hs, ns2, st2, b2, b7, b10, b11, b12, hok, hn2, e9⟩ := step9 (sc := sc) (st := st1) (so := so) (ow := ow) (m := m) (l := l) (s2 := a2) (s7 := a7) (s9 := a9) (s10 := a10) (s11 := a11) (s12 := a12) hj hso hnd hin hn1
  obtain ⟨c2, c7, c11, c12, e10⟩ := step10 (sc := sc) (ns := ns2) (st := st2) (so := so) (ow := ow) (m := m) (l := l) (hs := hs) (s2 := b2) (s7 := b7) (s8 := .own (.dat (.int ((j : Nat) : Int)))) (s10 := b10) (s11 := b11) (s12 := b12)
  obtain ⟨fo, d2, d7, d12, hfl, hfr, h1, h2, e11⟩ := step11 (sc := sc) (ns := ns2) (st := st2) (so := so) (ow := ow) (m := m) (l := l) (hs := hs) (a := ((j : Nat) : Int)) (s2 := c2) (s7 := c7) (s11 := c11) (s12 := c12) hok hol how
  obtain ⟨f2, f7, f12, ec⟩ := cond1 (sc := sc) (ns := ns2) (st := st2) (so := so) (ow := ow) (m := m) (l := l) (hs := hs) (a := ((j : Nat) : Int)) (s2 := d2) (s7 := d7) (s12 := d12) hfl h2
  obtain ⟨g2, g7, g12, ecl⟩ := stepC (sc := sc) (ns := ns2) (st := st2) (so := so) (ow := ow) (m := m) (l := l) (hs := hs) (fo := fo) (a := ((j : Nat) : Int)) (s2 := f2) (s7 := f7) (s12 := f12)
  obtain ⟨h2', h7, h12, ed⟩ := cond2 (sc := sc) (ns := ns2) (st := st2) (so := so) (ow := ow) (m := m) (l := l) (hs := hs) (a := ((j : Nat) : Int)) (s2 := g2) (s7 := g7) (s12 := g12) hfl h1
  obtain ⟨i2, i7, i12, ee⟩ := stepE (sc := sc) (ns := ns2) (st := st2) (so := so) (ow := ow) (m := m) (l := l) (hs := hs) (fo := fo) (a := ((j : Nat) : Int)) (s2 := h2') (s7 := h7) (s12 := h12)
  exact ⟨fo, ns2, st2, i2, i7, _, _, _, _, i12, hfl, hfr, hn2, dSeq_go e8 (dSeq_go e9 (dSeq_go e10 (dSeq_go e11 (dSeq_go (dIf_f ec rfl) (dSeq_go ecl (dSeq_go (dIf_f ed rfl) ee))))))⟩
def dTuBody : En → Option Out := (dSeq (dAlias 3 (dLstRg1 (dC (.int 20))))
    (dSeq (dSet 4 (eLc (iRange (dC (.int 8))) 12 eYes (eBM1E oPopAt (dVar 3) (eCall g__law_take (dCons (dVar 1) (dCons (dLen (dVar 3)) dNil))))))
    (dSeq (dSet 5 (eEff (lConsP (dLst (dCons (dC (.int 1)) (dCons (dC (.int 2)) (dCons (dC (.int 6)) dNil)))) (lConsE (eCall g__law_take (dCons (dVar 1) (dCons (dC (.int 3)) dNil))) lNil)) fun k => dWhen k 2 (ePure (dIxL (dGh k 0) (dGh k 1)))))
    (dSeq (dSet 6 (eCS fTuple (eLc (iRange (dC (.int 12))) 12 eYes (eEff (lConsP (dVar 4) (lConsE (eCall g__law_take (dCons (dVar 1) (dCons (dVar 5) dNil))) lNil)) fun k => dWhen k 2 (ePure (dIxL (dGh k 0) (dGh k 1)))))))
    (dFor (iRangeE (eOp fAdd (ePure (dC (.int 1))) (eCall g__law_take (dCons (dVar 1) (dCons (dC (.int 3)) dNil))))) (bName 7) dAgBody)))))
/-- the slots of the law's frame, of which only script and box are known -/
def eLy (sc : List PyData) (ns : List Int) (st : Int) (s2 s3 s4 s5 s6 s7 s8 s9 s10 s11 s12 : Sl) : En := [.own (.dat (.list sc)), .own (bx ns st), s2, s3, s4, s5, s6, s7, s8, s9, s10, s11, s12, .own (.dat (.list sc))]
theorem tu_turn {sc : List PyData} {ns : List Int} {st : Int} {s2 s3 s4 s5 s6 s7 s8 s9 s10 s11 s12 : Sl} (hns : ns.length < 1000) :
    ∃ ns' st' t2 t3 t4 t5 t6 t7 t8 t9 t10 t11 t12, ns'.length < 1000 ∧ dTuBody (eLy sc ns st s2 s3 s4 s5 s6 s7 s8 s9 s10 s11 s12) = some (.nx (eLy sc ns' st' t2 t3 t4 t5 t6 t7 t8 t9 t10 t11 t12)) := by
  have e3 : dAlias 3 (dLstRg1 (dC (.int 20))) (eLy sc ns st s2 s3 s4 s5 s6 s7 s8 s9 s10 s11 s12) = some (.nx (eLw (.dat (.list sc)) ns st (killHead 3 s2) (.lst (rgS 0 20)) (killHead 3 s4) (killHead 3 s5) (killHead 3 s6) (killHead 3 s7) (killHead 3 s8) (killHead 3 s9) (killHead 3 s10) (killHead 3 s11) (killHead 3 s12))) := by
    have : dLstRg1 (dC (.int 20)) (eLy sc ns st s2 s3 s4 s5 s6 s7 s8 s9 s10 s11 s12) = some (.val (.lst (rgS 0 20))) := by
      show (if (0 : Int) ≤ 20 ∧ (20 : Int) ≤ 16777216 then some (Rs.val (S.lst (rgS 0 20))) else none) = _
      exact if_pos (by omega)
    unfold dAlias
    rw [this]; rfl
  obtain ⟨so, ns1, st1, l1, a2, a5, a6, a7, a8, a9, a10, a11, a12, hso, hnd, hin, hn1, e4⟩ := some_loop (sc := sc) (ns := ns) (st := st) (s2 := killHead 3 s2) (s4 := killHead 3 s4) (s5 := killHead 3 s5) (s6 := killHead 3 s6) (s7 := killHead 3 s7) (s8 := killHead 3 s8) (s9 := killHead 3 s9) (s10 := killHead 3 s10) (s11 := killHead 3 s11) (s12 := killHead 3 s12) hns
  obtain ⟨m, ns2, st2, b2, b4, b6, b7, b8, b9, b10, b11, b12, m1, m6, hn2, hb4, e5⟩ := most_step (sc := sc) (ns := ns1) (st := st1) (l := l1) (s2 := a2) (s4 := .own (lI so)) (s5 := a5) (s6 := a6) (s7 := a7) (s8 := a8) (s9 := a9) (s10 := a10) (s11 := a11) (s12 := a12) hn1
  have hb := hb4 so rfl
  subst hb
  obtain ⟨ow, ns3, st3, c2, c7, c8, c9, c10, c11, c12, hol, how, hn3, e6⟩ := owners_loop (sc := sc) (ns := ns2) (st := st2) (so := so) (m := m) (l := l1) (s2 := b2) (s6 := b6) (s7 := b7) (s8 := b8) (s9 := b9) (s10 := b10) (s11 := b11) (s12 := b12) hn2 hso hin m1 m6
  obtain ⟨r, ns4, st4, r0, r1, hn4, htake⟩ := v_take (ns := ns3) (st := st3) (many := 3) (by omega) (by omega) hn3
  let E0 : En := eLv sc ns3 st3 c2 l1 so m ow c7 c8 c9 c10 c11 c12
  let E1 : En := eLv sc ns4 st4 (kill1 [1] c2) l1 so m ow (kill1 [1] c7) (kill1 [1] c8) (kill1 [1] c9) (kill1 [1] c10) (kill1 [1] c11) (kill1 [1] c12)
  have hcall : eCall g__law_take (dCons (dVar 1) (dCons (dC (.int 3)) dNil)) E0 = some (.dat (.int r), E1) := eCall_go (rs := [.pl [1], .val (.dat (.int 3))]) rfl rfl rfl htake
  have hop : eOp fAdd (ePure (dC (.int 1))) (eCall g__law_take (dCons (dVar 1) (dCons (dC (.int 3)) dNil))) E0 = some (.dat (.int (1 + r)), E1) := by
    unfold eOp
    rw [show ePure (dC (.int 1)) E0 = some (.dat (.int 1), E0) from rfl]
    simp only [hcall]
    rfl
  have hloop := loop_inv (rd := fun _ i => some (if i < (1 + r : Int).toNat then some (Rs.val (.dat (.int (i : Nat)))) else none)) (bd := bName 7) (db := dAgBody)
    (fun i E => ∃ ow ns st t2 t7 t8 t9 t10 t11 t12, ow.length = 12 ∧ inR ow ∧ ns.length < 1000 ∧ E = eLv sc ns st t2 l1 so m ow t7 t8 t9 t10 t11 t12) (1 + r : Int).toNat
    (fun i E hi hJ => by
      obtain ⟨ow, ns, st, t2, t7, t8, t9, t10, t11, t12, hol, how, hns, rfl⟩ := hJ
      obtain ⟨fo, ns', st', u2, u7, u8, u9, u10, u11, u12, hfl, hfr, hn', hh⟩ := ag_turn (sc := sc) (ns := ns) (st := st) (so := so) (ow := ow) (m := m) (l := l1) (s2 := killHead 7 t2) (s7 := .own (.dat (.int (i : Nat)))) (s8 := killHead 7 t8) (s9 := killHead 7 t9) (s10 := killHead 7 t10) (s11 := killHead 7 t11) (s12 := killHead 7 t12) hso hnd hin hol how hns
      exact ⟨.val (.dat (.int (i : Nat))), _, _, rng_rd (E := []) hi, rfl, hh, fo, ns', st', u2, u7, u8, u9, u10, u11, u12, hfl, hfr, hn', rfl⟩)
    (fun E _ => rng_end (E := []) (n := (1 + r : Int).toNat)) (1 + r : Int).toNat 0 (1 + r : Int).toNat E1 (by omega) (Nat.le_refl _) ⟨ow, ns4, st4, _, _, _, _, _, _, _, hol, how, by omega, rfl⟩
  obtain ⟨E', hE, ow', ns5, st5, t2, t7, t8, t9, t10, t11, t12, _, _, hn5, rfl⟩ := hloop
  have e7 := dFor_go (src := iRangeE (eOp fAdd (ePure (dC (.int 1))) (eCall g__law_take (dCons (dVar 1) (dCons (dC (.int 3)) dNil))))) (bd := bName 7) (db := dAgBody) (E := E0) (iRangeE_go hop (by omega) (by omega)) hE
  exact ⟨ns5, st5, t2, .own l1, .own (lI so), .own (.dat (.int m)), .own (tI ow'), t7, t8, t9, t10, t11, t12, hn5, dSeq_go e3 (dSeq_go e4 (dSeq_go e5 (dSeq_go e6 e7)))⟩
theorem v_law {ns : List Int} (hl : ns.length < 1000) : g_law [.dat (.list (ns.map .int))] = some (.dat (.bool true), [.dat (.list (ns.map .int))]) := by
  obtain ⟨st, hb⟩ := v_begun hl
  have c1 : dSet 1 (eCall g__law_begun (dCons (dVar 0) dNil)) (entry 13 [.dat (.list (ns.map .int))]) = some (.nx (eLy (ns.map .int) ns st .no .no .no .no .no .no .no .no .no .no .no)) :=
    dSet_go (eCall_go (rs := [.val (.dat (.list (ns.map .int)))]) rfl rfl rfl hb)
  have hloop := loop_inv (rd := fun _ i => some (if i < (4 : Int).toNat then some (Rs.val (.dat (.int (i : Nat)))) else none)) (bd := bName 2) (db := dTuBody)
    (fun i E => ∃ ns' st' t2 t3 t4 t5 t6 t7 t8 t9 t10 t11 t12, ns'.length < 1000 ∧ E = eLy (ns.map .int) ns' st' t2 t3 t4 t5 t6 t7 t8 t9 t10 t11 t12) 4
    (fun i E hi hJ => by
      obtain ⟨ns', st', t2, t3, t4, t5, t6, t7, t8, t9, t10, t11, t12, hn, rfl⟩ := hJ
      obtain ⟨ns2, st2, u2, u3, u4, u5, u6, u7, u8, u9, u10, u11, u12, hn2, hh⟩ := tu_turn (sc := ns.map .int) (ns := ns') (st := st') (s2 := .own (.dat (.int (i : Nat)))) (s3 := killHead 2 t3) (s4 := killHead 2 t4) (s5 := killHead 2 t5) (s6 := killHead 2 t6) (s7 := killHead 2 t7) (s8 := killHead 2 t8) (s9 := killHead 2 t9) (s10 := killHead 2 t10) (s11 := killHead 2 t11) (s12 := killHead 2 t12) hn
      exact ⟨.val (.dat (.int (i : Nat))), _, _, rng_rd (E := []) hi, rfl, hh, ns2, st2, u2, u3, u4, u5, u6, u7, u8, u9, u10, u11, u12, hn2, rfl⟩)
    (fun E _ => rng_end (E := []) (n := 4)) 4 0 4 (eLy (ns.map .int) ns st .no .no .no .no .no .no .no .no .no .no .no) rfl (Nat.le_refl _) ⟨ns, st, .no, .no, .no, .no, .no, .no, .no, .no, .no, .no, .no, hl, rfl⟩
  obtain ⟨E', hE, ns', st', t2, t3, t4, t5, t6, t7, t8, t9, t10, t11, t12, _, rfl⟩ := hloop
  have c2 := dFor_go (src := iRange (dC (.int 4))) (bd := bName 2) (db := dTuBody) (E := eLy (ns.map .int) ns st .no .no .no .no .no .no .no .no .no .no .no) (c := ⟨eLy (ns.map .int) ns st .no .no .no .no .no .no .no .no .no .no .no, [], _, 4⟩) rfl hE
  exact fnG_rt (dSeq_go c1 (dSeq_go c2 rfl)) rfl
end K02
namespace K02
open PySem PySem.Spec PyProof.Rows L2
def topS (i : Nat) : Stmt := PySem.Challenge.pw_drainhouse_k02_shares.main.body.getD i (.Pass ⟨0, 0, 0, 0⟩)
abbrev s_is_within : Stmt := topS 8
theorem sc_is_within : FnScope ["value", "least", "most"] ["value", "least", "most"] (defScope s_is_within) := ⟨rfl, rfl, rfl, by decide +kernel, rfl, by decide +kernel, by decide +kernel⟩
abbrev s_is_house : Stmt := topS 9
theorem sc_is_house : FnScope ["value"] ["value"] (defScope s_is_house) := ⟨rfl, rfl, rfl, by decide +kernel, rfl, by decide +kernel, by decide +kernel⟩
abbrev s_is_owners : Stmt := topS 10
theorem sc_is_owners : FnScope ["value", "owner"] ["value"] (defScope s_is_owners) := ⟨rfl, rfl, rfl, by decide +kernel, rfl, by decide +kernel, by decide +kernel⟩
abbrev s_are_houses : Stmt := topS 11
theorem sc_are_houses : FnScope ["values", "house"] ["values"] (defScope s_are_houses) := ⟨rfl, rfl, rfl, by decide +kernel, rfl, by decide +kernel, by decide +kernel⟩
abbrev s_shared : Stmt := topS 13
theorem sc_shared : FnScope ["owners", "houses", "given", "chosen", "slot", "house"] ["owners", "houses"] (defScope s_shared) := ⟨rfl, rfl, rfl, by decide +kernel, rfl, by decide +kernel, by decide +kernel⟩
abbrev s_first_owner : Stmt := topS 14
theorem sc_first_owner : FnScope ["given", "rest", "best", "house", "kept", "stays"] ["given", "rest"] (defScope s_first_owner) := ⟨rfl, rfl, rfl, by decide +kernel, rfl, by decide +kernel, by decide +kernel⟩
abbrev s_most_kept : Stmt := topS 15
theorem sc_most_kept : FnScope ["given", "rest", "low", "larger", "kept", "for_more", "house", "room"] ["given", "rest"] (defScope s_most_kept) := ⟨rfl, rfl, rfl, by decide +kernel, rfl, by decide +kernel, by decide +kernel⟩
abbrev s__law_begun : Stmt := topS 17
theorem sc__law_begun : FnScope ["_law_script", "_law_stirred", "_law_cell"] ["_law_script"] (defScope s__law_begun) := ⟨rfl, rfl, rfl, by decide +kernel, rfl, by decide +kernel, by decide +kernel⟩
abbrev s__law_take : Stmt := topS 18
theorem sc__law_take : FnScope ["_law_box", "_law_many", "_law_number"] ["_law_box", "_law_many"] (defScope s__law_take) := ⟨rfl, rfl, rfl, by decide +kernel, rfl, by decide +kernel, by decide +kernel⟩
abbrev s__law_alike : Stmt := topS 19
theorem sc__law_alike : FnScope ["_law_found", "_law_due", "_law_k"] ["_law_found", "_law_due"] (defScope s__law_alike) := ⟨rfl, rfl, rfl, by decide +kernel, rfl, by decide +kernel, by decide +kernel⟩
abbrev s__law_moved : Stmt := topS 20
theorem sc__law_moved : FnScope ["_law_owners", "_law_others", "_law_k"] ["_law_owners", "_law_others"] (defScope s__law_moved) := ⟨rfl, rfl, rfl, by decide +kernel, rfl, by decide +kernel, by decide +kernel⟩
abbrev s__law_choices : Stmt := topS 21
theorem sc__law_choices : FnScope ["_law_houses", "_law_many", "_law_found", "_law_k", "_law_rest"] ["_law_houses", "_law_many"] (defScope s__law_choices) := ⟨rfl, rfl, rfl, by decide +kernel, rfl, by decide +kernel, by decide +kernel⟩
abbrev s__law_stay : Stmt := topS 22
theorem sc__law_stay : FnScope ["_law_owners", "_law_houses", "_law_share", "_law_found", "_law_more", "_law_house"] ["_law_owners", "_law_houses"] (defScope s__law_stay) := ⟨rfl, rfl, rfl, by decide +kernel, rfl, by decide +kernel, by decide +kernel⟩
abbrev s__law_shared : Stmt := topS 23
theorem sc__law_shared : FnScope ["_law_owners", "_law_houses", "_law_best", "_law_share", "_law_found", "_law_more", "_law_left", "_law_house"] ["_law_owners", "_law_houses"] (defScope s__law_shared) := ⟨rfl, rfl, rfl, by decide +kernel, rfl, by decide +kernel, by decide +kernel⟩
abbrev s__law_first : Stmt := topS 24
theorem sc__law_first : FnScope ["_law_owners", "_law_houses", "_law_left", "_law_found", "_law_k", "_law_rest", "_law_here", "_law_house", "_law_later", "_law_one"] ["_law_owners", "_law_houses", "_law_left"] (defScope s__law_first) := ⟨rfl, rfl, rfl, by decide +kernel, rfl, by decide +kernel, by decide +kernel⟩
abbrev s_law : Stmt := topS 25
theorem sc_law : FnScope ["_law_script", "_law_box", "_law_turn", "_law_left", "_law_some", "_law_most", "_law_owners", "_law_again", "_law_at", "_law_houses", "_law_handed", "_law_found", "_law_k"] ["_law_script"] (defScope s_law) := ⟨rfl, rfl, rfl, by decide +kernel, rfl, by decide +kernel, by decide +kernel⟩
structure Txt (K : PySem.W.Frag) (mg : Str → Option Value) where
  n_all : mg "all" = none
  n_bool : mg "bool" = none
  n_dict : mg "dict" = none
  n_divmod : mg "divmod" = none
  n_int : mg "int" = none
  n_isinstance : mg "isinstance" = none
  n_len : mg "len" = none
  n_list : mg "list" = none
  n_max : mg "max" = none
  n_min : mg "min" = none
  n_range : mg "range" = none
  n_set : mg "set" = none
  n_sorted : mg "sorted" = none
  n_str : mg "str" = none
  n_sum : mg "sum" = none
  n_tuple : mg "tuple" = none
  t_SLOTS : Tok
  c_SLOTS : mg "SLOTS" = some (.int 12 t_SLOTS)
  t_LAST_NAME : Tok
  c_LAST_NAME : mg "LAST_NAME" = some (.int 19 t_LAST_NAME)
  t_MOST_HOUSES : Tok
  c_MOST_HOUSES : mg "MOST_HOUSES" = some (.int 6 t_MOST_HOUSES)
  a_is_within : Addr
  d_is_within : FuncData
  F_is_within : Fun K "is_within" "is_within" s_is_within a_is_within d_is_within
  m_is_within : mg "is_within" = some (.ref a_is_within)
  b_is_within : Binds K d_is_within ["value", "least", "most"] []
  a_is_house : Addr
  d_is_house : FuncData
  F_is_house : Fun K "is_house" "is_house" s_is_house a_is_house d_is_house
  m_is_house : mg "is_house" = some (.ref a_is_house)
  b_is_house : Binds K d_is_house ["value"] []
  a_is_owners : Addr
  d_is_owners : FuncData
  F_is_owners : Fun K "is_owners" "is_owners" s_is_owners a_is_owners d_is_owners
  m_is_owners : mg "is_owners" = some (.ref a_is_owners)
  b_is_owners : Binds K d_is_owners ["value"] []
  a_are_houses : Addr
  d_are_houses : FuncData
  F_are_houses : Fun K "are_houses" "are_houses" s_are_houses a_are_houses d_are_houses
  m_are_houses : mg "are_houses" = some (.ref a_are_houses)
  b_are_houses : Binds K d_are_houses ["values"] []
  a_shared : Addr
  d_shared : FuncData
  F_shared : Fun K "shared" "shared" s_shared a_shared d_shared
  m_shared : mg "shared" = some (.ref a_shared)
  b_shared : Binds K d_shared ["owners", "houses"] []
  a_first_owner : Addr
  d_first_owner : FuncData
  F_first_owner : Fun K "first_owner" "first_owner" s_first_owner a_first_owner d_first_owner
  m_first_owner : mg "first_owner" = some (.ref a_first_owner)
  b_first_owner : Binds K d_first_owner ["given", "rest"] []
  a_most_kept : Addr
  d_most_kept : FuncData
  F_most_kept : Fun K "most_kept" "most_kept" s_most_kept a_most_kept d_most_kept
  m_most_kept : mg "most_kept" = some (.ref a_most_kept)
  b_most_kept : Binds K d_most_kept ["given", "rest"] []
  a__law_begun : Addr
  d__law_begun : FuncData
  F__law_begun : Fun K "_law_begun" "_law_begun" s__law_begun a__law_begun d__law_begun
  m__law_begun : mg "_law_begun" = some (.ref a__law_begun)
  b__law_begun : Binds K d__law_begun ["_law_script"] []
  a__law_take : Addr
  d__law_take : FuncData
  F__law_take : Fun K "_law_take" "_law_take" s__law_take a__law_take d__law_take
  m__law_take : mg "_law_take" = some (.ref a__law_take)
  b__law_take : Binds K d__law_take ["_law_box", "_law_many"] []
  a__law_alike : Addr
  d__law_alike : FuncData
  F__law_alike : Fun K "_law_alike" "_law_alike" s__law_alike a__law_alike d__law_alike
  m__law_alike : mg "_law_alike" = some (.ref a__law_alike)
  b__law_alike : Binds K d__law_alike ["_law_found", "_law_due"] []
  a__law_moved : Addr
  d__law_moved : FuncData
  F__law_moved : Fun K "_law_moved" "_law_moved" s__law_moved a__law_moved d__law_moved
  m__law_moved : mg "_law_moved" = some (.ref a__law_moved)
  b__law_moved : Binds K d__law_moved ["_law_owners", "_law_others"] []
  a__law_choices : Addr
  d__law_choices : FuncData
  F__law_choices : Fun K "_law_choices" "_law_choices" s__law_choices a__law_choices d__law_choices
  m__law_choices : mg "_law_choices" = some (.ref a__law_choices)
  b__law_choices : Binds K d__law_choices ["_law_houses", "_law_many"] []
  a__law_stay : Addr
  d__law_stay : FuncData
  F__law_stay : Fun K "_law_stay" "_law_stay" s__law_stay a__law_stay d__law_stay
  m__law_stay : mg "_law_stay" = some (.ref a__law_stay)
  b__law_stay : Binds K d__law_stay ["_law_owners", "_law_houses"] []
  a__law_shared : Addr
  d__law_shared : FuncData
  F__law_shared : Fun K "_law_shared" "_law_shared" s__law_shared a__law_shared d__law_shared
  m__law_shared : mg "_law_shared" = some (.ref a__law_shared)
  b__law_shared : Binds K d__law_shared ["_law_owners", "_law_houses"] []
  a__law_first : Addr
  d__law_first : FuncData
  F__law_first : Fun K "_law_first" "_law_first" s__law_first a__law_first d__law_first
  m__law_first : mg "_law_first" = some (.ref a__law_first)
  b__law_first : Binds K d__law_first ["_law_owners", "_law_houses", "_law_left"] []
  a_law : Addr
  d_law : FuncData
  F_law : Fun K "law" "law" s_law a_law d_law
  m_law : mg "law" = some (.ref a_law)
  b_law : Binds K d_law ["_law_script"] []
end K02
namespace K02
open PySem PySem.Spec PyProof.Rows L2 Mv
section
variable {P : Program} {w : World} {K : PySem.W.Frag} {mg : Str → Option Value} {base : Heap}
theorem ok_is_within (T : Txt K mg) : FnOk P w K mg base CX0 1 T.a_is_within T.d_is_within ["value", "least", "most"] (spMv K 3 g_is_within) := by
  refine fn_mv T.F_is_within sc_is_within (fun cdv A outer s H E as hr => ?_)
  exact ⟨_, (pss_one (ps_ret (pe_and (pe_callB (r := rIsi K) call_isi (by rfl) T.n_isinstance (by decide +kernel) (pa_cons (pv 0) (pa_cons (pe_bltn (v := .ty "int") (u := .type "int") (by rfl) T.n_int (by decide +kernel) rfl) pa_nil))) (pe_and (pe_not (pe_callB (r := rIsi K) call_isi (by rfl) T.n_isinstance (by decide +kernel) (pa_cons (pv 0) (pa_cons (pe_bltn (v := .ty "bool") (u := .type "bool") (by rfl) T.n_bool (by decide +kernel) rfl) pa_nil)))) (pe_one (pe_chain op_le op_le (pv 1) (pv 0) (pv 2))))))),
    fun W => (s_ret (e_pure (p_andV (p_isi (T := .int) (p_var (i := 0) (by decide))) (p_andV (p_notV (p_isi (T := .bool) (p_var (i := 0) (by decide)))) (p_chain rv_le rv_le (p_var (i := 1) (by decide)) (p_var (i := 0) (by decide)) (p_var (i := 2) (by decide)))))))⟩
theorem ok_is_house (T : Txt K mg) : FnOk P w K mg base CX0 2 T.a_is_house T.d_is_house ["value"] (spMv K 1 g_is_house) := by
  refine fn_mv T.F_is_house sc_is_house (fun cdv A outer s H E as hr => ?_)
  exact ⟨_, (pss_one (ps_ret (pe_call (ok_is_within T) (hr.mono (by decide)) rfl T.m_is_within T.F_is_within.kp T.b_is_within .nil pass0 (pa_cons (pv 0) (pa_cons pe_int (pa_cons (pe_glob (v := .int 19) rfl T.c_LAST_NAME ⟨_, rfl⟩) pa_nil)))))),
    fun W => (s_ret (e_call (p_cons (p_var (i := 0) (by decide)) (p_cons (p_c (d := .int 0)) (p_cons (p_c (d := .int 19)) p_nil))) (dl_cons (dl_cons (dl_cons dl_nil)))))⟩
theorem ok_is_owners (T : Txt K mg) : FnOk P w K mg base CX0 3 T.a_is_owners T.d_is_owners ["value"] (spMv K 1 g_is_owners) := by
  refine fn_mv T.F_is_owners sc_is_owners (fun cdv A outer s H E as hr => ?_)
  exact ⟨_, (pss_one (ps_ret (pe_and (pe_callB (r := rIsi K) call_isi (by rfl) T.n_isinstance (by decide +kernel) (pa_cons (pv 0) (pa_cons (pe_bltn (v := .ty "tuple") (u := .type "tuple") (by rfl) T.n_tuple (by decide +kernel) rfl) pa_nil))) (pe_and (pe_cmpR op_eq (pe_callB (r := rLenK K) call_lenK (by rfl) T.n_len PySem.boot_len (pa_cons (pv 0) pa_nil)) (pe_glob (v := .int 12) rfl T.c_SLOTS ⟨_, rfl⟩) (nomark _)) (pe_one (pe_callB (r := rAll K) (cr_all rfl) (by rfl) T.n_all (by decide +kernel) (pa_cons (pe_lc (own := [("owner", 1)]) rfl sc_is_owners.nd (pi_tup (pv 0)) (blkOk_by (N := ["value", "owner"]) (sc := defScope s_is_owners) (by decide +kernel)) (fun _ _ _ _ _ => pg_name (i := 1) sc_is_owners.nd rfl (Or.inl rfl)) (fun _ _ _ _ _ => pts_nil) (fun _ _ _ _ _ => (pe_call (ok_is_house T) (hr.mono (by decide)) rfl T.m_is_house T.F_is_house.kp T.b_is_house .nil pass0 (pa_cons (pv 1) pa_nil)))) pa_nil))))))),
    fun W => (s_ret (e_andV (e_pure (p_isi (T := .tuple) (p_var (i := 0) (by decide)))) (e_andV (e_pure (p_op rv_eq (p_len (p_var (i := 0) (by decide))) (p_c (d := .int 12)))) (e_cb1 rc_all (e_lc (by decide) (i_tup (p_var (i := 0) (by decide))) (fun _ => e_yes) (fun _ => (e_call (p_cons (p_var (i := 1) (by decide)) p_nil) (dl_cons dl_nil))))))))⟩
theorem ok_are_houses (T : Txt K mg) : FnOk P w K mg base CX0 3 T.a_are_houses T.d_are_houses ["values"] (spMv K 1 g_are_houses) := by
  refine fn_mv T.F_are_houses sc_are_houses (fun cdv A outer s H E as hr => ?_)
  exact ⟨_, (pss_cons (ps_if (PW.pt (pw_or (pt_not (pt_chain op_le op_le pe_int (pe_callB (r := rLenK K) call_lenK (by rfl) T.n_len PySem.boot_len (pa_cons (pv 0) pa_nil)) (pe_glob (v := .int 6) rfl T.c_MOST_HOUSES ⟨_, rfl⟩))) (pw_or1 (pt_not (pt_val (pe_callB (r := rAll K) (cr_all rfl) (by rfl) T.n_all (by decide +kernel) (pa_cons (pe_lc (own := [("house", 1)]) rfl sc_are_houses.nd (pi_list (pv 0)) (blkOk_by (N := ["values", "house"]) (sc := defScope s_are_houses) (by decide +kernel)) (fun _ _ _ _ _ => pg_name (i := 1) sc_are_houses.nd rfl (Or.inl rfl)) (fun _ _ _ _ _ => pts_nil) (fun _ _ _ _ _ => (pe_call (ok_is_house T) (hr.mono (by decide)) rfl T.m_is_house T.F_is_house.kp T.b_is_house .nil pass0 (pa_cons (pv 1) pa_nil)))) pa_nil))))))) (pss_one (ps_ret pe_bl)) pss_nil)
    (pss_one (ps_ret (pe_cmpR (r := rEqD K) (op_eqD hr.units) (pv 0) (pe_callB (cr_sortedSet rfl) (by rfl) T.n_sorted (by decide +kernel) (pa_cons (pe_callTy (cr_setI rfl) (by rfl) T.n_set (by decide +kernel) (pa_cons (pv 0) pa_nil)) pa_nil)) (nomark _))))),
    fun W => (s_seq (s_if (e_or (e_pureT (p_not (p_test (p_chain rv_le rv_le (p_c (d := .int 1)) (p_len (p_var (i := 0) (by decide))) (p_c (d := .int 6)))))) (e_not (e_tB (e_cb1 rc_all (e_lc (by decide) (i_lst (p_var (i := 0) (by decide))) (fun _ => e_yes) (fun _ => (e_call (p_cons (p_var (i := 1) (by decide)) p_nil) (dl_cons dl_nil)))))))) (s_ret (e_pure (p_c (d := .bool false)))) s_next)
    (s_ret (e_pure (p_op rv_eqD (p_var (i := 0) (by decide)) (p_sortSet (p_var (i := 0) (by decide)))))))⟩
end
end K02
namespace K02
open PySem PySem.Spec PyProof.Rows L2 Mv
section
variable {P : Program} {w : World} {K : PySem.W.Frag} {mg : Str → Option Value} {base : Heap}
theorem ok_most_kept (T : Txt K mg) : FnOk P w K mg base CX0 1 T.a_most_kept T.d_most_kept ["given", "rest"] (spMv K 2 g_most_kept) := by
  refine fn_mv T.F_most_kept sc_most_kept (fun cdv A outer s H E as hr => ?_)
  have hu := hu_of hr
  exact ⟨_, (pss_cons (ps_asg (pe_callB call_divmodF (by rfl) T.n_divmod (by decide +kernel) (pa_cons (pe_glob (v := .int 12) rfl T.c_SLOTS ⟨_, rfl⟩) (pa_cons (pe_callB call_lenD (by rfl) T.n_len PySem.boot_len (pa_cons (pv 0) pa_nil)) pa_nil))) (pg_tup rfl (pgs_cons (pg_name (i := 2) sc_most_kept.nd rfl (Or.inl rfl)) (pgs_cons (pg_name (i := 3) sc_most_kept.nd rfl (Or.inl rfl)) pgs_nil))))
    (pss_cons (ps_set (i := 4) sc_most_kept.nd rfl (Or.inl rfl) pe_int)
    (pss_cons (ps_set (i := 5) sc_most_kept.nd rfl (Or.inl rfl) pe_int)
    (pss_cons (ps_lock (ps_for PassesOwn.never rfl (pi_keys (pv 0)) (pg_name (i := 6) sc_most_kept.nd rfl (Or.inl rfl)) (pss_cons (ps_set (i := 7) sc_most_kept.nd rfl (Or.inl rfl) (pe_op op_sub (pv 2) (pe_dget hu (pv 0) (pv 6) (fun _ _ => rfl))))
    (pss_cons (ps_if (pt_cmpR op_lt (pv 7) (pe_un un_neg pe_int) (nomark _)) (pss_one (ps_ret pe_non)) pss_nil)
    (pss_cons (ps_if (pt_cmpR op_eq (pv 7) (pe_un un_neg pe_int) (nomark _)) (pss_cons (ps_aug (i := 3) sc_most_kept.nd rfl (Or.inl rfl) pe_int ip_sub)
    (pss_one ps_continue)) pss_nil)
    (pss_cons (ps_aug (i := 4) sc_most_kept.nd rfl (Or.inl rfl) (pe_callB (call_min2 rfl) (by rfl) T.n_min (by decide +kernel) (pa_cons (pv 7) (pa_cons (pe_K (t := fun K => tTM K (rCntT K) _ _) (pe_tm PySem.F.slot_tuple_count PySem.F.type_tuple_count mt_tcount (pv 1) (pa_cons (pv 6) pa_nil))) pa_nil))) ip_add)
    (pss_one (ps_if (pt_cmpR op_gt (pe_K (t := fun K => tTM K (rCntT K) _ _) (pe_tm PySem.F.slot_tuple_count PySem.F.type_tuple_count mt_tcount (pv 1) (pa_cons (pv 6) pa_nil))) (pv 7) (nomark _)) (pss_one (ps_aug (i := 5) sc_most_kept.nd rfl (Or.inl rfl) pe_int ip_add)) pss_nil))))))))
    (pss_cons (ps_if (pt_cmpR op_lt (pv 3) pe_int (nomark _)) (pss_one (ps_ret pe_non)) pss_nil)
    (pss_one (ps_ret (pe_op op_add (pv 4) (pe_callB (call_min2 rfl) (by rfl) T.n_min (by decide +kernel) (pa_cons (pv 3) (pa_cons (pv 5) pa_nil))))))))))),
    fun W => (s_seq (s_asg (g_tup (gs_cons (g_name (i := 2) (by decide)) (gs_cons (g_name (i := 3) (by decide)) gs_nil))) (e_pure (p_cs rc_divmod (p_cons (p_c (d := .int 12)) (p_cons (p_lenD (p_var (i := 0) (by decide))) p_nil)))))
    (s_seq (s_alias (by decide) (p_c (d := .int 0)))
    (s_seq (s_alias (by decide) (p_c (d := .int 0)))
    (s_seq (s_lock (da := (dVar 0)) (fun _ => (s_for (i_keys (p_var (i := 0) (by decide))) (g_name (i := 6) (by decide)) (fun _ => (s_seq (s_alias (by decide) (p_op rv_sub (p_var (i := 2) (by decide)) (p_dget (p_var (i := 0) (by decide)) (p_var (i := 6) (by decide)))))
    (s_seq (s_if (e_pureT (p_test (p_op rv_lt (p_var (i := 7) (by decide)) (p_neg (p_c (d := .int 1)))))) (s_ret (e_pure (p_c (d := .none)))) s_next)
    (s_seq (s_if (e_pureT (p_test (p_op rv_eq (p_var (i := 7) (by decide)) (p_neg (p_c (d := .int 1)))))) (s_seq (s_aug (by decide) rv_ipsub (p_c (d := .int 1)))
    s_cont) s_next)
    (s_seq (s_aug (by decide) rv_ipadd (p_cb rc_min2 (p_cons (p_var (i := 7) (by decide)) (p_cons (p_cnt (p_var (i := 1) (by decide)) (p_var (i := 6) (by decide))) p_nil))))
    (s_if (e_pureT (p_test (p_op rv_gt (p_cnt (p_var (i := 1) (by decide)) (p_var (i := 6) (by decide))) (p_var (i := 7) (by decide))))) (s_aug (by decide) rv_ipadd (p_c (d := .int 1))) s_next)))))))))
    (s_seq (s_if (e_pureT (p_test (p_op rv_lt (p_var (i := 3) (by decide)) (p_c (d := .int 0))))) (s_ret (e_pure (p_c (d := .none)))) s_next)
    (s_ret (e_pure (p_op rv_add (p_var (i := 4) (by decide)) (p_cb rc_min2 (p_cons (p_var (i := 3) (by decide)) (p_cons (p_var (i := 5) (by decide)) p_nil)))))))))))⟩
theorem ok_first_owner (T : Txt K mg) : FnOk P w K mg base CX0 2 T.a_first_owner T.d_first_owner ["given", "rest"] (spMv K 2 g_first_owner) := by
  refine fn_mv T.F_first_owner sc_first_owner (fun cdv A outer s H E as hr => ?_)
  have hu := hu_of hr
  exact ⟨_, (pss_cons (ps_set (i := 2) sc_first_owner.nd rfl (Or.inl rfl) (pe_call (ok_most_kept T) (hr.mono (by decide)) rfl T.m_most_kept T.F_most_kept.kp T.b_most_kept .nil pass0 (pa_cons (pv 0) (pa_cons (pv 1) pa_nil))))
    (pss_one (ps_lock (ps_for PassesOwn.never rfl (pi_keys (pv 0)) (pg_name (i := 3) sc_first_owner.nd rfl (Or.inl rfl)) (pss_cons (ps_set (i := 4) sc_first_owner.nd rfl (Or.inl rfl) (pe_call (ok_most_kept T) (hr.mono (by decide)) rfl T.m_most_kept T.F_most_kept.kp T.b_most_kept .nil pass0 (pa_cons (pe_dstar1 (pv 0) (pv 3) (pe_op op_add (pe_dget hu (pv 0) (pv 3) (fun _ _ => rfl)) pe_int)) (pa_cons (pe_slice (r := rSlF K) sl_tupF (pv 1) (po_some pe_int) po_none) pa_nil))))
    (pss_cons (ps_set (i := 5) sc_first_owner.nd rfl (Or.inl rfl) (pe_ifExp (pt_cmpR op_eq (pv 3) (pe_ix (r := rIxT K) ix_tup (pv 1) pe_int (fun _ _ => rfl)) (nomark _)) pe_int pe_int))
    (pss_one (ps_if (PW.pt (pw_and (pt_cmpR op_notN (pv 4) pe_non (nomark _)) (pw_and1 (pt_cmpR op_eq (pe_op op_add (pv 4) (pv 5)) (pv 2) (nomark _))))) (pss_one (ps_ret (pv 3))) pss_nil)))))))),
    fun W => (s_seq (s_set (by decide) (e_call (p_cons (p_var (i := 0) (by decide)) (p_cons (p_var (i := 1) (by decide)) p_nil)) (dl_cons (dl_cons dl_nil))))
    (s_lock (da := (dVar 0)) (fun _ => (s_for (i_keys (p_var (i := 0) (by decide))) (g_name (i := 3) (by decide)) (fun _ => (s_seq (s_set (by decide) (e_call (p_cons (p_star (p_var (i := 0) (by decide)) (p_var (i := 3) (by decide)) (p_op rv_add (p_dget (p_var (i := 0) (by decide)) (p_var (i := 3) (by decide))) (p_c (d := .int 1)))) (p_cons (p_sliceT (p_var (i := 1) (by decide)) (p_part (p_c (d := .int 1))) p_noPart) p_nil)) (dl_cons (dl_cons dl_nil))))
    (s_seq (s_alias (by decide) (p_ifE (p_test (p_op rv_eq (p_var (i := 3) (by decide)) (p_ixT (p_var (i := 1) (by decide)) (p_c (d := .int 0))))) (p_c (d := .int 1)) (p_c (d := .int 0))))
    (s_if (e_pureT (p_and (p_test (p_op rv_notN (p_var (i := 4) (by decide)) (p_c (d := .none)))) (p_test (p_op rv_eq (p_op rv_add (p_var (i := 4) (by decide)) (p_var (i := 5) (by decide))) (p_var (i := 2) (by decide)))))) (s_ret (e_move (i := 3) (by decide))) s_next))))))))⟩
theorem ok_shared (T : Txt K mg) : FnOk P w K mg base CX0 4 T.a_shared T.d_shared ["owners", "houses"] (spMv K 2 g_shared) := by
  refine fn_mv T.F_shared sc_shared (fun cdv A outer s H E as hr => ?_)
  have hu := hu_of hr
  exact ⟨_, (pss_cons (ps_if (pt_not (pt_val (pe_call (ok_is_owners T) (hr.mono (by decide)) rfl T.m_is_owners T.F_is_owners.kp T.b_is_owners .nil pass0 (pa_cons (pv 0) pa_nil)))) (pss_one ps_never) pss_nil)
    (pss_cons (ps_if (pt_not (pt_val (pe_call (ok_are_houses T) (hr.mono (by decide)) rfl T.m_are_houses T.F_are_houses.kp T.b_are_houses .nil pass0 (pa_cons (pv 1) pa_nil)))) (pss_one ps_never) pss_nil)
    (pss_cons (ps_setDc (i := 2) (own := [("house", 5)]) rfl sc_shared.nd rfl rfl (swD_true rfl rfl rfl (by decide +kernel)) (pi_list (pv 1)) (blkOk_by (N := ["owners", "houses", "given", "chosen", "slot", "house"]) (sc := defScope s_shared) (by decide +kernel)) (fun _ _ _ _ _ => pg_name (i := 5) sc_shared.nd rfl (Or.inl rfl)) (fun _ _ _ _ _ => pts_nil) (fun _ _ _ _ _ => (pv 5)) (fun _ _ _ _ _ => pe_int))
    (pss_cons (ps_set (i := 3) sc_shared.nd rfl (Or.inl rfl) (pe_lst pa_nil))
    (pss_cons (ps_for PassesOwn.never rfl (pi_range1 (by rfl) T.n_range (pa_cons (pe_glob (v := .int 12) rfl T.c_SLOTS ⟨_, rfl⟩) pa_nil)) (pg_name (i := 4) sc_shared.nd rfl (Or.inl rfl)) (pss_cons (ps_set (i := 5) sc_shared.nd rfl (Or.inl rfl) (pe_call (ok_first_owner T) (hr.mono (by decide)) rfl T.m_first_owner T.F_first_owner.kp T.b_first_owner .nil pass0 (pa_cons (pv 2) (pa_cons (pe_slice (r := rSlF K) sl_tupF (pv 0) (po_some (pv 4)) po_none) pa_nil))))
    (pss_cons (ps_daug hu (pv 2) (pv 5) pe_int in_add (fun _ _ _ => rfl))
    (pss_one (ps_expr (pe_K (t := fun K => tBM K "list" rAppend _ _) (pe_bm PySem.F.plainAttrs_list PySem.F.slot_list_append PySem.F.type_list_append mt_append (pv 3) (pa_cons (pv 5) pa_nil))))))))
    (pss_one (ps_ret (pe_callTy (r := rTupQ K) cr_tupQ (by rfl) T.n_tuple (by decide +kernel) (pa_cons (pv 3) pa_nil))))))))),
    fun W => (s_seq (s_if (e_not (e_tB (e_call (p_cons (p_var (i := 0) (by decide)) p_nil) (dl_cons dl_nil)))) s_never s_next)
    (s_seq (s_if (e_not (e_tB (e_call (p_cons (p_var (i := 1) (by decide)) p_nil) (dl_cons dl_nil)))) s_never s_next)
    (s_seq (s_set (by decide) (e_dc (by decide) (i_lst (p_var (i := 1) (by decide))) (fun _ => e_yes) (fun _ => (e_pure (p_var (i := 5) (by decide)))) (fun _ => (e_pure (p_c (d := .int 0))))))
    (s_seq (s_alias (by decide) (p_lst p_nil))
    (s_seq (s_for (i_range (p_c (d := .int 12))) (g_name (i := 4) (by decide)) (fun _ => (s_seq (s_set (by decide) (e_call (p_cons (p_var (i := 2) (by decide)) (p_cons (p_sliceT (p_var (i := 0) (by decide)) (p_part (p_var (i := 4) (by decide))) p_noPart) p_nil)) (dl_cons (dl_cons dl_nil))))
    (s_seq (s_daug (p_var (i := 2) (by decide)) (p_var (i := 5) (by decide)) rv_add (p_c (d := .int 1)))
    (s_drop (e_bm1 nd_append (p_var (i := 3) (by decide)) (p_var (i := 5) (by decide))))))))
    (s_ret (e_pure (p_cs rc_tuple (p_cons (p_var (i := 3) (by decide)) p_nil)))))))))⟩
end
end K02
namespace K02
open PySem PySem.Spec PyProof.Rows L2 Mv
section
variable {P : Program} {w : World} {K : PySem.W.Frag} {mg : Str → Option Value} {base : Heap}
theorem ok__law_begun (T : Txt K mg) : FnOk P w K mg base CX0 1 T.a__law_begun T.d__law_begun ["_law_script"] (spMv K 1 g__law_begun) := by
  refine fn_mv T.F__law_begun sc__law_begun (fun cdv A outer s H E as hr => ?_)
  exact ⟨_, (pss_cons (ps_set (i := 1) sc__law_begun.nd rfl (Or.inl rfl) pe_int)
    (pss_cons (ps_for PassesOwn.never rfl (pi_list (pv 0)) (pg_name (i := 2) sc__law_begun.nd rfl (Or.inl rfl)) (pss_one (ps_set (i := 1) sc__law_begun.nd rfl (Or.inl rfl) (pe_op op_mod (pe_op op_add (pe_op op_add (pe_op op_mul (pv 1) pe_int) (pe_op op_mul (pv 2) pe_int)) pe_int) pe_int))))
    (pss_one (ps_ret (pe_lst (pa_cons (pe_callTy (r := rListOfK K) call_listK (by rfl) T.n_list (by decide +kernel) (pa_cons (pv 0) pa_nil)) (pa_cons (pe_op op_mul (pv 1) (pe_callTy call_int1 (by rfl) T.n_int (by decide +kernel) (pa_cons (pe_cmpR op_gt (pe_callB (r := rLenK K) call_lenK (by rfl) T.n_len PySem.boot_len (pa_cons (pv 0) pa_nil)) pe_int (nomark _)) pa_nil))) pa_nil))))))),
    fun W => (s_seq (s_alias (by decide) (p_c (d := .int 0)))
    (s_seq (s_for (i_lst (p_var (i := 0) (by decide))) (g_name (i := 2) (by decide)) (fun _ => (s_alias (by decide) (p_op rv_mod (p_op rv_add (p_op rv_add (p_op rv_mul (p_var (i := 1) (by decide)) (p_c (d := .int 48271))) (p_op rv_mul (p_var (i := 2) (by decide)) (p_c (d := .int 69621)))) (p_c (d := .int 11))) (p_c (d := .int 2147483647))))))
    (s_ret (e_pure (p_lst (p_cons (p_cs rc_list (p_cons (p_var (i := 0) (by decide)) p_nil)) (p_cons (p_op rv_mul (p_var (i := 1) (by decide)) (p_cb rc_int (p_cons (p_op rv_gt (p_len (p_var (i := 0) (by decide))) (p_c (d := .int 2))) p_nil))) p_nil)))))))⟩
theorem ok__law_take (T : Txt K mg) : FnOk P w K mg base CX0 1 T.a__law_take T.d__law_take ["_law_box", "_law_many"] (spMv K 2 g__law_take) := by
  refine fn_mv T.F__law_take sc__law_take (fun cdv A outer s H E as hr => ?_)
  exact ⟨_, (pss_cons (ps_if (pt_cmpR (r := rEqD K) (op_eqD hr.units) (pe_ix (r := rIxL K) ix_list (pv 0) pe_int (fun _ _ => rfl)) (pe_lst pa_nil) (nomark _)) (pss_cons (ps_asg (pe_op op_mod (pe_op op_mul (pe_ix (r := rIxL K) ix_list (pv 0) pe_int (fun _ _ => rfl)) pe_int) pe_int) (pg_sub (pv 0) pe_int set_list))
    (pss_one (ps_ret (pe_op op_mod (pe_op op_fdiv (pe_ix (r := rIxL K) ix_list (pv 0) pe_int (fun _ _ => rfl)) pe_int) (pv 1))))) pss_nil)
    (pss_cons (ps_set (i := 2) sc__law_take.nd rfl (Or.inl rfl) (pe_ix (r := rIxL K) ix_list (pe_ix (r := rIxL K) ix_list (pv 0) pe_int (fun _ _ => rfl)) pe_int (fun _ _ => rfl)))
    (pss_cons (ps_asg (pe_op op_fdiv (pv 2) (pv 1)) (pg_sub (pe_ix (r := rIxL K) ix_list (pv 0) pe_int (fun _ _ => rfl)) pe_int set_list))
    (pss_cons (ps_if (PW.pt (pw_or (pt_cmpR op_eq (pe_ix (r := rIxL K) ix_list (pe_ix (r := rIxL K) ix_list (pv 0) pe_int (fun _ _ => rfl)) pe_int (fun _ _ => rfl)) pe_int (nomark _)) (pw_or1 (pt_cmpR op_eq (pe_ix (r := rIxL K) ix_list (pe_ix (r := rIxL K) ix_list (pv 0) pe_int (fun _ _ => rfl)) pe_int (fun _ _ => rfl)) (pe_un un_neg pe_int) (nomark _))))) (pss_one (ps_expr (pe_K (t := fun K => tBM K "list" rPopAt _ _) (pe_bm PySem.F.plainAttrs_list PySem.F.slot_list_pop PySem.F.type_list_pop mt_popAt (pe_ix (r := rIxL K) ix_list (pv 0) pe_int (fun _ _ => rfl)) (pa_cons pe_int pa_nil))))) pss_nil)
    (pss_one (ps_ret (pe_op op_mod (pv 2) (pv 1)))))))),
    fun W => (s_seq (s_if (e_pureT (p_test (p_op rv_eqD (p_ixL (p_var (i := 0) (by decide)) (p_c (d := .int 0))) (p_lst p_nil)))) (s_seq (s_lset (p_var (i := 0) (by decide)) (p_c (d := .int 1)) (e_pure (p_op rv_mod (p_op rv_mul (p_ixL (p_var (i := 0) (by decide)) (p_c (d := .int 1))) (p_c (d := .int 48271))) (p_c (d := .int 2147483647)))))
    (s_ret (e_pure (p_op rv_mod (p_op rv_div (p_ixL (p_var (i := 0) (by decide)) (p_c (d := .int 1))) (p_c (d := .int 7))) (p_var (i := 1) (by decide)))))) s_next)
    (s_seq (s_alias (by decide) (p_ixL (p_ixL (p_var (i := 0) (by decide)) (p_c (d := .int 0))) (p_c (d := .int 0))))
    (s_seq (s_lset (p_ixL (p_var (i := 0) (by decide)) (p_c (d := .int 0))) (p_c (d := .int 0)) (e_pure (p_op rv_div (p_var (i := 2) (by decide)) (p_var (i := 1) (by decide)))))
    (s_seq (s_if (e_pureT (p_or (p_test (p_op rv_eq (p_ixL (p_ixL (p_var (i := 0) (by decide)) (p_c (d := .int 0))) (p_c (d := .int 0))) (p_c (d := .int 0)))) (p_test (p_op rv_eq (p_ixL (p_ixL (p_var (i := 0) (by decide)) (p_c (d := .int 0))) (p_c (d := .int 0))) (p_neg (p_c (d := .int 1))))))) (s_drop (e_bm1 nd_popAt (p_ixL (p_var (i := 0) (by decide)) (p_c (d := .int 0))) (p_c (d := .int 0)))) s_next)
    (s_ret (e_pure (p_op rv_mod (p_var (i := 2) (by decide)) (p_var (i := 1) (by decide)))))))))⟩
end
end K02
namespace K02
open PySem PySem.Spec PyProof.Rows L2 Mv
section
variable {P : Program} {w : World} {K : PySem.W.Frag} {mg : Str → Option Value} {base : Heap}
theorem step__law_alike (T : Txt K mg) {g : List S → Option (S × List S)} {k : Nat} (G : FnOk P w K mg base CX0 k T.a__law_alike T.d__law_alike ["_law_found", "_law_due"] (spMv K 2 g)) : FnOk P w K mg base CX0 (k + 1) T.a__law_alike T.d__law_alike ["_law_found", "_law_due"] (spMv K 2 (fnG 3 (f__law_alike g))) := by
  refine fn_mv T.F__law_alike sc__law_alike (fun cdv A outer s H E as hr => ?_)
  exact ⟨_, (pss_cons (ps_if (pt_cmpR op_isN (pv 1) pe_non (nomark _)) (pss_one (ps_ret (pe_cmpR op_isN (pv 0) pe_non (nomark _)))) pss_nil)
    (pss_cons (ps_if (pt_val (pe_callB (r := rIsi K) call_isi (by rfl) T.n_isinstance (by decide +kernel) (pa_cons (pv 1) (pa_cons (pe_bltn (v := .ty "bool") (u := .type "bool") (by rfl) T.n_bool (by decide +kernel) rfl) pa_nil)))) (pss_one (ps_ret (pe_and (pe_callB (r := rIsi K) call_isi (by rfl) T.n_isinstance (by decide +kernel) (pa_cons (pv 0) (pa_cons (pe_bltn (v := .ty "bool") (u := .type "bool") (by rfl) T.n_bool (by decide +kernel) rfl) pa_nil))) (pe_one (pe_cmpR op_eq (pv 0) (pv 1) (nomark _)))))) pss_nil)
    (pss_cons (ps_if (pt_val (pe_callB (r := rIsi K) call_isi (by rfl) T.n_isinstance (by decide +kernel) (pa_cons (pv 1) (pa_cons (pe_bltn (v := .ty "int") (u := .type "int") (by rfl) T.n_int (by decide +kernel) rfl) pa_nil)))) (pss_one (ps_ret (pe_and (pe_callB (r := rIsi K) call_isi (by rfl) T.n_isinstance (by decide +kernel) (pa_cons (pv 0) (pa_cons (pe_bltn (v := .ty "int") (u := .type "int") (by rfl) T.n_int (by decide +kernel) rfl) pa_nil))) (pe_and (pe_not (pe_callB (r := rIsi K) call_isi (by rfl) T.n_isinstance (by decide +kernel) (pa_cons (pv 0) (pa_cons (pe_bltn (v := .ty "bool") (u := .type "bool") (by rfl) T.n_bool (by decide +kernel) rfl) pa_nil)))) (pe_one (pe_cmpR op_eq (pv 0) (pv 1) (nomark _))))))) pss_nil)
    (pss_cons (ps_if (pt_val (pe_callB (r := rIsi K) call_isi (by rfl) T.n_isinstance (by decide +kernel) (pa_cons (pv 1) (pa_cons (pe_bltn (v := .ty "str") (u := .type "str") (by rfl) T.n_str (by decide +kernel) rfl) pa_nil)))) (pss_one (ps_ret (pe_and (pe_callB (r := rIsi K) call_isi (by rfl) T.n_isinstance (by decide +kernel) (pa_cons (pv 0) (pa_cons (pe_bltn (v := .ty "str") (u := .type "str") (by rfl) T.n_str (by decide +kernel) rfl) pa_nil))) (pe_one (pe_cmpR op_eq (pv 0) (pv 1) (nomark _)))))) pss_nil)
    (pss_cons (ps_if (PW.pt (pw_or (pt_cmpR op_ne (pe_callB (r := rIsi K) call_isi (by rfl) T.n_isinstance (by decide +kernel) (pa_cons (pv 1) (pa_cons (pe_bltn (v := .ty "tuple") (u := .type "tuple") (by rfl) T.n_tuple (by decide +kernel) rfl) pa_nil))) (pe_callB (r := rIsi K) call_isi (by rfl) T.n_isinstance (by decide +kernel) (pa_cons (pv 0) (pa_cons (pe_bltn (v := .ty "tuple") (u := .type "tuple") (by rfl) T.n_tuple (by decide +kernel) rfl) pa_nil))) (nomark _)) (pw_or1 (pt_cmpR op_ne (pe_callB (r := rIsi K) call_isi (by rfl) T.n_isinstance (by decide +kernel) (pa_cons (pv 1) (pa_cons (pe_bltn (v := .ty "list") (u := .type "list") (by rfl) T.n_list (by decide +kernel) rfl) pa_nil))) (pe_callB (r := rIsi K) call_isi (by rfl) T.n_isinstance (by decide +kernel) (pa_cons (pv 0) (pa_cons (pe_bltn (v := .ty "list") (u := .type "list") (by rfl) T.n_list (by decide +kernel) rfl) pa_nil))) (nomark _))))) (pss_one (ps_ret pe_bl)) pss_nil)
    (pss_cons (ps_if (pt_cmpR op_ne (pe_callB (r := rLenK K) call_lenK (by rfl) T.n_len PySem.boot_len (pa_cons (pv 0) pa_nil)) (pe_callB (r := rLenK K) call_lenK (by rfl) T.n_len PySem.boot_len (pa_cons (pv 1) pa_nil)) (nomark _)) (pss_one (ps_ret pe_bl)) pss_nil)
    (pss_cons (ps_for PassesOwn.never rfl (pi_range1 (by rfl) T.n_range (pa_cons (pe_callB (r := rLenK K) call_lenK (by rfl) T.n_len PySem.boot_len (pa_cons (pv 1) pa_nil)) pa_nil)) (pg_name (i := 2) sc__law_alike.nd rfl (Or.inl rfl)) (pss_one (ps_if (pt_not (pt_val (pe_call G (hr.mono (Nat.le_refl _)) rfl T.m__law_alike T.F__law_alike.kp T.b__law_alike .nil pass0 (pa_cons (pe_ix (r := rIxT K) ix_tup (pv 0) (pv 2) (fun _ _ => rfl)) (pa_cons (pe_ix (r := rIxT K) ix_tup (pv 1) (pv 2) (fun _ _ => rfl)) pa_nil))))) (pss_one (ps_ret pe_bl)) pss_nil)))
    (pss_one (ps_ret pe_bl))))))))),
    fun W => (s_seq (s_if (e_pureT (p_test (p_op rv_isN (p_var (i := 1) (by decide)) (p_c (d := .none))))) (s_ret (e_pure (p_op rv_isN (p_var (i := 0) (by decide)) (p_c (d := .none))))) s_next)
    (s_seq (s_if (e_pureT (p_tB (p_isi (T := .bool) (p_var (i := 1) (by decide))))) (s_ret (e_pure (p_andV (p_isi (T := .bool) (p_var (i := 0) (by decide))) (p_op rv_eq (p_var (i := 0) (by decide)) (p_var (i := 1) (by decide)))))) s_next)
    (s_seq (s_if (e_pureT (p_tB (p_isi (T := .int) (p_var (i := 1) (by decide))))) (s_ret (e_pure (p_andV (p_isi (T := .int) (p_var (i := 0) (by decide))) (p_andV (p_notV (p_isi (T := .bool) (p_var (i := 0) (by decide)))) (p_op rv_eq (p_var (i := 0) (by decide)) (p_var (i := 1) (by decide))))))) s_next)
    (s_seq (s_if (e_pureT (p_tB (p_isi (T := .str) (p_var (i := 1) (by decide))))) (s_ret (e_pure (p_andV (p_isi (T := .str) (p_var (i := 0) (by decide))) (p_op rv_eq (p_var (i := 0) (by decide)) (p_var (i := 1) (by decide)))))) s_next)
    (s_seq (s_if (e_pureT (p_or (p_test (p_op rv_ne (p_isi (T := .tuple) (p_var (i := 1) (by decide))) (p_isi (T := .tuple) (p_var (i := 0) (by decide))))) (p_test (p_op rv_ne (p_isi (T := .list) (p_var (i := 1) (by decide))) (p_isi (T := .list) (p_var (i := 0) (by decide))))))) (s_ret (e_pure (p_c (d := .bool false)))) s_next)
    (s_seq (s_if (e_pureT (p_test (p_op rv_ne (p_len (p_var (i := 0) (by decide))) (p_len (p_var (i := 1) (by decide)))))) (s_ret (e_pure (p_c (d := .bool false)))) s_next)
    (s_seq (s_for (i_range (p_len (p_var (i := 1) (by decide)))) (g_name (i := 2) (by decide)) (fun _ => (s_if (e_not (e_tB (e_call (p_cons (p_ixT (p_var (i := 0) (by decide)) (p_var (i := 2) (by decide))) (p_cons (p_ixT (p_var (i := 1) (by decide)) (p_var (i := 2) (by decide))) p_nil)) (dl_cons (dl_cons dl_nil))))) (s_ret (e_pure (p_c (d := .bool false)))) s_next)))
    (s_ret (e_pure (p_c (d := .bool true)))))))))))⟩
theorem all__law_alike (T : Txt K mg) : ∀ j : Nat, FnOk P w K mg base CX0 j T.a__law_alike T.d__law_alike ["_law_found", "_law_due"] (spMv K 2 (g__law_alike j))
  | 0 => fn_none (ps := ["_law_found", "_law_due"])
  | j + 1 => step__law_alike T (all__law_alike T j)
theorem ok__law_alike (T : Txt K mg) : FnOk P w K mg base CX0 4 T.a__law_alike T.d__law_alike ["_law_found", "_law_due"] (spMv K 2 (g__law_alike 4)) := all__law_alike T 4
end
end K02
namespace K02
open PySem PySem.Spec PyProof.Rows L2 Mv
section
variable {P : Program} {w : World} {K : PySem.W.Frag} {mg : Str → Option Value} {base : Heap}
theorem step__law_choices (T : Txt K mg) {g : List S → Option (S × List S)} {k : Nat} (G : FnOk P w K mg base CX0 k T.a__law_choices T.d__law_choices ["_law_houses", "_law_many"] (spMv K 2 g)) : FnOk P w K mg base CX0 (k + 1) T.a__law_choices T.d__law_choices ["_law_houses", "_law_many"] (spMv K 2 (fnG 5 (f__law_choices g))) := by
  refine fn_mv T.F__law_choices sc__law_choices (fun cdv A outer s H E as hr => ?_)
  exact ⟨_, (pss_cons (ps_if (pt_cmpR op_eq (pv 1) pe_int (nomark _)) (pss_one (ps_ret (pe_lst (pa_cons (pe_lst pa_nil) pa_nil)))) pss_nil)
    (pss_cons (ps_set (i := 2) sc__law_choices.nd rfl (Or.inl rfl) (pe_lst pa_nil))
    (pss_cons (ps_for PassesOwn.never rfl (pi_range1 (by rfl) T.n_range (pa_cons (pe_callB (r := rLenK K) call_lenK (by rfl) T.n_len PySem.boot_len (pa_cons (pv 0) pa_nil)) pa_nil)) (pg_name (i := 3) sc__law_choices.nd rfl (Or.inr rfl)) (pss_one (ps_expr (pe_K (t := fun K => tBM K "list" rExtend _ _) (pe_bm PySem.F.plainAttrs_list PySem.F.slot_list_extend PySem.F.type_list_extend mt_extend (pv 2) (pa_cons (pe_lc (own := [("_law_rest", 4)]) rfl sc__law_choices.nd (pi_list (pe_call G (hr.mono (Nat.le_refl _)) rfl T.m__law_choices T.F__law_choices.kp T.b__law_choices .nil pass0 (pa_cons (pe_slice (r := rSlL K) sl_list (pv 0) (po_some (pe_op op_add (pv 3) pe_int)) po_none) (pa_cons (pe_op op_sub (pv 1) pe_int) pa_nil)))) (blkOk_by (N := ["_law_houses", "_law_many", "_law_found", "_law_k", "_law_rest"]) (sc := defScope s__law_choices) (by decide +kernel)) (fun _ _ _ _ _ => pg_name (i := 4) sc__law_choices.nd rfl (Or.inl rfl)) (fun _ _ _ _ _ => pts_nil) (fun _ _ _ _ _ => (pe_op op_cat (pe_lst (pa_cons (pe_ix (r := rIxL K) ix_list (pv 0) (pv 3) (fun _ _ => rfl)) pa_nil)) (pv 4)))) pa_nil))))))
    (pss_one (ps_ret (pv 2)))))),
    fun W => (s_seq (s_if (e_pureT (p_test (p_op rv_eq (p_var (i := 1) (by decide)) (p_c (d := .int 0))))) (s_ret (e_pure (p_lst (p_cons (p_lst p_nil) p_nil)))) s_next)
    (s_seq (s_alias (by decide) (p_lst p_nil))
    (s_seq (s_for (i_range (p_len (p_var (i := 0) (by decide)))) (g_name (i := 3) (by decide)) (fun _ => (s_drop (e_bm1E nd_extend (p_var (i := 2) (by decide)) (fun _ => (e_lc (by decide) (i_lstE (e_call (p_cons (p_sliceL (p_var (i := 0) (by decide)) (p_part (p_op rv_add (p_var (i := 3) (by decide)) (p_c (d := .int 1)))) p_noPart) (p_cons (p_op rv_sub (p_var (i := 1) (by decide)) (p_c (d := .int 1))) p_nil)) (dl_cons (dl_cons dl_nil)))) (fun _ => e_yes) (fun _ => (e_pure (p_opS rv_cat (p_lst (p_cons (p_ixL (p_var (i := 0) (by decide)) (p_var (i := 3) (by decide))) p_nil)) (p_var (i := 4) (by decide)))))))))))
    (s_ret (e_move (i := 2) (by decide))))))⟩
theorem all__law_choices (T : Txt K mg) : ∀ j : Nat, FnOk P w K mg base CX0 j T.a__law_choices T.d__law_choices ["_law_houses", "_law_many"] (spMv K 2 (g__law_choices j))
  | 0 => fn_none (ps := ["_law_houses", "_law_many"])
  | j + 1 => step__law_choices T (all__law_choices T j)
theorem ok__law_choices (T : Txt K mg) : FnOk P w K mg base CX0 9 T.a__law_choices T.d__law_choices ["_law_houses", "_law_many"] (spMv K 2 (g__law_choices 9)) := all__law_choices T 9
end
end K02
namespace K02
open PySem PySem.Spec PyProof.Rows L2 Mv
section
variable {P : Program} {w : World} {K : PySem.W.Frag} {mg : Str → Option Value} {base : Heap}
theorem ok__law_stay (T : Txt K mg) : FnOk P w K mg base CX0 10 T.a__law_stay T.d__law_stay ["_law_owners", "_law_houses"] (spMv K 2 g__law_stay) := by
  refine fn_mv T.F__law_stay sc__law_stay (fun cdv A outer s H E as hr => ?_)
  exact ⟨_, (pss_cons (ps_set (i := 2) sc__law_stay.nd rfl (Or.inr rfl) (pe_op op_fdiv pe_int (pe_callB (r := rLenK K) call_lenK (by rfl) T.n_len PySem.boot_len (pa_cons (pv 1) pa_nil))))
    (pss_cons (ps_set (i := 3) sc__law_stay.nd rfl (Or.inl rfl) pe_int)
    (pss_cons (ps_for PassesOwn.never rfl (pi_list (pe_call (ok__law_choices T) (hr.mono (by decide)) rfl T.m__law_choices T.F__law_choices.kp T.b__law_choices .nil pass0 (pa_cons (pv 1) (pa_cons (pe_op op_mod pe_int (pe_callB (r := rLenK K) call_lenK (by rfl) T.n_len PySem.boot_len (pa_cons (pv 1) pa_nil))) pa_nil)))) (pg_name (i := 4) sc__law_stay.nd rfl (Or.inr rfl)) (pss_one (ps_set (i := 3) sc__law_stay.nd rfl (Or.inl rfl) (pe_callB (call_max2 rfl) (by rfl) T.n_max (by decide +kernel) (pa_cons (pv 3) (pa_cons (pe_callB (r := rSum K) (cr_sum rfl) (by rfl) T.n_sum (by decide +kernel) (pa_cons (pe_lc (own := [("_law_house", 5)]) rfl sc__law_stay.nd (pi_list (pv 1)) (blkOk_by (N := ["_law_owners", "_law_houses", "_law_share", "_law_found", "_law_more", "_law_house"]) (sc := defScope s__law_stay) (by decide +kernel)) (fun _ _ _ _ _ => pg_name (i := 5) sc__law_stay.nd rfl (Or.inl rfl)) (fun _ _ _ _ _ => pts_nil) (fun _ _ _ _ _ => (pe_callB (call_min2 rfl) (by rfl) T.n_min (by decide +kernel) (pa_cons (pe_K (t := fun K => tTM K (rCntT K) _ _) (pe_tm PySem.F.slot_tuple_count PySem.F.type_tuple_count mt_tcount (pv 0) (pa_cons (pv 5) pa_nil))) (pa_cons (pe_op op_add (pv 2) (pe_callTy call_int1 (by rfl) T.n_int (by decide +kernel) (pa_cons (pe_cmpR (r := rIn K false) op_in_seq (pv 5) (pv 4) (by rfl)) pa_nil))) pa_nil))))) pa_nil)) pa_nil))))))
    (pss_one (ps_ret (pv 3)))))),
    fun W => (s_seq (s_alias (by decide) (p_op rv_div (p_c (d := .int 12)) (p_len (p_var (i := 1) (by decide)))))
    (s_seq (s_alias (by decide) (p_c (d := .int 0)))
    (s_seq (s_for (i_lstE (e_call (p_cons (p_var (i := 1) (by decide)) (p_cons (p_op rv_mod (p_c (d := .int 12)) (p_len (p_var (i := 1) (by decide)))) p_nil)) (dl_cons (dl_cons dl_nil)))) (g_name (i := 4) (by decide)) (fun _ => (s_set (by decide) (e_cbE rc_max2 (l_consP (p_var (i := 3) (by decide)) (fun _ => (l_consE (e_cb1 rc_sum (e_lc (by decide) (i_lst (p_var (i := 1) (by decide))) (fun _ => e_yes) (fun _ => (e_pure (p_cb rc_min2 (p_cons (p_cnt (p_var (i := 0) (by decide)) (p_var (i := 5) (by decide))) (p_cons (p_op rv_add (p_var (i := 2) (by decide)) (p_cb rc_int (p_cons (p_opS (rv_in false) (p_var (i := 5) (by decide)) (p_var (i := 4) (by decide))) p_nil))) p_nil))))))) (fun _ => l_nil))))))))
    (s_ret (e_move (i := 3) (by decide))))))⟩
end
end K02
namespace K02
open PySem PySem.Spec PyProof.Rows L2 Mv
section
variable {P : Program} {w : World} {K : PySem.W.Frag} {mg : Str → Option Value} {base : Heap}
theorem ok__law_first (T : Txt K mg) : FnOk P w K mg base CX0 1 T.a__law_first T.d__law_first ["_law_owners", "_law_houses", "_law_left"] (spMv K 3 g__law_first) := by
  refine fn_mv T.F__law_first sc__law_first (fun cdv A outer s H E as hr => ?_)
  have hu := hu_of hr
  exact ⟨_, (pss_cons (ps_set (i := 2) sc__law_first.nd rfl (Or.inr rfl) (pe_callTy call_dictD (by rfl) T.n_dict (by decide +kernel) (pa_cons (pv 2) pa_nil)))
    (pss_cons (ps_set (i := 3) sc__law_first.nd rfl (Or.inl rfl) (pe_tupF pa_nil))
    (pss_cons (ps_for PassesOwn.never rfl (pi_range1 (by rfl) T.n_range (pa_cons pe_int pa_nil)) (pg_name (i := 4) sc__law_first.nd rfl (Or.inr rfl)) (pss_cons (ps_set (i := 5) sc__law_first.nd rfl (Or.inr rfl) (pe_slice (r := rSlF K) sl_tupF (pv 0) (po_some (pe_op op_add (pv 4) pe_int)) po_none))
    (pss_cons (ps_set (i := 6) sc__law_first.nd rfl (Or.inl rfl) (pe_callB (r := rSum K) (cr_sum rfl) (by rfl) T.n_sum (by decide +kernel) (pa_cons (pe_lc (own := [("_law_house", 7)]) rfl sc__law_first.nd (pi_list (pv 1)) (blkOk_by (N := ["_law_owners", "_law_houses", "_law_left", "_law_found", "_law_k", "_law_rest", "_law_here", "_law_house", "_law_later", "_law_one"]) (sc := defScope s__law_first) (by decide +kernel)) (fun _ _ _ _ _ => pg_name (i := 7) sc__law_first.nd rfl (Or.inl rfl)) (fun _ _ _ _ _ => pts_nil) (fun _ _ _ _ _ => (pe_callB (call_min2 rfl) (by rfl) T.n_min (by decide +kernel) (pa_cons (pe_K (t := fun K => tTM K (rCntT K) _ _) (pe_tm PySem.F.slot_tuple_count PySem.F.type_tuple_count mt_tcount (pe_slice (r := rSlF K) sl_tupF (pv 0) (po_some (pv 4)) po_none) (pa_cons (pv 7) pa_nil))) (pa_cons (pe_dget hu (pv 2) (pv 7) (fun _ _ => rfl)) pa_nil))))) pa_nil)))
    (pss_one (ps_for PassesOwn.never rfl (pi_list (pv 1)) (pg_name (i := 7) sc__law_first.nd rfl (Or.inl rfl)) (pss_one (ps_if (PW.pt (pw_and (pt_cmpR op_eq (pe_callB (r := rLenK K) call_lenK (by rfl) T.n_len PySem.boot_len (pa_cons (pv 3) pa_nil)) (pv 4) (nomark _)) (pw_and1 (pt_cmpR op_gt (pe_dget hu (pv 2) (pv 7) (fun _ _ => rfl)) pe_int (nomark _))))) (pss_cons (ps_dput hu (pv 2) (pv 7) (pe_op op_sub (pe_dget hu (pv 2) (pv 7) (fun _ _ => rfl)) pe_int) rfl)
    (pss_cons (ps_set (i := 8) sc__law_first.nd rfl (Or.inl rfl) (pe_callB (r := rSum K) (cr_sum rfl) (by rfl) T.n_sum (by decide +kernel) (pa_cons (pe_lc (own := [("_law_one", 9)]) rfl sc__law_first.nd (pi_list (pv 1)) (blkOk_by (N := ["_law_owners", "_law_houses", "_law_left", "_law_found", "_law_k", "_law_rest", "_law_here", "_law_house", "_law_later", "_law_one"]) (sc := defScope s__law_first) (by decide +kernel)) (fun _ _ _ _ _ => pg_name (i := 9) sc__law_first.nd rfl (Or.inl rfl)) (fun _ _ _ _ _ => pts_nil) (fun _ _ _ _ _ => (pe_callB (call_min2 rfl) (by rfl) T.n_min (by decide +kernel) (pa_cons (pe_K (t := fun K => tTM K (rCntT K) _ _) (pe_tm PySem.F.slot_tuple_count PySem.F.type_tuple_count mt_tcount (pv 5) (pa_cons (pv 9) pa_nil))) (pa_cons (pe_dget hu (pv 2) (pv 9) (fun _ _ => rfl)) pa_nil))))) pa_nil)))
    (pss_one (ps_if (pt_cmpR op_eq (pe_op op_add (pv 8) (pe_callTy call_int1 (by rfl) T.n_int (by decide +kernel) (pa_cons (pe_cmpR op_eq (pe_ix (r := rIxT K) ix_tup (pv 0) (pv 4) (fun _ _ => rfl)) (pv 7) (nomark _)) pa_nil))) (pv 6) (nomark _)) (pss_one (ps_set (i := 3) sc__law_first.nd rfl (Or.inl rfl) (pe_op (r := rCatF K) op_catF (pv 3) (pe_tupF (pa_cons (pv 7) pa_nil))))) (pss_one (ps_dput hu (pv 2) (pv 7) (pe_op op_add (pe_dget hu (pv 2) (pv 7) (fun _ _ => rfl)) pe_int) rfl)))))) pss_nil)))))))
    (pss_one (ps_ret (pv 3)))))),
    fun W => (s_seq (s_alias (by decide) (p_cs rc_dictD (p_cons (p_var (i := 2) (by decide)) p_nil)))
    (s_seq (s_alias (by decide) (p_tup p_nil))
    (s_seq (s_for (i_range (p_c (d := .int 12))) (g_name (i := 4) (by decide)) (fun _ => (s_seq (s_alias (by decide) (p_sliceT (p_var (i := 0) (by decide)) (p_part (p_op rv_add (p_var (i := 4) (by decide)) (p_c (d := .int 1)))) p_noPart))
    (s_seq (s_set (by decide) (e_cb1 rc_sum (e_lc (by decide) (i_lst (p_var (i := 1) (by decide))) (fun _ => e_yes) (fun _ => (e_pure (p_cb rc_min2 (p_cons (p_cnt (p_sliceT (p_var (i := 0) (by decide)) (p_part (p_var (i := 4) (by decide))) p_noPart) (p_var (i := 7) (by decide))) (p_cons (p_dget (p_var (i := 2) (by decide)) (p_var (i := 7) (by decide))) p_nil))))))))
    (s_for (i_lst (p_var (i := 1) (by decide))) (g_name (i := 7) (by decide)) (fun _ => (s_if (e_pureT (p_and (p_test (p_op rv_eq (p_len (p_var (i := 3) (by decide))) (p_var (i := 4) (by decide)))) (p_test (p_op rv_gt (p_dget (p_var (i := 2) (by decide)) (p_var (i := 7) (by decide))) (p_c (d := .int 0)))))) (s_seq (s_dput (p_var (i := 2) (by decide)) (p_var (i := 7) (by decide)) (e_pure (p_op rv_sub (p_dget (p_var (i := 2) (by decide)) (p_var (i := 7) (by decide))) (p_c (d := .int 1)))))
    (s_seq (s_set (by decide) (e_cb1 rc_sum (e_lc (by decide) (i_lst (p_var (i := 1) (by decide))) (fun _ => e_yes) (fun _ => (e_pure (p_cb rc_min2 (p_cons (p_cnt (p_var (i := 5) (by decide)) (p_var (i := 9) (by decide))) (p_cons (p_dget (p_var (i := 2) (by decide)) (p_var (i := 9) (by decide))) p_nil))))))))
    (s_if (e_pureT (p_test (p_op rv_eq (p_op rv_add (p_var (i := 8) (by decide)) (p_cb rc_int (p_cons (p_op rv_eq (p_ixT (p_var (i := 0) (by decide)) (p_var (i := 4) (by decide))) (p_var (i := 7) (by decide))) p_nil))) (p_var (i := 6) (by decide))))) (s_alias (by decide) (p_opS rv_catT (p_var (i := 3) (by decide)) (p_tup (p_cons (p_var (i := 7) (by decide)) p_nil)))) (s_dput (p_var (i := 2) (by decide)) (p_var (i := 7) (by decide)) (e_pure (p_op rv_add (p_dget (p_var (i := 2) (by decide)) (p_var (i := 7) (by decide))) (p_c (d := .int 1)))))))) s_next)))))))
    (s_ret (e_move (i := 3) (by decide))))))⟩
end
end K02
namespace K02
open PySem PySem.Spec PyProof.Rows L2 Mv
section
variable {P : Program} {w : World} {K : PySem.W.Frag} {mg : Str → Option Value} {base : Heap}
theorem ok__law_shared (T : Txt K mg) : FnOk P w K mg base CX0 11 T.a__law_shared T.d__law_shared ["_law_owners", "_law_houses"] (spMv K 2 g__law_shared) := by
  refine fn_mv T.F__law_shared sc__law_shared (fun cdv A outer s H E as hr => ?_)
  have hu := hu_of hr
  exact ⟨_, (pss_cons (ps_set (i := 2) sc__law_shared.nd rfl (Or.inl rfl) (pe_call (ok__law_stay T) (hr.mono (by decide)) rfl T.m__law_stay T.F__law_stay.kp T.b__law_stay .nil pass0 (pa_cons (pv 0) (pa_cons (pv 1) pa_nil))))
    (pss_cons (ps_set (i := 3) sc__law_shared.nd rfl (Or.inr rfl) (pe_op op_fdiv pe_int (pe_callB (r := rLenK K) call_lenK (by rfl) T.n_len PySem.boot_len (pa_cons (pv 1) pa_nil))))
    (pss_cons (ps_set (i := 4) sc__law_shared.nd rfl (Or.inl rfl) (pe_lst pa_nil))
    (pss_cons (ps_for PassesOwn.never rfl (pi_list (pe_call (ok__law_choices T) (hr.mono (by decide)) rfl T.m__law_choices T.F__law_choices.kp T.b__law_choices .nil pass0 (pa_cons (pv 1) (pa_cons (pe_op op_mod pe_int (pe_callB (r := rLenK K) call_lenK (by rfl) T.n_len PySem.boot_len (pa_cons (pv 1) pa_nil))) pa_nil)))) (pg_name (i := 5) sc__law_shared.nd rfl (Or.inr rfl)) (pss_cons (ps_set (i := 6) sc__law_shared.nd rfl (Or.inr rfl) (pe_callTy (r := rDictPK K) (call_dictPK rfl) (by rfl) T.n_dict (by decide +kernel) (pa_cons (pe_lc (own := [("_law_house", 7)]) rfl sc__law_shared.nd (pi_list (pv 1)) (blkOk_by (N := ["_law_owners", "_law_houses", "_law_best", "_law_share", "_law_found", "_law_more", "_law_left", "_law_house"]) (sc := defScope s__law_shared) (by decide +kernel)) (fun _ _ _ _ _ => pg_name (i := 7) sc__law_shared.nd rfl (Or.inl rfl)) (fun _ _ _ _ _ => pts_nil) (fun _ _ _ _ _ => (pe_tupF (pa_cons (pv 7) (pa_cons (pe_op op_add (pv 3) (pe_callTy call_int1 (by rfl) T.n_int (by decide +kernel) (pa_cons (pe_cmpR (r := rIn K false) op_in_seq (pv 7) (pv 5) (by rfl)) pa_nil))) pa_nil))))) pa_nil)))
    (pss_one (ps_if (pt_cmpR op_eq (pe_callB (r := rSum K) (cr_sum rfl) (by rfl) T.n_sum (by decide +kernel) (pa_cons (pe_lc (own := [("_law_house", 7)]) rfl sc__law_shared.nd (pi_list (pv 1)) (blkOk_by (N := ["_law_owners", "_law_houses", "_law_best", "_law_share", "_law_found", "_law_more", "_law_left", "_law_house"]) (sc := defScope s__law_shared) (by decide +kernel)) (fun _ _ _ _ _ => pg_name (i := 7) sc__law_shared.nd rfl (Or.inl rfl)) (fun _ _ _ _ _ => pts_nil) (fun _ _ _ _ _ => (pe_callB (call_min2 rfl) (by rfl) T.n_min (by decide +kernel) (pa_cons (pe_K (t := fun K => tTM K (rCntT K) _ _) (pe_tm PySem.F.slot_tuple_count PySem.F.type_tuple_count mt_tcount (pv 0) (pa_cons (pv 7) pa_nil))) (pa_cons (pe_dget hu (pv 6) (pv 7) (fun _ _ => rfl)) pa_nil))))) pa_nil)) (pv 2) (nomark _)) (pss_one (ps_expr (pe_K (t := fun K => tBM K "list" rAppend _ _) (pe_bm PySem.F.plainAttrs_list PySem.F.slot_list_append PySem.F.type_list_append mt_append (pv 4) (pa_cons (pe_call (ok__law_first T) (hr.mono (by decide)) rfl T.m__law_first T.F__law_first.kp T.b__law_first .nil pass0 (pa_cons (pv 0) (pa_cons (pv 1) (pa_cons (pv 6) pa_nil)))) pa_nil))))) pss_nil))))
    (pss_one (ps_ret (pe_callB (cr_minD rfl) (by rfl) T.n_min (by decide +kernel) (pa_cons (pv 4) pa_nil)))))))),
    fun W => (s_seq (s_set (by decide) (e_call (p_cons (p_var (i := 0) (by decide)) (p_cons (p_var (i := 1) (by decide)) p_nil)) (dl_cons (dl_cons dl_nil))))
    (s_seq (s_alias (by decide) (p_op rv_div (p_c (d := .int 12)) (p_len (p_var (i := 1) (by decide)))))
    (s_seq (s_alias (by decide) (p_lst p_nil))
    (s_seq (s_for (i_lstE (e_call (p_cons (p_var (i := 1) (by decide)) (p_cons (p_op rv_mod (p_c (d := .int 12)) (p_len (p_var (i := 1) (by decide)))) p_nil)) (dl_cons (dl_cons dl_nil)))) (g_name (i := 5) (by decide)) (fun _ => (s_seq (s_set (by decide) (e_cs1 rc_dictP (e_lc (by decide) (i_lst (p_var (i := 1) (by decide))) (fun _ => e_yes) (fun _ => (e_pure (p_tup (p_cons (p_var (i := 7) (by decide)) (p_cons (p_op rv_add (p_var (i := 3) (by decide)) (p_cb rc_int (p_cons (p_opS (rv_in false) (p_var (i := 7) (by decide)) (p_var (i := 5) (by decide))) p_nil))) p_nil))))))))
    (s_if (e_test (e_op rv_eq (e_cb1 rc_sum (e_lc (by decide) (i_lst (p_var (i := 1) (by decide))) (fun _ => e_yes) (fun _ => (e_pure (p_cb rc_min2 (p_cons (p_cnt (p_var (i := 0) (by decide)) (p_var (i := 7) (by decide))) (p_cons (p_dget (p_var (i := 6) (by decide)) (p_var (i := 7) (by decide))) p_nil))))))) (e_pure (p_var (i := 2) (by decide))))) (s_drop (e_bm1E nd_append (p_var (i := 4) (by decide)) (fun _ => (e_call (p_cons (p_var (i := 0) (by decide)) (p_cons (p_var (i := 1) (by decide)) (p_cons (p_var (i := 6) (by decide)) p_nil))) (dl_cons (dl_cons (dl_cons dl_nil))))))) s_next))))
    (s_ret (e_pure (p_cs (rc_minDK (by exact hr.units) (by exact rfl)) (p_cons (p_var (i := 4) (by decide)) p_nil))))))))⟩
end
end K02
namespace K02
open PySem PySem.Spec PyProof.Rows L2 Mv
section
variable {P : Program} {w : World} {K : PySem.W.Frag} {mg : Str → Option Value} {base : Heap}
theorem ok_law (T : Txt K mg) : FnOk P w K mg base CX0 12 T.a_law T.d_law ["_law_script"] (spMv K 1 g_law) := by
  refine fn_mv T.F_law sc_law (fun cdv A outer s H E as hr => ?_)
  exact ⟨_, (pss_cons (ps_set (i := 1) sc_law.nd rfl (Or.inr rfl) (pe_call (ok__law_begun T) (hr.mono (by decide)) rfl T.m__law_begun T.F__law_begun.kp T.b__law_begun .nil pass0 (pa_cons (pv 0) pa_nil)))
    (pss_cons (ps_for PassesOwn.never rfl (pi_range1 (by rfl) T.n_range (pa_cons pe_int pa_nil)) (pg_name (i := 2) sc_law.nd rfl (Or.inl rfl)) (pss_cons (ps_set (i := 3) sc_law.nd rfl (Or.inr rfl) (pe_listRg rfl (by rfl) T.n_list (prg_1 (by rfl) T.n_range pe_int)))
    (pss_cons (ps_set (i := 4) sc_law.nd rfl (Or.inr rfl) (pe_lc (own := [("_law_k", 12)]) rfl sc_law.nd (pi_range1 (by rfl) T.n_range (pa_cons pe_int pa_nil)) (blkOk_by (N := ["_law_script", "_law_box", "_law_turn", "_law_left", "_law_some", "_law_most", "_law_owners", "_law_again", "_law_at", "_law_houses", "_law_handed", "_law_found", "_law_k"]) (sc := defScope s_law) (by decide +kernel)) (fun _ _ _ _ _ => pg_name (i := 12) sc_law.nd rfl (Or.inl rfl)) (fun _ _ _ _ _ => pts_nil) (fun _ _ _ _ _ => (pe_K (t := fun K => tBM K "list" rPopAt _ _) (pe_bm PySem.F.plainAttrs_list PySem.F.slot_list_pop PySem.F.type_list_pop mt_popAt (pv 3) (pa_cons (pe_call (ok__law_take T) (hr.mono (by decide)) rfl T.m__law_take T.F__law_take.kp T.b__law_take .nil pass0 (pa_cons (pv 1) (pa_cons (pe_callB (r := rLenK K) call_lenK (by rfl) T.n_len PySem.boot_len (pa_cons (pv 3) pa_nil)) pa_nil))) pa_nil))))))
    (pss_cons (ps_set (i := 5) sc_law.nd rfl (Or.inr rfl) (pe_ix (r := rIxL K) ix_list (pe_lst (pa_cons pe_int (pa_cons pe_int (pa_cons pe_int pa_nil)))) (pe_call (ok__law_take T) (hr.mono (by decide)) rfl T.m__law_take T.F__law_take.kp T.b__law_take .nil pass0 (pa_cons (pv 1) (pa_cons pe_int pa_nil))) (fun _ _ => rfl)))
    (pss_cons (ps_set (i := 6) sc_law.nd rfl (Or.inl rfl) (pe_callTy (r := rTupQ K) cr_tupQ (by rfl) T.n_tuple (by decide +kernel) (pa_cons (pe_lc (own := [("_law_k", 12)]) rfl sc_law.nd (pi_range1 (by rfl) T.n_range (pa_cons pe_int pa_nil)) (blkOk_by (N := ["_law_script", "_law_box", "_law_turn", "_law_left", "_law_some", "_law_most", "_law_owners", "_law_again", "_law_at", "_law_houses", "_law_handed", "_law_found", "_law_k"]) (sc := defScope s_law) (by decide +kernel)) (fun _ _ _ _ _ => pg_name (i := 12) sc_law.nd rfl (Or.inl rfl)) (fun _ _ _ _ _ => pts_nil) (fun _ _ _ _ _ => (pe_ix (r := rIxL K) ix_list (pv 4) (pe_call (ok__law_take T) (hr.mono (by decide)) rfl T.m__law_take T.F__law_take.kp T.b__law_take .nil pass0 (pa_cons (pv 1) (pa_cons (pv 5) pa_nil))) (fun _ _ => rfl)))) pa_nil)))
    (pss_one (ps_for PassesOwn.never rfl (pi_range1 (by rfl) T.n_range (pa_cons (pe_op op_add pe_int (pe_call (ok__law_take T) (hr.mono (by decide)) rfl T.m__law_take T.F__law_take.kp T.b__law_take .nil pass0 (pa_cons (pv 1) (pa_cons pe_int pa_nil)))) pa_nil)) (pg_name (i := 7) sc_law.nd rfl (Or.inl rfl)) (pss_cons (ps_set (i := 8) sc_law.nd rfl (Or.inl rfl) (pe_call (ok__law_take T) (hr.mono (by decide)) rfl T.m__law_take T.F__law_take.kp T.b__law_take .nil pass0 (pa_cons (pv 1) (pa_cons pe_int pa_nil))))
    (pss_cons (ps_set (i := 9) sc_law.nd rfl (Or.inl rfl) (pe_callB (r := rSortedI K) cr_sortedI (by rfl) T.n_sorted (by decide +kernel) (pa_cons (pe_slice (r := rSlL K) sl_list (pv 4) (po_some (pv 8)) (po_some (pe_op op_add (pe_op op_add (pv 8) pe_int) (pe_call (ok__law_take T) (hr.mono (by decide)) rfl T.m__law_take T.F__law_take.kp T.b__law_take .nil pass0 (pa_cons (pv 1) (pa_cons (pe_callB (call_min2 rfl) (by rfl) T.n_min (by decide +kernel) (pa_cons pe_int (pa_cons (pe_op op_sub pe_int (pv 8)) pa_nil))) pa_nil)))))) pa_nil)))
    (pss_cons (ps_set (i := 10) sc_law.nd rfl (Or.inl rfl) (pe_callTy (r := rListOfK K) call_listK (by rfl) T.n_list (by decide +kernel) (pa_cons (pv 9) pa_nil)))
    (pss_cons (ps_set (i := 11) sc_law.nd rfl (Or.inl rfl) (pe_call (ok_shared T) (hr.mono (by decide)) rfl T.m_shared T.F_shared.kp T.b_shared .nil pass0 (pa_cons (pv 6) (pa_cons (pv 10) pa_nil))))
    (pss_cons (ps_if (PW.pt (pw_or (pt_not (pt_val (pe_call (ok__law_alike T) (hr.mono (by decide)) rfl T.m__law_alike T.F__law_alike.kp T.b__law_alike .nil pass0 (pa_cons (pv 11) (pa_cons (pe_call (ok__law_shared T) (hr.mono (by decide)) rfl T.m__law_shared T.F__law_shared.kp T.b__law_shared .nil pass0 (pa_cons (pv 6) (pa_cons (pv 9) pa_nil))) pa_nil))))) (pw_or1 (pt_cmpR (r := rNeD K) (op_neD hr.units) (pv 10) (pv 9) (nomark _))))) (pss_one (ps_ret pe_bl)) pss_nil)
    (pss_cons (ps_expr (pe_K (t := fun K => tBM0 K "list" rClear _) (pe_bm0 PySem.F.plainAttrs_list PySem.F.slot_list_clear PySem.F.type_list_clear mt_clear (pv 10))))
    (pss_cons (ps_if (pt_not (pt_val (pe_call (ok__law_alike T) (hr.mono (by decide)) rfl T.m__law_alike T.F__law_alike.kp T.b__law_alike .nil pass0 (pa_cons (pe_call (ok_shared T) (hr.mono (by decide)) rfl T.m_shared T.F_shared.kp T.b_shared .nil pass0 (pa_cons (pv 6) (pa_cons (pv 9) pa_nil))) (pa_cons (pv 11) pa_nil))))) (pss_one (ps_ret pe_bl)) pss_nil)
    (pss_one (ps_set (i := 6) sc_law.nd rfl (Or.inl rfl) (pv 11)))))))))))))))))
    (pss_one (ps_ret pe_bl)))),
    fun W => (s_seq (s_set (by decide) (e_call (p_cons (p_var (i := 0) (by decide)) p_nil) (dl_cons dl_nil)))
    (s_seq (s_for (i_range (p_c (d := .int 4))) (g_name (i := 2) (by decide)) (fun _ => (s_seq (s_alias (by decide) (p_lstRg1 (p_c (d := .int 20))))
    (s_seq (s_set (by decide) (e_lc (by decide) (i_range (p_c (d := .int 8))) (fun _ => e_yes) (fun _ => (e_bm1E nd_popAt (p_var (i := 3) (by decide)) (fun _ => (e_call (p_cons (p_var (i := 1) (by decide)) (p_cons (p_len (p_var (i := 3) (by decide))) p_nil)) (dl_cons (dl_cons dl_nil))))))))
    (s_seq (s_set (by decide) (e_op2E (fun a b => p_ixL a b) (l_consP (p_lst (p_cons (p_c (d := .int 1)) (p_cons (p_c (d := .int 2)) (p_cons (p_c (d := .int 6)) p_nil)))) (fun _ => (l_consE (e_call (p_cons (p_var (i := 1) (by decide)) (p_cons (p_c (d := .int 3)) p_nil)) (dl_cons (dl_cons dl_nil))) (fun _ => l_nil))))))
    (s_seq (s_set (by decide) (e_cs1 rc_tuple (e_lc (by decide) (i_range (p_c (d := .int 12))) (fun _ => e_yes) (fun _ => (e_op2E (fun a b => p_ixL a b) (l_consP (p_var (i := 4) (by decide)) (fun _ => (l_consE (e_call (p_cons (p_var (i := 1) (by decide)) (p_cons (p_var (i := 5) (by decide)) p_nil)) (dl_cons (dl_cons dl_nil))) (fun _ => l_nil)))))))))
    (s_for (i_rangeE (e_op rv_add (e_pure (p_c (d := .int 1))) (e_call (p_cons (p_var (i := 1) (by decide)) (p_cons (p_c (d := .int 3)) p_nil)) (dl_cons (dl_cons dl_nil))))) (g_name (i := 7) (by decide)) (fun _ => (s_seq (s_set (by decide) (e_call (p_cons (p_var (i := 1) (by decide)) (p_cons (p_c (d := .int 4)) p_nil)) (dl_cons (dl_cons dl_nil))))
    (s_seq (s_set (by decide) (e_cs1 rc_sorted (e_sliceL (l_consP (p_var (i := 4) (by decide)) (fun _ => l_nil)) (fun _ => e_pureO (p_part (p_var (i := 8) (by decide)))) (fun _ => (e_partE (e_op rv_add (e_pure (p_op rv_add (p_var (i := 8) (by decide)) (p_c (d := .int 1)))) (e_call (p_cons (p_var (i := 1) (by decide)) (p_cons (p_cb rc_min2 (p_cons (p_c (d := .int 6)) (p_cons (p_op rv_sub (p_c (d := .int 8)) (p_var (i := 8) (by decide))) p_nil))) p_nil)) (dl_cons (dl_cons dl_nil)))))))))
    (s_seq (s_alias (by decide) (p_cs rc_list (p_cons (p_var (i := 9) (by decide)) p_nil)))
    (s_seq (s_set (by decide) (e_call (p_cons (p_var (i := 6) (by decide)) (p_cons (p_var (i := 10) (by decide)) p_nil)) (dl_cons (dl_cons dl_nil))))
    (s_seq (s_if (e_or (e_not (e_tB (e_callE (l_consP (p_var (i := 11) (by decide)) (fun _ => (l_consE (e_call (p_cons (p_var (i := 6) (by decide)) (p_cons (p_var (i := 9) (by decide)) p_nil)) (dl_cons (dl_cons dl_nil))) (fun _ => l_nil))))))) (e_pureT (p_test (p_op rv_neD (p_var (i := 10) (by decide)) (p_var (i := 9) (by decide)))))) (s_ret (e_pure (p_c (d := .bool false)))) s_next)
    (s_seq (s_drop (e_bm0 nd_clear (p_var (i := 10) (by decide))))
    (s_seq (s_if (e_not (e_tB (e_callE (l_consE (e_call (p_cons (p_var (i := 6) (by decide)) (p_cons (p_var (i := 9) (by decide)) p_nil)) (dl_cons (dl_cons dl_nil))) (fun _ => (l_consP (p_var (i := 11) (by decide)) (fun _ => l_nil))))))) (s_ret (e_pure (p_c (d := .bool false)))) s_next)
    (s_alias (by decide) (p_var (i := 11) (by decide))))))))))))))))))
    (s_ret (e_pure (p_c (d := .bool true))))))⟩
end
end K02
namespace K02
open PySem PySem.Spec PyProof.Rows L2 Mv
theorem law_sp {K : PySem.W.Frag} {H : Hp} {a : Addr} {ns : List Int} {E : XK} (hl : ns.length ≤ 63) (hS : SqL K H a (ns.map V.int)) : spMv K 1 g_law [.ref a] H (fun v _ => v = .bl true) E := by
  let F : Hp := fun b => if b = a then H b else none
  have fa : F a = H a := if_pos rfl
  have hF : SqL K F a (ns.map V.int) := hS.imp (fun rd => by
    rcases rd with z | ⟨o, z⟩
    · exact .inl (fa.trans z)
    · exact .inr ⟨o, fa.trans z⟩) id
  have hd : ∀ (ns : List Int), DqAll K F (ns.map V.int) (ns.map PyData.int) := by
    intro ns
    induction ns with
    | nil => exact .nil
    | cons i r ih => exact .cons (.int i) ih
  refine ⟨rfl, F, [.dat (.list (ns.map .int))], [], .dat (.bool true), [.dat (.list (ns.map .int))], fun b o e => ?_, .cons (fp := []) (.dat (.lst hF (hd ns))) .nil, List.nodup_nil, (fun _ m => nomatch m), v_law (by omega), fun v F' H' fr fp' g o ov nd of => ?_⟩
  · by_cases hb : b = a
    · have : F b = H b := if_pos hb
      rw [← this]; exact e
    · have : F b = none := if_neg hb
      rw [this] at e; cases e
  · have := (Own.dat_inv ov rfl).1
    cases this
    rfl

theorem all_mk {l : PySem.W.OpenLaw} {w : World} {K : PySem.W.Frag} {h : Heap} {mg : Str → Option Value} {fa f0 f1 f2 f3 f4 f5 f6 f7 f8 f9 f10 f11 f12 f13 f14 f15 : Addr} (X : K.In h) (G : h.Ns mainGlobals mg) (hfa : mg "law" = some (.ref fa))
    {od0 an0 od1 an1 od2 an2 od3 an3 od4 an4 od5 an5 od6 an6 od7 an7 od8 an8 od9 an9 od10 an10 od11 an11 od12 an12 od13 an13 od14 an14 od15 an15 : Option Addr} {sl0 sl1 sl2 sl3 sl4 sl5 sl6 sl7 sl8 sl9 sl10 sl11 sl12 sl13 sl14 sl15 : Array (Option Value)} {oc0 kV0 dc0 pm0 cd0 ct0 oc1 kV1 dc1 pm1 cd1 ct1 oc2 kV2 dc2 pm2 cd2 ct2 oc3 kV3 dc3 pm3 cd3 ct3 oc4 kV4 dc4 pm4 cd4 ct4 oc5 kV5 dc5 pm5 cd5 ct5 oc6 kV6 dc6 pm6 cd6 ct6 oc7 kV7 dc7 pm7 cd7 ct7 oc8 kV8 dc8 pm8 cd8 ct8 oc9 kV9 dc9 pm9 cd9 ct9 oc10 kV10 dc10 pm10 cd10 ct10 oc11 kV11 dc11 pm11 cd11 ct11 oc12 kV12 dc12 pm12 cd12 ct12 oc13 kV13 dc13 pm13 cd13 ct13 oc14 kV14 dc14 pm14 cd14 ct14 oc15 kV15 dc15 pm15 cd15 ct15 : Value} {tkSLOTS tkLAST_NAME tkMOST_HOUSES : Tok}
    (a0 : PySem.W.nsIn K mainGlobals "is_within" = some (some (.ref f0))) (l0 : K.lookup f0 = some ⟨oc0, od0, .func (PySem.W.fnOf "is_within" "is_within" (defArgs s_is_within) (defBody s_is_within) (defScope s_is_within) .none kV0 dc0 pm0 an0 cd0 ct0), sl0⟩) (c0 : PySem.W.codeIn K cd0 "is_within" = true) (k0 : PySem.W.keepIn K (.ref f0) = true)
    (a1 : PySem.W.nsIn K mainGlobals "is_house" = some (some (.ref f1))) (l1 : K.lookup f1 = some ⟨oc1, od1, .func (PySem.W.fnOf "is_house" "is_house" (defArgs s_is_house) (defBody s_is_house) (defScope s_is_house) .none kV1 dc1 pm1 an1 cd1 ct1), sl1⟩) (c1 : PySem.W.codeIn K cd1 "is_house" = true) (k1 : PySem.W.keepIn K (.ref f1) = true)
    (a2 : PySem.W.nsIn K mainGlobals "is_owners" = some (some (.ref f2))) (l2 : K.lookup f2 = some ⟨oc2, od2, .func (PySem.W.fnOf "is_owners" "is_owners" (defArgs s_is_owners) (defBody s_is_owners) (defScope s_is_owners) .none kV2 dc2 pm2 an2 cd2 ct2), sl2⟩) (c2 : PySem.W.codeIn K cd2 "is_owners" = true) (k2 : PySem.W.keepIn K (.ref f2) = true)
    (a3 : PySem.W.nsIn K mainGlobals "are_houses" = some (some (.ref f3))) (l3 : K.lookup f3 = some ⟨oc3, od3, .func (PySem.W.fnOf "are_houses" "are_houses" (defArgs s_are_houses) (defBody s_are_houses) (defScope s_are_houses) .none kV3 dc3 pm3 an3 cd3 ct3), sl3⟩) (c3 : PySem.W.codeIn K cd3 "are_houses" = true) (k3 : PySem.W.keepIn K (.ref f3) = true)
    (a4 : PySem.W.nsIn K mainGlobals "shared" = some (some (.ref f4))) (l4 : K.lookup f4 = some ⟨oc4, od4, .func (PySem.W.fnOf "shared" "shared" (defArgs s_shared) (defBody s_shared) (defScope s_shared) .none kV4 dc4 pm4 an4 cd4 ct4), sl4⟩) (c4 : PySem.W.codeIn K cd4 "shared" = true) (k4 : PySem.W.keepIn K (.ref f4) = true)
    (a5 : PySem.W.nsIn K mainGlobals "first_owner" = some (some (.ref f5))) (l5 : K.lookup f5 = some ⟨oc5, od5, .func (PySem.W.fnOf "first_owner" "first_owner" (defArgs s_first_owner) (defBody s_first_owner) (defScope s_first_owner) .none kV5 dc5 pm5 an5 cd5 ct5), sl5⟩) (c5 : PySem.W.codeIn K cd5 "first_owner" = true) (k5 : PySem.W.keepIn K (.ref f5) = true)
    (a6 : PySem.W.nsIn K mainGlobals "most_kept" = some (some (.ref f6))) (l6 : K.lookup f6 = some ⟨oc6, od6, .func (PySem.W.fnOf "most_kept" "most_kept" (defArgs s_most_kept) (defBody s_most_kept) (defScope s_most_kept) .none kV6 dc6 pm6 an6 cd6 ct6), sl6⟩) (c6 : PySem.W.codeIn K cd6 "most_kept" = true) (k6 : PySem.W.keepIn K (.ref f6) = true)
    (a7 : PySem.W.nsIn K mainGlobals "_law_begun" = some (some (.ref f7))) (l7 : K.lookup f7 = some ⟨oc7, od7, .func (PySem.W.fnOf "_law_begun" "_law_begun" (defArgs s__law_begun) (defBody s__law_begun) (defScope s__law_begun) .none kV7 dc7 pm7 an7 cd7 ct7), sl7⟩) (c7 : PySem.W.codeIn K cd7 "_law_begun" = true) (k7 : PySem.W.keepIn K (.ref f7) = true)
    (a8 : PySem.W.nsIn K mainGlobals "_law_take" = some (some (.ref f8))) (l8 : K.lookup f8 = some ⟨oc8, od8, .func (PySem.W.fnOf "_law_take" "_law_take" (defArgs s__law_take) (defBody s__law_take) (defScope s__law_take) .none kV8 dc8 pm8 an8 cd8 ct8), sl8⟩) (c8 : PySem.W.codeIn K cd8 "_law_take" = true) (k8 : PySem.W.keepIn K (.ref f8) = true)
    (a9 : PySem.W.nsIn K mainGlobals "_law_alike" = some (some (.ref f9))) (l9 : K.lookup f9 = some ⟨oc9, od9, .func (PySem.W.fnOf "_law_alike" "_law_alike" (defArgs s__law_alike) (defBody s__law_alike) (defScope s__law_alike) .none kV9 dc9 pm9 an9 cd9 ct9), sl9⟩) (c9 : PySem.W.codeIn K cd9 "_law_alike" = true) (k9 : PySem.W.keepIn K (.ref f9) = true)
    (a10 : PySem.W.nsIn K mainGlobals "_law_moved" = some (some (.ref f10))) (l10 : K.lookup f10 = some ⟨oc10, od10, .func (PySem.W.fnOf "_law_moved" "_law_moved" (defArgs s__law_moved) (defBody s__law_moved) (defScope s__law_moved) .none kV10 dc10 pm10 an10 cd10 ct10), sl10⟩) (c10 : PySem.W.codeIn K cd10 "_law_moved" = true) (k10 : PySem.W.keepIn K (.ref f10) = true)
    (a11 : PySem.W.nsIn K mainGlobals "_law_choices" = some (some (.ref f11))) (l11 : K.lookup f11 = some ⟨oc11, od11, .func (PySem.W.fnOf "_law_choices" "_law_choices" (defArgs s__law_choices) (defBody s__law_choices) (defScope s__law_choices) .none kV11 dc11 pm11 an11 cd11 ct11), sl11⟩) (c11 : PySem.W.codeIn K cd11 "_law_choices" = true) (k11 : PySem.W.keepIn K (.ref f11) = true)
    (a12 : PySem.W.nsIn K mainGlobals "_law_stay" = some (some (.ref f12))) (l12 : K.lookup f12 = some ⟨oc12, od12, .func (PySem.W.fnOf "_law_stay" "_law_stay" (defArgs s__law_stay) (defBody s__law_stay) (defScope s__law_stay) .none kV12 dc12 pm12 an12 cd12 ct12), sl12⟩) (c12 : PySem.W.codeIn K cd12 "_law_stay" = true) (k12 : PySem.W.keepIn K (.ref f12) = true)
    (a13 : PySem.W.nsIn K mainGlobals "_law_shared" = some (some (.ref f13))) (l13 : K.lookup f13 = some ⟨oc13, od13, .func (PySem.W.fnOf "_law_shared" "_law_shared" (defArgs s__law_shared) (defBody s__law_shared) (defScope s__law_shared) .none kV13 dc13 pm13 an13 cd13 ct13), sl13⟩) (c13 : PySem.W.codeIn K cd13 "_law_shared" = true) (k13 : PySem.W.keepIn K (.ref f13) = true)
    (a14 : PySem.W.nsIn K mainGlobals "_law_first" = some (some (.ref f14))) (l14 : K.lookup f14 = some ⟨oc14, od14, .func (PySem.W.fnOf "_law_first" "_law_first" (defArgs s__law_first) (defBody s__law_first) (defScope s__law_first) .none kV14 dc14 pm14 an14 cd14 ct14), sl14⟩) (c14 : PySem.W.codeIn K cd14 "_law_first" = true) (k14 : PySem.W.keepIn K (.ref f14) = true)
    (a15 : PySem.W.nsIn K mainGlobals "law" = some (some (.ref f15))) (l15 : K.lookup f15 = some ⟨oc15, od15, .func (PySem.W.fnOf "law" "law" (defArgs s_law) (defBody s_law) (defScope s_law) .none kV15 dc15 pm15 an15 cd15 ct15), sl15⟩) (c15 : PySem.W.codeIn K cd15 "law" = true) (k15 : PySem.W.keepIn K (.ref f15) = true)
    (vSLOTS : PySem.W.nsIn K mainGlobals "SLOTS" = some (some (.int 12 tkSLOTS)))
    (vLAST_NAME : PySem.W.nsIn K mainGlobals "LAST_NAME" = some (some (.int 19 tkLAST_NAME)))
    (vMOST_HOUSES : PySem.W.nsIn K mainGlobals "MOST_HOUSES" = some (some (.int 6 tkMOST_HOUSES)))
    (zall : PySem.W.nsIn K mainGlobals "all" = some none)
    (zbool : PySem.W.nsIn K mainGlobals "bool" = some none)
    (zdict : PySem.W.nsIn K mainGlobals "dict" = some none)
    (zdivmod : PySem.W.nsIn K mainGlobals "divmod" = some none)
    (zint : PySem.W.nsIn K mainGlobals "int" = some none)
    (zisinstance : PySem.W.nsIn K mainGlobals "isinstance" = some none)
    (zlen : PySem.W.nsIn K mainGlobals "len" = some none)
    (zlist : PySem.W.nsIn K mainGlobals "list" = some none)
    (zmax : PySem.W.nsIn K mainGlobals "max" = some none)
    (zmin : PySem.W.nsIn K mainGlobals "min" = some none)
    (zrange : PySem.W.nsIn K mainGlobals "range" = some none)
    (zset : PySem.W.nsIn K mainGlobals "set" = some none)
    (zsorted : PySem.W.nsIn K mainGlobals "sorted" = some none)
    (zstr : PySem.W.nsIn K mainGlobals "str" = some none)
    (zsum : PySem.W.nsIn K mainGlobals "sum" = some none)
    (ztuple : PySem.W.nsIn K mainGlobals "tuple" = some none)
    : ∃ fd : FuncData, (∀ (s : Shared) (v : Value), BindsTo s fd ⟨[v], []⟩ [("_law_script", v)]) ∧ ∀ base : Heap, K.In base → base.Ns mainGlobals mg → FnOk l.prog w K mg base CX0 12 fa fd ["_law_script"] (spMv K 1 g_law) := by
  have e := hfa.symm.trans (PySem.W.mg_of X G a15)
  cases e
  have F0 := fun_mk (st := s_is_within) l0 c0 k0
  have F1 := fun_mk (st := s_is_house) l1 c1 k1
  have F2 := fun_mk (st := s_is_owners) l2 c2 k2
  have F3 := fun_mk (st := s_are_houses) l3 c3 k3
  have F4 := fun_mk (st := s_shared) l4 c4 k4
  have F5 := fun_mk (st := s_first_owner) l5 c5 k5
  have F6 := fun_mk (st := s_most_kept) l6 c6 k6
  have F7 := fun_mk (st := s__law_begun) l7 c7 k7
  have F8 := fun_mk (st := s__law_take) l8 c8 k8
  have F9 := fun_mk (st := s__law_alike) l9 c9 k9
  have F10 := fun_mk (st := s__law_moved) l10 c10 k10
  have F11 := fun_mk (st := s__law_choices) l11 c11 k11
  have F12 := fun_mk (st := s__law_stay) l12 c12 k12
  have F13 := fun_mk (st := s__law_shared) l13 c13 k13
  have F14 := fun_mk (st := s__law_first) l14 c14 k14
  have F15 := fun_mk (st := s_law) l15 c15 k15
  let T : Txt K mg := {
    n_all := PySem.W.mg_none_of X G zall
    n_bool := PySem.W.mg_none_of X G zbool
    n_dict := PySem.W.mg_none_of X G zdict
    n_divmod := PySem.W.mg_none_of X G zdivmod
    n_int := PySem.W.mg_none_of X G zint
    n_isinstance := PySem.W.mg_none_of X G zisinstance
    n_len := PySem.W.mg_none_of X G zlen
    n_list := PySem.W.mg_none_of X G zlist
    n_max := PySem.W.mg_none_of X G zmax
    n_min := PySem.W.mg_none_of X G zmin
    n_range := PySem.W.mg_none_of X G zrange
    n_set := PySem.W.mg_none_of X G zset
    n_sorted := PySem.W.mg_none_of X G zsorted
    n_str := PySem.W.mg_none_of X G zstr
    n_sum := PySem.W.mg_none_of X G zsum
    n_tuple := PySem.W.mg_none_of X G ztuple
    t_SLOTS := tkSLOTS
    c_SLOTS := PySem.W.mg_of X G vSLOTS
    t_LAST_NAME := tkLAST_NAME
    c_LAST_NAME := PySem.W.mg_of X G vLAST_NAME
    t_MOST_HOUSES := tkMOST_HOUSES
    c_MOST_HOUSES := PySem.W.mg_of X G vMOST_HOUSES
    a_is_within := f0
    d_is_within := _
    F_is_within := F0
    m_is_within := PySem.W.mg_of X G a0
    b_is_within := F0.binds (ps := ["value", "least", "most"]) fun _ _ _ _ _ _ us hl => match us, hl with | [_, _, _], _ => rfl
    a_is_house := f1
    d_is_house := _
    F_is_house := F1
    m_is_house := PySem.W.mg_of X G a1
    b_is_house := F1.binds (ps := ["value"]) fun _ _ _ _ _ _ us hl => match us, hl with | [_], _ => rfl
    a_is_owners := f2
    d_is_owners := _
    F_is_owners := F2
    m_is_owners := PySem.W.mg_of X G a2
    b_is_owners := F2.binds (ps := ["value"]) fun _ _ _ _ _ _ us hl => match us, hl with | [_], _ => rfl
    a_are_houses := f3
    d_are_houses := _
    F_are_houses := F3
    m_are_houses := PySem.W.mg_of X G a3
    b_are_houses := F3.binds (ps := ["values"]) fun _ _ _ _ _ _ us hl => match us, hl with | [_], _ => rfl
    a_shared := f4
    d_shared := _
    F_shared := F4
    m_shared := PySem.W.mg_of X G a4
    b_shared := F4.binds (ps := ["owners", "houses"]) fun _ _ _ _ _ _ us hl => match us, hl with | [_, _], _ => rfl
    a_first_owner := f5
    d_first_owner := _
    F_first_owner := F5
    m_first_owner := PySem.W.mg_of X G a5
    b_first_owner := F5.binds (ps := ["given", "rest"]) fun _ _ _ _ _ _ us hl => match us, hl with | [_, _], _ => rfl
    a_most_kept := f6
    d_most_kept := _
    F_most_kept := F6
    m_most_kept := PySem.W.mg_of X G a6
    b_most_kept := F6.binds (ps := ["given", "rest"]) fun _ _ _ _ _ _ us hl => match us, hl with | [_, _], _ => rfl
    a__law_begun := f7
    d__law_begun := _
    F__law_begun := F7
    m__law_begun := PySem.W.mg_of X G a7
    b__law_begun := F7.binds (ps := ["_law_script"]) fun _ _ _ _ _ _ us hl => match us, hl with | [_], _ => rfl
    a__law_take := f8
    d__law_take := _
    F__law_take := F8
    m__law_take := PySem.W.mg_of X G a8
    b__law_take := F8.binds (ps := ["_law_box", "_law_many"]) fun _ _ _ _ _ _ us hl => match us, hl with | [_, _], _ => rfl
    a__law_alike := f9
    d__law_alike := _
    F__law_alike := F9
    m__law_alike := PySem.W.mg_of X G a9
    b__law_alike := F9.binds (ps := ["_law_found", "_law_due"]) fun _ _ _ _ _ _ us hl => match us, hl with | [_, _], _ => rfl
    a__law_moved := f10
    d__law_moved := _
    F__law_moved := F10
    m__law_moved := PySem.W.mg_of X G a10
    b__law_moved := F10.binds (ps := ["_law_owners", "_law_others"]) fun _ _ _ _ _ _ us hl => match us, hl with | [_, _], _ => rfl
    a__law_choices := f11
    d__law_choices := _
    F__law_choices := F11
    m__law_choices := PySem.W.mg_of X G a11
    b__law_choices := F11.binds (ps := ["_law_houses", "_law_many"]) fun _ _ _ _ _ _ us hl => match us, hl with | [_, _], _ => rfl
    a__law_stay := f12
    d__law_stay := _
    F__law_stay := F12
    m__law_stay := PySem.W.mg_of X G a12
    b__law_stay := F12.binds (ps := ["_law_owners", "_law_houses"]) fun _ _ _ _ _ _ us hl => match us, hl with | [_, _], _ => rfl
    a__law_shared := f13
    d__law_shared := _
    F__law_shared := F13
    m__law_shared := PySem.W.mg_of X G a13
    b__law_shared := F13.binds (ps := ["_law_owners", "_law_houses"]) fun _ _ _ _ _ _ us hl => match us, hl with | [_, _], _ => rfl
    a__law_first := f14
    d__law_first := _
    F__law_first := F14
    m__law_first := PySem.W.mg_of X G a14
    b__law_first := F14.binds (ps := ["_law_owners", "_law_houses", "_law_left"]) fun _ _ _ _ _ _ us hl => match us, hl with | [_, _, _], _ => rfl
    a_law := fa
    d_law := _
    F_law := F15
    m_law := PySem.W.mg_of X G a15
    b_law := F15.binds (ps := ["_law_script"]) fun _ _ _ _ _ _ us hl => match us, hl with | [_], _ => rfl
  }
  exact ⟨_, fun s v => .of_eq rfl, fun base _ _ => ok_law T⟩
end K02
open PySem PySem.W PyProof.Rows
set_option maxHeartbeats 0 in
theorem PySem.Challenge.cw_drainhouse_k02_shares_holds : PySem.Challenge.rw_drainhouse_k02_shares.Holds := by
  w_on; o_law; k_head; (case hw => w_witness2)
  k_fill
  refine L2.walk_of (l := PySem.Challenge.rw_drainhouse_k02_shares) (n := 63) (k := 12) (x := "_law_script") (CX := fun _ => L2.CX0) (sp := fun w => Mv.spMv _ 1 K02.g_law) rfl (by decide) rfl ⟨rfl, by decide, by decide⟩ (fun w h Y => PySem.W.kIn_of Y) ?F (fun _ _ a ns hl _ hS => K02.law_sp hl hS) (fun _ _ _ _ _ h => h)
  case F =>
    intro w mg fa h KX G hmg
    refine' K02.all_mk KX G hmg ?a0 ?l0 ?c0 ?k0 ?a1 ?l1 ?c1 ?k1 ?a2 ?l2 ?c2 ?k2 ?a3 ?l3 ?c3 ?k3 ?a4 ?l4 ?c4 ?k4 ?a5 ?l5 ?c5 ?k5 ?a6 ?l6 ?c6 ?k6 ?a7 ?l7 ?c7 ?k7 ?a8 ?l8 ?c8 ?k8 ?a9 ?l9 ?c9 ?k9 ?a10 ?l10 ?c10 ?k10 ?a11 ?l11 ?c11 ?k11 ?a12 ?l12 ?c12 ?k12 ?a13 ?l13 ?c13 ?k13 ?a14 ?l14 ?c14 ?k14 ?a15 ?l15 ?c15 ?k15 ?vSLOTS ?vLAST_NAME ?vMOST_HOUSES ?zall ?zbool ?zdict ?zdivmod ?zint ?zisinstance ?zlen ?zlist ?zmax ?zmin ?zrange ?zset ?zsorted ?zstr ?zsum ?ztuple
    (case a0 => k_is); (case l0 => k_is); (case c0 => k_is); (case k0 => k_is); (case a1 => k_is); (case l1 => k_is); (case c1 => k_is); (case k1 => k_is); (case a2 => k_is); (case l2 => k_is); (case c2 => k_is); (case k2 => k_is); (case a3 => k_is); (case l3 => k_is); (case c3 => k_is); (case k3 => k_is); (case a4 => k_is); (case l4 => k_is); (case c4 => k_is); (case k4 => k_is); (case a5 => k_is); (case l5 => k_is); (case c5 => k_is); (case k5 => k_is); (case a6 => k_is); (case l6 => k_is); (case c6 => k_is); (case k6 => k_is); (case a7 => k_is); (case l7 => k_is); (case c7 => k_is); (case k7 => k_is); (case a8 => k_is); (case l8 => k_is); (case c8 => k_is); (case k8 => k_is); (case a9 => k_is); (case l9 => k_is); (case c9 => k_is); (case k9 => k_is); (case a10 => k_is); (case l10 => k_is); (case c10 => k_is); (case k10 => k_is); (case a11 => k_is); (case l11 => k_is); (case c11 => k_is); (case k11 => k_is); (case a12 => k_is); (case l12 => k_is); (case c12 => k_is); (case k12 => k_is); (case a13 => k_is); (case l13 => k_is); (case c13 => k_is); (case k13 => k_is); (case a14 => k_is); (case l14 => k_is); (case c14 => k_is); (case k14 => k_is); (case a15 => k_is); (case l15 => k_is); (case c15 => k_is); (case k15 => k_is); (case vSLOTS => k_is); (case vLAST_NAME => k_is); (case vMOST_HOUSES => k_is); (case zall => k_is); (case zbool => k_is); (case zdict => k_is); (case zdivmod => k_is); (case zint => k_is); (case zisinstance => k_is); (case zlen => k_is); (case zlist => k_is); (case zmax => k_is); (case zmin => k_is); (case zrange => k_is); (case zset => k_is); (case zsorted => k_is); (case zstr => k_is); (case zsum => k_is); (case ztuple => k_is)
